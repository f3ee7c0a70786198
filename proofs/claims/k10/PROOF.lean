import PyProof.Rows.All
import Wide.All
import OpenK.AllK
import Wide.FinOn
import Lean
import PyProof.EqAt
import PyProof.EqKinds
import PyProof.TupleCall
import PySem.Challenge.RW_stonewalker_k10_whole_webs_walked
set_option linter.all false
set_option compiler.extract_closed false
set_option bootstrap.genMatcherCode false
set_option genSizeOf false
noncomputable section
def lJa:=@PySem.wpAny_bind
def lJb:=@if_neg
def lJc:=@if_pos
def lJd:=@PySem.wpAny_pure
def lJe:=@List.length_map
def lJf:=@PyProof.Rows.wpS_bind
def lJg:=@List.getElem?_eq_some_iff
def lJh:=@Nat.le_refl
def lJi:=@PyProof.Rows.wpS_pure
def lJj:=@List.getElem?_eq_getElem
def lJk:=@PySem.Heap.lt_size
def lJl:=@List.mem_map
def lJm:=@PySem.Heap.get?_push_of_some
def lJn:=@Nat.zero_le
def lJo:=@List.mem_of_getElem?
def lJp:=@List.mem_cons
def lJq:=@List.append_assoc
def lJr:=@List.size_toArray
def lJs:=@Bool.false_ne_true
def lJt:=@Nat.ne_of_lt
def lJu:=@PySem.boot_len
def lJv:=@decide_eq_false
def lJw:=@List.map_cons
def lJx:=@List.mem_append
def lJy:=@PySem.PassesOwn.never
def lJz:=@List.map_map
def lJ0:=@Option.some.inj
def lJ1:=@List.mem_singleton
def lJ2:=@List.getElem?_of_mem
def lJ3:=@List.getElem?_eq_none
def lJ4:=@List.getElem?_map
def lJ5:=@Array.getElem?_toList
def lJ6:=@List.mem_cons_self
def lJ7:=@List.length_append
def lJ8:=@PySem.Heap.get?_push_size
def lJ9:=@decide_eq_true
def lKa:=@if_false
def lKb:=@List.mem_append_right
def lKc:=@List.mem_range
def lKd:=@List.mem_cons_of_mem
def lKe:=@PySem.sizeLine_eq
def lKf:=@List.mem_append_left
def lKg:=@Bool.false_eq_true
def lKh:=@List.pairwise_append
def lKi:=@Nat.lt_of_lt_of_le
def lKj:=@PySem.wpAny_holding
def lKk:=@List.length_cons
def lKl:=@congrArg
def lKm:=@PyProof.Rows.wpS_modify
def lKn:=@Array.length_toList
def lKo:=@PyProof.Rows.wpS_mono
def lKp:=@PyProof.Rows.wpS_forRange
def lKq:=@List.getElem?_append_left
def lKr:=@List.not_mem_nil
def lKs:=@Nat.not_lt_zero
def lKt:=@if_true
def lKu:=@List.getElem?_set_ne
def lKv:=@List.range_succ
def lKw:=@Nat.lt_or_ge
def lKx:=@Nat.le_trans
def lKy:=@List.getElem?_set_self
def lKz:=@List.nodup_cons
def lK0:=@PySem.F.plainAttrs_list
def lK1:=@decide_eq_true_eq
def lK2:=@List.getElem?_append_right
def lK3:=@Int.eq_ofNat_of_zero_le
def lK4:=@Array.getElem?_eq_getElem
def lK5:=@Bool.and_eq_true
def lK6:=@PyProof.Rows.callWith_type1
def lK7:=@List.length_range
def lK8:=@List.take_append_drop
def lK9:=@Nat.lt_or_eq_of_le
def lQa:=@PySem.wpAny_field
def lQb:=@PySem.wpAny_newObj_type
def lQc:=@List.length_take
def lQd:=@List.lookup_cons
def lQe:=@List.take_succ
def lQf:=@Nat.le_of_lt_succ
def lQg:=@List.mem_of_mem_take
def lQh:=@PySem.wpAny_call_entry
def lQi:=@PyProof.Rows.wpS_get
def lQj:=@List.ext_getElem?
def lQk:=@PySem.Around.in1_units
def lQl:=@List.length_nil
def lQm:=@List.find?_cons
def lQn:=@Option.map_eq_some_iff
def lQo:=@List.pairwise_map
def lQp:=@PySem.wpAny_mono
def lQq:=@PySem.wpAny_rule
def lQr:=@or_false
def lQs:=@PySem.codeAny_builtin
def lQt:=@List.take_length
def lQu:=@PySem.Around.under_plainId
def lQv:=@List.map_append
def lQw:=@Array.toList_append
def lQx:=@List.getElem?_take
def lQy:=@PySem.plainId_quiet
def lQz:=@List.length_set
def lQ0:=@List.any_cons
def lQ1:=@Option.map_some
def lQ2:=@List.filterMap_append
def lQ3:=@Nat.zero_add
def lQ4:=@Nat.mod_lt
def lQ5:=@List.getElem?_inj
def lQ6:=@List.map_congr_left
def lQ7:=@Nat.mod_eq_of_lt
def lQ8:=@List.exists_cons_of_length_eq_add_one
def lQ9:=@Nat.succ.inj
def lVa:=@PySem.F.slot_list_append
def lVb:=@PySem.F.type_list_append
def lVc:=@PySem.wpAny_typeOf
def lVd:=@Classical.byContradiction
def lVe:=@List.append_nil
def lVf:=@Nat.ne_of_gt
def lVg:=@List.take_sublist
def lVh:=@List.all_cons
def lVi:=@List.replicate_succ
def lVj:=@Nat.succ_mul
def lVk:=@List.length_eq_zero_iff
def lVl:=@List.all_eq_true
def lVm:=@Array.getElem?_eq_none
def lVn:=@List.mem_of_mem_drop
def lVo:=@List.drop_sublist
def lVp:=@Array.getD_eq_getD_getElem?
def lVq:=@PySem.wpAny_truthy_bool
def lVr:=@PySem.wpAny_callSpecial?_slot
def lVs:=@PyProof.Rows.reverseSlice'_eq
def lVt:=@Nat.lt_irrefl
def lVu:=@List.filterMap_cons
def lVv:=@List.flatten_cons
def lVw:=@List.take_of_length_le
def lVx:=@List.nodup_append
def lVy:=@List.getElem_of_mem
def lVz:=@List.drop_of_length_le
def lV0:=@List.mem_reverse
def lV1:=@PySem.F.called_set
def lV2:=@List.flatMap_append
def lV3:=@PyProof.Rows.wpS_lift
def lV4:=@Nat.le_of_lt
def lV5:=@List.mem_filterMap
def lV6:=@Int.emod_nonneg
def lV7:=@Int.emod_lt_of_pos
def lV8:=@List.nodup_range
def lV9:=@List.map_take
def lXa:=@List.take_append_of_le_length
def lXb:=@List.getD_eq_getElem?_getD
def lXc:=@PySem.wpAny_forIn_list
def lXd:=@PySem.wpAny_seqItems
def lXe:=@PySem.wpAny_loadPart'
def lXf:=@PySem.call_meets
def lXg:=@PySem.wpAny_passesOwn
def lXh:=@PySem.wpAny_attempt
def lXi:=@PySem.wpAny_ite_split
def lXj:=@decide_eq_false_iff_not
def lXk:=@Array.forIn_toList
def lXl:=@PySem.Paired.length
def lXm:=@List.mem_filter
def lXn:=@Option.isSome_iff_exists
def lXo:=@PySem.mem_of_lookup
def lXp:=@List.length_drop
def lXq:=@PyProof.Rows.slot_tuple_getitem
def lXr:=@List.nodup_nil
def lXs:=@List.zip_cons_cons
def lXt:=@PySem.Heap.size_push
def lXu:=@Nat.succ_pos
def lXv:=@Nat.add_zero
def lXw:=@Nat.lt_trichotomy
def lXx:=@List.filterMap_cons_some
def lXy:=@List.getElem?_range
def lXz:=@List.Perm.append_left
def lX0:=@List.getElem?_drop
def lX1:=@List.mem_flatMap
def lX2:=@PySem.wpAny_specialOf
def lX3:=@PySem.wpAny_isInstance
def lX4:=@PySem.typeLookup_type
def lX5:=@PySem.builtinLookup_eq_fast
def lX6:=@Bool.not_true
def lX7:=@PySem.Heap.get?_update_self
def lX8:=@List.reverse_cons
def lX9:=@Nat.mul_comm
def lYa:=@Nat.lt_trans
def lYb:=@List.getElem?_zipWith
def lYc:=@PySem.Heap.SameBut.update
def lYd:=@List.mem_singleton_self
def lYe:=@List.pairwise_iff_getElem
def lYf:=@List.getElem_mem
def lYg:=@List.map_drop
def lYh:=@Nat.le_add_right
def lYi:=@Option.some.injEq
def lYj:=@PySem.Heap.get?_update_ne
def lYk:=@List.cons.injEq
def lYl:=@List.Perm.append_right
def lYm:=@List.perm_append_comm
def lYn:=@List.drop_zero
def lYo:=@List.filter_cons
def lYp:=@Option.bind_some
def lYq:=@List.concat_eq_append
def lYr:=@PySem.codeAny_mono
def lYs:=@PySem.wpAny_askSetting
def lYt:=@List.getElem?_replicate
def lYu:=@PySem.Heap.get?_update_other
def lYv:=@List.nil_append
def lYw:=@Int.toNat_natCast
def lYx:=@PySem.F.plain_list_iadd
def lYy:=@List.getElem_take
def lYz:=@Nat.div_eq_of_lt
def lY0:=@Array.getElem?_setIfInBounds
def lY1:=@Array.mem_toList_iff
def lY2:=@List.zip_eq_zipWith
def lY3:=@Array.toList_map
def lY4:=@PyProof.Rows.F.plain_set_update_loop
def lY5:=@Nat.add_sub_cancel
def lY6:=@Array.perm_iff_toList_perm
def lY7:=@Bool.not_eq_true'
def lY8:=@List.drop_append_of_le_length
def lY9:=@Nat.add_sub_cancel_left
def lZa:=@PySem.F.slot_zip_next
def lZb:=@List.any_eq_true
def lZc:=@List.length_filter_le
def lZd:=@Nat.mul_le_mul_right
def lZe:=@List.nodup_iff_pairwise_ne
def lZf:=@PySem.wpAny_Call_Name_kw
def lZg:=@PySem.wpAny_execs_nil
def lZh:=@PySem.wpAny_standAt
def lZi:=@PySem.wpAny_pyIter_tuple
def lZj:=@PySem.wpAny_pyIter_enum
def lZk:=@PySem.wpAny_of_eq
def lZl:=@PySem.isSubtype_type
def lZm:=@PySem.wpAny_setField_rec
def lZn:=@PyProof.Rows.listUpdate_at
def lZo:=@PyProof.Rows.get?_update_seq
def lZp:=@PyProof.Rows.seqEpoch_at
def lZq:=@PySem.wpAny_newList
def lZr:=@List.getElem_inj
def lZs:=@PyProof.noPylong_small
def lZt:=@List.of_mem_zip
def lZu:=@PySem.F.slot_tuple_add
def lZv:=@PySem.F.entry_tuple_add
def lZw:=@PySem.F.args_tuple_add_2
def lZx:=@List.foldl_cons
def lZy:=@List.length_singleton
def lZz:=@Option.isSome_map
def lZ0:=@List.forIn_cons
def lZ1:=@Nat.eq_zero_or_pos
def lZ2:=@List.getElem_drop
def lZ3:=@List.filterMap_cons_none
def lZ4:=@Array.size_setIfInBounds
def lZ5:=@List.pairwise_filterMap
def lZ6:=@List.getElem_zip
def lZ7:=@List.perm_middle
def lZ8:=@Array.toList_inj
def lZ9:=@List.drop_eq_getElem_cons
def mJa:=@Bool.not_eq_false'
def mJb:=@Array.size_append
def mJc:=@Array.toList_reverse
def mJd:=@List.drop_append
def mJe:=@List.take_length_add_append
def mJf:=@PySem.F.slot_zip_getattribute
def mJg:=@List.getElem_map
def mJh:=@List.toList_toArray
def mJi:=@Nat.lt_add_right
def mJj:=@Nat.add_mod_right
def mJk:=@List.flatMap_cons
def mJl:=@List.foldl_append
def mJm:=@Nat.add_mul_mod_self_right
def mJn:=@PySem.F.slot_list_extend
def mJo:=@PySem.F.type_list_extend
def mJp:=@PySem.noFill_tuple_add
def mJq:=@PyProof.Rows.assignInOrder_cons
def mJr:=@PySem.wpAny_pyIter_revIter
def mJs:=@PySem.codeAny_of_tree
def mJt:=@of_decide_eq_true
def mJu:=@PySem.wpAny_setState_of
def mJv:=@bne_self_eq_false
def mJw:=@PyProof.Rows.getElem?_mirror_all
def mJx:=@PyProof.Rows.getElem?_bubble
def mJy:=@Int.fdiv_eq_ediv_of_nonneg
def mJz:=@Int.fmod_eq_emod_of_nonneg
def mJ0:=@PyProof.Rows.callWith_builtin1
def mJ1:=@PySem.F.slot_tuple_iterator_next
def mJ2:=@List.eq_nil_of_length_eq_zero
def mJ3:=@Array.getElem?_eq_some_iff
def mJ4:=@PyProof.Rows.F.entry_set_update_loop
def mJ5:=@PySem.wpAny_letOwnedTupleGo_enum
local macro_rules
 | `(tactic| omega) => `(tactic| lia)
set_option Elab.async false
set_option linter.all false
set_option maxRecDepth 100000
namespace L2
open PySem PySem.Spec PyProof.Rows
abbrev Key:=Sum Int Str
noncomputable def jXa:Key->Value->Bool
 | .inl k,v=>Value.isInt k v
 | .inr x,v=>Value.isStrOf x v
noncomputable def keyH(w:World):Key->Int
 | .inl k=>hashInt k
 | .inr x=>hashStr w x
theorem jJs:∀{k:Key}{v:Value},jXa k v=true->(∃i t,k=Sum.inl i/\v=Value.int i t)\/(∃x t,k=Sum.inr x/\v=Value.str x t)
 | .inl i,v,h=>by
  obtain⟨t,e⟩:=Value.isInt_shape (k:=i) (v:=v) h;exact .inl ⟨i,t,rfl,e⟩
 | .inr x,v,h=>by
  obtain⟨t,e⟩:=Value.isStrOf_shape (x:=x) (v:=v) h;exact .inr ⟨x,t,rfl,e⟩
theorem qQ8(i:Int)(t:Tok):jXa (.inl i) (.int i t)=true:=by simp[jXa,Value.isInt]
theorem qQ7(x:Str)(t:Tok):jXa (.inr x) (.str x t)=true:=by simp[jXa,Value.isStrOf]
theorem uU8(a b:Int):decide ((Sum.inl a:Key)=Sum.inl b)=(a == b):=by
 by_cases e:a=b
 .subst e;simp
 .have h:¬ (Sum.inl a:Key)=Sum.inl b:=λq=>e (Sum.inl.inj q)
  rw[lJv h];exact (beq_eq_false_iff_ne.mpr e).symm
theorem uU5(a b:Str):decide ((Sum.inr a:Key)=Sum.inr b)=decide (a=b):=by
 by_cases e:a=b
 .subst e;simp
 .have h:¬ (Sum.inr a:Key)=Sum.inr b:=λq=>e (Sum.inr.inj q)
  rw[lJv h,lJv e]
theorem uU7(a:Int)(b:Str):decide ((Sum.inl a:Key)=Sum.inr b)=false:=lJv (λq=>nomatch q)
theorem uU6(a:Str)(b:Int):decide ((Sum.inr a:Key)=Sum.inl b)=false:=lJv (λq=>nomatch q)
noncomputable def jJ2(prog:Program)(w:World):PySem.KeyKind prog w Key where
 is:=jXa
 hash:=keyH w
 inj:=λv a b ha hb=>by
  rcases jJs ha with ⟨i,t,rfl,rfl⟩ | ⟨x,t,rfl,rfl⟩
  .rcases jJs hb with ⟨j,u,rfl,e⟩ | ⟨y,u,rfl,e⟩
   .injection e with e1 _;rw[e1]
   .exact nomatch e
  .rcases jJs hb with ⟨j,u,rfl,e⟩ | ⟨y,u,rfl,e⟩
   .exact nomatch e
   .injection e with e1 _;rw[e1]
 byValue:=λk v h=>by
  rcases jJs h with ⟨i,t,rfl,rfl⟩ | ⟨x,t,rfl,rfl⟩<;>rfl
 pyHash:=λhv h=>by
  rcases jJs hv with ⟨i,t,rfl,rfl⟩ | ⟨x,t,rfl,rfl⟩
  .exact wpAny_pyHash_int h
  .exact wpAny_pyHash_str h
 eqBool:=λhu hv h=>by
  rcases jJs hu with ⟨i,t,rfl,rfl⟩ | ⟨x,t,rfl,rfl⟩
  .rcases jJs hv with ⟨j,u,rfl,rfl⟩ | ⟨y,u,rfl,rfl⟩
   .rw[uU8] at h;exact wpAny_eqBool_int h
   .rw[uU7] at h;exact SeqAt.EqAt.int_str i t y u _ _ _ _ h
  .rcases jJs hv with ⟨j,u,rfl,rfl⟩ | ⟨y,u,rfl,rfl⟩
   .rw[uU6] at h;exact SeqAt.EqAt.str_int x t j u _ _ _ _ h
   .rw[uU5] at h;exact wpAny_eqBool_str h
 «strs» :=λk x t v h=>by
  rcases jJs h with ⟨i,u,rfl,e⟩ | ⟨y,u,rfl,e⟩
  .exact nomatch e
  .injection e with e1 _
   subst e1;cases v<;>rfl
theorem jV9(prog:Program)(w:World)(i:Int)(t:Tok):(jJ2 prog w).is (.inl i) (.int i t)=true:=qQ8 i t
theorem kXa(prog:Program)(w:World)(x:Str)(t:Tok):(jJ2 prog w).is (.inr x) (.str x t)=true:=qQ7 x t
end L2
set_option synthInstance.maxSize 1000
namespace L2
open PySem PySem.Spec PyProof.Rows
structure KeyV (prog:Program) (w:World) (K:Type) [DecidableEq K] (c:Nat) where
 is:Heap->K->Value->Prop
 hash:K->Int
 draws:K->Nat
 inj:∀{h:Heap}{v:Value}{x y:K},is h x v->is h y v->x=y
 keeps:∀{h h':Heap}{k:K}{v:Value}{d:Addr}{o:Obj}{es:Array DictEntry}{ep:Nat},is h k v->h.get? d=some o->o.data= .dict es ep->Heap.SameBut d h h'->is h' k v
 hashed:∀{A:Around}{E:Value->Shared->Prop}{s:Shared}{k:K}{v:Value}{Q:Int->Shared->Prop},A.units+c<cLine->is s.heap k v->Q (hash k) {s with toks:=s.toks+draws k}->wpAny (model prog w) A (PySem.pyHash v) Q E s
 eqAt:∀{A:Around}{s:Shared}{x y:K}{u v:Value},A.units+c<cLine->is s.heap x u->is s.heap y v->SeqAt.EqAt A s u v (decide (x=y))
 quiet:∀{A:Around}{E:Value->Shared->Prop}{s:Shared}{k:K}{v:Value}{Q:Bool->Shared->Prop}(n:Nat),c<=n->is s.heap k v->Q true s->wpAny (model prog w) A (eqIsQuiet n v) Q E s
noncomputable def jYq(prog:Program)(w:World):KeyV prog w Key 0 where
 is:=λ_ k v=>jXa k v=true
 hash:=keyH w
 draws:=λ_=>1
 inj:=λhx hy=>(jJ2 prog w).inj _ _ _ hx hy
 keeps:=λx _ _ _=>x
 hashed:=λ_ hv h=>(jJ2 prog w).pyHash hv h
 eqAt:=λ_ hx hy prog' w' _ _ h=>(jJ2 prog' w').eqBool hx hy h
 quiet:=λn _ hv h=>by rw[eqIsQuiet_byValue n ((jJ2 prog w).byValue _ _ hv)];exact lJd h
variable {prog:Program}{w:World}{h h':Heap}{vs:List Value}
section
variable {K:Type}[DecidableEq K]{c:Nat}
inductive ItemsV (V:KeyV prog w K c) (h:Heap):List K->List Value->Prop
 | nil:ItemsV V h [] []
 | cons {k:K} {v:Value} {ks:List K} {vs:List Value}:V.is h k v->ItemsV V h ks vs->ItemsV V h (k::ks) (v::vs)
theorem ItemsV.inj{V:KeyV prog w K c}{x:List K}(hx:ItemsV V h x vs):∀{y:List K},ItemsV V h y vs->x=y:=by
 induction hx with
 | nil=>intro y hy;cases hy;rfl
 | cons a _ ih=>intro y hy;cases hy with | cons b t=>rw[V.inj a b,ih t]
theorem ItemsV.length{V:KeyV prog w K c}{x:List K}(hx:ItemsV V h x vs):x.length=vs.length:=by
 induction hx with
 | nil=>rfl
 | cons _ _ ih=>simp[ih]
theorem ItemsV.get{V:KeyV prog w K c}{x:List K}(hx:ItemsV V h x vs):∀{j:Nat}{v:Value},vs[j]? =some v->∃k,x[j]? =some k/\V.is h k v:=by
 induction hx with
 | nil=>intro j v e;simp at e
 | cons a _ ih=>
  intro j v e;cases j with
  | zero=>simp at e;subst e;exact⟨_,rfl,a⟩
  | succ j=>obtain⟨k,h1,h2⟩:=ih (j:=j) (v:=v) (by simpa using e);exact⟨k,by simpa using h1,h2⟩
theorem ItemsV.keeps{V:KeyV prog w K c}{x:List K}{d:Addr}{o:Obj}{es:Array DictEntry}{ep:Nat}(hx:ItemsV V h x vs)(ho:h.get? d=some o)(hd:o.data= .dict es ep)(hs:Heap.SameBut d h h'):ItemsV V h' x vs:=by
 induction hx with
 | nil=>exact .nil
 | cons a _ ih=>exact .cons (V.keeps a ho hd hs) ih
def kJm(V:KeyV prog w K c)(h:Heap)(ks:List K)(v:Value):Prop:=∃(a:Addr)(o:Obj)(items:Array Value)(n:Nat),v= .ref a/\h.get? a=some o/\o.cls= .type "tuple"/\o.data= .seq items n/\ItemsV V h ks items.toList
theorem uVt:∀(x y:List K),((List.range (min x.length y.length)).all (λj=>decide (x[j]? =y[j]?))&&x.length == y.length)=decide (x=y):=by
 intro x y
 by_cases e:x=y
 .subst e;simp
 .rw[lJv e,Bool.and_eq_false_iff]
  by_cases l:x.length=y.length
  .left
   rw[List.all_eq_false]
   have:∃j:Nat,x[j]? ≠y[j]? :=by
    apply lVd;intro q;exact e (lQj λj=>lVd λz=>q ⟨j,z⟩)
   obtain⟨j,hj⟩:=this;refine⟨j,lKc.mpr ?_,by simpa using hj⟩
   rcases lKw j (min x.length y.length) with z | z
   .exact z
   .exact absurd (by rw[lJ3 (by omega),lJ3 (by omega)]) hj
  .right;simpa using l
noncomputable def jUk(V:KeyV prog w K c):KeyV prog w (List K) (c+2) where
 is:=kJm V
 hash:=λks=>reduceHash (Builtin.Tuple.tupleHashOf (ks.map V.hash))
 draws:=λks=>(ks.map V.draws).sum+1
 inj:=by
  rintro h v x y ⟨a,o,items,n,rfl,ho,_,hd,hi⟩ ⟨a',o',items',n',e,ho',_,hd',hi'⟩;cases e;rw[ho] at ho';cases ho';rw[hd] at hd';cases hd';exact hi.inj hi'
 keeps:=by
  rintro h h' k v d o es ep ⟨a,o',items,n,rfl,ho',hc,hd',hi⟩ ho hd hs
  have ne:a≠d:=by
   rintro rfl;rw[ho] at ho';cases ho';rw[hd] at hd';cases hd'
  exact⟨a,o',items,n,rfl,(hs.2 a ne).trans ho',hc,hd',hi.keeps ho hd hs⟩
 hashed:=by
  rintro A E s ks v Q hu ⟨a,o,items,n,rfl,ho,hc,hd,hi⟩ h;refine PySem.W.pyHash_slot (T:="tuple") ⟨o,ho,hc⟩ F.slot_tuple_hash F.entry_tuple_hash (F.args_tuple_hash_1 _) (beq_builtin_none _) (.inr (by omega)) ?_
  refine (show wpAny _ _ (Builtin.Tuple.tupleItemsOf (.ref a) >>= _) _ _ s from lJa (wpAny_tupleItemsOf ho hd (lJa ?_)))
  rw[<-lXk];refine lXc _ (λrest (b:Array Int) z=>∃done left,ks=done++left/\ItemsV V s.heap left rest/\b.toList=done.map V.hash/\z={s with toks:=s.toks+(done.map V.draws).sum}) _ ?_ ?_ _ _ ⟨[],ks,rfl,hi,rfl,rfl⟩
  .rintro x rest b z ⟨done,left,rfl,hl,hb,rfl⟩;cases hl with
   | @cons k _ ks' _ h1 hl'=>
    refine lJa (V.hashed (by rw[lQk];omega) h1 ?_)
    first
     | exact lJd ⟨done++[k],ks',by simp,hl',by simp[hb],(by simp[Nat.add_assoc])⟩
     | exact lJa (lJd (lJd ⟨done++[k],ks',by simp,hl',by simp[hb],(by simp[Nat.add_assoc])⟩))
  .rintro b z ⟨done,left,rfl,hl,hb,rfl⟩;cases hl;rw[lVe] at h;refine (show wpAny _ _ (retInt (Builtin.Tuple.tupleHashOf b.toList)) _ _ _ from ?_)
   rw[hb];exact lJa (wpAny_mkInt (lJd ⟨_,_,rfl,by simpa[Nat.add_assoc] using h⟩))
 eqAt:=by
  rintro A s x y u v hu ⟨a,o,items,n,rfl,ho,hc,hd,hi⟩ ⟨a',o',items',n',rfl,ho',hc',hd',hi'⟩
  by_cases e:a=a'
  .subst e;rw[ho] at ho';cases ho';rw[hd] at hd';cases hd';rw[hi.inj hi',lJ9 rfl];exact SeqAt.EqAt.same _
  .have R:=SeqAt.RcAt.tuples (A:=A) (s:=s) (l:=a) (b:=a') (e:=λj=>decide (x[j]? =y[j]?)) ⟨o,ho,hc,n,hd⟩ ⟨o',ho',hc',n',hd'⟩ (by omega) (λj j1 j2=> ?_)
   .have l1:=hi.length;have l2:=hi'.length;rw[<-uVt x y,l1,l2];have R':=SeqAt.EqAt.of_refs e R
    simpa using R'
   .obtain⟨k,h1,h2⟩:=hi.get (j:=j) (v:=items[j]) (by simp[j1])
    obtain⟨k',h1',h2'⟩:=hi'.get (j:=j) (v:=items'[j]) (by simp[j2])
    have:=V.eqAt (A:=A.in1) (s:=s) (by rw[lQk];omega) h2 h2'
    rw[h1,h1']
    simpa using this
 quiet:=by
  rintro A E s ks v Q n hn ⟨a,o,items,m,rfl,ho,hc,hd,hi⟩ h;obtain⟨n,rfl⟩:∃nn,n=nn+1:=⟨n-1,by omega⟩
  have hT:s.TypeIs (.ref a) "tuple":=⟨o,ho,hc⟩;unfold eqIsQuiet;refine lJa (lX2 hT F.slot_tuple_eq.lookup ?_);refine (show wpAny _ _ (isInstance (.ref a) (.type "tuple") >>= _) _ _ s from lJa (lX3 hT isSubtype_tuple_tuple ?_))
  simp only[lKa,lX6,lKg];refine lJa (lXd ho hd (lJa ?_));refine (show wpAny _ _ (forIn items _ _) _ _ s from ?_)
  rw[<-lXk];refine lXc _ (λrest r z=>r.1=none/\z=s/\∃left,ItemsV V s.heap left rest) _ ?_ ?_ _ _ ⟨rfl,rfl,ks,hi⟩
  .rintro x rest r z ⟨hr,rfl,left,hl⟩;cases hl with
   | cons h1 hl'=>
    refine lJa (V.quiet n (by omega) h1 ?_)
    simp only[lKa,lX6,lKg];exact lJd ⟨rfl,rfl,_,hl'⟩
  .rintro⟨r1,r2⟩ z ⟨hr,rfl,_⟩;simp only at hr;subst hr;exact lJd h
theorem uK7{α β:Type}[DecidableEq α][DecidableEq β](a b:α):decide ((Sum.inl a:α ⊕ β)=Sum.inl b)=decide (a=b):=by
 by_cases e:a=b
 .simp[e]
 .rw[lJv e,lJv λz=>e (Sum.inl.inj z)]
theorem uK6{α β:Type}[DecidableEq α][DecidableEq β](a b:β):decide ((Sum.inr a:α ⊕ β)=Sum.inr b)=decide (a=b):=by
 by_cases e:a=b
 .simp[e]
 .rw[lJv e,lJv λz=>e (Sum.inr.inj z)]
noncomputable def kZ5(V:KeyV prog w K c):KeyV prog w (Key ⊕ List K) (c+2) where
 is:=λh k v=>match k with
  | .inl k=>jXa k v=true
  | .inr ks=>kJm V h ks v
 hash:=λk=>match k with
  | .inl k=>keyH w k
  | .inr ks=>(jUk V).hash ks
 draws:=λk=>match k with
  | .inl _=>1
  | .inr ks=>(jUk V).draws ks
 inj:=by
  rintro h v (x | x) (y | y) hx hy
  .rw[(jJ2 prog w).inj _ _ _ hx hy]
  .obtain⟨a,_,_,_,rfl,_⟩:=hy
   rcases jJs hx with ⟨i,t,_,e⟩ | ⟨i,t,_,e⟩<;>cases e
  .obtain⟨a,_,_,_,rfl,_⟩:=hx
   rcases jJs hy with ⟨i,t,_,e⟩ | ⟨i,t,_,e⟩<;>cases e
  .rw[(jUk V).inj hx hy]
 keeps:=by
  rintro h h' (k | k) v d o es ep hx ho hd hs
  .exact hx
  .exact (jUk V).keeps hx ho hd hs
 hashed:=by
  rintro A E s (k | k) v Q hu hx h
  .exact (jJ2 prog w).pyHash hx h
  .exact (jUk V).hashed hu hx h
 eqAt:=by
  rintro A s (x | x) (y | y) u v hu hx hy
  .rw[uK7];exact (jYq prog w).eqAt (by omega) hx hy
  .rw[lJv λz=>nomatch z]
   obtain⟨a,o,items,n,rfl,ho,hc,hd,_⟩:=hy
   rcases jJs hx with ⟨i,t,_,rfl⟩ | ⟨i,t,_,rfl⟩
   .exact SeqAt.EqAt.int_tuple i t ⟨o,ho,hc,n,hd⟩ (by omega)
   .exact SeqAt.EqAt.str_tuple i t ⟨o,ho,hc,n,hd⟩ (by omega)
  .rw[lJv λz=>nomatch z]
   obtain⟨a,o,items,n,rfl,ho,hc,hd,_⟩:=hx
   rcases jJs hy with ⟨i,t,_,rfl⟩ | ⟨i,t,_,rfl⟩
   .exact SeqAt.EqAt.tuple_int i t ⟨o,ho,hc,n,hd⟩ (by omega)
   .exact SeqAt.EqAt.tuple_str i t ⟨o,ho,hc,n,hd⟩ (by omega)
  .rw[uK6];exact (jUk V).eqAt hu hx hy
 quiet:=by
  rintro A E s (k | k) v Q n hn hx h
  .exact (jYq prog w).quiet n (lJn _) hx h
  .exact (jUk V).quiet n hn hx h
end
abbrev K1:=Key ⊕ List Key
abbrev K2:=Key ⊕ List K1
abbrev TKey:=List K2
def vk1(prog:Program)(w:World):KeyV prog w K1 2:=kZ5 (jYq prog w)
def vk2(prog:Program)(w:World):KeyV prog w K2 4:=kZ5 (vk1 prog w)
noncomputable def jJg(prog:Program)(w:World):HeapKind prog w TKey where
 is:=λh ks a=>(jUk (vk2 prog w)).is h ks (.ref a)
 hash:=(jUk (vk2 prog w)).hash
 draws:=(jUk (vk2 prog w)).draws
 room:=λA=>A.units+6<cLine
 inj:=λhx hy=>(jUk (vk2 prog w)).inj hx hy
 keeps:=λx ho hd hs=>(jUk (vk2 prog w)).keeps x ho hd hs
 pyHash:=λhu hk h=>(jUk (vk2 prog w)).hashed hu hk h
 eqBool:=λhu hx hy h=>(jUk (vk2 prog w)).eqAt hu hx hy _ _ _ _ h
 quiet:=λhk h=>(jUk (vk2 prog w)).quiet 8 (by decide) hk h
variable {A:Around}
theorem jQg(hu:A.units+20<cLine):(jJg prog w).room A.in1:=by
 show A.in1.units+6<cLine
 rw[lQk];omega
inductive V where
 | non | bl (b:Bool) | int (i:Int) | str (x:Str) | byt (b:Array UInt8) | flt (b:UInt64) | ref (a:Addr) | ty (n:String)
 deriving DecidableEq
noncomputable def RelV:V->Value->Prop
 | .non,u=>u=Value.none
 | .bl b,u=>u=Value.bool b
 | .int i,u=>∃t,u=Value.int i t
 | .str x,u=>∃t,u=Value.str x t
 | .byt b,u=>∃t,u=Value.bytes b t
 | .flt b,u=>∃t,u=Value.float b t
 | .ref a,u=>u=Value.ref a
 | .ty n,u=>u=Value.type n
abbrev Vals:List V->List Value->Prop:=Paired RelV
variable {us:List Value}
theorem Vals.length{xs:List V}(r:Vals xs us):xs.length=us.length:=lXl r
theorem Vals.get:∀{xs:List V}{us:List Value}{i:Nat}{x:V},Vals xs us->xs[i]? =some x->∃u,us[i]? =some u/\RelV x u
 | _,_,_,_,.nil,e=>by simp at e
 | _,_,0,_,.cons r _,e=>by simp at e;subst e;exact⟨_,rfl,r⟩
 | _,_,i+1,x,.cons _ t,e=>by
  obtain⟨u,h1,h2⟩:=Vals.get (i:=i) (x:=x) t (by simpa using e)
  exact⟨u,by simpa using h1,h2⟩
theorem Vals.set{x:V}{u:Value}(r:RelV x u):∀{xs:List V}{us:List Value}(i:Nat),Vals xs us->Vals (xs.set i x) (us.set i u)
 | _,_,_,.nil=> .nil
 | _,_,0,.cons _ t=> .cons r t
 | _,_,i+1,.cons q t=> .cons q (Vals.set r i t)
theorem Vals.append:∀{xs ys:List V}{us ws:List Value},Vals xs us->Vals ys ws->Vals (xs++ys) (us++ws)
 | _,_,_,_,.nil,s=>s
 | _,_,_,_,.cons r t,s=> .cons r (Vals.append t s)
theorem Vals.take:∀{xs:List V}{us:List Value}(n:Nat),Vals xs us->Vals (xs.take n) (us.take n)
 | _,_,0,_=> .nil
 | _,_,_+1,.nil=> .nil
 | _,_,n+1,.cons r t=> .cons r (Vals.take n t)
theorem Vals.drop:∀{xs:List V}{us:List Value}(n:Nat),Vals xs us->Vals (xs.drop n) (us.drop n)
 | _,_,0,r=>r
 | _,_,_+1,.nil=> .nil
 | _,_,n+1,.cons _ t=>Vals.drop n t
def RelO:Option V->Option Value->Prop
 | some v,some u=>RelV v u
 | none,none=>True
 | _,_=>False
def KV{κ:Type}:List (κ×V)->List (κ×Value)->Prop:=Paired λ(p:κ×V)(q:κ×Value)=>p.1=q.1/\RelV p.2 q.2
noncomputable def kV:Key->V
 | .inl i=> .int i
 | .inr x=> .str x
inductive HO where
  | lst (xs:List V)
  | tup (xs:List V)
  | dK (kvs:List (Key×V)) | dT (kvs:List (TKey×V))
  | set (S:Int->Bool) (n:Nat)
  | ins (C dx:Addr) (fs:List (Str×V))
  | own (x:Addr)
  | xd (fs:List (Str×V))
  | met (f x:Addr)
  | rng (lo hi:Int)
  | frz (o:Obj) (u:HO)
  | tbl (ps:Array Value)
  | ext (φ:Heap->Prop)
abbrev Hp:=Addr->Option HO
noncomputable def upd(H:Hp)(a:Addr)(o:HO):Hp:=λb=>if b=a then some o else H b
variable {H:Hp}{a:Addr}{o:HO}
theorem jK2:upd H a o a=some o:=by unfold upd;rw[lJc rfl]
variable {b:Addr}
theorem jKd(h:b≠a):upd H a o b=H b:=by unfold upd;rw[lJb h]
theorem uXo{u:HO}(h:H a=some o)(h':H b=some u)(d:o≠u):a≠b:=by
 intro e;subst e;rw[h] at h';exact d (lJ0 h')
theorem jUf(h:H a=some o)(h':H b=none):a≠b:=by
 intro e;subst e;rw[h] at h';cases h'
def Rk1(H:Hp)(k:K1)(v:V):Prop:=match k with
 | .inl k=>v=kV k
 | .inr ks=>∃p vs,v= .ref p/\H p=some (.tup vs)/\Paired (λk v=>v=kV k) ks vs
def Rk2(H:Hp)(k:K2)(v:V):Prop:=match k with
 | .inl k=>v=kV k
 | .inr ks=>∃p vs,v= .ref p/\H p=some (.tup vs)/\Paired (Rk1 H) ks vs
def TKeyAt(H:Hp)(ks:TKey)(a:Addr):Prop:=∃vs,H a=some (.tup vs)/\Paired (Rk2 H) ks vs
theorem jV7{α β:Type}{F G:α->β->Prop}(f:∀a b,F a b->G a b):∀{l:List α}{m:List β},Paired F l m->Paired G l m
 | _,_,.nil=> .nil
 | _,_,.cons r t=> .cons (f _ _ r) (jV7 f t)
variable {H':Hp}
theorem Rk1.mono(ht:∀b ys,H b=some (.tup ys)->H' b=some (.tup ys))(k:K1)(v:V)(r:Rk1 H k v):Rk1 H' k v:=by
 cases k with
 | inl k=>exact r
 | inr ks=>obtain⟨p,vs,e,h,t⟩:=r;exact⟨p,vs,e,ht _ _ h,t⟩
theorem Rk2.mono(ht:∀b ys,H b=some (.tup ys)->H' b=some (.tup ys))(k:K2)(v:V)(r:Rk2 H k v):Rk2 H' k v:=by
 cases k with
 | inl k=>exact r
 | inr ks=>obtain⟨p,vs,e,h,t⟩:=r;exact⟨p,vs,e,ht _ _ h,jV7 (Rk1.mono ht) t⟩
theorem TKeyAt.mono{ks:TKey}(r:TKeyAt H ks a)(ht:∀b ys,H b=some (.tup ys)->H' b=some (.tup ys)):TKeyAt H' ks a:=by
 obtain⟨vs,h,t⟩:=r;exact⟨vs,ht _ _ h,jV7 (Rk2.mono ht) t⟩
section
variable (P:Program)(w:World)
def TupD(h:Heap)(a:Addr)(items:Array Value):Prop:=∃o,h.get? a=some o/\o.cls= .type "tuple"/\∃n,o.data= .seq items n/\o.dict=none
theorem TupD.is{items:Array Value}(x:TupD h a items):IsTup h a items:=let ⟨o,e,c,n,d,_⟩:=x;⟨o,e,c,n,d⟩
theorem TupD.new(h:Heap)(items:Array Value):TupD (h.push {cls:= .type "tuple",data:= .seq items}) h.objs.size items:=⟨_,lJ8 _ rfl,rfl,_,rfl,rfl⟩
noncomputable def ObjOk(H:Hp)(h:Heap)(a:Addr):HO->Prop
 | .lst xs=>xs.length<=sizeLine/\∃(its:List Value)(n:Nat),Vals xs its/\h.get? a=some {cls:= .type "list",data:= .seq its.toArray n}
 | .tup xs=>xs.length<=sizeLine/\∃its:List Value,Vals xs its/\TupD h a its.toArray
 | .dK kvs=>kvs.length<=sizeLine/\(a == sysModules)=false/\∃vs,KV kvs vs/\h.DictOf (jJ2 P w) a vs
 | .dT kvs=>kvs.length<=sizeLine/\(a == sysModules)=false/\∃xs:List (TKey×Addr×Value),
   Paired (λ(p:TKey×V)(q:TKey×Addr×Value)=>p.1=q.1/\TKeyAt H p.1 q.2.1/\RelV p.2 q.2.2) kvs xs/\
   ∃o es ep,h.get? a=some o/\o.ExactDict/\o.data= .dict es ep/\es.toList=xs.map (entryOfKey (jJg P w))/\(xs.map (·.1)).Nodup
 | .set S n=>h.SetOf (intKind P w) a S n
 | .ins C dx fs=>H dx=some (.own a)/\fs.length<=1000/\dx≠a/\h.get? a=some (PySem.W.instObj C dx)/\
   ∃mA,h.Ns1 dx mA/\(∀f,RelO (fs.lookup f) (mA f))/\PySem.Within mA (fs.map (·.1))
 | .own _=>∃o,h.get? a=some o
 | .xd fs=>∃mA,h.Ns1 a mA/\∀f,RelO (fs.lookup f) (mA f)
 | .rng lo hi=>∃t u v,h.get? a=some {cls:= .type "range",data:= .fields #[.int lo t,.int hi u,.int 1 v]}
 | .frz o u=>h.get? a=some o/\ObjOk H h a u
 | .tbl ps=>h.get? a=some {cls:= .none,data:= .fields ps}
 | .met f x=>h.get? a=some (PySem.W.methodObj (.ref f) (.ref x))
 | .ext φ=>φ h/\(∃o,h.get? a=some o)/\∀h1 h2:Heap,φ h1->(∀o,h1.get? a=some o->h2.get? a=some o)->φ h2
def HOk(H:Hp)(h:Heap):Prop:=∀a o,H a=some o->ObjOk P w H h a o
end
variable {P:Program}
theorem ObjOk.lt(x:ObjOk P w H h a o):a<h.objs.size:=by
 cases o with
 | lst xs=>obtain⟨_,_,_,_,e⟩:=x;exact lJk e
 | tup xs=>obtain⟨_,_,_,p⟩:=x;exact p.is.lt
 | dK kvs=>obtain⟨_,_,_,_,o,_,_,e,_⟩:=x;exact lJk e
 | dT kvs=>obtain⟨_,_,_,_,o,_,_,e,_⟩:=x;exact lJk e
 | set S n=>obtain⟨o,_,_,_,e,_⟩:=x;exact lJk e
 | ins C dx fs=>obtain⟨_,_,_,e,_⟩:=x;exact lJk e
 | own y=>obtain⟨_,e⟩:=x;exact lJk e
 | xd fs=>obtain⟨_,⟨_,_,_,e,_⟩,_⟩:=x;exact lJk e
 | rng lo hi=>obtain⟨_,_,_,e⟩:=x;exact lJk e
 | frz ob u=>obtain⟨e,_⟩:=x;exact lJk e
 | tbl ps=>exact lJk (show h.get? a=some _ from x)
 | met f y=>exact lJk (show h.get? a=some _ from x)
 | ext φ=>obtain⟨_,⟨_,e⟩,_⟩:=x;exact lJk e
theorem Paired.mapP{α β:Type}{F G:α->β->Prop}:∀{l₁:List α}{l₂:List β},Paired F l₁ l₂->(∀a b,F a b->G a b)->Paired G l₁ l₂
 | _,_,.nil,_=> .nil
 | _,_,.cons r t,f=> .cons (f _ _ r) (Paired.mapP t f)
theorem ObjOk.stay(x:ObjOk P w H h a o)(k:∀b u,(b=a\/H b=some (.own a))->h.get? b=some u->h'.get? b=some u)(ho:∀b,H b=some (.own a)->H' b=some (.own a))(ht:∀b xs,H b=some (.tup xs)->H' b=some (.tup xs)):ObjOk P w H' h' a o:=by
 induction o with
 | lst xs=>obtain⟨z,its,n,r,e⟩:=x;exact⟨z,its,n,r,k _ _ (.inl rfl) e⟩
 | tup xs=>obtain⟨z,its,r,ob,e,c⟩:=x;exact⟨z,its,r,ob,k _ _ (.inl rfl) e,c⟩
 | dK kvs=>obtain⟨z,y,vs,r,ob,es,ep,e,c⟩:=x;exact⟨z,y,vs,r,ob,es,ep,k _ _ (.inl rfl) e,c⟩
 | dT kvs=>
  obtain⟨z,y,xs,r,ob,es,ep,e,c⟩:=x;exact⟨z,y,xs,Paired.mapP r λp q z=>⟨z.1,z.2.1.mono ht,z.2.2⟩,ob,es,ep,k _ _ (.inl rfl) e,c⟩
 | set S n=>obtain⟨ob,es,ep,t,e,c⟩:=x;exact⟨ob,es,ep,t,k _ _ (.inl rfl) e,c⟩
 | ins C dx fs=>
  obtain⟨d,z,ne,e,mA,⟨od,es,ep,e2,c⟩,r⟩:=x;exact⟨ho _ d,z,ne,k _ _ (.inl rfl) e,mA,⟨od,es,ep,k _ _ (.inr d) e2,c⟩,r⟩
 | own y=>obtain⟨ob,e⟩:=x;exact⟨ob,k _ _ (.inl rfl) e⟩
 | xd fs=>obtain⟨mA,⟨od,es,ep,e,c⟩,r⟩:=x;exact⟨mA,⟨od,es,ep,k _ _ (.inl rfl) e,c⟩,r⟩
 | rng lo hi=>obtain⟨t,u,v,e⟩:=x;exact⟨t,u,v,k _ _ (.inl rfl) e⟩
 | frz ob u ih=>obtain⟨e,q⟩:=x;exact⟨k _ _ (.inl rfl) e,ih q⟩
 | tbl ps=>
  have e:h.get? a=some {cls:= .none,data:= .fields ps}:=x;show h'.get? a=some {cls:= .none,data:= .fields ps}
  exact k a _ (.inl rfl) e
 | met f y=>
  have e:h.get? a=some (PySem.W.methodObj (.ref f) (.ref y)):=x;show h'.get? a=some (PySem.W.methodObj (.ref f) (.ref y))
  exact k a _ (.inl rfl) e
 | ext φ=>obtain⟨p,⟨o,e⟩,st⟩:=x;exact⟨st _ _ p λo q=>k _ _ (.inl rfl) q,⟨o,k _ _ (.inl rfl) e⟩,st⟩
theorem HOk.lt(x:HOk P w H h)(e:H a=some o):a<h.objs.size:=(x a o e).lt
theorem HOk.fresh(x:HOk P w H h)(e:h.objs.size<=a):H a=none:=by
 cases q:H a with
 | none=>rfl
 | some u=>exact absurd (lKi (x.lt q) e) (lVt _)
theorem HOk.kept(x:HOk P w H h)(k:∀b u,h.get? b=some u->h'.get? b=some u):HOk P w H h':=λa o e=>
 (x a o e).stay (λb u _ q=>k b u q) (λ_ q=>q) λ_ _ q=>q
theorem HOk.laid(x:HOk P w H h)(k:∀b u,h.get? b=some u->h'.get? b=some u)(hp:h.objs.size<=a)(new:ObjOk P w (upd H a o) h' a o):HOk P w (upd H a o) h':=λb u e=>by
 have hn:=x.fresh hp
 by_cases hb:b=a
 .subst hb;rw[jK2] at e;cases e;exact new
 .rw[jKd hb] at e;exact (x b u e).stay (λc v _ q=>k c v q) (λc q=>by rw[jKd (jUf q hn)];exact q) λc xs q=>by rw[jKd (jUf q hn)];exact q
def Rd(H:Hp)(a:Addr)(u:HO):Prop:=H a=some u\/∃o,H a=some (.frz o u)
theorem Rd.ok{u:HO}(r:Rd H a u)(x:HOk P w H h):ObjOk P w H h a u:=by
 rcases r with r | ⟨o,r⟩
 .exact x a u r
 .obtain⟨_,q⟩:=x a _ r;exact q
def Mut:Option HO->Prop
 | some (.lst _)=>True
 | some (.dK _)=>True
 | some (.dT _)=>True
 | some (.set _ _)=>True
 | some (.ins _ _ _)=>True
 | some (.ext _)=>True
 | _=>False
section
variable {x e:Addr}{o':HO}
theorem HOk.write(ok:HOk P w H h)(mu:Mut (H x))(he:e=x\/H e=some (.own x))(k:∀b u,b≠e->h.get? b=some u->h'.get? b=some u)(heo:∃u,h'.get? e=some u)(new:ObjOk P w (upd H x o') h' x o'):HOk P w (upd H x o') h':=λb u q=>by
 have nown:∀c y,H c=some (.own y)->c≠x:=λc y r z=>by subst z;rw[r] at mu;exact mu
 have ntup:∀c xs,H c=some (.tup xs)->c≠x:=λc xs r z=>by subst z;rw[r] at mu;exact mu
 by_cases hb:b=x
 .subst hb;rw[jK2] at q;cases q;exact new
 .rw[jKd hb] at q
  by_cases hbe:b=e
  .have q':H b=some (.own x):=by
    rcases he with z | z
    .exact absurd (hbe.trans z) hb
    .rw[hbe];exact z
   rw[q] at q';cases q';obtain⟨v,hv⟩:=heo;exact⟨v,by rw[hbe];exact hv⟩
  .refine (ok b u q).stay (λc v hc r=>k c v ?_ r) (λc r=>by rw[jKd (nown c b r)];exact r) λc xs r=>by rw[jKd (ntup c xs r)];exact r
   rcases hc with rfl | hc
   .exact hbe
   .rintro rfl
    rcases he with z | z
    .exact nown c b hc z
    .rw[hc] at z;cases z;exact hb rfl
end
structure Un (fs ex:List Addr) (H H':Hp) (h h':Heap):Prop where
 keep:∀b o,h.get? b=some o->H b=none->b∉fs->b∉ex->h'.get? b=some o
 slot:∀b o,h.get? b=some o->H b=none->b∈fs->b∉ex->∃sl,h'.get? b=some {o with slots:=sl}
 free:∀b o,h.get? b=some o->H b=none->b∉ex->H' b=none
 there:∀b o,h.get? b=some o->b∉ex->∃o',h'.get? b=some o'
 tups:∀b xs,H b=some (.tup xs)->H' b=some (.tup xs)
 frzs:∀b o u,H b=some (.frz o u)->H' b=some (.frz o u)
 tbls:∀b ps,H b=some (.tbl ps)->∃more,H' b=some (.tbl (ps++more))
section
variable {fs fs' ex ex':List Addr}{H1 H2:Hp}{h1 h2:Heap}{x e:Addr}
theorem Un.any(u:Un fs ex H H1 h h1){ob:Obj}(q:h.get? b=some ob)(n:H b=none)(hx:b∉ex):∃sl,h1.get? b=some {ob with slots:=sl}:=by
 by_cases hb:b∈fs
 .exact u.slot b ob q n hb hx
 .exact⟨ob.slots,u.keep b ob q n hb hx⟩
theorem Un.kept(k:∀b u,h.get? b=some u->h'.get? b=some u):Un fs ex H H h h':=
 ⟨λb ob q _ _ _=>k b ob q,λb ob q _ _ _=>⟨ob.slots,k b ob q⟩,λ_ _ _ n _=>n,λb ob q _=>⟨ob,k b ob q⟩,λ_ _ q=>q,λ_ _ _ q=>q,λ_ ps q=>⟨#[],by rw[q];simp⟩⟩
theorem Un.refl:Un fs ex H H h h:=Un.kept λ_ _ q=>q
theorem Un.laid(k:∀b u,h.get? b=some u->h'.get? b=some u)(hp:h.objs.size<=a)(hn:H a=none):Un fs ex H (upd H a o) h h' where
 keep:=λb u q _ _ _=>k b u q
 slot:=λb u q _ _ _=>⟨u.slots,k b u q⟩
 free:=λb u q n _=>by rw[jKd (lJt (lKi (lJk q) hp))];exact n
 there:=λb u q _=>⟨u,k b u q⟩
 tups:=λb xs q=>by rw[jKd (jUf q hn)];exact q
 frzs:=λb u xs q=>by rw[jKd (jUf q hn)];exact q
 tbls:=λb ps q=>⟨#[],by rw[jKd (jUf q hn),q];simp⟩
theorem Un.write(mu:Mut (H x))(he:e=x\/H e=some (.own x))(k:∀b u,b≠e->h.get? b=some u->h'.get? b=some u)(heo:∃u,h'.get? e=some u):Un fs ex H (upd H x o) h h':=by
 have hx:∀b,H b=none->b≠x:=λb n z=>by subst z;rw[n] at mu;exact mu
 have hb:∀b,H b=none->b≠e:=λb n z=>by
  subst z
  rcases he with r | r
  .exact hx b n r
  .rw[n] at r;cases r
 have hm:∀b u,H b=some u->¬ Mut (some u)->b≠x:=λb u q nm z=>by subst z;rw[q] at mu;exact nm mu
 refine⟨λb u q n _ _=>k b u (hb b n) q,λb u q n _ _=>⟨u.slots,k b u (hb b n) q⟩,λb u q n _=>by rw[jKd (hx b n)];exact n,λb u q _=> ?_,
  λb xs q=>by rw[jKd (hm b _ q λz=>z)];exact q,λb u xs q=>by rw[jKd (hm b _ q λz=>z)];exact q,λb ps q=>⟨#[],by rw[jKd (hm b _ q λz=>z),q];simp⟩⟩
 by_cases hbe:b=e
 .subst hbe;exact heo
 .exact⟨u,k b u hbe q⟩
end
noncomputable def trk(h:Heap)(H:Hp):List Addr:=(List.range h.objs.size).filter λa=>(H a).isSome
noncomputable def hidT(h:Heap)(H:Hp):Heap:=PySem.W.hideAll h (trk h H)
theorem qUe(h:Heap)(H:Hp):(hidT h H).objs.size=h.objs.size:=PySem.W.hideAll_size _ _
theorem qYq{o:Obj}(e:h.get? b=some o)(n:H b=none):(hidT h H).get? b=some o:=
 PySem.W.hideAll_get _ e λhm=>by
  have q:(H b).isSome=true:=(lXm.mp hm).2;rw[n] at q;simp at q
theorem uJ7{o:Obj}(e:(hidT h H).get? b=some o):h.get? b=some o/\H b=none:=by
 have e':h.get? b=some o:=PySem.W.of_hideAll (trk h H) e;refine⟨e',?_⟩;cases q:H b with
 | none=>rfl
 | some x=>
  have hm:b∈trk h H:=lXm.mpr ⟨lKc.mpr (lJk e'),by simp[q]⟩
  have z:(hidT h H).get? b=none:=PySem.W.hideAll_none (trk h H) hm;rw[z] at e;cases e
noncomputable def uQf(g h:Heap)(L:Addr):List (Addr×Obj):=(List.range h.objs.size).filterMap λa=>if a=L\/(g.get? a).isSome=true then none else (h.get? a).map λo=>(a,o)
noncomputable def rest(g h:Heap)(L d:Addr):List (Addr×Obj):=(uQf g h L).filter λp=>decide (p.1≠d)
structure Mod (K:PySem.W.Frag) (mg:Str->Option Value) (base:Heap):Prop where
 kin:K.In base
 glob:base.Ns mainGlobals mg
 blt:∃mb,base.Ns builtinsNs mb/\∀x:Str,x≠"__name__"->mb x=bootBuiltins x
 nolimit:base.NoLimit
structure Cx where
 prog:Program
 w:World
 K:PySem.W.Frag
 mg:Str->Option Value
 base:Heap
 A:Around
 N:List Str
 s₀:Shared
 H₀:Hp
 env:Env
 outer:List Env
 stack:List Env
 ex:List Addr
 fn:Str->Bool
 calm:Bool
 pn:List (Addr×Obj)
 xe:Value->Shared->Prop
noncomputable def frs(l:List Env):List Addr:=l.filterMap (·.frame)
noncomputable abbrev Cx.fs(X:Cx):List Addr:=frs X.outer
def Vis(sc:Scope)(x:Str):Prop:=sc.names.lookup x=some .local\/sc.names.lookup x=some .cell\/sc.names.lookup x=some .free
def Loc(sc:Scope)(x:Str):Prop:=sc.names.lookup x=some .local\/sc.names.lookup x=some .cell
def Look(env:Env)(h:Heap)(m:Str->Option Value)(x:Str)(u:Value):Prop:=
 (env.kindOf x=some .local/\m x=some u)\/((env.kindOf x=some .cell\/env.kindOf x=some .free)/\∃c,env.cells.lookup x=some c/\h.IsCell c (some u))
structure Cx.Ok (X:Cx):Prop where
 mod:Mod X.K X.mg X.base
 kind:X.env.scope.kind= .function
 glob:X.env.globals=mainGlobals
 blt:X.env.builtins=builtinsNs
 above:X.s₀.heap.objs.size<=X.env.locals
 inj:∀x y c,X.env.cells.lookup x=some c->X.env.cells.lookup y=some c->x=y
 has:∀x,(X.env.kindOf x=some .cell\/X.env.kindOf x=some .free)->∃c,X.env.cells.lookup x=some c
 cab:∀x c,X.fn x=true->X.env.cells.lookup x=some c->X.s₀.heap.objs.size<=c
 hd:X.calm=true->X.A.handled=none
 gd:X.calm=true->X.A.guards=some []
 frames:X.A.frames=some X.stack
 stk:X.stack=X.outer\/(X.stack=X.env::X.outer/\X.env.frame=some X.env.locals)
 exf:∀b∈X.ex,b≠X.env.locals/\∀x c,X.env.cells.lookup x=some c->c≠b
 bs:∀b o,X.base.get? b=some o->X.s₀.heap.get? b=some o/\X.H₀ b=none
 bsz:X.base.objs.size<=X.s₀.heap.objs.size
 noex:∀b o,X.base.get? b=some o->b∉X.ex
 exfs:∀b∈X.ex,b∉X.fs
 funs:X.s₀.heap.FunFrames X.base X.outer
 frf:∀b∈X.fs,X.H₀ b=none
structure Inv (X:Cx) (pins:List (Addr×Obj)) (σ:List (Option V)) (H:Hp) (s:Shared):Prop where
 ok:X.Ok
 os:s.os=X.s₀.os
 bare:AllBare s.gens
 base:Un X.fs X.ex X.H₀ H X.s₀.heap s.heap
 loc:∃m,s.heap.Ns X.env.locals m/\∀(i:Nat)(x:Str)(v:V),X.N[i]? =some x->σ[i]? =some (some v)->Vis X.env.scope x->∃u,RelV v u/\Look X.env s.heap m x u
 cell:∀x c,X.env.cells.lookup x=some c->∃v,s.heap.IsCell c v
 free:H X.env.locals=none
 freeC:∀x c,X.env.cells.lookup x=some c->H c=none
 pin:∀p∈X.pn++pins,s.heap.get? p.1=some p.2/\H p.1=none/\p.1≠X.env.locals/\p.1∉X.fs/\∀v,p.2.data≠ .cell v
 hok:HOk X.prog X.w H s.heap
 len:σ.length=X.N.length
variable {X:Cx}{pins:List (Addr×Obj)}{s s':Shared}{g':Array GenState}{ch:List Addr}{it:Addr}{N:List Str}{i j:Nat}{x:Str}{M:Model}{E:Value->Shared->Prop}{u:Value}{Q:Unit->Shared->Prop}
section
variable {σ:List (Option V)}
theorem Cx.Ok.nofr(ok:X.Ok){o:Obj}(e:X.base.get? b=some o):b∉X.fs:=λhb=>by
 have:=(ok.funs.mem hb).1;rw[e] at this;cases this
theorem Inv.bs(I:Inv X pins σ H s):∀b o,X.base.get? b=some o->s.heap.get? b=some o/\H b=none:=λb o e=>
 ⟨I.base.keep b o (I.ok.bs b o e).1 (I.ok.bs b o e).2 (I.ok.nofr e) (I.ok.noex b o e),I.base.free b o (I.ok.bs b o e).1 (I.ok.bs b o e).2 (I.ok.noex b o e)⟩
theorem Inv.bk(I:Inv X pins σ H s):∀b o,X.base.get? b=some o->s.heap.get? b=some o:=λb o e=>(I.bs b o e).1
theorem Inv.mod(I:Inv X pins σ H s):Mod X.K X.mg X.base:=I.ok.mod
theorem Inv.kIn(I:Inv X pins σ H s):X.K.In s.heap:=I.ok.mod.kin.keeps I.bk
theorem Inv.lt(I:Inv X pins σ H s):X.env.locals<s.heap.objs.size:=let ⟨_,hn,_⟩:=I.loc;hn.lt
theorem Inv.sz(I:Inv X pins σ H s):X.s₀.heap.objs.size<=s.heap.objs.size:=lKx I.ok.above (lV4 I.lt)
theorem Inv.nofs(I:Inv X pins σ H s)(h:s.heap.objs.size<=a):a∉X.fs:=λhb=>by
 obtain⟨_,o,ho,_⟩:=I.ok.funs.mem hb;exact absurd (lKi (lJk ho) (lKx I.sz h)) (lVt _)
theorem Inv.cne(I:Inv X pins σ H s):∀x c,X.env.cells.lookup x=some c->c≠X.env.locals:=λx c e z=>by
 obtain⟨v,o,ho,hd⟩:=I.cell x c e;obtain⟨m,⟨o',es,ep,ho',hd',_⟩,_⟩:=I.loc;rw[z,ho'] at ho;cases ho;rw[hd'] at hd;cases hd
theorem Inv.funs(I:Inv X pins σ H s):s.heap.FunFrames X.base X.outer:=by
 have all:∀(l:List Env),(∀b∈frs l,b∈X.fs)->X.s₀.heap.FunFrames X.base l->s.heap.FunFrames X.base l:=by
  intro l
  induction l with
  | nil=>intro _ _;trivial
  | cons env r ih=>
   intro hs hl;obtain⟨hk,⟨L,o,hf,hn,ho,hd⟩,hr⟩:=hl;have hL:L∈X.fs:=hs L (by unfold frs;rw[lVu,hf];exact lJ6)
   obtain⟨sl,e⟩:=I.base.slot L o ho (I.ok.frf L hL) hL λz=>I.ok.exfs L z hL
   exact⟨hk,⟨L,_,hf,hn,e,hd⟩,ih (λb hb=>hs b (by unfold frs;rw[lVu,hf];exact lKd _ hb)) hr⟩
 exact all X.outer (λ_ hb=>hb) I.ok.funs
theorem Inv.stack(I:Inv X pins σ H s):s.heap.FunFrames X.base X.stack:=by
 rcases I.ok.stk with e | ⟨e,hf⟩
 .rw[e];exact I.funs
 .rw[e];obtain⟨m,hn,_⟩:=I.loc;refine .cons (by rw[I.ok.kind];decide) hf hn ?_ I.funs
  exact Heap.get?_none_of_le (lKx I.ok.bsz I.ok.above)
theorem Inv.stkSub(I:Inv X pins σ H s):∀b∈frs X.stack,b∈X.env.locals::X.fs:=λb hb=>by
 rcases I.ok.stk with e | ⟨e,hf⟩
 .rw[e] at hb;exact lKd _ hb
 .rw[e] at hb;unfold frs at hb;rw[lVu,hf] at hb;exact hb
theorem Inv.stkFree(I:Inv X pins σ H s):∀b∈frs X.stack,H b=none:=λb hb=>by
 rcases lJp.mp (I.stkSub b hb) with e | hb
 .rw[e];exact I.free
 .obtain⟨_,o,ho,_⟩:=I.ok.funs.mem hb;exact I.base.free b o ho (I.ok.frf b hb) λz=>I.ok.exfs b z hb
theorem Inv.step{t':Nat}{d':Drawn}(I:Inv X pins σ H s)(hch:∀b∈ch,(b∈X.ex\/X.s₀.heap.objs.size<=b)/\b≠X.env.locals/\(∀x c,X.env.cells.lookup x=some c->c≠b)/\∀p∈X.pn++pins,p.1≠b)(keep:∀b o,b≠X.env.locals->b∉X.fs->b∉ch->s.heap.get? b=some o->H b=none->h'.get? b=some o)(slot:∀b o,b≠X.env.locals->b∈X.fs->b∉ch->s.heap.get? b=some o->H b=none->∃sl,h'.get? b=some {o with slots:=sl})(free:∀b o,b∉ch->s.heap.get? b=some o->H b=none->H' b=none)(there:∀b o,b∉ch->s.heap.get? b=some o->∃o',h'.get? b=some o')(tups:∀b xs,H b=some (.tup xs)->H' b=some (.tup xs))(frzs:∀b o u,H b=some (.frz o u)->H' b=some (.frz o u))(tbls:∀b ps,H b=some (.tbl ps)->∃more,H' b=some (.tbl (ps++more)))(ns:∀m,s.heap.Ns X.env.locals m->h'.Ns X.env.locals m)(hok:HOk X.prog X.w H' h')(hg:AllBare g'):
  Inv X pins σ H' {s with heap:=h',gens:=g',drawn:=d',toks:=t'}:=by
 have neL:∀b o,X.s₀.heap.get? b=some o->b≠X.env.locals:=λb o e=>lJt (lKi (lJk e) I.ok.above)
 have neC:∀b o,X.s₀.heap.get? b=some o->b∉X.ex->b∉ch:=λb o e hx hb=>by
  rcases (hch b hb).1 with z | z
  .exact hx z
  .exact absurd (lKi (lJk e) z) (lVt _)
 have cellK:∀x c,X.env.cells.lookup x=some c->∀v,s.heap.IsCell c v->h'.IsCell c v:=λx c e v ⟨o,ho,hd⟩=>by
  have nch:c∉ch:=λz=>(hch c z).2.2.1 x c e rfl
  by_cases hc:c∈X.fs
  .obtain⟨sl,q⟩:=slot c o (I.cne x c e) hc nch ho (I.freeC x c e);exact⟨_,q,hd⟩
  .exact⟨o,keep c o (I.cne x c e) hc nch ho (I.freeC x c e),hd⟩
 refine⟨I.ok,I.os,hg,⟨λb o e n hb hx=> ?_,λb o e n hb hx=> ?_,λb o e n hx=> ?_,λb o e hx=> ?_,λb xs e=>tups b xs (I.base.tups b xs e),λb o xs e=>frzs b o xs (I.base.frzs b o xs e),λb ps e=> ?_⟩,?_,λx c e=> ?_,?_,λx c e=> ?_,λp hp=> ?_,hok,I.len⟩
 .exact keep b o (neL b o e) hb (neC b o e hx) (I.base.keep b o e n hb hx) (I.base.free b o e n hx)
 .obtain⟨sl,e1⟩:=I.base.slot b o e n hb hx;obtain⟨sl',e2⟩:=slot b _ (neL b o e) hb (neC b o e hx) e1 (I.base.free b o e n hx);exact⟨sl',e2⟩
 .obtain⟨o',e1⟩:=I.base.there b o e hx;exact free b o' (neC b o e hx) e1 (I.base.free b o e n hx)
 .obtain⟨o',e1⟩:=I.base.there b o e hx;exact there b o' (neC b o e hx) e1
 .obtain⟨m1,e1⟩:=I.base.tbls b ps e;obtain⟨m2,e2⟩:=tbls b _ e1;exact⟨m1++m2,by rw[e2,Array.append_assoc]⟩
 .obtain⟨m,hn,hl⟩:=I.loc;refine⟨m,ns m hn,λi x v e1 e2 e3=> ?_⟩
  obtain⟨u,r,l⟩:=hl i x v e1 e2 e3;refine⟨u,r,?_⟩
  rcases l with l | ⟨k,c,e,z⟩
  .exact .inl l
  .exact .inr ⟨k,c,e,cellK x c e _ z⟩
 .obtain⟨v,z⟩:=I.cell x c e;exact⟨v,cellK x c e v z⟩
 .obtain⟨m,⟨o,_,_,ho,_⟩,_⟩:=I.loc;exact free _ o (λz=>(hch _ z).2.1 rfl) ho I.free
 .obtain⟨v,o,ho,hd⟩:=I.cell x c e;exact free c o (λz=>(hch c z).2.2.1 x c e rfl) ho (I.freeC x c e)
 .obtain⟨e,n,ne,nf,d⟩:=I.pin p hp;have nch:p.1∉ch:=λz=>(hch p.1 z).2.2.2 p hp rfl
  exact⟨keep p.1 p.2 ne nf nch e n,free p.1 p.2 nch e n,ne,nf,d⟩
theorem Inv.un{t':Nat}(I:Inv X pins σ H s)(u:Un X.fs [] H H' s.heap h')(hok:HOk X.prog X.w H' h'):Inv X pins σ H' {s with heap:=h',toks:=t'}:=by
 obtain⟨m,⟨o,es,ep,ho,r⟩,_⟩:=id I.loc;obtain⟨sl,hL⟩:=u.any ho I.free (by simp)
 exact I.step (g':=s.gens) (d':=s.drawn) (ch:=[]) (λ_ z=>nomatch z) (λb o _ hb _ e n=>u.keep b o e n hb (by simp)) (λb o _ hb _ e n=>u.slot b o e n hb (by simp)) (λb o _ e n=>u.free b o e n (by simp)) (λb o _ e=>u.there b o e (by simp)) u.tups u.frzs u.tbls (λm' hm=>by
  obtain⟨o',es',ep',ho',r'⟩:=hm;rw[ho] at ho';cases ho';exact⟨_,es',ep',hL,r'⟩) hok I.bare
theorem Inv.call{t':Nat}{d':Drawn}(I:Inv X pins σ H s)(u:Un (frs X.stack) ch H H' s.heap h')(hok:HOk X.prog X.w H' h')(hg:AllBare g')(hch:∀b∈ch,(b∈X.ex\/X.s₀.heap.objs.size<=b)/\b≠X.env.locals/\(∀x c,X.env.cells.lookup x=some c->c≠b)/\∀p∈X.pn++pins,p.1≠b):
  Inv X pins σ H' {s with heap:=h',gens:=g',drawn:=d',toks:=t'}:=by
 obtain⟨m,⟨o,es,ep,ho,r⟩,_⟩:=id I.loc;obtain⟨sl,hL⟩:=u.any ho I.free λz=>(hch _ z).2.1 rfl
 exact I.step (ch:=ch) hch (λb o hL hb hc e n=>u.keep b o e n (λz=>(lJp.mp (I.stkSub b z)).elim hL hb) hc) (λb o _ _ hc e n=>u.any e n hc) (λb o hc e n=>u.free b o e n hc) (λb o hc e=>u.there b o e hc) u.tups u.frzs u.tbls (λm' hm=>by
  obtain⟨o',es',ep',ho',r'⟩:=hm;rw[ho] at ho';cases ho';exact⟨_,es',ep',hL,r'⟩) hok hg
theorem Inv.turned{t':Nat}(I:Inv X pins σ H s)(k:∀b o,b≠it->s.heap.get? b=some o->h'.get? b=some o)(hn:H it=none)(hL:it≠X.env.locals)(h1:it∈X.ex\/X.s₀.heap.objs.size<=it)(h2:∀x c,X.env.cells.lookup x=some c->c≠it)(h3:∀p∈X.pn++pins,p.1≠it):Inv X pins σ H {s with heap:=h',toks:=t'}:=by
 have nit:∀b u,H b=some u->b≠it:=λb u e z=>by rw[z,hn] at e;cases e
 refine I.step (g':=s.gens) (d':=s.drawn) (ch:=[it]) (λb hb=> ?_) (λb o _ _ hc e _=>k b o (λz=>hc (by simp[z])) e) (λb o _ _ hc e _=>⟨o.slots,k b o (λz=>hc (by simp[z])) e⟩) (λ_ _ _ _ n=>n)
  (λb o hc e=>⟨o,k b o (λz=>hc (by simp[z])) e⟩) (λ_ _ e=>e) (λ_ _ _ e=>e) (λb ps e=>⟨#[],by rw[e];simp⟩) (λm hm=> ?_) (λb u e=> ?_) I.bare
 .have e:b=it:=by simpa using hb
  subst e;exact⟨h1,hL,h2,h3⟩
 .obtain⟨o,es,ep,ho,r⟩:=hm;exact⟨o,es,ep,k _ o (Ne.symm hL) ho,r⟩
 .refine (I.hok b u e).stay (λc v hc q=>k c v ?_ q) (λ_ q=>q) λ_ _ q=>q
  rcases hc with z | z
  .rw[z];exact nit b u e
  .exact nit c _ z
theorem Inv.tok(I:Inv X pins σ H s)(t:Nat):Inv X pins σ H {s with toks:=t}:=I.un (h':=s.heap) (t':=t) Un.refl I.hok
theorem Inv.kept{t':Nat}(I:Inv X pins σ H s)(k:∀b u,s.heap.get? b=some u->h'.get? b=some u):Inv X pins σ H {s with heap:=h',toks:=t'}:=I.un (Un.kept k) (I.hok.kept k)
theorem Inv.laid{t':Nat}(I:Inv X pins σ H s)(k:∀b u,s.heap.get? b=some u->h'.get? b=some u)(hp:s.heap.objs.size<=a)(new:ObjOk X.prog X.w (upd H a o) h' a o):
  Inv X pins σ (upd H a o) {s with heap:=h',toks:=t'}:=I.un (Un.laid k hp (I.hok.fresh hp)) (I.hok.laid k hp new)
theorem Inv.write{x e:Addr}{t':Nat}(I:Inv X pins σ H s)(mu:Mut (H x))(he:e=x\/H e=some (.own x))(k:∀b u,b≠e->s.heap.get? b=some u->h'.get? b=some u)(heo:∃u,h'.get? e=some u)(new:ObjOk X.prog X.w (upd H x o) h' x o):Inv X pins σ (upd H x o) {s with heap:=h',toks:=t'}:=I.un (Un.write mu he k heo) (I.hok.write mu he k heo new)
theorem Inv.weak{σ':List (Option V)}(I:Inv X pins σ H s)(hl:σ'.length=σ.length)(w:∀(i:Nat) v,σ'[i]? =some (some v)->σ[i]? =some (some v)):Inv X pins σ' H s:=
 ⟨I.ok,I.os,I.bare,I.base,let ⟨m,hn,hl'⟩:=I.loc;⟨m,hn,λi x v e1 e2 e3=>hl' i x v e1 (w i v e2) e3⟩,I.cell,I.free,I.freeC,I.pin,I.hok,hl.trans I.len⟩
theorem Inv.pins_of{pins':List (Addr×Obj)}(I:Inv X pins σ H s)(h:∀p∈pins',s.heap.get? p.1=some p.2/\H p.1=none/\p.1≠X.env.locals/\p.1∉X.fs/\∀v,p.2.data≠ .cell v):Inv X pins' σ H s:=
 ⟨I.ok,I.os,I.bare,I.base,I.loc,I.cell,I.free,I.freeC,λp hp=>(lJx.mp hp).elim (λz=>I.pin p (lKf _ z)) (h p),I.hok,I.len⟩
theorem kYq(hN:N.Nodup)(a:N[i]? =some x)(b:N[j]? =some x):i=j:=by
 obtain⟨h1,e1⟩:=lJg.mp a;obtain⟨h2,e2⟩:=lJg.mp b;exact (lZr hN).mp (e1.trans e2.symm)
theorem qKm{v:V}(I:Inv X pins σ H s)(hN:X.N.Nodup)(hi:X.N[i]? =some x)(hx:Loc X.env.scope x)(r:RelV v u)(h:∀s',Inv X pins (σ.set i (some v)) H s'->(∃a,Heap.SameBut a s.heap s'.heap/\(a=X.env.locals\/X.env.cells.lookup x=some a))->Q () s')(hf:X.fn x=true\/X.env.scope.names.lookup x=some .local:=by first | exact .inl rfl | exact .inr rfl | assumption):wpAny M A (storeName X.env x u) Q E s:=by
 obtain⟨m,hn,hl⟩:=id I.loc;have hcls:(X.env.scope.kind == .class||(X.env.scope.kind == .module&&X.env.locals != X.env.globals))=false:=by rw[I.ok.kind];rfl
 have hiσ:i<σ.length:=by rw[I.len];exact (lJg.mp hi).1
 have cne:=I.cne
 have tracked:∀{a:Addr}{h':Heap},(∃o,s.heap.get? a=some o/\H a=none)->Heap.SameBut a s.heap h'->HOk X.prog X.w H h':=λ{a h'} ha hs b ob e=>by
  obtain⟨_,_,hfree⟩:=ha;refine (I.hok b ob e).stay (λc w' hc q=>(hs.2 c ?_).trans q) (λ_ q=>q) λ_ _ q=>q
  rintro rfl
  rcases hc with rfl | hc
  .rw[hfree] at e;cases e
  .rw[hfree] at hc;cases hc
 rcases hx with hk | hk
 .refine wpAny_storeName_local hk hn (λh' hn' hs=> ?_) hcls
  obtain⟨oL,_,_,hoL,_⟩:=id hn;refine h _ ⟨I.ok,I.os,I.bare,⟨λb o e n hb hx=> ?_,λb o e n hb hx=> ?_,I.base.free,λb o e hx=> ?_,I.base.tups,I.base.frzs,I.base.tbls⟩,⟨_,hn',λj y v' e1 e2 e3=> ?_⟩,λy c e=> ?_,I.free,I.freeC,λp hp=> ?_,tracked ⟨oL,hoL,I.free⟩ hs,by simpa using I.len⟩ ⟨_,hs,.inl rfl⟩
  .exact (hs.2 b (lJt (lKi (lJk e) I.ok.above))).trans (I.base.keep b o e n hb hx)
  .obtain⟨sl,e1⟩:=I.base.slot b o e n hb hx;exact⟨sl,(hs.2 b (lJt (lKi (lJk e) I.ok.above))).trans e1⟩
  .obtain⟨o',e1⟩:=I.base.there b o e hx;exact⟨o',(hs.2 b (lJt (lKi (lJk e) I.ok.above))).trans e1⟩
  .by_cases hj:j=i
   .subst hj;rw[hi] at e1;cases e1;rw[lKy hiσ] at e2;cases e2;exact⟨u,r,.inl ⟨hk,by simp⟩⟩
   .rw[lKu (Ne.symm hj)] at e2;obtain⟨u',r',q⟩:=hl j y v' e1 e2 e3;refine⟨u',r',?_⟩
    rcases q with ⟨k,e⟩ | ⟨k,c,e,z⟩
    .refine .inl ⟨k,?_⟩;have:y≠x:=λe=>hj (kYq hN e1 (e▸hi))
     simp[this,e]
    .exact .inr ⟨k,c,e,z.sameBut hs (cne y c e)⟩
  .obtain⟨w',z⟩:=I.cell y c e;exact⟨w',z.sameBut hs (cne y c e)⟩
  .obtain⟨e,n,ne,nf,d⟩:=I.pin p hp;exact⟨(hs.2 p.1 ne).trans e,n,ne,nf,d⟩
 .have hfn:X.fn x=true:=by
   rcases hf with z | z
   .exact z
   .rw[z] at hk;cases hk
  obtain⟨c,hc⟩:=I.ok.has x (.inl hk);obtain⟨w',z⟩:=I.cell x c hc;refine wpAny_storeName_cell I.ok.kind hk hc z (λh' hc' hs=> ?_)
  obtain⟨oc,hoc,hocd⟩:=id z;refine h {s with heap:=h'} ⟨I.ok,I.os,I.bare,⟨λb o e n hb hx=> ?_,λb o e n hb hx=> ?_,I.base.free,λb o e hx=> ?_,I.base.tups,I.base.frzs,I.base.tbls⟩,⟨m,hn.sameBut hs (Ne.symm (cne x c hc)),λj y v' e1 e2 e3=> ?_⟩,λy c' e=> ?_,I.free,I.freeC,λp hp=> ?_,tracked ⟨oc,hoc,I.freeC x c hc⟩ hs,by simpa using I.len⟩ ⟨c,hs,.inr hc⟩
  .exact (hs.2 b (lJt (lKi (lJk e) (I.ok.cab x c hfn hc)))).trans (I.base.keep b o e n hb hx)
  .obtain⟨sl,e1⟩:=I.base.slot b o e n hb hx;exact⟨sl,(hs.2 b (lJt (lKi (lJk e) (I.ok.cab x c hfn hc)))).trans e1⟩
  .obtain⟨o',e1⟩:=I.base.there b o e hx;exact⟨o',(hs.2 b (lJt (lKi (lJk e) (I.ok.cab x c hfn hc)))).trans e1⟩
  .by_cases hj:j=i
   .subst hj;rw[hi] at e1;cases e1;rw[lKy hiσ] at e2;cases e2;exact⟨u,r,.inr ⟨.inl hk,c,hc,hc'⟩⟩
   .rw[lKu (Ne.symm hj)] at e2;obtain⟨u',r',q⟩:=hl j y v' e1 e2 e3;refine⟨u',r',?_⟩
    rcases q with q | ⟨k,c',e,z'⟩
    .exact .inl q
    .refine .inr ⟨k,c',e,z'.sameBut hs ?_⟩;rintro rfl;exact hj (kYq hN e1 (I.ok.inj _ _ _ e hc▸hi))
  .by_cases hcc:c'=c
   .subst hcc;exact⟨_,hc'⟩
   .obtain⟨w2,z2⟩:=I.cell y c' e;exact⟨w2,z2.sameBut hs hcc⟩
  .obtain⟨e,n,ne,nf,d⟩:=I.pin p hp;refine⟨(hs.2 p.1 ?_).trans e,n,ne,nf,d⟩;intro q;rw[q,hoc] at e;have q':oc=p.2:=lJ0 e;exact d w' (by rw[<-q'];exact hocd)
theorem jXd{v:V}(I:Inv X pins σ H s)(hN:X.N.Nodup)(hi:X.N[i]? =some x)(hx:Loc X.env.scope x)(r:RelV v u)(h:∀s',Inv X pins (σ.set i (some v)) H s'->Q () s')(hf:X.fn x=true\/X.env.scope.names.lookup x=some .local:=by first | exact .inl rfl | exact .inr rfl | assumption):wpAny M A (storeName X.env x u) Q E s:=
 qKm I hN hi hx r (λs' I' _=>h s' I') hf
theorem Inv.call'(I:Inv X pins σ H s)(ho:s'.os=s.os)(u:Un (frs X.stack) ch H H' s.heap s'.heap)(hok:HOk X.prog X.w H' s'.heap)(hg:AllBare s'.gens)(hch:∀b∈ch,(b∈X.ex\/X.s₀.heap.objs.size<=b)/\b≠X.env.locals/\(∀x c,X.env.cells.lookup x=some c->c≠b)/\∀p∈X.pn++pins,p.1≠b):Inv X pins σ H' s':=by
 obtain⟨h',g',d',t',o'⟩:=s';have e:o'=s.os:=ho;subst e;exact I.call (g':=g') (t':=t') (d':=d') u hok hg hch
end
abbrev XK:=Value->Option Addr->Hp->Prop
abbrev St:=List (Option V)
abbrev VK:=V->Hp->Prop
abbrev TE:=St->Hp->VK->Prop
abbrev TT:=St->Hp->(Bool->Hp->Prop)->Prop
abbrev TA:=St->Hp->(List V->Hp->Prop)->Prop
structure Ends where
 nx:St->Hp->Prop
 rt:VK
 bk:St->Hp->Prop:=λ_ _=>False
 ct:St->Hp->Prop:=λ_ _=>False
abbrev TS:=Ends->St->Hp->Prop
def EP(X:Cx)(pins:List (Addr×Obj))(σ:St)(Q:VK)(u:Value)(s':Shared):Prop:=∃v H',Inv X pins σ H' s'/\RelV v u/\Q v H'
def TP(X:Cx)(pins:List (Addr×Obj))(σ:St)(Q:Bool->Hp->Prop)(b:Bool)(s':Shared):Prop:=∃H',Inv X pins σ H' s'/\Q b H'
def SP(X:Cx)(pins:List (Addr×Obj))(D:Ends)(f:Flow)(s':Shared):Prop:=
 match f with
 | .next=>∃ σ' H',Inv X pins σ' H' s'/\D.nx σ' H'
 | .brk=>∃ σ' H',Inv X pins σ' H' s'/\D.bk σ' H'
 | .cont=>∃ σ' H',Inv X pins σ' H' s'/\D.ct σ' H'
 | .ret u=>∃v σ' H',Inv X pins σ' H' s'/\RelV v u/\D.rt v H'
def PE(X:Cx)(e:Expr)(t:TE):Prop:=
 ∀(pins:List (Addr×Obj))(s:Shared)(σ:St)(H:Hp)(Q:VK),Inv X pins σ H s->t σ H Q->wpAny (model X.prog X.w) X.A (eval e X.env) (EP X pins σ Q) X.xe s
def PSs(X:Cx)(st:List Stmt)(t:TS):Prop:=
 ∀(pins:List (Addr×Obj))(s:Shared)(σ:St)(H:Hp)(D:Ends),Inv X pins σ H s->t D σ H->wpAny (model X.prog X.w) X.A (execs st X.env) (SP X pins D) X.xe s
theorem thn{α:Type}{t:Sem α}{Q Q':α->Shared->Prop}(h:wpAny M A t Q E s)(hQ:∀a s,Q a s->Q' a s):wpAny M A t Q' E s:=lQp h hQ λ_ _ x=>x
variable {pos:Pos}{σ:St}{ta tb:TE}
section
def tVar(i:Nat):TE:=λσ H Q=>∃v,σ[i]? =some (some v)/\Q v H
def tC(v:V):TE:=λ_ H Q=>Q v H
theorem uUi(hN:X.N[i]? =some x)(hv:Vis X.env.scope x)(hd:(x == ("__debug__":Str))=false:=by decide)(hcd:(x == ("__classdict__":Str))=false:=by decide):PE X (.Name x pos) (tVar i):=by
 intro pins s σ H Q I h;obtain⟨v,e,h⟩:=h;obtain⟨m,hn,hl⟩:=I.loc;obtain⟨u,r,l⟩:=hl i x v hN e hv;have fin:EP X pins σ Q u s:=⟨v,H,I,r,h⟩
 rcases l with ⟨hk,hm⟩ | ⟨hk,c,hc,hcell⟩
 .exact wpAny_Name (wpAny_loadName_local I.ok.kind hk hn hm fin) hd
 .rcases hk with hk | hk
  .exact wpAny_Name (wpAny_loadName_cell I.ok.kind hk hc hcell fin) hd
  .exact wpAny_Name (wpAny_loadName_free I.ok.kind hk hc hcell fin hcd) hd
theorem uUk {i j pos}:PE X (.Constant (.int i) j pos) (tC (.int i)):=λ_ _ _ H _ I h=>wpAny_Constant_int ⟨.int i,H,I.tok _,⟨_,rfl⟩,h⟩
theorem uXc {b j pos}:PE X (.Constant (.bool b) j pos) (tC (.bl b)):=λ_ _ _ H _ I h=>Constant_bool ⟨.bl b,H,I,rfl,h⟩
theorem uUj {j pos}:PE X (.Constant .none j pos) (tC .non):=λ_ _ _ H _ I h=>Constant_none ⟨.non,H,I,rfl,h⟩
def Gl(X:Cx)(x:Str):Prop:=X.env.kindOf x=some .globalImplicit
theorem uKe{Q:Value->Shared->Prop}(I:Inv X pins σ H s)(hg:Gl X x)(hm:X.mg x=some u)(h:Q u s)(hd:(x == ("__debug__":Str))=false:=by decide):wpAny (model X.prog X.w) X.A (eval (.Name x pos) X.env) Q E s:=
 Calls.Name_function_global I.ok.kind hg (Calls.loadGlobal_global (by rw[I.ok.glob];exact I.mod.glob.keeps I.bk) hm h) hd
theorem jQj{Q:Value->Shared->Prop}(I:Inv X pins σ H s)(hg:Gl X x)(hm:X.mg x=none)(hv:bootBuiltins x=some u)(h:Q u s)(hn:x≠"__name__":=by decide)(hd:(x == ("__debug__":Str))=false:=by decide):wpAny (model X.prog X.w) X.A (eval (.Name x pos) X.env) Q E s:=by
 obtain⟨mb,h1,h2⟩:=I.mod.blt;exact Calls.Name_function_global I.ok.kind hg (Calls.loadGlobal_builtin (by rw[I.ok.glob];exact I.mod.glob.keeps I.bk) hm (by rw[I.ok.blt];exact h1.keeps I.bk) ((h2 x hn).trans hv) h) hd
theorem uJ0{v:V}(hg:Gl X x)(hm:X.mg x=none)(hv:bootBuiltins x=some u)(r:RelV v u)(hn:x≠"__name__":=by decide)(hd:(x == ("__debug__":Str))=false:=by decide):PE X (.Name x pos) (tC v):=
 λ_ _ _ H _ I h=>jQj I hg hm hv ⟨v,H,I,r,h⟩ hn hd
variable {a b:Expr}
def tB(t:TE):TT:=λσ H Q=>t σ H λx H1=>∃c,x= .bl c/\Q c H1
variable {tA tB':TT}{rest:List Expr}
def tOrV(ta tb:TE):TE:=λσ H Q=>ta σ H λx H1=>∃c,x= .bl c/\if c=true then Q (.bl true) H1 else tb σ H1 Q
end
def SqL(K:PySem.W.Frag)(H:Hp)(a:Addr)(xs:List V):Prop:=
 Rd H a (.lst xs)\/
  ∃(o:Obj)(its:Array Value)(n:Nat),K.lookup a=some o/\o.cls= .type "list"/\o.dict=none/\o.data= .seq its n/\its.size<=sizeLine/\Vals xs its.toList
def SqT(K:PySem.W.Frag)(H:Hp)(a:Addr)(xs:List V):Prop:=
 Rd H a (.tup xs)\/
  ∃(o:Obj)(its:Array Value)(n:Nat),K.lookup a=some o/\o.cls= .type "tuple"/\o.data= .seq its n/\its.size<=sizeLine/\Vals xs its.toList
noncomputable def absV:Value->Option V
 | .none=>some .non
 | .bool b=>some (.bl b)
 | .int i _=>some (.int i)
 | .str x _=>some (.str x)
 | .bytes b _=>some (.byt b)
 | .float b _=>some (.flt b)
 | .ref a=>some (.ref a)
 | .type n=>some (.ty n)
 | _=>none
theorem RelV.abs{x:V}(r:RelV x u):absV u=some x:=by
 cases x with
 | non=>cases r;rfl
 | bl _=>cases r;rfl
 | int _=>obtain⟨t,rfl⟩:=r;rfl
 | str _=>obtain⟨t,rfl⟩:=r;rfl
 | byt _=>obtain⟨t,rfl⟩:=r;rfl
 | flt _=>obtain⟨t,rfl⟩:=r;rfl
 | ref _=>cases r;rfl
 | ty _=>cases r;rfl
theorem RelV.inj{x y:V}(r:RelV x u)(q:RelV y u):x=y:=lJ0 (r.abs.symm.trans q.abs)
theorem Vals.inj{xs ys:List V}(h:Vals xs us)(g:Vals ys us):xs=ys:=by
 induction h generalizing ys with
 | nil=>(cases g;rfl)
 | cons r _ ih=>(cases g with | cons r' t'=>rw[r.inj r',ih t'])
variable {K:PySem.W.Frag}
section
variable {xs ys:List V}
theorem SqL.of(h:H a=some (.lst xs)):SqL K H a xs:= .inl (.inl h)
theorem SqT.of(h:H a=some (.tup xs)):SqT K H a xs:= .inl (.inl h)
theorem Inv.list(I:Inv X pins σ H s)(h:SqL X.K H a xs):∃its:List Value,Vals xs its/\PlainL s.heap a its.toArray/\xs.length<=sizeLine:=by
 rcases h with h | ⟨o,its,n,hk,hc,hd,hs,hz,r⟩
 .obtain⟨z,its,n,r,e⟩:=h.ok I.hok;exact⟨its,r,⟨_,n,e,rfl,rfl,rfl⟩,z⟩
 .refine⟨its.toList,r,⟨o,n,I.kIn a o hk,hc,hd,by simpa using hs⟩,?_⟩
  have e:=r.length;simp only[lKn] at e;omega
theorem Inv.tuple(I:Inv X pins σ H s)(h:SqT X.K H a xs):∃its:List Value,Vals xs its/\IsTup s.heap a its.toArray/\xs.length<=sizeLine:=by
 rcases h with h | ⟨o,its,n,hk,hc,hs,hz,r⟩
 .obtain⟨z,its,r,p⟩:=h.ok I.hok;exact⟨its,r,p.is,z⟩
 .refine⟨its.toList,r,⟨o,I.kIn a o hk,hc,n,by simpa using hs⟩,?_⟩
  have e:=r.length;simp only[lKn] at e;omega
theorem Inv.list_inj(I:Inv X pins σ H s)(h:SqL X.K H a xs)(h':SqL X.K H a ys):xs=ys:=by
 obtain⟨its,r,⟨o,n,e,_,_,d⟩,_⟩:=I.list h;obtain⟨its',r',⟨o',n',e',_,_,d'⟩,_⟩:=I.list h';rw[e] at e';cases e';rw[d] at d';injection d' with d1 _
 have:its=its':=by simpa using lKl Array.toList d1
 subst this;exact r.inj r'
theorem Inv.tuple_inj(I:Inv X pins σ H s)(h:SqT X.K H a xs)(h':SqT X.K H a ys):xs=ys:=by
 obtain⟨its,r,⟨o,e,_,n,d⟩,_⟩:=I.tuple h;obtain⟨its',r',⟨o',e',_,n',d'⟩,_⟩:=I.tuple h';rw[e] at e';cases e';rw[d] at d';injection d' with d1 _
 have:its=its':=by simpa using lKl Array.toList d1
 subst this;exact r.inj r'
end
noncomputable abbrev Cx.wish(X:Cx)(E:Value->Shared->Prop):Cx:={X with xe:=E}
noncomputable abbrev Cx.nox(X:Cx):Cx:=X.wish λ_ _=>False
theorem Cx.Ok.wish(ok:X.Ok)(E:Value->Shared->Prop):(X.wish E).Ok:=
 ⟨ok.mod,ok.kind,ok.glob,ok.blt,ok.above,ok.inj,ok.has,ok.cab,ok.hd,ok.gd,ok.frames,ok.stk,ok.exf,ok.bs,ok.bsz,ok.noex,ok.exfs,ok.funs,ok.frf⟩
theorem Cx.Ok.unwish(ok:(X.wish E).Ok):X.Ok:=
 ⟨ok.mod,ok.kind,ok.glob,ok.blt,ok.above,ok.inj,ok.has,ok.cab,ok.hd,ok.gd,ok.frames,ok.stk,ok.exf,ok.bs,ok.bsz,ok.noex,ok.exfs,ok.funs,ok.frf⟩
theorem Inv.wish(I:Inv X pins σ H s)(E:Value->Shared->Prop):Inv (X.wish E) pins σ H s:=⟨I.ok.wish E,I.os,I.bare,I.base,I.loc,I.cell,I.free,I.freeC,I.pin,I.hok,I.len⟩
theorem Inv.unwish(I:Inv (X.wish E) pins σ H s):Inv X pins σ H s:=⟨I.ok.unwish,I.os,I.bare,I.base,I.loc,I.cell,I.free,I.freeC,I.pin,I.hok,I.len⟩
theorem SP.unwish{D:Ends}{f:Flow}(h:SP (X.wish E) pins D f s'):SP X pins D f s':=by
 cases f with
 | next=>obtain⟨σ',H',I,q⟩:=h;exact⟨σ',H',I.unwish,q⟩
 | brk=>obtain⟨σ',H',I,q⟩:=h;exact⟨σ',H',I.unwish,q⟩
 | cont=>obtain⟨σ',H',I,q⟩:=h;exact⟨σ',H',I.unwish,q⟩
 | ret u=>obtain⟨v,σ',H',I,r,q⟩:=h;exact⟨v,σ',H',I.unwish,r,q⟩
theorem PSs.nox{st:List Stmt}{t:TS}(h:PSs X.nox st t):PSs X st t:=λpins s σ H D I hw=>
 lQp (h pins s σ H D (I.wish _) hw) (λ_ _ q=>q.unwish) λ_ _ z=>False.elim z
variable {e:Expr}{te:TE}
section
variable {st:Stmt}{rest:List Stmt}{t u:TS}
theorem Inv.quiet(I:Inv X pins σ H s):interactive X.env=false:=by simp[interactive,I.ok.kind]
def uQz:TS:=λD _ H=>D.rt .non H
end
abbrev TSet:=V->V->V->Hp->(Hp->Prop)->Prop
def PSet(X:Cx)(t:TSet):Prop:=
 ∀(pins:List (Addr×Obj))(s:Shared)(σ:St)(H:Hp)(o i v:V)(ov iv u:Value)(Q:Hp->Prop),Inv X pins σ H s->RelV o ov->RelV i iv->RelV v u->t o i v H Q->
  wpAny (model X.prog X.w) X.A (setItem ov iv u) (λ_ s'=>∃H',Inv X pins σ H' s'/\Q H') X.xe s
structure It where
 go:Nat->Hp->Prop
 yld:Nat->Hp->V->Hp->Prop
 stop:Nat->Hp->Prop
def FpOk(X:Cx)(pins:List (Addr×Obj))(H:Hp)(b:Addr):Prop:=
 H b=none/\b≠X.env.locals/\b∉X.fs/\(b∈X.ex\/X.s₀.heap.objs.size<=b)/\(∀x c,X.env.cells.lookup x=some c->c≠b)/\∀p∈X.pn++pins,p.1≠b
theorem Inv.fpOk(I:Inv X pins σ H s)(hb:s.heap.objs.size<=b)(hn:H' b=none):FpOk X pins H' b:=by
 refine⟨hn,lVf (lKi I.lt hb),I.nofs hb,.inr (lKx I.sz hb),λx c e z=> ?_,λp hp z=> ?_⟩
 .obtain⟨v,q⟩:=I.cell x c e;exact absurd (lKi q.lt (by rw[z];exact hb)) (lVt _)
 .exact absurd (lKi (lJk (I.pin p hp).1) (by rw[z];exact hb)) (lVt _)
structure Turn (P:Program) (w:World) (K:PySem.W.Frag) (tg:Expr) (J:It) (fp:List Addr) (it:Addr) (tn:Nat->Heap->Prop):Prop where
 mem:it∈fp
 obj:∀i h,tn i h->∀b∈fp,∃o,h.get? b=some o/\∀v,o.data≠ .cell v
 keep:∀i h h',tn i h->(∀b∈fp,∀o,h.get? b=some o->h'.get? b=some o)->tn i h'
 item:∀(X:Cx),X.prog=P->X.w=w->X.K=K->X.calm=true->∀(i:Nat)(pins:List (Addr×Obj))(s:Shared)(σ:St)(H:Hp)(E:Value->Shared->Prop),Inv X pins σ H s->(∀b∈fp,FpOk X pins H b)->tn i s.heap->J.go i H->
  wpAny (model P w) X.A (pyNext (.ref it)) (λr s1=>∃u,r=some u/\
   wpAny (model P w) X.A (letOwnedTupleGo tg (.ref it) u) (λ_ s2=>∃x H',Inv X pins σ H' s2/\RelV x u/\J.yld i H x H'/\tn (i+1) s2.heap/\∀b∈fp,H' b=none) E s1) E s
 done:∀(X:Cx),X.prog=P->X.w=w->X.K=K->X.calm=true->∀(i:Nat)(pins:List (Addr×Obj))(s:Shared)(σ:St)(H:Hp)(E:Value->Shared->Prop),Inv X pins σ H s->(∀b∈fp,FpOk X pins H b)->tn i s.heap->J.stop i H->
  wpAny (model P w) X.A (pyNext (.ref it)) (λr s1=>r=none/\Inv X pins σ H s1) E s
 self:∀(A:Around)(i:Nat)(s:Shared)(Q:Value->Shared->Prop)(E:Value->Shared->Prop),tn i s.heap->Q (.ref it) s->wpAny (model P w) A (pyIter (.ref it)) Q E s
abbrev TI:=St->Hp->(It->Hp->Prop)->Prop
def PIE(X:Cx)(pins:List (Addr×Obj))(σ:St)(tg:Expr)(R:It->Hp->Prop)(itv:Value)(s2:Shared):Prop:=
 ∃(it:Addr)(fp:List Addr)(tn:Nat->Heap->Prop)(J:It)(H':Hp),itv= .ref it/\Inv X pins σ H' s2/\Turn X.prog X.w X.K tg J fp it tn/\tn 0 s2.heap/\(∀b∈fp,FpOk X pins H' b)/\R J H'
def PI(X:Cx)(tg iter:Expr)(wi:TI):Prop:=
 ∀(pins:List (Addr×Obj))(s:Shared)(σ:St)(H:Hp)(R:It->Hp->Prop),Inv X pins σ H s->wi σ H R->
  wpAny (model X.prog X.w) X.A (eval iter X.env) (λv s1=>wpAny (model X.prog X.w) X.A (pyIter v) (PIE X pins σ tg R) X.xe s1) X.xe s
variable {tg:Expr}
theorem qUj{o:Obj}{n:String}{vs:Array Value}(ho:s.heap.get? it=some o)(hc:o.cls= .type n)(hd:o.data= .fields vs)(hn:["enumerate","zip","dict_itemiterator","dict_reverseitemiterator","odict_iterator","itertools.zip_longest","itertools.pairwise"].contains n=false)(hQ:Q () s):wpAny M A (letOwnedTupleGo tg (.ref it) u) Q E s:=by
 unfold letOwnedTupleGo
 cases tg<;>first
  | exact lJd hQ
  | (cases u<;>first
    | exact lJd hQ
    | (refine lJa (wpAny_load ho ?_)
       rw[hc,hd];show wpAny M A (if (["enumerate","zip","dict_itemiterator","dict_reverseitemiterator","odict_iterator","itertools.zip_longest","itertools.pairwise"].contains n&&vs[0]? == some (rawInt _))=true then _ else _) Q E s
       rw[lJb (by intro h;rw[hn,Bool.false_and] at h;cases h)]
       exact lJd hQ))
noncomputable def Itl(K:PySem.W.Frag)(a:Addr):It:=
 ⟨λi H=>∃xs x,SqL K H a xs/\xs[i]? =some x,λi H x H'=>H'=H/\∀xs,SqL K H a xs->xs[i]? =some x,λi H=>∃xs,SqL K H a xs/\xs.length<=i⟩
noncomputable def Itt(K:PySem.W.Frag)(a:Addr):It:=
 ⟨λi H=>∃xs x,SqT K H a xs/\xs[i]? =some x,λi H x H'=>H'=H/\∀xs,SqT K H a xs->xs[i]? =some x,λi H=>∃xs,SqT K H a xs/\xs.length<=i⟩
noncomputable def Itr(lo:Int)(n:Nat):It:=⟨λi _=>i<n,λi H x H'=>H'=H/\x= .int (lo+i),λi _=>n<=i⟩
theorem qKe(a it:Addr):Turn P w K tg (Itl K a) [it] it (λi h=>h.IsListIter it a i) where
 mem:=by simp
 obj:=λi h st b hb=>by
  have e:b=it:=by simpa using hb
  subst e;obtain⟨o,e,c,d⟩:=st;exact⟨o,e,λv z=>by rw[d] at z;cases z⟩
 keep:=λi h h' st k=>st.at λo e=>k it (by simp) o e
 item:=by
  intro X hP hw hK hc i pins s σ H E I hf st hg;subst hP hw hK;obtain⟨xs,x,hq,hx⟩:=hg;obtain⟨its,rv,p,hz⟩:=I.list hq;obtain⟨u,hu,ru⟩:=rv.get hx;obtain⟨f0,f1,f2,f3,f4,f5⟩:=hf it (by simp)
  refine wpAny_pyNext_list_item st p.isList (x:=u) (by simpa using hu) λh' st' sb=> ?_
  have I1:Inv X pins σ H {s with heap:=h'}:=I.turned (t':=s.toks) (λb o hb e=>(sb.2 b hb).trans e) f0 f1 f3 f4 f5
  obtain⟨o,e,c,d⟩:=id st';exact⟨u,rfl,qUj (s:={s with heap:=h'}) e c d (by decide) ⟨x,H,I1,ru,⟨rfl,λys hy=>by rw[I.list_inj hy hq];exact hx⟩,st',λb hb=>(hf b hb).1⟩⟩
 done:=by
  intro X hP hw hK hc i pins s σ H E I hf st hg;subst hP hw hK;obtain⟨xs,hq,hx⟩:=hg;obtain⟨its,rv,p,hz⟩:=I.list hq;obtain⟨f0,f1,f2,f3,f4,f5⟩:=hf it (by simp)
  have hl:=rv.length;exact wpAny_pyNext_list_end (I.ok.hd hc) st p.isList (by simp;omega) λh' eb=>⟨rfl,I.turned (t':=s.toks) (λb o hb e=>eb b o hb e) f0 f1 f3 f4 f5⟩
 self:=λ_ _ _ _ _ st h=>wpAny_pyIter_listiter st h
theorem kZ1(a it:Addr):Turn P w K tg (Itt K a) [it] it (λi h=>h.IsTupleIter it a i) where
 mem:=by simp
 obj:=λi h st b hb=>by
  have e:b=it:=by simpa using hb
  subst e;obtain⟨o,e,c,d⟩:=st;exact⟨o,e,λv z=>by rw[d] at z;cases z⟩
 keep:=λi h h' st k=>st.at λo e=>k it (by simp) o e
 item:=by
  intro X hP hw hK hc i pins s σ H E I hf st hg;subst hP hw hK;obtain⟨xs,x,hq,hx⟩:=hg;obtain⟨its,rv,p,hz⟩:=I.tuple hq;obtain⟨u,hu,ru⟩:=rv.get hx;obtain⟨f0,f1,f2,f3,f4,f5⟩:=hf it (by simp)
  refine wpAny_pyNext_tuple_item st (show s.heap.IsTuple a its.toArray from p) (x:=u) (by simpa using hu) λh' st' sb=> ?_
  have I1:Inv X pins σ H {s with heap:=h'}:=I.turned (t':=s.toks) (λb o hb e=>(sb.2 b hb).trans e) f0 f1 f3 f4 f5
  obtain⟨o,e,c,d⟩:=id st';exact⟨u,rfl,qUj (s:={s with heap:=h'}) e c d (by decide) ⟨x,H,I1,ru,⟨rfl,λys hy=>by rw[I.tuple_inj hy hq];exact hx⟩,st',λb hb=>(hf b hb).1⟩⟩
 done:=by
  intro X hP hw hK hc i pins s σ H E I hf st hg;subst hP hw hK;obtain⟨xs,hq,hx⟩:=hg;obtain⟨its,rv,p,hz⟩:=I.tuple hq;obtain⟨f0,f1,f2,f3,f4,f5⟩:=hf it (by simp)
  have hl:=rv.length;exact wpAny_pyNext_tuple_end (I.ok.hd hc) st (show s.heap.IsTuple a its.toArray from p) (by simp;omega) λh' eb=>⟨rfl,I.turned (t':=s.toks) (λb o hb e=>eb b o hb e) f0 f1 f3 f4 f5⟩
 self:=λ_ _ _ _ _ st h=>wpAny_pyIter_tupleiter st h
theorem kZ2(it:Addr)(lo:Int)(n:Nat):Turn P w K tg (Itr lo n) [it] it (λi h=>IsRangeIter h it (lo+(i:Nat)*1) ((n:Int)-(i:Nat)) 1) where
 mem:=by simp
 obj:=λi h st b hb=>by
  have e:b=it:=by simpa using hb
  subst e
  exact⟨_,st,λv z=>by
   have z':Data.fields _=Data.cell v:=z;cases z'⟩
 keep:=λi h h' st k=>k it (by simp) _ st
 item:=by
  intro X hP hw hK hc i pins s σ H E I hf st hg;subst hP hw hK;obtain⟨f0,f1,f2,f3,f4,f5⟩:=hf it (by simp)
  have W:=Walks.range (prog:=X.prog) (w:=X.w) (I.ok.hd hc) it lo 1 n;refine W.item i s _ _ hg st λv h' tk hv st' kk=> ?_
  obtain⟨t,rfl⟩:=hv;have I1:Inv X pins σ H {s with heap:=h',toks:=tk}:=I.turned (λb o hb e=>kk b o (by simpa using hb) e) f0 f1 f3 f4 f5
  refine⟨_,rfl,qUj (s:={s with heap:=h',toks:=tk}) (n:="range_iterator") st' rfl rfl (by decide) ⟨.int (lo+i),H,I1,⟨t,?_⟩,⟨rfl,rfl⟩,st',λb hb=>(hf b hb).1⟩⟩
  rw[Int.mul_one]
 done:=by
  intro X hP hw hK hc i pins s σ H E I hf st hg;subst hP hw hK;obtain⟨f0,f1,f2,f3,f4,f5⟩:=hf it (by simp)
  exact wpAny_pyNext_range_end (I.ok.hd hc) st (by have:n<=i:=hg;omega) λh' eb=>⟨rfl,I.turned (t':=s.toks) (λb o hb e=>eb b o hb e) f0 f1 f3 f4 f5⟩
 self:=λ_ _ _ _ _ st h=>wpAny_pyIter_rangeiter st h
variable {fp:List Addr}
theorem kYn{R:It->Hp->Prop}{lo hi:Int}{t u v:Tok}{tk:Nat}(I:Inv X pins σ H s)(h1: -(2^62)<=lo)(h2:lo<2^62)(h3: -(2^62)<=hi)(h4:hi<2^62)(q:R (Itr lo (hi-lo).toNat) H):wpAny (model X.prog X.w) X.A (pyIter (.ref s.heap.objs.size)) (PIE X pins σ tg R) E {s with heap:=s.heap.push {cls:= .type "range",data:= .fields #[.int lo t,.int hi u,.int 1 v]},toks:=tk}:=by
 refine wpAny_pyIter_range (IsRange.new ..) (small_one h1 h2 h3 h4) ?_;have I1:Inv X pins σ H {s with heap:=s.heap.push {cls:= .type "range",data:= .fields #[.int lo t,.int hi u,.int 1 v]},toks:=tk}:=I.kept λb o e=>lJm _ e
 refine⟨(s.heap.push {cls:= .type "range",data:= .fields #[.int lo t,.int hi u,.int 1 v]}).objs.size,[(s.heap.push {cls:= .type "range",data:= .fields #[.int lo t,.int hi u,.int 1 v]}).objs.size],_,_,H,rfl,
  I1.kept (t':=tk) λb o e=>lJm _ e,kZ2 _ lo (hi-lo).toNat,?_,λb hb=> ?_,q⟩
 .have e1:lo+((0:Nat):Int)*1=lo:=by simp
  have e2:(((hi-lo).toNat:Nat):Int)-((0:Nat):Int)=Builtin.Range.rangeSize lo hi 1:=by rw[rangeSize_one];split<;>omega
  show IsRangeIter _ _ (lo+((0:Nat):Int)*1) ((((hi-lo).toNat:Nat):Int)-((0:Nat):Int)) 1
  rw[e1,e2];exact lJ8 _ rfl
 .have e:b=(s.heap.push {cls:= .type "range",data:= .fields #[.int lo t,.int hi u,.int 1 v]}).objs.size:=by simpa using hb
  subst e;exact I1.fpOk (lJh _) (I1.hok.fresh (lJh _))
noncomputable def jVy(fp:List Addr)(h:Heap):List (Addr×Obj):=fp.filterMap λb=>(h.get? b).map λo=>(b,o)
theorem jVp{o:Obj}(hb:b∈fp)(e:h.get? b=some o):(b,o)∈jVy fp h:=lV5.mpr ⟨b,hb,by rw[e];rfl⟩
theorem qQw{p:Addr×Obj}(hp:p∈jVy fp h):p.1∈fp/\h.get? p.1=some p.2:=by
 obtain⟨b,hb,e⟩:=lV5.mp hp;cases q:h.get? b with
 | none=>rw[q] at e;cases e
 | some o=>
  rw[q] at e;have e':(b,o)=p:=lJ0 e;subst e';exact⟨hb,q⟩
theorem Inv.pinned(I:Inv X pins σ H s)(hf:∀b∈fp,FpOk X pins H b)(ho:∀b∈fp,∃o,s.heap.get? b=some o/\∀v,o.data≠ .cell v):Inv X (pins++jVy fp s.heap) σ H s:=
 I.pins_of λp hp=>(lJx.mp hp).elim (λz=>I.pin p (lKb _ z)) λz=>by
  obtain⟨hb,e⟩:=qQw z;obtain⟨f0,f1,f2,_⟩:=hf p.1 hb;obtain⟨o,e',d⟩:=ho p.1 hb;rw[e] at e';cases e';exact⟨e,f0,f1,f2,d⟩
theorem Inv.unpinned{pl:List (Addr×Obj)}(I:Inv X (pins++pl) σ H s):Inv X pins σ H s:=I.pins_of λp hp=>I.pin p (lKb _ (lKf _ hp))
abbrev R2:=V->V->Hp->VK->Prop
def OpR(X:Cx)(f:Value->Value->Sem Value)(r:R2):Prop:=
 ∀(pins:List (Addr×Obj))(s:Shared)(σ:St)(H:Hp)(x y:V)(v u:Value)(Q:VK),Inv X pins σ H s->RelV x v->RelV y u->r x y H Q->
  wpAny (model X.prog X.w) X.A (f v u) (EP X pins σ Q) X.xe s
def UnR(X:Cx)(f:Value->Sem Value)(r:V->Hp->VK->Prop):Prop:=
 ∀(pins:List (Addr×Obj))(s:Shared)(σ:St)(H:Hp)(x:V)(v:Value)(Q:VK),Inv X pins σ H s->RelV x v->r x H Q->
  wpAny (model X.prog X.w) X.A (f v) (EP X pins σ Q) X.xe s
def kU9(X:Cx)(f:Value)(r:List V->Hp->VK->Prop):Prop:=
 ∀(pins:List (Addr×Obj))(s:Shared)(σ:St)(H:Hp)(xs:List V)(us:List Value)(Q:VK),Inv X pins σ H s->Vals xs us->r xs H Q->
  wpAny (model X.prog X.w) X.A (call f us) (EP X pins σ Q) X.xe s
def TruR(X:Cx)(r:V->Hp->(Bool->Hp->Prop)->Prop):Prop:=
 ∀(pins:List (Addr×Obj))(s:Shared)(σ:St)(H:Hp)(x:V)(v:Value)(Q:Bool->Hp->Prop),Inv X pins σ H s->RelV x v->r x H Q->
  wpAny (model X.prog X.w) X.A (truthy v) (TP X pins σ Q) X.xe s
def rI(C:Int->Int->Prop)(g:Int->Int->V):R2:=λx y H Q=>∃i j,x= .int i/\y= .int j/\C i j/\Q (g i j) H
def rI0(g:Int->Int->V):R2:=λx y H Q=>∃i j,x= .int i/\y= .int j/\Q (g i j) H
def rU(g:Int->V):V->Hp->VK->Prop:=λx H Q=>∃i,x= .int i/\Q (g i) H
variable {c:Expr}{tc:TE}{g:Int->Int->Int}
section
variable {a b:Expr}
theorem opI{f:Value->Value->Sem Value}{C:Int->Int->Prop}(rule:∀(i j:Int)(t u:Tok)(s:Shared)(Q:Value->Shared->Prop)(E:Value->Shared->Prop),C i j->Q (.int (g i j) s.toks) {s with toks:=s.toks+1}->wpAny (model X.prog X.w) X.A (f (.int i t) (.int j u)) Q E s):
  OpR X f (rI C λi j=> .int (g i j)):=by
 intro pins s σ H x y v u Q I rx ry h;obtain⟨i,j,rfl,rfl,hc,q⟩:=h;obtain⟨t,rfl⟩:=rx;obtain⟨t',rfl⟩:=ry;exact rule i j t t' s _ _ hc ⟨.int (g i j),H,I.tok _,⟨_,rfl⟩,q⟩
theorem opI0{f:Value->Value->Sem Value}(rule:∀(i j:Int)(t u:Tok)(s:Shared)(Q:Value->Shared->Prop)(E:Value->Shared->Prop),Q (.int (g i j) s.toks) {s with toks:=s.toks+1}->wpAny (model X.prog X.w) X.A (f (.int i t) (.int j u)) Q E s):
  OpR X f (rI0 λi j=> .int (g i j)):=by
 intro pins s σ H x y v u Q I rx ry h;obtain⟨i,j,rfl,rfl,q⟩:=h;obtain⟨t,rfl⟩:=rx;obtain⟨t',rfl⟩:=ry;exact rule i j t t' s _ _ ⟨.int (g i j),H,I.tok _,⟨_,rfl⟩,q⟩
theorem opB0{f:Value->Value->Sem Value}{g:Int->Int->Bool}(rule:∀(i j:Int)(t u:Tok)(s:Shared)(Q:Value->Shared->Prop)(E:Value->Shared->Prop),Q (.bool (g i j)) s->wpAny (model X.prog X.w) X.A (f (.int i t) (.int j u)) Q E s):
  OpR X f (rI0 λi j=> .bl (g i j)):=by
 intro pins s σ H x y v u Q I rx ry h;obtain⟨i,j,rfl,rfl,q⟩:=h;obtain⟨t,rfl⟩:=rx;obtain⟨t',rfl⟩:=ry;exact rule i j t t' s _ _ ⟨.bl (g i j),H,I,rfl,q⟩
def CDiv(i j:Int):Prop:=0<j/\j<1073741824
def CPow(i j:Int):Prop:=0<=j/\j<=1000000/\i.natAbs<2^64
def CMul(i j:Int):Prop:=(-(2^64)<i/\i<2^64)\/(-(2^64)<j/\j<2^64)
theorem CMul.ok{i j:Int}(h:CMul i j):IntMulOk i j:=by
 rcases h with ⟨h1,h2⟩ | ⟨h1,h2⟩
 .exact .of_left (intBits_le_64 h1 h2)
 .exact .of_right (intBits_le_64 h1 h2)
theorem uUt:OpR X (binaryOp .Add) (rI0 λi j=> .int (i+j)):=opI0 λ_ _ _ _ _ _ _ q=>add_int q
theorem uUm:OpR X (binaryOp .Sub) (rI0 λi j=> .int (i-j)):=opI0 λ_ _ _ _ _ _ _ q=>sub_int q
theorem uUp:OpR X (binaryOp .Mult) (rI CMul λi j=> .int (i*j)):=opI λ_ _ _ _ _ _ _ hc q=>mul_int q hc.ok
theorem uJ2:OpR X (binaryOp .FloorDiv) (rI CDiv λi j=> .int (i / j)):=opI λi j _ _ _ _ _ hc q=>by
 have h1:(0:Int)<j:=hc.1;have h2:j<1073741824:=hc.2;exact floordiv_int (by omega) (by rw[mJy i (by omega)];exact q) (.inl (lZs (by omega)))
theorem uUq:OpR X (binaryOp .Mod) (rI (λ_ j=>0<j) λi j=> .int (i%j)):=opI λi j _ _ _ _ _ hc q=>by
 have h1:(0:Int)<j:=hc;exact mod_int' (by omega) (by rw[mJz i (by omega)];exact q)
theorem uUo:OpR X (binaryOp .Pow) (rI CPow λi j=> .int (i^j.toNat)):=opI λ_ _ _ _ _ _ _ hc q=>pow_int_small hc.1 hc.2.1 hc.2.2 q
theorem unI{f:Value->Sem Value}{g:Int->Int}(rule:∀(i:Int)(t:Tok)(s:Shared)(Q:Value->Shared->Prop)(E:Value->Shared->Prop),Q (.int (g i) s.toks) {s with toks:=s.toks+1}->wpAny (model X.prog X.w) X.A (f (.int i t)) Q E s):
  UnR X f (rU λi=> .int (g i)):=by
 intro pins s σ H x v Q I rx h;obtain⟨i,rfl,q⟩:=h;obtain⟨t,rfl⟩:=rx;exact rule i t s _ _ ⟨.int (g i),H,I.tok _,⟨_,rfl⟩,q⟩
theorem uQt:UnR X (unaryOp .USub) (rU λi=> .int (-i)):=unI λ_ _ _ _ _ q=>neg_int q
end
section
variable {a b:Expr}
theorem qZ3{Q:VK}{k k':Bool}(I:Inv X pins σ H s)(q:Q (.bl k) H)(e:k=k'):EP X pins σ Q (.bool k') s:=by
 subst e;exact⟨.bl k,H,I,rfl,q⟩
theorem uXe:OpR X (compareOp .Lt) (rI0 λi j=> .bl (decide (i<j))):=opB0 λ_ _ _ _ _ _ _ q=>lt_int q
theorem uXf:OpR X (compareOp .LtE) (rI0 λi j=> .bl (decide (i<=j))):=opB0 λ_ _ _ _ _ _ _ q=>le_int q
theorem uXg:OpR X (compareOp .Gt) (rI0 λi j=> .bl (decide (j<i))):=opB0 λ_ _ _ _ _ _ _ q=>gt_int q
theorem uXh:OpR X (compareOp .GtE) (rI0 λi j=> .bl (decide (j<=i))):=opB0 λ_ _ _ _ _ _ _ q=>ge_int q
theorem uUr:OpR X (compareOp .Is) (λx y H Q=>y= .non/\Q (.bl (decide (x= .non))) H):=by
 intro pins s σ H x y v u Q I rx ry h;obtain⟨rfl,q⟩:=h;cases ry;refine is_none_gen (qZ3 I q ?_)
 cases x<;>first
  | (cases rx;rfl)
  | (obtain⟨t,rfl⟩:=rx;rfl)
theorem uJ1:OpR X (compareOp .IsNot) (λx y H Q=>y= .non/\Q (.bl (!decide (x= .non))) H):=by
 intro pins s σ H x y v u Q I rx ry h;obtain⟨rfl,q⟩:=h;cases ry;refine isnot_none_gen (qZ3 I q ?_)
 cases x<;>first
  | (cases rx;rfl)
  | (obtain⟨t,rfl⟩:=rx;rfl)
theorem uU2(b:Expr){op:CmpOp}(h:op≠ .In:=by decide)(h2:op≠ .NotIn:=by decide):behindInMarks op b=false:=by
 have e1:(op == CmpOp.In)=false:=by cases op<;>first | rfl | exact absurd rfl h
 have e2:(op == CmpOp.NotIn)=false:=by cases op<;>first | rfl | exact absurd rfl h2
 cases b<;>simp[behindInMarks,e1,e2]
def TruV(K:PySem.W.Frag)(x:V)(H:Hp)(k:Bool):Prop:=
 match x with
 | .non=>k=false
 | .bl b=>k=b
 | .int i=>k=(i != 0)
 | .str y=>y.length<=sizeLine/\k=((y.length:Int) != 0)
 | .byt y=>y.size<=sizeLine/\k=((y.size:Int) != 0)
 | .ref p=>(∃xs,SqL K H p xs/\k= !xs.isEmpty)\/(∃xs,SqT K H p xs/\k= !xs.isEmpty)\/∃kvs,H p=some (.dK kvs)/\k= !kvs.isEmpty
 | _=>False
theorem qJs{κ:Type}{kvs:List (κ×V)}{vs:List (κ×Value)}(r:KV kvs vs):(!vs.isEmpty)= !kvs.isEmpty:=by
 cases r<;>rfl
theorem kKf{xs:List V}{its:List Value}(r:Vals xs its):(!its.toArray.isEmpty)= !xs.isEmpty:=by
 cases r<;>simp
theorem kKb:(sizeLine:Nat)<2^63:=by rw[lKe];decide
theorem uQv:TruR X (λx H Q=>∃k,TruV X.K x H k/\Q k H):=by
 intro pins s σ H x v Q I rx h;obtain⟨k,e,q⟩:=h;have hl:=kKb;have hs:sizeLine=16777216:=lKe;cases x with
 | non=>
  cases rx;have e':k=false:=e;subst e';exact truthy_none ⟨H,I,q⟩
 | bl b=>
  cases rx;have e':k=b:=e;subst e';exact lVq ⟨H,I,q⟩
 | int i=>
  obtain⟨t,rfl⟩:=rx;have e':k=(i != 0):=e;subst e';exact PySem.P.truthy_int ⟨H,I,q⟩
 | str y=>
  obtain⟨t,rfl⟩:=rx;obtain⟨hy,e'⟩:y.length<=sizeLine/\k=((y.length:Int) != 0):=e;subst e';exact PySem.P.truthy_str (by omega) ⟨H,I.tok _,q⟩
 | byt y=>
  obtain⟨t,rfl⟩:=rx;obtain⟨hy,e'⟩:y.size<=sizeLine/\k=((y.size:Int) != 0):=e;subst e';exact PySem.W.truthy_bytes (by omega) ⟨H,I.tok _,q⟩
 | ref p=>
  cases rx;have e':(∃xs,SqL X.K H p xs/\k= !xs.isEmpty)\/(∃xs,SqT X.K H p xs/\k= !xs.isEmpty)\/∃kvs,H p=some (.dK kvs)/\k= !kvs.isEmpty:=e
  rcases e' with ⟨xs,hx,e'⟩ | ⟨xs,hx,e'⟩ | ⟨kvs,hx,e'⟩
  .subst e';obtain⟨its,r,pl,hz⟩:=I.list hx;have hlen:=r.length;exact wpAny_truthy_list pl.isList (by simp only[lJr];omega) ⟨H,I.tok _,by rw[kKf r];exact q⟩
  .subst e';obtain⟨its,r,pl,hz⟩:=I.tuple hx;have hlen:=r.length;exact truthy_tuple pl (by simp only[lJr];omega) ⟨H,I.tok _,by rw[kKf r];exact q⟩
  .subst e';obtain⟨hz,hS,vs,r,m⟩:kvs.length<=sizeLine/\(p == sysModules)=false/\∃vs,KV kvs vs/\s.heap.DictOf (jJ2 X.prog X.w) p vs:=I.hok p _ hx
   have hlen:kvs.length=vs.length:=lXl r;exact wpAny_truthy_dict hS m (by omega) ⟨H,I.tok _,by rw[qJs r];exact q⟩
 | _=>exact (show False from e).elim
theorem kZ0{x:V}(r:Vals [x] us):∃u,us=[u]/\RelV x u:=by
 cases r with
 | cons r1 r2=>cases r2;exact⟨_,rfl,r1⟩
theorem uQr{x y:V}(r:Vals [x,y] us):∃u w',us=[u,w']/\RelV x u/\RelV y w':=by
 cases r with
 | cons r1 r2=>
  cases r2 with
  | cons r3 r4=>cases r4;exact⟨_,_,rfl,r1,r3⟩
theorem qY6:kU9 X (.builtin "abs") (λxs H Q=>∃i,xs=[.int i]/\Q (.int (if i<0 then -i else i)) H):=by
 intro pins s σ H xs us Q I r h;obtain⟨i,rfl,q⟩:=h;obtain⟨u,rfl,t,rfl⟩:=kZ0 r;exact call_abs_int λu tk=>⟨.int (if i<0 then -i else i),H,I.tok _,⟨_,rfl⟩,q⟩
theorem qVf(hc:X.calm=true):kU9 X (.builtin "max") (λxs H Q=>∃i j,xs=[.int i,.int j]/\Q (.int (if j>i then j else i)) H):=by
 intro pins s σ H xs us Q I r h;obtain⟨i,j,rfl,q⟩:=h;obtain⟨u,w',rfl,⟨t,rfl⟩,⟨t',rfl⟩⟩:=uQr r;refine max_two_ints (I.ok.hd hc) λh' tk k=>⟨_,H,I.kept k,?_,q⟩
 by_cases hj:j>i
 .rw[lJc hj,lJc hj];exact⟨_,rfl⟩
 .rw[lJb hj,lJb hj];exact⟨_,rfl⟩
theorem qVg:kU9 X (.type "int") (λxs H Q=>(∃i,xs=[.int i]/\Q (.int i) H)\/∃k,xs=[.bl k]/\Q (.int (if k then 1 else 0)) H):=by
 intro pins s σ H xs us Q I r h
 rcases h with ⟨i,rfl,q⟩ | ⟨k,rfl,q⟩
 .obtain⟨u,rfl,t,rfl⟩:=kZ0 r;exact call_int_int ⟨.int i,H,I,⟨_,rfl⟩,q⟩
 .obtain⟨u,rfl,r1⟩:=kZ0 r;cases r1;exact call_int_bool ⟨.int (if k then 1 else 0),H,I.tok _,⟨_,rfl⟩,q⟩
theorem kXt:kU9 X (.builtin "divmod") (λxs H Q=>∃i j,xs=[.int i,.int j]/\CDiv i j/\∀p,H p=none->Q (.ref p) (upd H p (.tup [.int (i / j),.int (i%j)]))):=by
 intro pins s σ H xs us Q I r h;obtain⟨i,j,rfl,⟨h1,h2⟩,q⟩:=h;obtain⟨u,w',rfl,⟨t,rfl⟩,⟨t',rfl⟩⟩:=uQr r;refine divmod_int (by omega) ?_ (.inl (lZs (by omega)))
 rw[mJy i (by omega),mJz i (by omega)]
 have hn:H s.heap.objs.size=none:=I.hok.fresh (lJh _);refine⟨.ref s.heap.objs.size,_,?_,rfl,q _ hn⟩;refine I.laid (λb o e=>lJm _ e) (lJh _) ⟨by simp only[lKk,lQl];rw[lKe];decide,[.int (i / j) s.toks,.int (i%j) (s.toks+1)],.cons ⟨_,rfl⟩ (.cons ⟨_,rfl⟩ .nil),?_⟩
 exact⟨_,lJ8 s.heap rfl,rfl,0,rfl,rfl⟩
end
variable {dx C f:Addr}{name:Str}
section
variable {x:Addr}{mA:Str->Option Value}{v:Value}
end
theorem RelO.some_of{v:V}{o:Option Value}(r:RelO (some v) o):∃u,o=some u/\RelV v u:=by
 cases o with
 | none=>exact (show False from r).elim
 | some u=>exact⟨u,rfl,r⟩
section
variable {fs fs':List (Str×V)}
end
section
variable {fs:List (Str×V)}{f:Str}{v:V}
end
section
variable {o value:Expr}{f:Str}{pos' tpos:Pos}{tv:TE}
end
section
variable {Q:Value->Shared->Prop}{c:Value}{b:Bool}
end
structure Room (k:Nat) (A:Around):Prop where
 hd:A.handled=none
 gd:A.guards=some []
 dp:A.depth+3*k+5<recursionLimit
 un:A.units+16*k+200<cLine
theorem Room.mono{k:Nat}(r:Room k A)(h:j<=k):Room j A:=⟨r.hd,r.gd,by have:=r.dp;omega,by have:=r.un;omega⟩
theorem Room.deeper{k:Nat}(r:Room (k+1) A)(env:Env):Room k (A.deeper env):=
 ⟨r.hd,r.gd,by have:=r.dp;show A.depth+1+3*k+5<_;omega,by have:=r.un;show A.units+3+16*k+200<_;omega⟩
theorem Room.depth{k:Nat}(r:Room k A):A.depth<recursionLimit:=by have:=r.dp;omega
theorem Room.units{k:Nat}(r:Room k A):A.units+64<cLine:=by have:=r.un;omega
variable {es:List Expr}
section
variable {t:TA}
end
abbrev Sp:=List V->Hp->VK->XK->Prop
abbrev CXT:=List Env->Hp->Shared->XK->Value->Shared->Prop
structure Env0 (P:Program) (w:World) (K:PySem.W.Frag) (mg:Str->Option Value) (base:Heap) (A:Around) (outer:List Env) (s:Shared) (H:Hp):Prop where
 frames:A.frames=some outer
 mod:Mod K mg base
 bs:∀b o,base.get? b=some o->s.heap.get? b=some o/\H b=none
 bsz:base.objs.size<=s.heap.objs.size
 funs:s.heap.FunFrames base outer
 frf:∀b∈frs outer,H b=none
 hok:HOk P w H s.heap
 bare:AllBare s.gens
def CE(outer:List Env)(P:Program)(w:World)(H:Hp)(s:Shared)(Q:VK)(u:Value)(s':Shared):Prop:=
 ∃v H',s'.os=s.os/\AllBare s'.gens/\Un (frs outer) [] H H' s.heap s'.heap/\HOk P w H' s'.heap/\RelV v u/\Q v H'
def CR(CX:CXT)(outer:List Env)(P:Program)(w:World)(H:Hp)(s:Shared)(Q:VK)(E:XK)(r:Result)(s':Shared):Prop:=
 match r with
 | .ok (.ret u)=>CE outer P w H s Q u s'
 | .ok _=>False
 | .error e=>CX outer H s E e s'
structure FnOk (P:Program) (w:World) (K:PySem.W.Frag) (mg:Str->Option Value) (base:Heap) (CX:CXT) (k:Nat) (f:Addr) (fd:FuncData) (ps:List Str) (sp:Sp):Prop where
 len:∀vs H Q E,sp vs H Q E->vs.length=ps.length
 run:∀(A:Around)(outer:List Env)(s:Shared)(H:Hp)(args:Args)(us:List Value)(vs:List V)(Q:VK)(E:XK),Room k A->Env0 P w K mg base A outer s H->BindsTo s fd args (ps.zip us)->Vals vs us->sp vs H Q E->
  codeAny (model P w) A (.call (.ref f) args) (CR CX outer P w H s Q E) s
theorem Inv.env0(I:Inv X pins σ H s):Env0 X.prog X.w X.K X.mg X.base X.A X.stack s H:=
 ⟨I.ok.frames,I.ok.mod,I.bs,lKx I.ok.bsz I.sz,I.stack,I.stkFree,I.hok,I.bare⟩
theorem Inv.after{Q:VK}(I:Inv X pins σ H s)(h:CE X.stack X.prog X.w H s Q u s'):EP X pins σ Q u s':=by
 obtain⟨v,H',os,bare,un,hok,r,q⟩:=h;obtain⟨hh,g,d,t,os'⟩:=s';obtain rfl:os'=s.os:=os;exact⟨v,H',I.call (h':=hh) (g':=g) (d':=d) (t':=t) (ch:=[]) un hok bare (λb z=>absurd z (by simp)),r,q⟩
def Binds(K:PySem.W.Frag)(fd:FuncData)(ps:List Str)(ds:List Value):Prop:=
 ∀(s:Shared)(us:List Value),K.In s.heap->(us++ds).length=ps.length->BindsTo s fd ⟨us,[]⟩ (ps.zip (us++ds))
variable {fd:FuncData}{ps:List Str}
theorem Binds.all(h:∀us:List Value,us.length=ps.length->bindArgs fd ⟨us,[]⟩=pure (ps.zip us)):Binds K fd ps []:=λs us _ hl=>by
 rw[lVe] at hl ⊢;exact .of_eq (h us hl)
def uJa(CX:CXT)(X:Cx)(E:XK):Prop:=∀(pins:List (Addr×Obj))(σ:St)(H:Hp)(s:Shared)(e:Value)(s':Shared),Inv X pins σ H s->CX X.stack H s E e s'->X.xe e s'
variable {CX:CXT}{sp:Sp}{m:Str}{p apos:Pos}
section
variable {k:Nat}{dvs:List V}{ds:List Value}{E:XK}{o:Expr}{t:TA}
theorem uUa{Q:VK}{vs:List V}(F:FnOk X.prog X.w X.K X.mg X.base CX k f fd ps sp)(hr:Room k X.A)(hb:Binds X.K fd ps ds)(hd:Vals dvs ds)(hx:uJa CX X E)(I:Inv X pins σ H s)(r:Vals vs us)(h:sp (vs++dvs) H Q E):wpAny (model X.prog X.w) X.A (call (.ref f) us) (EP X pins σ Q) X.xe s:=by
 have r2:Vals (vs++dvs) (us++ds):=r.append hd;have hl:(us++ds).length=ps.length:=by rw[<-r2.length];exact F.len _ _ _ _ h
 refine wpAny_call (lYr (F.run X.A X.stack s H ⟨us,[]⟩ (us++ds) (vs++dvs) Q E hr I.env0 (hb s us I.kIn hl) r2 h) λr s' hq=> ?_)
 cases r with
 | error e=>exact hx pins σ H s e s' I hq
 | ok fl=>
  cases fl with
  | ret u=>exact I.after hq
  | next=>exact False.elim hq
  | brk=>exact False.elim hq
  | cont=>exact False.elim hq
end
section
variable {k:Nat}{ks:List Str}{E:XK}{kpos:Pos}{o:Expr}{kws:List Keyword}{t tk:TA}{nm:Option Str}
variable {g:List Value->List Value->List Value}{gV:List V->List V->List V}
end
structure FnScope (N P:List Str) (sc:Scope):Prop where
 kind:sc.kind= .function
 co:sc.isCoroutine=false
 gen:sc.isGenerator=false
 nd:N.Nodup
 pre:N.take P.length=P
 par:∀x∈P,sc.names.lookup x=some .local\/sc.names.lookup x=some .cell
 nofree:∀y∈sc.names,y.2≠ .free
theorem kU1{kindOf:Str->Option NameKind}{x:Str}:∀{binds:List (Str×Value)}{m:Str->Option Value},(∀v,(x,v)∉binds)->bindL kindOf binds m x=m x
 | [],_,_=>rfl
 | (n,v)::r,m,h=>by
  unfold bindL;rw[kU1 λw hw=>h w (lKd _ hw)]
  split
  .have:x≠n:=by rintro rfl;exact h v lJ6
   simp[this]
  .rfl
theorem kU3{kindOf:Str->Option NameKind}{x:Str}:∀{binds:List (Str×Value)}{m:Str->Option Value},(∀v,(x,v)∉binds)->bindC kindOf binds m x=m x
 | [],_,_=>rfl
 | (n,v)::r,m,h=>by
  unfold bindC;rw[kU3 λw hw=>h w (lKd _ hw)]
  split
  .rfl
  .have:x≠n:=by rintro rfl;exact h v lJ6
   simp[this]
theorem kU2{kindOf:Str->Option NameKind}{x:Str}{v:Value}:∀{P:List Str}{vs:List Value}{i:Nat}{m:Str->Option Value},P.Nodup->P[i]? =some x->vs[i]? =some v->kindOf x=some .local->
  bindL kindOf (P.zip vs) m x=some v
 | [],_,_,_,_,h,_,_=>by simp at h
 | _::_,[],_,_,_,_,h,_=>by simp at h
 | p::P,w::vs,0,m,nd,h1,h2,hk=>by
  simp at h1 h2;subst h1;subst h2;show bindL kindOf ((p,w)::P.zip vs) m p=_
  unfold bindL;rw[kU1 λv hv=>(lKz.mp nd).1 (lZt hv).1,lJc hk]
  simp
 | p::P,w::vs,i+1,m,nd,h1,h2,hk=>by
  show bindL kindOf ((p,w)::P.zip vs) m x=_
  unfold bindL;exact kU2 (i:=i) (lKz.mp nd).2 (by simpa using h1) (by simpa using h2) hk
theorem kU4{kindOf:Str->Option NameKind}{x:Str}{v:Value}:∀{P:List Str}{vs:List Value}{i:Nat}{m:Str->Option Value},P.Nodup->P[i]? =some x->vs[i]? =some v->kindOf x≠some .local->
  bindC kindOf (P.zip vs) m x=some v
 | [],_,_,_,_,h,_,_=>by simp at h
 | _::_,[],_,_,_,_,h,_=>by simp at h
 | p::P,w::vs,0,m,nd,h1,h2,hk=>by
  simp at h1 h2;subst h1;subst h2;show bindC kindOf ((p,w)::P.zip vs) m p=_
  unfold bindC;rw[kU3 λv hv=>(lKz.mp nd).1 (lZt hv).1,lJb hk]
  simp
 | p::P,w::vs,i+1,m,nd,h1,h2,hk=>by
  show bindC kindOf ((p,w)::P.zip vs) m x=_
  unfold bindC;exact kU4 (i:=i) (lKz.mp nd).2 (by simpa using h1) (by simpa using h2) hk
noncomputable def start(N:List Str)(vs:List V):St:=vs.map some++List.replicate (N.length-vs.length) none
noncomputable def cxOf(CX:CXT)(P:Program)(w:World)(K:PySem.W.Frag)(mg:Str->Option Value)(base:Heap)(N:List Str)(qual:Str)(scope:Scope)(f:Addr)(cd:Value)(A:Around)(outer:List Env)(s:Shared)(H:Hp)(E:XK):Cx where
 prog:=P
 w:=w
 K:=K
 mg:=mg
 base:=base
 A:=A.deeper (envOfC qual scope s.heap.objs.size f cd)
 N:=N
 s₀:=s
 H₀:=H
 env:=envOfC qual scope s.heap.objs.size f cd
 outer:=outer
 stack:=envOfC qual scope s.heap.objs.size f cd::outer
 ex:=[]
 calm:=true
 fn:=λ_=>true
 pn:=[]
 xe:=λe s'=>wpAny (model P w) (A.deeper (envOfC qual scope s.heap.objs.size f cd)) (leaving (envOfC qual scope s.heap.objs.size f cd) e) (λ_ s''=>CX outer H s E e s'') (λe' s''=>CX outer H s E e' s'') s'
theorem kZq{sc:Scope}{n:Nat}(h:sc.names.lookup x=some .cell):∃c,(cellsFrom n sc.names []).lookup x=some c:=by
 have q:=PySem.W.cellsFrom_some sc.names n [] (.inl h);exact lXn.mp q
variable {mg:Str->Option Value}{base:Heap}{qual:Str}{scope:Scope}
theorem qUb{cd:Value}{outer:List Env}{s1:Shared}{E:XK}{vs:List V}(S:FnScope N ps scope)(hd:A.handled=none/\A.guards=some [])(e0:Env0 P w K mg base A outer s H)(hl:vs.length=ps.length)(r:Vals vs us)(x:InCallC s s.heap.objs.size (bindL (envOfC qual scope s.heap.objs.size f cd).kindOf (ps.zip us) λ_=>none) (cellsFrom (s.heap.objs.size+1) scope.names []) (bindC (envOfC qual scope s.heap.objs.size f cd).kindOf (ps.zip us) λ_=>none) s1):
  Inv (cxOf CX P w K mg base N qual scope f cd A outer s H E) [] (start N vs) H s1:=by
 have hpl:ps.length<=N.length:=by have:=lKl List.length S.pre;rw[lQc] at this;omega
 obtain⟨h1,tk,rfl,hk⟩:=x.done;have noA:∀b:Addr,b∉(cxOf CX P w K mg base N qual scope f cd A outer s H E).ex:=λb z=>absurd (show b∈([]:List Addr) from z) (by simp)
 refine⟨⟨e0.mod,S.kind,rfl,rfl,lJh _,λy z c h1 h2=> ?_,λy hy=> ?_,λy c _ h=> ?_,λ_=>hd.1,λ_=>hd.2,Around.frames_deeper e0.frames,.inr ⟨rfl,rfl⟩,λb z=>absurd z (noA b),e0.bs,e0.bsz,λb _ _=>noA b,λb z=>absurd z (noA b),e0.funs,e0.frf⟩,
  rfl,e0.bare,Un.kept hk,⟨_,x.toInCall.ns,λi y v h1 h2 h3=> ?_⟩,λy c h=>⟨_,x.cell y c h⟩,e0.hok.fresh (lJh _),λy c h=> ?_,λp hp=>absurd (show p∈([]:List (Addr×Obj)) from hp) (by simp),e0.hok.kept hk,?_⟩
 .exact name_of_addr x.apart (lXo h1) (lXo h2)
 .have hy:scope.names.lookup y=some .cell\/scope.names.lookup y=some .free:=hy
  rcases hy with hy | hy
  .exact kZq hy
  .exact absurd rfl (S.nofree _ (lXo hy))
 .exact lV4 (x.above y c (lXo h))
 .have hi:i<vs.length:=by
   unfold start at h2
   by_cases hi:i<vs.length
   .exact hi
   .rw[lK2 (by simpa using hi)] at h2
    rw[lYt] at h2;split at h2<;>cases h2
  have ha:vs[i]? =some v:=by
   unfold start at h2;rw[lKq (by simpa using hi),lJ4] at h2
   cases e:vs[i]? with
   | none=>rw[e] at h2;cases h2
   | some a=>rw[e] at h2;cases h2;rfl
  obtain⟨u,hu,rv⟩:=r.get ha
  have hp:ps[i]? =some y:=by
   rw[<-S.pre,List.getElem?_take_of_lt (by omega)];exact h1
  have ndP:ps.Nodup:=by rw[<-S.pre];exact S.nd.sublist (lVg _ _)
  refine⟨u,rv,?_⟩
  rcases S.par y (lJo hp) with k | k
  .exact .inl ⟨k,kU2 ndP hp hu k⟩
  .obtain⟨c,e⟩:=kZq (n:=s.heap.objs.size+1) k;refine .inr ⟨.inl k,c,e,?_⟩;have q:=x.cell y c e;rw[kU4 ndP hp hu (by show scope.names.lookup y≠_;rw[k];decide)] at q
   exact q
 .exact e0.hok.fresh (lV4 (x.above y c (lXo h)))
 .unfold start;show _=N.length
  rw[lJ7,lJe,List.length_replicate];omega
theorem uXw{k:Nat}{params:Arguments}{body:List Stmt}{dV kV doc pm cdv ct oc:Value}{an od:Option Addr}{osl:Array (Option Value)}(lk:K.lookup f=some ⟨oc,od,.func (PySem.W.fnOf name qual params body scope dV kV doc pm an cdv ct),osl⟩)(hcd:PySem.W.codeIn K cdv qual=true)(S:FnScope N ps scope)(len:∀vs H Q E,sp vs H Q E->vs.length=ps.length)(hbody:∀(A:Around)(outer:List Env)(s:Shared)(H:Hp)(vs:List V)(Q:VK)(E:XK),Room k (A.deeper (envOfC qual scope s.heap.objs.size f cdv))->sp vs H Q E->
   ∃t,PSs (cxOf CX P w K mg base N qual scope f cdv A outer s H E) body t/\t {nx:=λ_ H'=>Q .non H',rt:=Q} (start N vs) H):
  FnOk P w K mg base CX (k+1) f (PySem.W.fnOf name qual params body scope dV kV doc pm an cdv ct) ps sp:=by
 refine⟨len,λA outer s H args us vs Q E hr e0 hb r hsp=> ?_⟩
 have hl:=len _ _ _ _ hsp;have KX:K.In s.heap:=e0.mod.kin.keeps λb o e=>(e0.bs b o e).1
 have lim:s.heap.NoLimit:=e0.mod.nolimit.keeps λb o e=>(e0.bs b o e).1
 have hkind:∀y∈ps.zip us,scope.names.lookup y.1=some .local\/(scope.names.lookup y.1=some .cell/\((cellsFrom (s.heap.objs.size+1) scope.names []).lookup y.1).isSome=true):=λ⟨n,v⟩ hy=>by
  rcases S.par n (lZt hy).1 with q | q
  .exact .inl q
  .exact .inr ⟨q,PySem.W.cellsFrom_some _ _ _ (.inl q)⟩
 refine codeAny_call_function hr.depth (KX _ _ lk) rfl S.co S.gen rfl (PySem.W.codeRec_of KX hcd) (hb _ _ _ _ ?_);refine wpAny_newFunctionEnv_cells S.kind hkind λenv he s1 x=> ?_
 subst he;refine⟨lim.keeps x.toInCall.keep,codeAny_func ?_⟩;obtain⟨t,ht,hq⟩:=hbody A outer s H vs Q E (hr.deeper _) hsp;have I:Inv (cxOf CX P w K mg base N qual scope f cdv A outer s H E) [] (start N vs) H s1:=qUb S ⟨hr.hd,hr.gd⟩ e0 hl r x;refine lQp (ht [] s1 (start N vs) H _ I hq) (λfl s' hs=> ?_) λe s' hs=>hs
 have fin:∀{σ':St}{H':Hp}{v:V}{u:Value},Inv (cxOf CX P w K mg base N qual scope f cdv A outer s H E) [] σ' H' s'->RelV v u->Q v H'->CE outer P w H s Q u s':=
  λ{σ' H' v u} J rv q=>⟨v,H',J.os,J.bare,J.base,J.hok,rv,q⟩
 cases fl with
 | ret u=>
  obtain⟨v,σ',H',J,rv,q⟩:=hs;exact fin J rv q
 | next=>
  obtain⟨σ',H',J,q⟩:=hs;exact fin (v:=V.non) (u:=Value.none) J rfl q
 | brk=>
  obtain⟨_,_,_,q⟩:=hs;exact False.elim q
 | cont=>
  obtain⟨_,_,_,q⟩:=hs;exact False.elim q
section
variable {t:TA}{id T:String}{r:List V->Hp->VK->Prop}
end
end L2
namespace HT
open PySem PyProof.Rows
theorem qYz(A:Around)(s:Shared)(a:Int)(t:Tok)(c:Int)(u:Tok):∃e,SeqAt.EqAt A s (.int a t) (.int c u) e/\(e=true↔a=c):=
 ⟨(a == c),SeqAt.EqAt.int_int a t c u,by simp⟩
section
open PySem.SeqAt
open PySem.AutoSeq1 (wpAny_loadPart')
open PySem.MeetsSeq PySem.MeetsSeq2 PySem.MeetsSeq3
end
variable {Q:Value->Shared->Prop}{sl:Addr}{vl vu:Value}{lo hi:Option Int}
section
variable {prog:Program}{w:World}{A:Around}{E:Value->Shared->Prop}{s:Shared}
theorem cat_tup{t b:Addr}{vs ws:List Value}(ht:IsTup s.heap t vs.toArray)(hb:IsTup s.heap b ws.toArray)(hv:vs≠[])(h1:ws=[]->Q (.ref t) s)(h2:ws≠[]->Q (.ref s.heap.objs.size) {s with heap:=s.heap.push {cls:= .type "tuple",data:= .seq (vs++ws).toArray} })(hsz:vs.length+ws.length<=sizeLine):wpAny (model prog w) A (binaryOp .Add (.ref t) (.ref b)) Q E s:=by
 obtain⟨⟨cls,dd,data,sl⟩,ho,hc,n,hd⟩:=id ht;obtain⟨⟨cls2,dd2,data2,sl2⟩,ho2,hc2,n2,hd2⟩:=id hb;simp only at hc hd hc2 hd2;subst hc hd hc2 hd2;have e:vs.toArray++ws.toArray=(vs++ws).toArray:=by simp
 by_cases hw:ws=[]
 .exact concat_meets ⟨_,ho,rfl⟩ ⟨_,ho2,rfl⟩ mJp seq_tuple_add lZu lZv (lZw _ _)
   (tuple_addW1 t b vs.toArray ws.toArray n n2 dd dd2 sl sl2 (by simpa using hv) (by simp[hw])) ⟨ho,ho2,h1 hw⟩
 .refine concat_meets ⟨_,ho,rfl⟩ ⟨_,ho2,rfl⟩ mJp seq_tuple_add lZu lZv (lZw _ _)
   (tuple_addW2 t b vs.toArray ws.toArray n n2 dd dd2 sl sl2 (by simpa using hv) (by simpa using hw) (by rw[lJr,lJr];exact hsz)) ⟨ho,ho2,?_⟩
  rw[e];exact h2 hw
noncomputable def sIx(n d:Nat):Option Int->Nat
 | none=>d
 | some v=>if v<0 then (v+(n:Int)).toNat else min v.toNat n
theorem uQ9(n d:Nat)(hd:d<=n)(o:Option Int):sIx n d o<=n:=by
 cases o with
 | none=>exact hd
 | some v=>
  show (if v<0 then (v+(n:Int)).toNat else min v.toNat n)<=n
  by_cases hv:v<0
  .rw[lJc hv];omega
  .rw[lJb hv];exact Nat.min_le_right _ _
theorem qVe(v:Int)(n d:Nat):(if v<0 then max (v+(n:Int)) 0 else min v (n:Int))=((sIx n d (some v):Nat):Int):=by
 show (if v<0 then max (v+(n:Int)) 0 else min v (n:Int))=(((if v<0 then (v+(n:Int)).toNat else min v.toNat n):Nat):Int)
 by_cases hv:v<0
 .simp only[lJc hv];omega
 .simp only[lJb hv];omega
theorem qJ2(lo hi:Option Int)(n:Nat):Builtin.Slice.sliceAdjust lo hi 1 (n:Int)=(((sIx n 0 lo:Nat):Int),((sIx n n hi:Nat):Int)):=by
 have h1:¬ ((1:Int)<0):=by omega
 unfold Builtin.Slice.sliceAdjust;simp only[h1,lKa];refine Prod.ext ?_ ?_
 .cases lo with
  | none=>rfl
  | some v=>exact qVe v n 0
 .cases hi with
  | none=>rfl
  | some v=>exact qVe v n n
theorem qJf(i j:Nat):Builtin.Slice.slicePlaces (i:Int) (j:Int) 1=j-i:=by
 unfold Builtin.Slice.slicePlaces;have h1:(1:Int)>0:=by omega
 simp only[h1,lKt,Int.ediv_one];split<;>omega
theorem kJ3{v:Value}{o:Option Int}{Q:Option Int->Shared->Prop}(p:IsPart v o)(h:Q o s):wpAny (model prog w) A (Builtin.Slice.slicePartIndex v) Q E s:=by
 cases p with
 | none=>exact slicePart_none h
 | int i t=>exact slicePart_int h
theorem jU0{n:Nat}{Q:Int×Int×Nat->Shared->Prop}(hs:s.heap.IsSliceOf sl vl vu .none)(pl:IsPart vl lo)(pu:IsPart vu hi)(h:Q (((sIx n 0 lo:Nat):Int),1,sIx n n hi-sIx n 0 lo) s):wpAny (model prog w) A (Builtin.Slice.sliceApplied (.ref sl) (pure (n:Int))) Q E s:=by
 obtain⟨os,hos,hcs,hds⟩:=id hs;unfold Builtin.Slice.sliceApplied Builtin.Slice.sliceFields;refine lJa (lJa (lQa hos hds (x:=vl) rfl (lJa (lQa hos hds (x:=vu) rfl (lJa (lQa hos hds (x:= .none) rfl (lJd ?_)))))));refine lJa (slicePart_none ?_);show wpAny _ _ (if ((1:Int) == 0)=true then _ else _) _ _ s
 rw[lJb (by decide)]
 refine lJa (kJ3 pl (lJa (kJ3 pu (lJa (lJd ?_)))));show wpAny _ _ (match Builtin.Slice.sliceAdjust lo hi 1 (n:Int) with | (lo,hi)=>pure (lo,(1:Int),Builtin.Slice.slicePlaces lo hi 1)) _ _ s
 rw[qJ2 lo hi n];show wpAny _ _ (pure (((sIx n 0 lo:Nat):Int),(1:Int),Builtin.Slice.slicePlaces ((sIx n 0 lo:Nat):Int) ((sIx n n hi:Nat):Int) 1)) _ _ s
 rw[qJf];exact lJd h
theorem qXr(xs:Array Value)(i k:Nat):((List.range k).filterMap λ(m:Nat)=>xs[((i:Int)+(m:Int)*1).toNat]?).toArray=((xs.toList.drop i).take k).toArray:=by
 have e:(λ(m:Nat)=>xs[((i:Int)+(m:Int)*1).toNat]?)=λm=>xs[i+m]? :=by
  funext m
  have:((i:Int)+(m:Int)*1).toNat=i+m:=by omega
  rw[this]
 rw[e];have:=pick_run xs i k;rw[List.filterMap_map] at this;have e2:((λx=>xs[x]?)∘λx=>i+x)=λm=>xs[i+m]? :=rfl
 rw[e2] at this;rw[this]
theorem getItem_tuple_cut{t:Addr}{items:Array Value}(ht:IsTup s.heap t items)(hs:s.heap.IsSliceOf sl vl vu .none)(pl:IsPart vl lo)(pu:IsPart vu hi)(hw:¬ (sIx items.size 0 lo=0/\sIx items.size items.size hi=items.size))(h:Q (.ref s.heap.objs.size) {s with heap:=s.heap.push {cls:= .type "tuple",data:= .seq ((items.toList.drop (sIx items.size 0 lo)).take (sIx items.size items.size hi-sIx items.size 0 lo)).toArray} })(hsz:items.size<=sizeLine):wpAny (model prog w) A (getItem (.ref t) (.ref sl)) Q E s:=by
 have htake:sizeOk (.seq ((items.toList.drop (sIx items.size 0 lo)).take (sIx items.size items.size hi-sIx items.size 0 lo)).toArray):=by
  show ((items.toList.drop (sIx items.size 0 lo)).take (sIx items.size items.size hi-sIx items.size 0 lo)).toArray.size<=sizeLine
  rw[lJr,lQc,lXp,lKn];omega
 have hj:sIx items.size items.size hi<=items.size:=uQ9 _ _ (lJh _) hi;obtain⟨os,hos,hcs,hds⟩:=id hs;have hTs:s.TypeIs (.ref sl) "slice":=⟨os,hos,hcs⟩;unfold getItem
 try with_reducible refine lKj ?_
 first | refine lJa (lJd ?_) | skip
 refine lJa (wpAny_sequenceKey ht.typeIs (by decide) ?_)
 refine lJa (lVr (name:=Str.ofString "__getitem__") ht.typeIs lXq
  (lQh lXq ht.typeIs entry_tuple_getitem ?_ (args_tuple_getitem _ _)))
 show wpAny _ _ (Builtin.Tuple.tupleItemsOf (.ref t) >>= _) _ _ s
 refine lJa (tupleItemsOf_ ht ?_);refine lJa (lVc hTs ?_);rw[lJc (by decide)]
 refine lJa (jU0 hs pl pu ?_)
 have hno:¬ ((((sIx items.size 0 lo:Nat):Int) == 0&&(1:Int) == 1&&(sIx items.size items.size hi-sIx items.size 0 lo) == items.size)=true):=by
  intro q;rw[lK5,lK5] at q;have q1:((sIx items.size 0 lo:Nat):Int)=0:=eq_of_beq q.1.1;have q2:sIx items.size items.size hi-sIx items.size 0 lo=items.size:=eq_of_beq q.2;exact hw ⟨by omega,by omega⟩
 show wpAny _ _ (if (((sIx items.size 0 lo:Nat):Int) == 0&&(1:Int) == 1&&(sIx items.size items.size hi-sIx items.size 0 lo) == items.size)=true then _ else _) _ _ s
 rw[lJb hno,qXr]
 first
  | exact lJa (m:=Builtin.Tuple.tupleExact _) (lQb (lJd ⟨_,rfl,lJd h⟩) htake)
  | exact lJa (m:=Builtin.Tuple.tupleExact _) (lQb (lJa (lJd (lJd ⟨_,rfl,lJd h⟩))) htake)
  | exact lJa (lJa (m:=Builtin.Tuple.tupleExact _) (lQb (lJd (lJd ⟨_,rfl,lJd h⟩)) htake))
  | exact lJa (lJa (m:=Builtin.Tuple.tupleExact _) (lQb (lJd ⟨_,rfl,lJd h⟩) htake))
end
end HT
namespace L2
open PySem PySem.Spec PyProof.Rows
abbrev TO:=St->Hp->(Option Int->Hp->Prop)->Prop
theorem kKg{ns:List Int}:∀{us:List Value},Vals (ns.map V.int) us->IntsAre us ns:=by
 induction ns with
 | nil=>intro us r;rw[List.map_nil] at r;cases r;exact .nil
 | cons n ns ih=>
  intro us r;rw[lJw] at r;cases r with
  | cons r1 r2=>
   obtain⟨t,e⟩:=r1;subst e;exact .cons n t (ih r2)
variable {X:Cx}{e:Expr}{pos:Pos}{xs:List V}{us:List Value}
section
variable {te:TE}{lo hi:Option Expr}{tl th:TO}{p2:Pos}
def SlR(X:Cx)(r:V->Option Int->Option Int->Hp->VK->Prop):Prop:=
 ∀(pins:List (Addr×Obj))(s:Shared)(σ:St)(H:Hp)(x:V)(v vl vu:Value)(lo hi:Option Int)(sl:Addr)(Q:VK),Inv X pins σ H s->RelV x v->s.heap.IsSliceOf sl vl vu .none->IsPart vl lo->IsPart vu hi->r x lo hi H Q->
  ∃T id,typeLookup (.type T) "__getitem__"=pure (some (.builtin id))/\s.TypeIs v T/\wpAny (model X.prog X.w) X.A (getItem v (.ref sl)) (EP X pins σ Q) X.xe s
noncomputable def cutV(xs:List V)(lo hi:Option Int):List V:=(xs.drop (HT.sIx xs.length 0 lo)).take (HT.sIx xs.length xs.length hi-HT.sIx xs.length 0 lo)
theorem kJh(xs:List V)(lo hi:Option Int):(cutV xs lo hi).length<=xs.length:=by
 unfold cutV;rw[lQc,lXp];omega
noncomputable def rSlT(K:PySem.W.Frag):V->Option Int->Option Int->Hp->VK->Prop:=λx lo hi H Q=>∃a xs,x= .ref a/\SqT K H a xs/\
 ¬ (HT.sIx xs.length 0 lo=0/\HT.sIx xs.length xs.length hi=xs.length)/\∀p,H p=none->Q (.ref p) (upd H p (.tup (cutV xs lo hi)))
theorem uQ5:SlR X (rSlT X.K):=by
 intro pins s σ H x v vl vu lo hi sl Q I rx hs pl pu h;obtain⟨a,xs,rfl,hx,hw,q⟩:=h;cases rx;obtain⟨its,r,ht,hz⟩:=I.tuple hx;have hlen:its.toArray.size=xs.length:=by rw[lJr];exact r.length.symm
 refine⟨"tuple",_,lXq.lookup,ht.typeIs,?_⟩;refine HT.getItem_tuple_cut ht hs pl pu (by rw[hlen];exact hw) ?_ (by rw[hlen];exact hz)
 rw[hlen];refine⟨.ref s.heap.objs.size,_,I.laid (t':=s.toks) (o:= .tup (cutV xs lo hi)) (λb ob q=>lJm _ q) (lJh _) ?_,rfl,q _ (I.hok.fresh (lJh _))⟩
 exact⟨lKx (kJh xs lo hi) hz,_,(r.drop (HT.sIx xs.length 0 lo)).take (HT.sIx xs.length xs.length hi-HT.sIx xs.length 0 lo),TupD.new _ _⟩
noncomputable def qXn(K:PySem.W.Frag):R2:=λx y H Q=>∃a b xs ys,x= .ref a/\y= .ref b/\SqT K H a xs/\SqT K H b ys/\xs≠[]/\xs.length+ys.length<=sizeLine/\
 (ys=[]->Q (.ref a) H)/\(ys≠[]->∀p,H p=none->Q (.ref p) (upd H p (.tup (xs++ys))))
theorem Vals.nil_iff(r:Vals xs us):us=[]↔xs=[]:=by
 cases r with
 | nil=>simp
 | cons _ _=>simp
theorem uJ3:OpR X (binaryOp .Add) (qXn X.K):=by
 intro pins s σ H x y v u Q I rx ry h;obtain⟨a,b,xs,ys,rfl,rfl,ha,hb,hx,hz,q1,q2⟩:=h;cases rx;cases ry;obtain⟨its,r1,p1,_⟩:=I.tuple ha;obtain⟨its2,r2,p2,_⟩:=I.tuple hb;refine HT.cat_tup p1 p2 (λz=>hx (r1.nil_iff.mp z)) (λz=>⟨.ref a,H,I,rfl,q1 (r2.nil_iff.mp z)⟩) (λz=> ?_) (by rw[<-r1.length,<-r2.length];exact hz)
 refine⟨.ref s.heap.objs.size,_,I.laid (t':=s.toks) (o:= .tup (xs++ys)) (λb ob q=>lJm _ q) (lJh _) ?_,rfl,q2 (λw=>z (r2.nil_iff.mpr w)) _ (I.hok.fresh (lJh _))⟩
 exact⟨by rw[lJ7];exact hz,_,r1.append r2,TupD.new _ _⟩
end
noncomputable def ixN(n:Nat)(i:Int):Option Nat:=if 0<=i then (if i<n then some i.toNat else none) else if -(n:Int)<=i then some (i+n).toNat else none
noncomputable def atI{α:Type}(xs:List α)(i:Int):Option α:=(ixN xs.length i).bind λj=>xs[j]?
variable {n:Nat}{i:Int}
theorem qQ9{j:Nat}(h:ixN n i=some j):seqIndex? i n=some j/\j<n/\ -(n:Int)<=i/\i<n:=by
 unfold ixN at h
 by_cases h0:0<=i
 .rw[lJc h0] at h
  by_cases h1:i<n
  .rw[lJc h1] at h;have e:i.toNat=j:=lJ0 h;exact⟨by rw[seqIndex_of h0 h1,e],by omega,by omega,h1⟩
  .rw[lJb h1] at h;cases h
 .rw[lJb h0] at h
  by_cases h1: -(n:Int)<=i
  .rw[lJc h1] at h;have e:(i+n).toNat=j:=lJ0 h;exact⟨by rw[seqIndex_neg (by omega) h1,e],by omega,h1,by omega⟩
  .rw[lJb h1] at h;cases h
theorem qVs{α:Type}{xs:List α}{v:α}(h:atI xs i=some v):∃j,seqIndex? i xs.length=some j/\xs[j]? =some v/\j<xs.length/\ -(xs.length:Int)<=i/\i<xs.length:=by
 unfold atI at h;cases e:ixN xs.length i with
 | none=>rw[e] at h;cases h
 | some j=>
  rw[e] at h;obtain⟨h1,h2,h3,h4⟩:=qQ9 e;exact⟨j,h1,h,h2,h3,h4⟩
def uQh(b:Expr):Prop:=∀o i,subscripted b false o i=operate [o,i] (getItem o i)
def IxR(X:Cx)(r:R2):Prop:=
 ∀(value slice:Expr)(pins:List (Addr×Obj))(s:Shared)(σ:St)(H:Hp)(x y:V)(v u:Value)(Q:VK),Inv X pins σ H s->RelV x v->RelV y u->r x y H Q->
  subscripted slice false v u=operate [v,u] (getItem v u)->wpAny (model X.prog X.w) X.A (subscriptTail value slice v u) (EP X pins σ Q) X.xe s
def MtR(X:Cx)(id:String)(r:V->List V->Hp->VK->Prop):Prop:=
 ∀(pins:List (Addr×Obj))(s:Shared)(σ:St)(H:Hp)(x:V)(xs:List V)(v:Value)(us:List Value)(Q:VK),Inv X pins σ H s->RelV x v->Vals xs us->r x xs H Q->
  wpAny (model X.prog X.w) X.A (call (.builtin id) (v::us)) (EP X pins σ Q) X.xe s
variable {pins:List (Addr×Obj)}{σ:St}{H:Hp}{s:Shared}{p:Addr}{ys:List V}{its its':List Value}{A:Around}{y x:V}{u:Value}{apos cpos:Pos}
section
variable {a b:Expr}{ta tb:TE}
theorem IxR.or{r r':R2}(h:IxR X r)(h':IxR X r'):IxR X (λx y H Q=>r x y H Q\/r' x y H Q):=by
 intro value slice pins s σ H x y v u Q I rx ry q hs
 rcases q with q | q
 .exact h value slice pins s σ H x y v u Q I rx ry q hs
 .exact h' value slice pins s σ H x y v u Q I rx ry q hs
def rIxL(K:PySem.W.Frag):R2:=λx y H Q=>∃p xs i v,x= .ref p/\y= .int i/\SqL K H p xs/\atI xs i=some v/\Q v H
def rIxT(K:PySem.W.Frag):R2:=λx y H Q=>∃p xs i v,x= .ref p/\y= .int i/\SqT K H p xs/\atI xs i=some v/\Q v H
theorem ix_list:IxR X (rIxL X.K):=by
 intro value slice pins s σ H x y v u Q I rx ry h hs;obtain⟨p,xs,i,z,rfl,rfl,hq,he,q⟩:=h;cases rx;obtain⟨t,rfl⟩:=ry;obtain⟨its,r,pl,hz⟩:=I.list hq;obtain⟨j,h1,h2,h3,h4,h5⟩:=qVs he;obtain⟨w,ew,rw'⟩:=r.get h2;have hl:=r.length;have hn:=kKb;have fin:EP X pins σ Q w s:=⟨z,H,I,rw',q⟩
 by_cases h0:0<=i
 .have hj:i.toNat=j:=by
   rw[seqIndex_of h0 h5] at h1;exact lJ0 h1
  exact item_listR pl.isList h0 (by omega) (by rw[hj];simpa using ew) fin hs
 .have hj:(i+(its.toArray.size:Int)).toNat=j:=by
   rw[seqIndex_neg (by omega) h4] at h1
   rw[lJr,<-hl];exact lJ0 h1
  exact subscriptTail_builtinR (x:=w) pl.isList.typeIs slot_list_getitem.lookup
   (wpAny_getItem_list_neg (Q:=λr s'=>r=w/\EP X pins σ Q r s') pl.isList (by omega) (by rw[lJr]<;>omega) (by omega) (by rw[hj];simpa using ew) ⟨rfl,fin⟩) hs
theorem uVa:IxR X (rIxT X.K):=by
 intro value slice pins s σ H x y v u Q I rx ry h hs;obtain⟨p,xs,i,z,rfl,rfl,hq,he,q⟩:=h;cases rx;obtain⟨t,rfl⟩:=ry;obtain⟨its,r,pl,hz⟩:=I.tuple hq;obtain⟨j,h1,h2,h3,h4,h5⟩:=qVs he;obtain⟨w,ew,rw'⟩:=r.get h2;have hl:=r.length;have hn:=kKb;have fin:EP X pins σ Q w s:=⟨z,H,I,rw',q⟩
 exact subscriptTail_builtinR (x:=w) pl.typeIs slot_tuple_getitem.lookup
  (getItem_tuple (j:=j) (Q:=λr s'=>r=w/\EP X pins σ Q r s') pl (by omega) (by omega) (by rw[lJr,<-hl];exact h1) (by simpa using ew) ⟨rfl,fin⟩) hs
theorem qJm(its:List Value)(n j:Nat)(u:Value):Obj.mapSeq (·.setIfInBounds j u) {cls:= .type "list",data:= .seq its.toArray n}={cls:= .type "list",data:= .seq (its.set j u).toArray n}:=by
 simp[Obj.mapSeq]
theorem Inv.lst(I:Inv X pins σ H s)(h:H p=some (.lst xs)):
  ∃(its:List Value)(n:Nat),Vals xs its/\s.heap.get? p=some {cls:= .type "list",data:= .seq its.toArray n}/\xs.length<=sizeLine:=by
 obtain⟨z,its,n,r,e⟩:=I.hok p _ h;exact⟨its,n,r,e,z⟩
theorem Inv.lstUpd{n':Nat}{f:Obj->Obj}(I:Inv X pins σ H s)(h:H p=some (.lst xs))(ho:s.heap.get? p=some {cls:= .type "list",data:= .seq its.toArray n})(hf:f {cls:= .type "list",data:= .seq its.toArray n}={cls:= .type "list",data:= .seq its'.toArray n'})(r:Vals ys its')(hz:ys.length<=sizeLine)(t:Nat):
  Inv X pins σ (upd H p (.lst ys)) {s with heap:=s.heap.update p f,toks:=t}:=by
 have e:(s.heap.update p f).get? p=some {cls:= .type "list",data:= .seq its'.toArray n'}:=by
  rw[lX7 f ho (by rw[hf]<;>rfl),hf]
 refine I.write (x:=p) (e:=p) (by rw[h];trivial) (.inl rfl) (λb u hb q=>(lYu _ _ (Ne.symm hb)).trans q) ⟨_,e⟩ ?_
 exact⟨hz,its',n',r,e⟩
def qXl:V->V->V->Hp->(Hp->Prop)->Prop:=λo i v H Q=>∃p xs k j,o= .ref p/\i= .int k/\H p=some (.lst xs)/\ixN xs.length k=some j/\Q (upd H p (.lst (xs.set j v)))
theorem qV9:PSet X qXl:=by
 intro pins s σ H o i v ov iv u Q I ro ri rv h;obtain⟨p,xs,k,j,rfl,rfl,hp,hj,q⟩:=h;cases ro;obtain⟨t,rfl⟩:=ri;obtain⟨its,n,r,ho,hz⟩:=I.lst hp;obtain⟨h1,h2,h3,h4⟩:=qQ9 hj;have hl:=r.length;have hn:=kKb
 have I':Inv X pins σ (upd H p (.lst (xs.set j v))) {s with heap:=s.heap.update p (Obj.mapSeq (·.setIfInBounds j u))}:=
  I.lstUpd hp ho (qJm its n j u) (r.set rv j) (by rw[lQz];exact hz) s.toks
 by_cases h0:0<=k
 .have hk:k.toNat=j:=by
   rw[seqIndex_of h0 h4] at h1;exact lJ0 h1
  exact PySem.W.ki_setAt ho h0 (by omega) (by rw[lJr,<-hl];exact h4) (by rw[hk];exact⟨_,I',q⟩)
 .have hk:(k+(its.toArray.size:Int)).toNat=j:=by
   rw[seqIndex_neg (by omega) h3] at h1
   rw[lJr,<-hl];exact lJ0 h1
  exact PySem.W.ki_setBack ho (by omega) (by rw[lJr,<-hl];exact h3) (by omega) (by rw[hk];exact⟨_,I',q⟩)
theorem kQ4(lo hi:Option Int)(n:Nat):(sliceBounds lo hi none n).1=((HT.sIx n 0 lo:Nat):Int)/\(sliceBounds lo hi none n).2.1=((HT.sIx n n hi:Nat):Int)/\(sliceBounds lo hi none n).2.2=1:=by
 refine⟨?_,?_,rfl⟩
 .cases lo with
  | none=>simp[sliceBounds,HT.sIx]
  | some i=>
   simp only[sliceBounds,HT.sIx,Option.getD_none,show (1:Int)>0 by decide,lKt]
   by_cases h:i<0
   .simp only[h,lKt]<;>omega
   .simp only[h,lKa]<;>omega
 .cases hi with
  | none=>simp[sliceBounds,HT.sIx]
  | some i=>
   simp only[sliceBounds,HT.sIx,Option.getD_none,show (1:Int)>0 by decide,lKt]
   by_cases h:i<0
   .simp only[h,lKt]<;>omega
   .simp only[h,lKa]<;>omega
theorem kKy(its:List Value)(lo hi:Option Int):slicePick its.toArray lo hi none=((its.drop (HT.sIx its.length 0 lo)).take (HT.sIx its.length its.length hi-HT.sIx its.length 0 lo)).toArray:=by
 obtain⟨h1,h2,h3⟩:=kQ4 lo hi its.toArray.size;unfold slicePick;rw[h1,h2,h3];simp only[sliceRange_one,pick_run,lJr]<;>rfl
def rSlL(K:PySem.W.Frag):V->Option Int->Option Int->Hp->VK->Prop:=λx lo hi H Q=>∃a xs,x= .ref a/\SqL K H a xs/\∀p,H p=none->Q (.ref p) (upd H p (.lst (cutV xs lo hi)))
theorem uJr:SlR X (rSlL X.K):=by
 intro pins s σ H x v vl vu lo hi sl Q I rx hs pl pu h;obtain⟨a,xs,rfl,hx,q⟩:=h;cases rx;obtain⟨its,r,ht,hz⟩:=I.list hx;have hlen:=r.length;refine⟨"list",_,slot_list_getitem.lookup,ht.isList.typeIs,?_⟩;refine wpAny_getItem_list_slice ht.isList hs pl pu .none (by simp) ?_ (by rw[lJr]<;>omega)
 rw[kKy,<-hlen];refine⟨.ref s.heap.objs.size,_,I.laid (t':=s.toks) (o:= .lst (cutV xs lo hi)) (λb ob q=>lJm _ q) (lJh _) ?_,rfl,q _ (I.hok.fresh (lJh _))⟩
 exact⟨lKx (kJh xs lo hi) hz,_,0,(r.drop (HT.sIx xs.length 0 lo)).take (HT.sIx xs.length xs.length hi-HT.sIx xs.length 0 lo),lJ8 _ rfl⟩
noncomputable def kJy:V->Bool
 | .non=>true
 | .bl _=>true
 | .int _=>true
 | .str _=>true
 | _=>false
noncomputable def eqV:V->V->Bool
 | .non,.non=>true
 | .bl a,.bl b=>a == b
 | .bl a,.int b=>(if a then 1 else 0) == b
 | .int a,.bl b=>a == (if b then 1 else 0)
 | .int a,.int b=>a == b
 | .str a,.str b=>a == b
 | _,_=>false
theorem uVm{v:Value}(ry:RelV y u)(rx:RelV x v)(fy:kJy y=true)(fx:kJy x=true):SeqAt.EqAt A s u v (eqV y x):=by
 cases y with
 | non=>
  cases ry;cases x with
  | non=>cases rx;exact SeqAt.EqAt.same _
  | bl b=>cases rx;exact SeqAt.EqAt.none_bool b
  | int b=>obtain⟨t,rfl⟩:=rx;exact SeqAt.EqAt.none_int b t
  | str b=>obtain⟨t,rfl⟩:=rx;exact SeqAt.EqAt.none_str b t
  | _=>exact absurd (show false=true from fx) lJs
 | bl a=>
  cases ry;cases x with
  | non=>cases rx;exact SeqAt.EqAt.bool_none a
  | bl b=>cases rx;exact SeqAt.EqAt.bool_bool a b
  | int b=>obtain⟨t,rfl⟩:=rx;exact SeqAt.EqAt.bool_int a b t
  | str b=>obtain⟨t,rfl⟩:=rx;exact SeqAt.EqAt.bool_str a b t
  | _=>exact absurd (show false=true from fx) lJs
 | int a=>
  obtain⟨t',rfl⟩:=ry;cases x with
  | non=>cases rx;exact SeqAt.EqAt.int_none a t'
  | bl b=>cases rx;exact SeqAt.EqAt.int_bool a t' b
  | int b=>obtain⟨t,rfl⟩:=rx;exact SeqAt.EqAt.int_int a t' b t
  | str b=>obtain⟨t,rfl⟩:=rx;exact SeqAt.EqAt.int_str a t' b t
  | _=>exact absurd (show false=true from fx) lJs
 | str a=>
  obtain⟨t',rfl⟩:=ry;cases x with
  | non=>cases rx;exact SeqAt.EqAt.str_none a t'
  | bl b=>cases rx;exact SeqAt.EqAt.str_bool a t' b
  | int b=>obtain⟨t,rfl⟩:=rx;exact SeqAt.EqAt.str_int a t' b t
  | str b=>obtain⟨t,rfl⟩:=rx;exact SeqAt.EqAt.str_str a t' b t
  | _=>exact absurd (show false=true from fx) lJs
 | _=>exact absurd (show false=true from fy) lJs
def eqU(x:V)(u:Value):Bool:=match u with
 | .none=>eqV .non x
 | .bool b=>eqV (.bl b) x
 | .int i _=>eqV (.int i) x
 | .str z _=>eqV (.str z) x
 | _=>false
theorem qUs(r:RelV y u)(f:kJy y=true):eqU x u=eqV y x:=by
 cases y with
 | non=>cases r;rfl
 | bl b=>cases r;rfl
 | int i=>obtain⟨t,rfl⟩:=r;rfl
 | str z=>obtain⟨t,rfl⟩:=r;rfl
 | _=>exact absurd (show false=true from f) lJs
theorem kXw{x:V}:∀{xs:List V}{us:List Value},Vals xs us->xs.all kJy=true->us.any (eqU x)=xs.any λy=>eqV y x
 | _,_,.nil,_=>rfl
 | y::xs,u::us,.cons r t,f=>by
  rw[lVh,lK5] at f;rw[lQ0,lQ0,qUs r f.1,kXw t f.2]
theorem jY2{A:Around}{s:Shared}{x:V}{v:Value}(rx:RelV x v)(fx:kJy x=true):∀{xs:List V}{us:List Value},Vals xs us->xs.all kJy=true->∀u∈us,SeqAt.EqAt A s u v (eqU x u)
 | _,_,.nil,_=>λu hu=>by cases hu
 | y::xs,u::us,.cons r t,f=>λu' hu=>by
  rw[lVh,lK5] at f
  rcases (lJp.mp hu) with rfl | hu
  .rw[qUs r f.1];exact uVm r rx f.1 fx
  .exact jY2 rx fx t f.2 u' hu
def inV(x:V)(xs:List V):Bool:=xs.any λy=>eqV y x
def rIn(K:PySem.W.Frag)(neg:Bool):R2:=λx y H Q=>∃p xs,y= .ref p/\(SqL K H p xs\/SqT K H p xs)/\kJy x=true/\xs.all kJy=true/\Q (.bl (if neg then !inV x xs else inV x xs)) H
theorem kUd:OpR X (compareOp .NotIn) (rIn X.K true):=by
 intro pins s σ H x y v u Q I rx ry h;obtain⟨p,xs,rfl,hq,fx,fs,q⟩:=h;cases ry
 rcases hq with hq | hq
 .obtain⟨its,r,pl,hz⟩:=I.list hq;refine SeqAt.notIn_listAt (eqU x) pl.isList (λw hw=>jY2 rx fx r fs w (by simpa using hw)) ⟨.bl _,H,I,rfl,?_⟩
  rw[show its.toArray.any (eqU x)=its.any (eqU x) by simp,kXw r fs]
  exact q
 .obtain⟨its,r,pl,hz⟩:=I.tuple hq;refine SeqAt.notIn_tupleAt (eqU x) pl (λw hw=>jY2 rx fx r fs w (by simpa using hw)) ⟨.bl _,H,I,rfl,?_⟩
  rw[show its.toArray.any (eqU x)=its.any (eqU x) by simp,kXw r fs]
  exact q
theorem kU0:kU9 X (.builtin "len") (λxs H Q=>∃p ys,xs=[.ref p]/\(SqL X.K H p ys\/SqT X.K H p ys)/\Q (.int ys.length) H):=by
 intro pins s σ H xs us Q I r h;obtain⟨p,ys,rfl,hq,q⟩:=h;obtain⟨u,rfl,rx⟩:=kZ0 r;cases rx;have hn:=kKb
 rcases hq with hq | hq
 .obtain⟨its,r',pl,hz⟩:=I.list hq;have hlen:=r'.length;exact Calls.call_len_list pl.isList (by simp only[lJr]<;>omega) ⟨.int ys.length,H,I.tok _,⟨s.toks+1,by rw[lJr,hlen]⟩,q⟩
 .obtain⟨its,r',pl,hz⟩:=I.tuple hq;have hlen:=r'.length;exact len_tuple pl (by simp only[lJr]<;>omega) ⟨.int ys.length,H,I.tok _,⟨s.toks+1,by rw[lJr,hlen]⟩,q⟩
theorem kUz:kU9 X (.type "list") (λxs H Q=>∃p ys,xs=[.ref p]/\(SqL X.K H p ys\/SqT X.K H p ys)/\∀l,H l=none->Q (.ref l) (upd H l (.lst ys))):=by
 intro pins s σ H xs us Q I r h;obtain⟨p,ys,rfl,hq,q⟩:=h;obtain⟨u,rfl,rx⟩:=kZ0 r;cases rx
 have fin:∀(its:List Value),Vals ys its->ys.length<=sizeLine->∀(h':Heap)(c':Nat),(∀b o',s.heap.get? b=some o'->h'.get? b=some o')->
   h'.get? s.heap.objs.size=some {cls:= .type "list",dict:=none,data:= .seq its.toArray c',slots:= #[]}->EP X pins σ Q (.ref s.heap.objs.size) {s with heap:=h'}:=λits r' hz h' c' kp e=>
  ⟨.ref s.heap.objs.size,_,I.laid (t':=s.toks) kp (lJh _) (show ObjOk X.prog X.w _ h' _ (.lst ys) from⟨hz,its,c',r',e⟩),rfl,q _ (I.hok.fresh (lJh _))⟩
 rcases hq with hq | hq
 .obtain⟨its,r',pl,hz⟩:=I.list hq;have hlen:=r'.length;obtain⟨o,ho,hc,n,hd⟩:=pl.isList;exact call_list_seq p (.inl rfl) ho hc hd (λh' c' kp e=>fin its r' hz h' c' kp e) (by simp only[lJr]<;>omega)
 .obtain⟨its,r',pl,hz⟩:=I.tuple hq;have hlen:=r'.length;obtain⟨o,ho,hc,n,hd⟩:=pl;exact call_list_seq p (.inr rfl) ho hc hd (λh' c' kp e=>fin its r' hz h' c' kp e) (by simp only[lJr]<;>omega)
theorem kQs:kU9 X (.type "tuple") (λxs H Q=>∃p ys,xs=[.ref p]/\((SqL X.K H p ys/\∀l,H l=none->Q (.ref l) (upd H l (.tup ys)))\/(SqT X.K H p ys/\Q (.ref p) H))):=by
 intro pins s σ H xs us Q I r h;obtain⟨p,ys,rfl,h⟩:=h;obtain⟨u,rfl,rx⟩:=kZ0 r;cases rx
 rcases h with ⟨hq,q⟩ | ⟨hq,q⟩
 .obtain⟨its,r',pl,hz⟩:=I.list hq;have hlen:=r'.length;refine call_tuple_list pl.isList (λh' kp=> ?_) (by simp only[lJr]<;>omega)
  have I1:Inv X pins σ H {s with heap:=h'}:=I.kept (t':=s.toks) kp
  have I2:Inv X pins σ (upd H h'.objs.size (.tup ys)) {s with heap:=h'.push {cls:= .type "tuple",data:= .seq its.toArray} }:=
   I1.laid (t':=s.toks) (λb o e=>lJm _ e) (lJh _) (show ObjOk X.prog X.w _ _ _ (.tup ys) from⟨hz,its,r',TupD.new _ _⟩)
  exact⟨.ref h'.objs.size,_,I2,rfl,q _ (I1.hok.fresh (lJh _))⟩
 .obtain⟨its,r',pl,hz⟩:=I.tuple hq;exact call_tuple_same pl ⟨.ref p,H,I,rfl,q⟩
def tyV(K:PySem.W.Frag)(T:String)(x:V)(H:Hp):Prop:=match x with
 | .str _=>T="str"
 | .int _=>T="int"
 | .ref p=>(T="list"/\∃xs,SqL K H p xs)\/(T="tuple"/\∃o,K.lookup p=some o/\o.cls= .type "tuple"/\o.dict=none)\/
   (T="dict"/\((∃kvs,H p=some (.dK kvs))\/∃kvs,H p=some (.dT kvs)))\/(T="set"/\∃S n,H p=some (.set S n))
 | _=>False
theorem uQu{T:String}{v:Value}(I:Inv X pins σ H s)(r:RelV x v)(ty:tyV X.K T x H):
  s.TypeIs v T/\∀a,v= .ref a->∃ob,s.heap.get? a=some ob/\ob.dict=none:=by
 cases x with
 | str z=>
  obtain⟨t,rfl⟩:=r;cases (show T="str" from ty)
  exact⟨typeIs_str s z t,λ_ e=>nomatch e⟩
 | int i=>
  obtain⟨t,rfl⟩:=r;cases (show T="int" from ty)
  exact⟨typeIs_int s i t,λ_ e=>nomatch e⟩
 | ref p=>
  cases r
  rcases ty with ⟨rfl,xs,hq⟩ | ⟨rfl,o,hk,hc,hd⟩ | ⟨rfl,hk⟩ | ⟨rfl,S,n,hk⟩
  .obtain⟨its,_,pl,_⟩:=I.list hq;refine⟨pl.isList.typeIs,λa e=> ?_⟩
   cases e;obtain⟨o,n,e,c,hd,_⟩:=pl;exact⟨o,e,hd⟩
  .refine⟨⟨o,I.kIn p o hk,hc⟩,λa e=> ?_⟩
   cases e;exact⟨o,I.kIn _ o hk,hd⟩
  .have z:∃o,s.heap.get? p=some o/\o.ExactDict:=by
    rcases hk with ⟨kvs,hk⟩ | ⟨kvs,hk⟩
    .obtain⟨_,_,_,_,o,_,_,e,ex,_⟩:=I.hok p _ hk;exact⟨o,e,ex⟩
    .obtain⟨_,_,_,_,o,_,_,e,ex,_⟩:=I.hok p _ hk;exact⟨o,e,ex⟩
   obtain⟨o,e,ex⟩:=z;refine⟨⟨o,e,ex.1⟩,λa e2=> ?_⟩
   cases e2;exact⟨o,e,ex.2.1⟩
  .obtain⟨o,_,_,_,e,ex,_⟩:=I.hok p _ hk;refine⟨⟨o,e,ex.1⟩,λa e2=> ?_⟩
   cases e2;exact⟨o,e,ex.2.1⟩
 | _=>exact False.elim ty
variable {o:Expr}{es:List Expr}{to:TE}{t:TA}{name:Str}{T id:String}{r:V->List V->Hp->VK->Prop}
end
def MtM(X:Cx)(id:String)(r:V->List V->Hp->VK->Prop):Prop:=
 ∀(pins:List (Addr×Obj))(s:Shared)(σ:St)(H:Hp)(x:V)(xs:List V)(v:Value)(us:List Value)(Q:VK),Inv X pins σ H s->RelV x v->Vals xs us->r x xs H Q->
  wpAny (model X.prog X.w) X.A (call (.builtin id) (v::us)) (EP X pins σ Q) X.xe s
theorem Vals.one(h:Vals [x] us):∃u,us=[u]/\RelV x u:=by
 cases h with | cons r t=>(cases t;exact⟨_,rfl,r⟩)
theorem Vals.two(h:Vals [x,y] us):∃u v,us=[u,v]/\RelV x u/\RelV y v:=by
 cases h with | cons r t=>(cases t with | cons q t=>(cases t;exact⟨_,_,rfl,r,q⟩))
theorem Vals.reverse(h:Vals xs us):Vals xs.reverse us.reverse:=by
 induction h with
 | nil=>exact .nil
 | cons r t ih=>rw[lX8,lX8];exact Vals.append ih (.cons r .nil)
theorem Vals.rep{xs:List V}{us:List Value}(h:Vals xs us):∀k:Nat,Vals (List.replicate k xs).flatten (List.replicate k us).flatten
 | 0=> .nil
 | k+1=>by
  rw[lVi,lVi,lVv,lVv];exact Vals.append h (Vals.rep h k)
theorem kUs(its:List Value):∀(k:Nat)(acc:List Value),
  List.foldl (λx1 x2=>x1++x2) acc.toArray (List.replicate k its.toArray)=(acc++(List.replicate k its).flatten).toArray
 | 0,acc=>by simp
 | k+1,acc=>by
  have e:acc.toArray++its.toArray=(acc++its).toArray:=by simp
  have e2:(acc++its)++(List.replicate k its).flatten=acc++(List.replicate (k+1) its).flatten:=by
   rw[lVi,lVv,lJq]
  rw[<-e2,<-kUs its k (acc++its),<-e,lVi,lZx]
variable {b:Addr}
section
variable {l:Addr}{zs:List V}
theorem Inv.lset{f:Array Value->Array Value}{t':Nat}(I:Inv X pins σ H s)(hH:H l=some (.lst xs))(e:s.heap.get? l=some {cls:= .type "list",data:= .seq its.toArray n})(hf:f its.toArray=its'.toArray)(hv:Vals ys its')(hz:ys.length<=sizeLine):
  Inv X pins σ (upd H l (.lst ys)) {s with heap:=s.heap.update l (Obj.mapSeq f),toks:=t'}:=by
 have q:=PySem.IsL.update e f;rw[hf] at q;refine I.write (x:=l) (e:=l) (by rw[hH];exact trivial) (.inl rfl) (λb' u hb hu=>(lYu s.heap (Obj.mapSeq f) (Ne.symm hb)).trans hu) ⟨_,q⟩ ?_
 exact⟨hz,its',_,hv,q⟩
theorem Inv.lnew{t':Nat}(I:Inv X pins σ H s)(hv:Vals ys its)(hz:ys.length<=sizeLine):
  Inv X pins σ (upd H s.heap.objs.size (.lst ys)) {s with heap:=s.heap.push {cls:= .type "list",data:= .seq its.toArray},toks:=t'}:=
 I.laid (λ_ _ q=>lJm _ q) (lJh _) ⟨hz,its,0,hv,lJ8 _ rfl⟩
theorem Inv.fresh(I:Inv X pins σ H s):H s.heap.objs.size=none:=I.hok.fresh (lJh _)
theorem Inv.lstM(I:Inv X pins σ H s)(hH:H l=some (.lst xs)):xs.length<=sizeLine/\∃(its:List Value)(n:Nat),Vals xs its/\xs.length=its.length/\s.heap.get? l=some {cls:= .type "list",data:= .seq its.toArray n}:=by
 obtain⟨z,its,n,r,e⟩:=I.hok l _ hH;exact⟨z,its,n,r,r.length,e⟩
theorem qXz(h:n<=sizeLine):Builtin.List.listTooLong n=false:=by
 unfold Builtin.List.listTooLong;exact lJv (by omega)
end
def jQa:V->List V->Hp->VK->Prop:=λx vs H Q=>∃l xs y,x= .ref l/\vs=[y]/\H l=some (.lst xs)/\xs.length<sizeLine/\Q .non (upd H l (.lst (xs++[y])))
theorem qQz:MtM X "list.append" jQa:=by
 intro pins s σ H x vs v us Q I rx rv h;obtain⟨l,xs,y,rfl,rfl,hH,hz,q⟩:=h;cases rx;obtain⟨u,rfl,ru⟩:=rv.one;obtain⟨z,its,n,r,hl,e⟩:=I.lstM hH;refine lXf F.slot_list_append ⟨_,e,rfl⟩ F.entry_list_append (F.args_list_append_2 _ _) (PySem.list_append l its.toArray n u (by rw[lJr];omega)) ⟨e,?_⟩
 refine⟨.non,_,I.lset (its':=its++[u]) hH e (by simp) (r.append (.cons ru .nil)) ?_,rfl,q⟩
 rw[lJ7,lZy];omega
noncomputable def rCat:R2:=λx y H Q=>∃l b xs zs,x= .ref l/\y= .ref b/\H l=some (.lst xs)/\H b=some (.lst zs)/\xs.length+zs.length<=sizeLine/\∀p,H p=none->Q (.ref p) (upd H p (.lst (xs++zs)))
theorem uUs:OpR X (binaryOp .Add) rCat:=by
 intro pins s σ H x y v u Q I rx ry h;obtain⟨l,b,xs,zs,rfl,rfl,hH,hB,hz,q⟩:=h;cases rx;cases ry;obtain⟨z,its,n,r,hl,e⟩:=I.lstM hH;obtain⟨z2,its2,n2,r2,hl2,e2⟩:=I.lstM hB;refine PySem.P.add_list e e2 ?_ (by rw[lJr,lJr];omega)
 have ea:its.toArray++its2.toArray=(its++its2).toArray:=by simp
 rw[ea];exact⟨.ref _,_,I.lnew (t':=s.toks) (r.append r2) (by rw[lJ7];omega),rfl,q _ I.fresh⟩
noncomputable def rRep:R2:=λx y H Q=>∃l k xs,x= .ref l/\y= .int k/\H l=some (.lst xs)/\ -(2^63)<=k/\k<2^63/\xs.length*k.toNat<=sizeLine/\
 ∀p,H p=none->Q (.ref p) (upd H p (.lst (List.replicate k.toNat xs).flatten))
theorem uKd{α:Type}(xs:List α)(k:Nat):(List.replicate k xs).flatten.length=k*xs.length:=by
 induction k with
 | zero=>simp
 | succ k ih=>rw[lVi,lVv,lJ7,ih,lVj,Nat.add_comm]
theorem uUn:OpR X (binaryOp .Mult) rRep:=by
 intro pins s σ H x y v u Q I rx ry h;obtain⟨l,k,xs,rfl,rfl,hH,h1,h2,hz,q⟩:=h;cases rx;obtain⟨t,rfl⟩:=ry;obtain⟨z,its,n,r,hl,e⟩:=I.lstM hH;have hlen:its.toArray.size*k.toNat<=sizeLine:=by rw[lJr,<-hl];exact hz
 have hcap:¬ its.toArray.size*k.toNat>(2^63-1) / 8:=by
  have:(sizeLine:Nat)<=(2^63-1) / 8:=by decide
  omega
 have hfit:¬ (!Builtin.List.listFitsIndex k)=true:=by
  rw[fitsIndex_both h1 h2];exact lJs
 have hlong:¬ Builtin.List.listTooLong (its.toArray.size*k.toNat)=true:=by
  rw[qXz hlen];exact lJs
 have hnew:List.foldl (λx1 x2=>x1++x2) #[] (List.replicate (if its.toArray.isEmpty=true then 0 else k.toNat) its.toArray)=(List.replicate k.toNat its).flatten.toArray:=by
  have f0:∀m:Nat,List.foldl (λx1 x2=>x1++x2) #[] (List.replicate m its.toArray)=(List.replicate m its).flatten.toArray:=λm=>by
   have:=kUs its m [];rw[lYv] at this;exact this
  rw[f0];cases its with
  | nil=>simp
  | cons a r'=>rw[lJb (by simp)]
 refine wpAny_binaryOp_repeat_ref (T:="list") (U:="int") (by decide) ⟨_,e,rfl⟩ (λs'=>typeIs_int s' k t) noFill_list_mul F.fills_int_mul F.slot_int_rmul repeat_list F.slot_int_index.lookup
  (lXf F.slot_int_rmul (typeIs_int s k t) F.entry_int_rmul (F.args_int_rmul_2 _ _) (int___rmul___int_list k t l its.toArray n)
   ⟨e,rfl,⟨_,e,rfl⟩,lXf F.slot_list_mul ⟨_,e,rfl⟩ F.entry_list_mul (F.args_list_mul_2 _ _) (AutoListH.list___mul___list_int_3 l its.toArray n k t hfit hcap hlong) ⟨e,?_⟩⟩)
 rw[hnew];exact⟨.ref _,_,I.lnew (t':=s.toks) (r.rep k.toNat) (by rw[uKd,lX9];exact hz),rfl,q _ I.fresh⟩
variable {w:World}{E:Value->Shared->Prop}
section
variable {prog:Program}
end
variable {o:Option V}
section
variable {κ:Type}[DecidableEq κ]
noncomputable def valV(kvs:List (κ×V))(k:κ):Option V:=(kvs.find? λkv=>decide (kv.1=k)).map (·.2)
noncomputable def putK(kvs:List (κ×V))(k:κ)(v:V):List (κ×V):=
 if (kvs.any λkv=>decide (kv.1=k))=true then kvs.map (λkv=>if kv.1=k then (kv.1,v) else kv) else kvs++[(k,v)]
theorem jYx{p:κ×V}{r:List (κ×V)}{k:κ}(e:p.1=k):valV (p::r) k=some p.2:=by simp[valV,lQm,e]
theorem jYy{p:κ×V}{r:List (κ×V)}{k:κ}(e:¬ p.1=k):valV (p::r) k=valV r k:=by simp[valV,lQm,e]
theorem kX5(k:κ):∀kvs:List (κ×V),(kvs.any λkv=>decide (kv.1=k))=(valV kvs k).isSome
 | []=>rfl
 | p::r=>by
  rw[lQ0]
  by_cases e:p.1=k
  .simp only[jYx e,lJ9 e,Bool.true_or,Option.isSome_some]
  .rw[jYy e,lJv e,Bool.false_or];exact kX5 k r
theorem jZ3(kvs:List (κ×V))(k:κ)(v:V):(putK kvs k v).length<=kvs.length+1:=by
 unfold putK;split
 .rw[lJe];omega
 .rw[lJ7,lKk,lQl];omega
theorem RelO.isSome_eq{u:Option Value}(r:RelO o u):o.isSome=u.isSome:=by
 cases o with
 | none=>cases u with
  | none=>rfl
  | some _=>exact (show False from r).elim
 | some _=>cases u with
  | none=>exact (show False from r).elim
  | some _=>rfl
theorem KV.val{kvs:List (κ×V)}{vs:List (κ×Value)}(r:KV kvs vs)(k:κ):RelO (valV kvs k) (valueAt vs k):=by
 unfold KV at r
 induction r with
 | nil=>exact True.intro
 | @cons p q ps qs h t ih=>
  obtain⟨h1,h2⟩:=h
  by_cases e:p.1=k
  .have e':q.1=k:=h1.symm.trans e;have b:valueAt (q::qs) k=some q.2:=by simp[valueAt,lQm,e']
   rw[jYx e,b];exact h2
  .have e':¬ q.1=k:=λz=>e (h1.trans z)
   have b:valueAt (q::qs) k=valueAt qs k:=by simp[valueAt,lQm,e']
   rw[jYy e,b];exact ih
theorem KV.any{kvs:List (κ×V)}{vs:List (κ×Value)}(r:KV kvs vs)(k:κ):(kvs.any λkv=>decide (kv.1=k))=vs.any λkv=>decide (kv.1=k):=by
 unfold KV at r
 induction r with
 | nil=>rfl
 | cons h t ih=>rw[lQ0,lQ0,ih,h.1]
theorem KV.repl{kvs:List (κ×V)}{vs:List (κ×Value)}(r:KV kvs vs)(k:κ)(ry:RelV y u):
  KV (kvs.map λkv=>if kv.1=k then (kv.1,y) else kv) (vs.map λkv=>if kv.1=k then (kv.1,u) else kv):=by
 unfold KV at r ⊢
 induction r with
 | nil=>exact .nil
 | @cons p q ps qs h t ih=>
  rw[lJw,lJw];refine .cons ?_ ih;obtain⟨h1,h2⟩:=h
  by_cases e:p.1=k
  .rw[lJc e,lJc (h1.symm.trans e)];exact⟨h1,ry⟩
  .rw[lJb e,lJb (λz=>e (h1.trans z))];exact⟨h1,h2⟩
theorem KV.put{kvs:List (κ×V)}{vs:List (κ×Value)}(r:KV kvs vs)(k:κ)(ry:RelV y u):KV (putK kvs k y) (stored vs k u):=by
 unfold putK stored;rw[r.any k]
 by_cases e:(vs.any λkv=>decide (kv.1=k))=true
 .rw[lJc e,lJc e];exact r.repl k ry
 .rw[lJb e,lJb e];exact Paired.snoc r ⟨rfl,ry⟩
theorem KV.length{kvs:List (κ×V)}{vs:List (κ×Value)}(r:KV kvs vs):kvs.length=vs.length:=lXl r
end
variable {P:Program}
theorem kXi{k:Key}(r:RelV (kV k) u):(jJ2 P w).is k u=true:=by
 cases k with
 | inl i=>obtain⟨t,e⟩:=(show ∃t,u=Value.int i t from r);subst e;exact jV9 P w i t
 | inr x=>obtain⟨t,e⟩:=(show ∃t,u=Value.str x t from r);subst e;exact kXa P w x t
abbrev KT(H:Hp):List (TKey×V)->List (TKey×Addr×Value)->Prop:=Paired λp q=>p.1=q.1/\TKeyAt H p.1 q.2.1/\RelV p.2 q.2.2
variable {kvs:List (TKey×V)}
theorem KT.val{xs:List (TKey×Addr×Value)}(r:KT H kvs xs)(k:TKey):RelO (valV kvs k) ((atKey xs k).map (·.2)):=by
 induction r with
 | nil=>exact True.intro
 | @cons p q ps qs h t ih=>
  obtain⟨h1,_,h2⟩:=h
  by_cases e:p.1=k
  .have e':q.1=k:=h1.symm.trans e;have b:atKey (q::qs) k=some q.2:=by simp[atKey,lQm,e']
   rw[jYx e,b];exact h2
  .have e':¬ q.1=k:=λz=>e (h1.trans z)
   have b:atKey (q::qs) k=atKey qs k:=by simp[atKey,lQm,e']
   rw[jYy e,b];exact ih
theorem KT.repl{xs:List (TKey×Addr×Value)}(r:KT H kvs xs)(k:TKey)(ry:RelV y u):
  KT H (kvs.map λkv=>if kv.1=k then (kv.1,y) else kv) (xs.map (putAt k u)):=by
 induction r with
 | nil=>exact .nil
 | @cons p q ps qs h t ih=>
  rw[lJw,lJw];refine .cons ?_ ih;obtain⟨h1,h2,h3⟩:=h;unfold putAt
  by_cases e:p.1=k
  .rw[lJc e,lJc (h1.symm.trans e)];exact⟨h1,h2,ry⟩
  .rw[lJb e,lJb (λz=>e (h1.trans z))];exact⟨h1,h2,h3⟩
theorem KT.put{xs:List (TKey×Addr×Value)}(r:KT H kvs xs)(k:TKey)(hb:TKeyAt H k b)(ry:RelV y u):
  KT H (putK kvs k y) (storedH xs k b u):=by
 have e:(kvs.any λkv=>decide (kv.1=k))=(atKey xs k).isSome:=by
  rw[kX5,(r.val k).isSome_eq,lZz]
 unfold putK storedH;rw[e]
 by_cases q:(atKey xs k).isSome=true
 .rw[lJc q,lJc q];exact r.repl k ry
 .rw[lJb q,lJb q];exact Paired.snoc r ⟨rfl,hb,ry⟩
variable {H':Hp}
theorem KT.keeps{xs:List (TKey×Addr×Value)}(r:KT H kvs xs)(ht:∀b ys,H b=some (.tup ys)->H' b=some (.tup ys)):KT H' kvs xs:=
 Paired.mapP r λ_ _ z=>⟨z.1,z.2.1.mono ht,z.2.2⟩
variable {a:Addr}
section
variable {h:Heap}
theorem uUb{u:HO}(ok:HOk P w H h)(e:Rd H a u):ObjOk P w H h a u:=e.ok ok
theorem qY3{kvs:List (Key×V)}(ok:HOk P w H h)(e:Rd H a (.dK kvs)):kvs.length<=sizeLine/\(a == sysModules)=false/\∃vs,KV kvs vs/\h.DictOf (jJ2 P w) a vs:=
 show ObjOk P w H h a (.dK kvs) from uUb ok e
theorem uK5{kvs:List (Key×V)}(ok:HOk P w H h)(e:H a=some (.dK kvs)):kvs.length<=sizeLine/\(a == sysModules)=false/\∃vs,KV kvs vs/\h.DictOf (jJ2 P w) a vs:=qY3 ok (.inl e)
theorem kY6{K:Type}[DecidableEq K]{c:Nat}{T:KeyV P w K c}{R:K->V->Prop}(hR:∀k x u,R k x->RelV x u->T.is h k u):∀{ks:List K}{xs:List V}{us:List Value},Paired R ks xs->Vals xs us->ItemsV T h ks us
 | _,_,_,.nil,.nil=> .nil
 | _,_,_,.cons r t,.cons q z=> .cons (hR _ _ _ r q) (kY6 hR t z)
theorem kVe{K:Type}[DecidableEq K]{c:Nat}{T:KeyV P w K c}{R:K->V->Prop}{ks:List K}(ok:HOk P w H h)(hR:∀k x u,R k x->RelV x u->T.is h k u)(e:H p=some (.tup xs))(r:Paired R ks xs):kJm T h ks (.ref p):=by
 obtain⟨_,its,q,o,h1,h2,n,h3,_⟩:=(show ObjOk P w H h p (.tup xs) from ok p _ e)
 exact⟨p,o,its.toArray,n,rfl,h1,h2,h3,by simpa using kY6 hR r q⟩
theorem uXa(ok:HOk P w H h)(k:K1)(x:V)(u:Value)(r:Rk1 H k x)(q:RelV x u):(vk1 P w).is h k u:=by
 cases k with
 | inl k=>cases (show x=kV k from r);exact kXi (P:=P) (w:=w) q
 | inr ks=>
  obtain⟨p,vs,rfl,e,t⟩:=(show ∃p vs,x= .ref p/\H p=some (.tup vs)/\Paired (λk v=>v=kV k) ks vs from r)
  cases (show u=Value.ref p from q)
  exact kVe (T:=jYq P w) ok (λk x u r q=>by subst r;exact kXi (P:=P) (w:=w) q) e t
theorem uV9(ok:HOk P w H h)(k:K2)(x:V)(u:Value)(r:Rk2 H k x)(q:RelV x u):(vk2 P w).is h k u:=by
 cases k with
 | inl k=>cases (show x=kV k from r);exact kXi (P:=P) (w:=w) q
 | inr ks=>
  obtain⟨p,vs,rfl,e,t⟩:=(show ∃p vs,x= .ref p/\H p=some (.tup vs)/\Paired (Rk1 H) ks vs from r)
  cases (show u=Value.ref p from q)
  exact kVe (T:=vk1 P w) ok (uXa ok) e t
theorem jYn{ks:TKey}(ok:HOk P w H h)(e:TKeyAt H ks a):(jJg P w).is h ks a:=by
 obtain⟨vs,h1,t⟩:=e;exact kVe (T:=vk2 P w) ok (uV9 ok) h1 t
theorem qY1(ok:HOk P w H h)(e:Rd H a (.dT kvs)):kvs.length<=sizeLine/\(a == sysModules)=false/\
  ∃xs,KT H kvs xs/\h.DictOfH (jJg P w) a xs:=by
 obtain⟨z,y,xs,r,o,es,ep,h1,h2,h3,h4,h5⟩:=(show ObjOk P w H h a (.dT kvs) from uUb ok e)
 refine⟨z,y,xs,r,o,es,ep,h1,h2,h3,h4,λx hx=> ?_,h5⟩
 have all:∀{l:List (TKey×V)}{m:List (TKey×Addr×Value)},KT H l m->∀x∈m,(jJg P w).is h x.1 x.2.1:=by
  intro l m q
  induction q with
  | nil=>intro x hx;exact nomatch hx
  | @cons p q ps qs hq t ih=>
   intro x hx
   rcases (lJp.mp hx) with e | hx
   .subst e;exact jYn ok (by rw[<-hq.1];exact hq.2.1)
   .exact ih x hx
 exact all r x hx
theorem uX5(ok:HOk P w H h)(e:H a=some (.dT kvs)):kvs.length<=sizeLine/\(a == sysModules)=false/\
  ∃xs,KT H kvs xs/\h.DictOfH (jJg P w) a xs:=qY1 ok (.inl e)
end
def DGet(H:Hp)(a:Addr)(y:V)(r:Option V):Prop:=
 (∃kvs k,Rd H a (.dK kvs)/\y=kV k/\r=valV kvs k)\/∃kvs k b,Rd H a (.dT kvs)/\y= .ref b/\TKeyAt H k b/\r=valV kvs k
def DPut(H:Hp)(a:Addr)(y v:V)(H':Hp):Prop:=
 (∃kvs k,H a=some (.dK kvs)/\y=kV k/\kvs.length<sizeLine/\H'=upd H a (.dK (putK kvs k v)))\/
 ∃kvs k b,H a=some (.dT kvs)/\y= .ref b/\TKeyAt H k b/\kvs.length<sizeLine/\H'=upd H a (.dT (putK kvs k v))
theorem DGet.k{kvs:List (Key×V)}{k:Key}(e:H a=some (.dK kvs)):DGet H a (kV k) (valV kvs k):= .inl ⟨kvs,k,.inl e,rfl,rfl⟩
theorem DGet.t{k:TKey}(e:H a=some (.dT kvs))(eb:TKeyAt H k b):DGet H a (.ref b) (valV kvs k):= .inr ⟨kvs,k,b,.inl e,rfl,eb,rfl⟩
variable {v:V}
theorem DPut.k{kvs:List (Key×V)}{k:Key}(e:H a=some (.dK kvs))(hl:kvs.length<sizeLine):DPut H a (kV k) v (upd H a (.dK (putK kvs k v))):= .inl ⟨kvs,k,e,rfl,hl,rfl⟩
theorem DPut.t{k:TKey}(e:H a=some (.dT kvs))(eb:TKeyAt H k b)(hl:kvs.length<sizeLine):
  DPut H a (.ref b) v (upd H a (.dT (putK kvs k v))):= .inr ⟨kvs,k,b,e,rfl,eb,hl,rfl⟩
variable {r:Value}{Q:Value->Shared->Prop}{h':Heap}
theorem Inv.big(I:Inv X pins σ H s):sysModules<s.heap.objs.size:=by
 have h:mainGlobals<s.heap.objs.size:=(I.mod.glob.keeps I.bk).lt;exact lYa (by decide) h
theorem qU8(hu:A.units+20<cLine)(I:Inv X pins σ H s)(g:DGet H a y (some v))(ry:RelV y u)(h:∀w' s',Inv X pins σ H s'->RelV v w'->Q w' s'):
  wpAny (model X.prog X.w) A (getItem (.ref a) u) Q E s:=by
 rcases g with ⟨kvs,k,e,ey,l⟩ | ⟨kvs,k,b,e,ey,eb,l⟩
 .subst ey;obtain⟨z,hd,vs,rel,dd⟩:=qY3 I.hok e;obtain⟨w',hw,rw'⟩:=RelO.some_of (v:=v) (o:=valueAt vs k) (by rw[l];exact rel.val k)
  exact wpAny_getItem_of (kXi ry) dd.mapOf hw (h w' _ (I.tok _) rw')
 .subst ey;cases (show u=Value.ref b from ry)
  obtain⟨z,hd,xs,rel,dd⟩:=qY1 I.hok e;obtain⟨w',hw,rw'⟩:=RelO.some_of (v:=v) (o:=(atKey xs k).map (·.2)) (by rw[l];exact rel.val k)
  obtain⟨p,hp,hp2⟩:=lQn.mp hw;refine wpAny_getItem_heap (jQg hu) (jYn I.hok eb) dd hp ?_;rw[hp2];exact h w' _ (I.tok _) rw'
theorem uK8(hu:A.units+20<cLine)(I:Inv X pins σ H s)(g:DGet H a y o)(ry:RelV y u)(h:∀s',Inv X pins σ H s'->Q (.bool (!o.isSome)) s'):
  wpAny (model X.prog X.w) A (compareOp .NotIn u (.ref a)) Q E s:=by
 rcases g with ⟨kvs,k,e,ey,l⟩ | ⟨kvs,k,b,e,ey,eb,l⟩
 .subst ey;obtain⟨z,hd,vs,rel,dd⟩:=qY3 I.hok e;refine wpAny_notIn_of (kXi ry) hd dd.mapOf ?_;rw[<-(rel.val k).isSome_eq,<-l];exact h _ (I.tok _)
 .subst ey;cases (show u=Value.ref b from ry)
  obtain⟨z,hd,xs,rel,dd⟩:=qY1 I.hok e;refine wpAny_notIn_heap (jQg hu) (jYn I.hok eb) hd dd ?_;have q:=(rel.val k).isSome_eq;rw[lZz] at q;rw[<-q,<-l];exact h _ (I.tok _)
theorem kXp{t':Nat}{ob:HO}(I:Inv X pins σ H s)(mu:Mut (H a))(hs:Heap.SameBut a s.heap h')(he:∃q,h'.get? a=some q)(new:ObjOk X.prog X.w (upd H a ob) h' a ob):
  Inv X pins σ (upd H a ob) {s with heap:=h',toks:=t'}:=
 I.write (x:=a) (e:=a) mu (.inl rfl) (λb q hb z=>(hs.2 b hb).trans z) he new
theorem qZ6{kvs:List (Key×V)}{vs:List (Key×Value)}(z:kvs.length<=sizeLine)(hd:(a == sysModules)=false)(rel:KV kvs vs)(dd:h'.DictOf (jJ2 P w) a vs):
  ObjOk P w H' h' a (.dK kvs):=⟨z,hd,vs,rel,dd⟩
theorem kUv{Q:Unit->Shared->Prop}(hu:A.units+20<cLine)(I:Inv X pins σ H s)(g:DPut H a y v H')(ry:RelV y u)(rv:RelV v r)(h:∀s',Inv X pins σ H' s'->Q () s'):
  wpAny (model X.prog X.w) A (setItem (.ref a) u r) Q E s:=by
 rcases g with ⟨kvs,k,e,ey,l,eH⟩ | ⟨kvs,k,b,e,ey,eb,l,eH⟩
 .subst ey eH;obtain⟨z,hd,vs,rel,dd⟩:=uK5 I.hok e;have hz:vs.length<=sizeLine:=by rw[<-rel.length];exact z
  have hl:(putK kvs k v).length<=sizeLine:=by have:=jZ3 kvs k v;omega
  refine wpAny_setItem_pairs (hsz:=hz) (kXi ry) dd λh' dd' hs=>h _ ?_
  have he:∃q,h'.get? a=some q:=let ⟨q,_,_,hq,_⟩:=dd';⟨q,hq⟩
  exact kXp I (by rw[e];exact True.intro) hs he (qZ6 hl hd (rel.put k rv) dd')
 .subst ey eH;cases (show u=Value.ref b from ry)
  obtain⟨z,hd,xs,rel,dd⟩:=uX5 I.hok e;have hz:xs.length<=sizeLine:=by rw[<-lXl rel];exact z
  have hl:(putK kvs k v).length<=sizeLine:=by have:=jZ3 kvs k v;omega
  refine wpAny_setItem_heap (hsz:=hz) (jQg hu) (jYn I.hok eb) dd λh' dd' hs=>h _ ?_
  obtain⟨q,es,ep,hq,h2,h3,h4,_,h5⟩:=dd';refine kXp I (by rw[e];exact True.intro) hs ⟨q,hq⟩ ⟨hl,hd,_,(rel.put k eb rv).keeps λc ys ec=> ?_,q,es,ep,hq,h2,h3,h4,h5⟩
  rw[jKd (uXo ec e (λz=>nomatch z))]
  exact ec
section
variable {kvs:List (Key×V)}{k:Key}
end
theorem kXo(I:Inv X pins σ H s)(g:DGet H a y o):s.TypeIs (.ref a) "dict":=by
 rcases g with ⟨kvs,k,e,_,_⟩ | ⟨kvs,k,b,e,_,_,_⟩
 .obtain⟨_,_,vs,_,dd⟩:=qY3 I.hok e;exact dd.typeIs
 .obtain⟨_,_,xs,_,dd⟩:=qY1 I.hok e;exact dd.typeIs
variable {ty:TE}
section
variable {o i value:Expr}{pos' tpos:Pos}{td tv:TE}
end
theorem kZm(h:Heap)(hb:sysModules<h.objs.size):ObjOk P w H (h.push {cls:= .type "dict",data:= .dict #[]}) h.objs.size (.dK []):=
 ⟨lJn _,beq_eq_false_iff_ne.mpr (Ne.symm (lJt hb)),[],.nil,Heap.DictOf.new h⟩
theorem qY2(h:Heap)(hb:sysModules<h.objs.size):ObjOk P w H (h.push {cls:= .type "dict",data:= .dict #[]}) h.objs.size (.dT []):=
 ⟨lJn _,beq_eq_false_iff_ne.mpr (Ne.symm (lJt hb)),[],.nil,_,#[],0,lJ8 _ rfl,⟨rfl,rfl,rfl⟩,rfl,rfl,lXr⟩
def uQ1:TE:=λ_ H Q=>∀p,H p=none->Q (.ref p) (upd H p (.dK []))
def uQ0:TE:=λ_ H Q=>∀p,H p=none->Q (.ref p) (upd H p (.dT []))
theorem qXt:PE X (.Dict [] [] pos) uQ1:=λpins s σ H Q I h=>
 wpAny_Dict_empty ⟨.ref s.heap.objs.size,_,I.laid (a:=s.heap.objs.size) (o:= .dK []) (t':=s.toks) (λ_ _ q=>lJm _ q) (lJh _) (kZm s.heap I.big),rfl,h _ (I.hok.fresh (lJh _))⟩
theorem qXs:PE X (.Dict [] [] pos) uQ0:=λpins s σ H Q I h=>
 wpAny_Dict_empty ⟨.ref s.heap.objs.size,_,I.laid (a:=s.heap.objs.size) (o:= .dT []) (t':=s.toks) (λ_ _ q=>lJm _ q) (lJh _) (qY2 s.heap I.big),rfl,h _ (I.hok.fresh (lJh _))⟩
abbrev VV:List (V×V)->List (Value×Value)->Prop:=Paired λp q=>RelV p.1 q.1/\RelV p.2 q.2
noncomputable def uU3(kvs more:List (Key×V)):List (Key×V):=more.foldl (λacc kv=>putK acc kv.1 kv.2) kvs
theorem KV.merge:∀{more:List (Key×V)}{rs:List (Key×Value)}{kvs:List (Key×V)}{vs:List (Key×Value)},KV more rs->KV kvs vs->KV (uU3 kvs more) (merged vs rs):=by
 intro more rs kvs vs r;unfold KV at r
 induction r generalizing kvs vs with
 | nil=>intro q;exact q
 | @cons p q ps qs h t ih=>
  intro r0
  have e:KV (putK kvs p.1 p.2) (stored vs q.1 q.2):=by
   have:=r0.put p.1 h.2;rw[<-h.1];exact this
  exact ih e
theorem kKn{P:Program}{w:World}:∀{kvs:List (Key×V)}{ws:List (Value×Value)},VV (kvs.map λkv=>(kV kv.1,kv.2)) ws->∃rs,Carries (jJ2 P w) ws rs/\KV kvs rs
 | [],_,r=>by rw[List.map_nil] at r;cases r;exact⟨[],True.intro,.nil⟩
 | p::kvs,_,r=>by
  rw[lJw] at r;cases r with
  | @cons a b as bs h t=>
   obtain⟨rs,c,q⟩:=kKn (P:=P) (w:=w) t;obtain⟨b1,b2⟩:=b;exact⟨(p.1,b2)::rs,⟨kXi h.1,rfl,c⟩,.cons ⟨rfl,h.2⟩ q⟩
section
variable {d:V}
end
section
variable {o f:Expr}{td tx:TE}
end
section
variable {kvs:List (Key×V)}
end
end L2
namespace Att
open PySem PySem.W PySem.Calls PyProof.Rows
variable {P:Params}{h:Heap}
theorem jZ6:∀(ns:List Int)(vs:List Value),WellAll P h vs (ns.map WData.int)->IntsAre vs ns:=by
 intro ns
 induction ns with
 | nil=>
  intro vs w;rw[List.map_nil] at w;cases w;exact .nil
 | cons n ns ih=>
  intro vs w;rw[lJw] at w;cases w with
  | cons a b=>
   cases a;exact .cons _ _ (ih _ b)
variable {l:OpenLaw}{n:Nat}
theorem qKu(hn:l.most=some n){args:List WData}{vals:List Value}(hpre:l.row.toRowW.claim.pre args=true)(hwl:WellAll P h vals args):
  ∃a vs ns,vals=[Value.ref a]/\args=[WData.list (ns.map WData.int)]/\h.get? a=some {cls:= .type "list",data:= .seq vs.toArray}/\IntsAre vs ns/\ns.length<=n:=by
 have hsh:WShape.hasAll [] args [.list .int]=true:=(pre_splitW hpre).1;have hc:l.pre.holds [] {args:=args}=true:=(pre_splitW hpre).2;obtain⟨d,r,rfl,h1,h2⟩:=hasAllW_cons hsh;obtain rfl:=hasAllW_nil h2;obtain⟨xs,rfl,h3⟩:=hasW_list h1;obtain⟨ns,rfl⟩:=items_int h3
 have hlen:ns.length<=n:=by
  unfold OpenLaw.pre at hc
  have h4:(WTm.not (.lt (.lit (.int (n:Int))) (.len (.arg 0)))).holds [] {args:=[.list (ns.map .int)]}=true:=by
   have h4:=(holds_andW hc).1;rw[hn] at h4;exact h4
  have h5:=condW_of h4 (w_not (w_lt w_lit (w_len_list (w_arg rfl))));rw[lJe] at h5;refine Nat.le_of_not_lt λq=> ?_
  have q':(n:Int)<((ns.length:Nat):Int):=by omega
  first
   | (rw[lJ9 q'] at h5;exact absurd h5 (by decide))
   | (simp at h5;omega)
 cases hwl with
 | cons w1 w2=>
  cases w2;cases w1 with
  | list ho hall=>exact⟨_,_,ns,rfl,rfl,ho,jZ6 ns _ hall,hlen⟩
theorem qQh(l:OpenLaw)(args:List WData):l.row.toRowW.claim.post args (.bool true) args=true:=
 postW_of (r:=l.row.toRowW) (X:=(true == true))
  (show WShape.has [] (.bool true) .bool=true by first | rfl | decide | simp[WShape.has,WShape.arms,WShape.armsAll])
  (show (WTm.eq .res (.lit (.bool true))).value [] {args:=args,res:=some (.bool true),after:=args}=some (.bool (true == true)) from w_eq_bool (w_res rfl) w_lit) rfl
theorem attach_call{q:Program}{loose:List Str}{XP:(Str->Option Value)->Heap->Prop}{YP:World->Heap->Prop}{d:DefRec}(hn:l.most=some n)(hdf:d.params.defaults=[])(call:∀(w:World)(s₀ s₁:Shared)(mg mb:Str->Option Value)(fa:Addr)(o:Obj)(pm cd doc:Value)(a:Addr)(vs:List Value)(ns:List Int),
   Ground q loose [] XP w s₀ mg mb s₁.heap->YP w s₁.heap->
   s₁.heap.get? fa=some o->o.data= .func (docDef d.name d.params d.body d.scope pm cd doc)->s₁.heap.CodeRec cd d.name->mg d.name=some (.ref fa)->
   s₁.heap.get? a=some {cls:= .type "list",data:= .seq vs.toArray}->IntsAre vs ns->ns.length<=n->s₁.gens= #[]->
   codeAny (model l.prog w) callerA (.call (.ref fa) ⟨[.ref a],[]⟩) (λr s'=>r= .ok (.ret (.bool true))/\OldK s₁.heap s'.heap/\s'.os=s₁.os/\AllBare s'.gens) s₁):
  WalkO q loose XP YP l.row.toRowW d [] (λf vs=>PySem.call f vs):=by
 intro w s₀ s₁ mg mb G Y fa o pm cd doc dV kV ho hd hcd hD hmg hg args vals as hpre hlay hrd hwl hlo;obtain rfl:dV= .none:=Dflts.none hD hdf;obtain rfl:kV= .none:=Dflts.noKw hD;obtain⟨a,vs,ns,rfl,rfl,hobj,hints,hlen⟩:=qKu hn hpre hwl;refine enter_call (lYr (call w s₀ s₁ mg mb fa o pm cd doc a vs ns G Y ho (fd_plain hd) hcd hmg hobj hints hlen hg) λr s' hq=> ?_)
 obtain⟨rfl,h2,h3,h4⟩:=hq;exact⟨.inl ⟨.bool true,.bool true,[],rfl,λ_=>rfl,.bool true,qQh l _,λ_=>⟨List.Pairwise.nil,λ_ hm=>(nomatch hm)⟩⟩,h2,h3,h4⟩
section
variable {prog:Program}{w:World}{A:Around}{E:Value->Shared->Prop}{s:Shared}{K:Frag}
end
end Att
namespace L2
open PySem PySem.Spec PyProof.Rows
theorem jU5:∀{vs:List Value}{ns:List Int},IntsAre vs ns->Vals (ns.map V.int) vs
 | _,_,.nil=> .nil
 | _,_,.cons n t h=> .cons ⟨t,rfl⟩ (jU5 h)
def Only(H:Hp):Prop:=∀b,H b=none\/∃o xs,H b=some (.frz o (.lst xs))
variable {P:Program}{w:World}{K:PySem.W.Frag}{mg:Str->Option Value}{fd:FuncData}{x:Str}{sp:Sp}
theorem qX8{mb:Str->Option Value}{CX:CXT}{k:Nat}{fa a:Addr}{s₁:Shared}{vs:List Value}{ns:List Int}(KX:K.In s₁.heap)(hns:s₁.heap.Ns mainGlobals mg)(hb:s₁.heap.Ns builtinsNs mb)(hbb:∀x:Str,x≠"__name__"->mb x=bootBuiltins x)(hlim:s₁.heap.NoLimit)(hg:s₁.gens= #[])(ha:s₁.heap.get? a=some {cls:= .type "list",data:= .seq vs.toArray})(hi:IntsAre vs ns)(hl:ns.length<=sizeLine)(hr:Room k callerA)(F:∀base:Heap,K.In base->base.Ns mainGlobals mg->FnOk P w K mg base CX k fa fd [x] sp)(hbind:∀(s:Shared)(u:Value),BindsTo s fd ⟨[u],[]⟩ [(x,u)])(hsp:∀H:Hp,Only H->SqL K H a (ns.map V.int)->sp [.ref a] H (λv _=>v= .bl true) λ_ _ _=>False)(hCX:∀H e s',CX [] H s₁ (λ_ _ _=>False) e s'->False):
  codeAny (model P w) callerA (.call (.ref fa) ⟨[.ref a],[]⟩) (λr s'=>r= .ok (.ret (.bool true))/\OldK s₁.heap s'.heap/\s'.os=s₁.os/\AllBare s'.gens) s₁:=by
 have rv:=jU5 hi;have lenV:=hi.length
 have core:∀H:Hp,Only H->SqL K H a (ns.map V.int)->HOk P w H s₁.heap->(∀b,H b≠none->b=a)->(H a≠none->K.lookup a=none)->
   codeAny (model P w) callerA (.call (.ref fa) ⟨[.ref a],[]⟩) (λr s'=>r= .ok (.ret (.bool true))/\OldK s₁.heap s'.heap/\s'.os=s₁.os/\AllBare s'.gens) s₁:=by
  intro H hO hS hok hA hK;have base_of:∀{b:Addr}{o:Obj},s₁.heap.get? b=some o->H b=none->(hidT s₁.heap H).get? b=some o:=λe n=>qYq e n
  have noA:∀{b:Addr}{o:Obj}{es:Array DictEntry}{ep:Nat},s₁.heap.get? b=some o->o.data= .dict es ep->H b=none:=λ{b o es ep} e d=>by
   cases q:H b with
   | none=>rfl
   | some u=>
    have e':b=a:=hA b (by rw[q];simp)
    subst e';rw[ha] at e;cases e;have d':Data.seq vs.toArray _=Data.dict es ep:=d;cases d'
  have nsK:∀{b:Addr}{m:Str->Option Value},s₁.heap.Ns b m->(hidT s₁.heap H).Ns b m:=λ{b m} ⟨o,es,ep,e,d,r⟩=>⟨o,es,ep,base_of e (noA e d),d,r⟩
  have hKb:K.In (hidT s₁.heap H):=λb o e=>base_of (KX b o e) (by
   cases q:H b with
   | none=>rfl
   | some u=>
    have e':b=a:=hA b (by rw[q];simp)
    subst e';rw[hK (by rw[q];simp)] at e;cases e)
  have hM:Mod K mg (hidT s₁.heap H):=⟨hKb,nsK hns,⟨mb,nsK hb,hbb⟩,let ⟨mc,h1,h2⟩:=hlim;⟨mc,nsK h1,h2⟩⟩
  have e0:Env0 P w K mg (hidT s₁.heap H) callerA [] s₁ H:=⟨rfl,hM,λb o e=>uJ7 e,Nat.le_of_eq (qUe _ _),trivial,λb hb=>absurd (show b∈([]:List Addr) from hb) (by simp),hok,.of_eq hg⟩
  refine lYr ((F _ hKb (nsK hns)).run callerA [] s₁ H ⟨[.ref a],[]⟩ [.ref a] [.ref a] _ _ hr e0 (hbind s₁ (.ref a)) (.cons rfl .nil) (hsp H hO hS)) λr s' h=> ?_
  cases r with
  | error e=>exact (hCX H e s' h).elim
  | ok fl=>
   cases fl with
   | next=>exact False.elim h
   | brk=>exact False.elim h
   | cont=>exact False.elim h
   | ret u=>
    obtain⟨v,H',os,bare,un,hok',r',q⟩:=h;have q':v= .bl true:=q;subst q';obtain rfl:u=Value.bool true:=r';refine⟨rfl,OldK.of_keep λb o e=> ?_,os,bare⟩
    cases q:H b with
    | none=>exact un.keep b o e q (by intro z;exact absurd (show b∈([]:List Addr) from z) (by simp)) (by simp)
    | some u=>
     rcases hO b with z | ⟨ob,xs,z⟩
     .rw[q] at z;cases z
     .have z2:=un.frzs b ob _ z;obtain⟨e1,_⟩:=hok b _ z;obtain⟨e2,_⟩:=hok' b _ z2;rw[e] at e1;cases e1;exact e2
 cases hk:K.lookup a with
 | some o=>
  have e:=KX a o hk;rw[ha] at e;cases e;refine core (λ_=>none) (λ_=> .inl rfl) (.inr ⟨_,vs.toArray,_,hk,rfl,rfl,rfl,by rw[lJr,lenV];exact hl,by simpa using rv⟩) (λb u z=>by have z':(none:Option HO)=some u:=z;cases z') (λb z=>absurd rfl z) λz=>absurd rfl z
 | none=>
  refine core (λb=>if b=a then some (.frz {cls:= .type "list",data:= .seq vs.toArray} (.lst (ns.map V.int))) else none) (λb=> ?_) (.inl (.inr ⟨{cls:= .type "list",data:= .seq vs.toArray},lJc rfl⟩)) (λb u z=> ?_) (λb z=> ?_) λ_=>hk
  .by_cases hb:b=a
   .exact .inr ⟨_,_,lJc hb⟩
   .exact .inl (lJb hb)
  .by_cases hb:b=a
   .have z':=(lJc hb).symm.trans z;cases z';subst hb;exact⟨ha,by rw[lJe];exact hl,vs,_,rv,ha⟩
   .have z':=(lJb hb).symm.trans z;cases z'
  .by_cases hb:b=a
   .exact hb
   .exact absurd (lJb hb) z
theorem walk_of{l:PySem.W.OpenLaw}{n k:Nat}{q:Program}{loose:List Str}{XP:(Str->Option Value)->Heap->Prop}{YP:World->Heap->Prop}{d:DefRec}{K:Params->PySem.W.Frag}{CX:World->CXT}{sp:World->Sp}(hn:l.most=some n)(hn2:n<=sizeLine)(hdf:d.params.defaults=[])(hr:Room k callerA)(hY:∀(w:World)(h:Heap),YP w h->(K w.params).In h)(F:∀(w:World)(mg:Str->Option Value)(fa:Addr)(h:Heap),(K w.params).In h->h.Ns mainGlobals mg->mg d.name=some (.ref fa)->
   ∃fd:FuncData,(∀(s:Shared)(u:Value),BindsTo s fd ⟨[u],[]⟩ [(x,u)])/\
    ∀base:Heap,(K w.params).In base->base.Ns mainGlobals mg->FnOk l.prog w (K w.params) mg base (CX w) k fa fd [x] (sp w))(hsp:∀(w:World)(H:Hp)(a:Addr)(ns:List Int),ns.length<=n->Only H->SqL (K w.params) H a (ns.map V.int)->sp w [.ref a] H (λv _=>v= .bl true) λ_ _ _=>False)(hCX:∀(w:World)(H:Hp)(s:Shared)(e:Value)(s':Shared),CX w [] H s (λ_ _ _=>False) e s'->False):
  PySem.W.WalkO q loose XP YP l.row.toRowW d [] (λf vs=>PySem.call f vs):=by
 refine Att.attach_call hn hdf λw s₀ s₁ mg mb fa o pm cd doc a vs ns G Y ho hd hcd hmg hobj hints hlen hg=> ?_
 have KX:=hY w _ Y;obtain⟨fd,hb,hF⟩:=F w mg fa _ KX G.T.g hmg;exact qX8 KX G.T.g G.T.b G.T.builtins G.T.nolimit hg hobj hints (lKx hlen hn2) hr hF hb (λH hO hS=>hsp w H a ns hlen hO hS) λH e s'=>hCX w H s₁ e s'
noncomputable def jYk(s:Stmt):Arguments:=match s with
 | .FunctionDef _ a _ _ _ _ _ _ _ _=>a
 | _=>{posonlyargs:=[],args:=[],vararg:=none,kwonlyargs:=[],kw_defaults:=[],kwarg:=none,defaults:=[]}
noncomputable def jUy(s:Stmt):List Stmt:=match s with
 | .FunctionDef _ _ b _ _ _ _ _ _ _=>b
 | _=>[]
noncomputable def jKa(s:Stmt):Scope:=match s with
 | .FunctionDef _ _ _ _ _ _ sc _ _ _=>sc
 | _=>{kind:= .function,names:=[],isGenerator:=false,isCoroutine:=false}
abbrev CX0:CXT:=λ_ _ _ _ _ _=>False
abbrev E0:XK:=λ_ _ _=>False
variable {X:Cx}
theorem uXd:uJa CX0 X E0:=λ_ _ _ _ _ _ _ h=>h.elim
structure Fun (K:PySem.W.Frag) (x qual:Str) (st:Stmt) (f:Addr) (fd:FuncData):Prop where
 ex:∃(oc:Value)(od:Option Addr)(kV doc pm:Value)(an:Option Addr)(cdv ct:Value)(osl:Array (Option Value)),
  fd=PySem.W.fnOf x qual (jYk st) (jUy st) (jKa st) .none kV doc pm an cdv ct/\K.lookup f=some ⟨oc,od,.func fd,osl⟩/\PySem.W.codeIn K cdv qual=true
 kp:PySem.W.keepIn K (.ref f)=true
variable {qual:Str}{st:Stmt}{f:Addr}{ps:List Str}
section
variable {base:Heap}
theorem Fun.ok{N:List Str}{k:Nat}(F:Fun K x qual st f fd)(S:FnScope N ps (jKa st))(len:∀vs H Q E,sp vs H Q E->vs.length=ps.length)(hbody:∀(cdv:Value)(A:Around)(outer:List Env)(s:Shared)(H:Hp)(vs:List V)(Q:VK)(E:XK),Room k (A.deeper (envOfC qual (jKa st) s.heap.objs.size f cdv))->sp vs H Q E->
   ∃t,PSs (cxOf CX0 P w K mg base N qual (jKa st) f cdv A outer s H E).nox (jUy st) t/\t {nx:=λ_ H'=>Q .non H',rt:=Q} (start N vs) H):FnOk P w K mg base CX0 (k+1) f fd ps sp:=by
 obtain⟨oc,od,kV,doc,pm,an,cdv,ct,osl,rfl,lk,hcd⟩:=F.ex;refine uXw lk hcd S len λA outer s H vs Q E hr hsp=> ?_
 obtain⟨t,h,q⟩:=hbody cdv A outer s H vs Q E hr hsp;exact⟨t,h.nox,q⟩
theorem Fun.binds(F:Fun K x qual st f fd)(h:∀(kV doc pm:Value)(an:Option Addr)(cdv ct:Value)(us:List Value),us.length=ps.length->bindArgs (PySem.W.fnOf x qual (jYk st) (jUy st) (jKa st) .none kV doc pm an cdv ct) ⟨us,[]⟩=pure (ps.zip us)):Binds K fd ps []:=by
 obtain⟨oc,od,kV,doc,pm,an,cdv,ct,osl,rfl,lk,hcd⟩:=F.ex;exact .all (h kV doc pm an cdv ct)
theorem uVh{oc:Value}{od an:Option Addr}{osl:Array (Option Value)}{kV doc pm cdv ct:Value}(l:K.lookup f=some ⟨oc,od,.func (PySem.W.fnOf x qual (jYk st) (jUy st) (jKa st) .none kV doc pm an cdv ct),osl⟩)(c:PySem.W.codeIn K cdv qual=true)(k:PySem.W.keepIn K (.ref f)=true):Fun K x qual st f (PySem.W.fnOf x qual (jYk st) (jUy st) (jKa st) .none kV doc pm an cdv ct):=⟨⟨oc,od,kV,doc,pm,an,cdv,ct,osl,rfl,l,c⟩,k⟩
end
theorem uVg{A:Around}{k:Nat}(hr:Room k A):A.units+20<cLine:=Nat.lt_of_le_of_lt (Nat.add_le_add_left (by decide:20<=64) _) hr.units
end L2
set_option Elab.async false
set_option linter.all false
set_option maxRecDepth 100000
set_option maxHeartbeats 5000000
namespace L3
open PySem PySem.Spec PyProof.Rows L2
inductive T where
 | non | bl (b:Bool) | int (i:Int) | str (x:Str) | tup (xs:List T) | scr (xs:List T) | ref (a:Addr) | ty (n:String)
structure Ext (H H':Hp):Prop where
 tup:∀b xs,H b=some (.tup xs)->H' b=some (.tup xs)
 frz:∀b ob u,H b=some (.frz ob u)->H' b=some (.frz ob u)
theorem Ext.refl(H:Hp):Ext H H:=⟨λ_ _ h=>h,λ_ _ _ h=>h⟩
variable {H H1:Hp}
theorem Ext.trans{H2:Hp}(a:Ext H H1)(b:Ext H1 H2):Ext H H2:=⟨λc o h=>b.tup c o (a.tup c o h),λc o u h=>b.frz c o u (a.frz c o u h)⟩
def FrL(K:PySem.W.Frag)(H:Hp)(a:Addr)(xs:List V):Prop:=
 (∃ob,H a=some (.frz ob (.lst xs)))\/
  ∃(o:Obj)(its:Array Value)(n:Nat),K.lookup a=some o/\o.cls= .type "list"/\o.dict=none/\o.data= .seq its n/\its.size<=sizeLine/\Vals xs its.toList
variable {K:PySem.W.Frag}
theorem FrL.sq{a:Addr}{xs:List V}(h:FrL K H a xs):SqL K H a xs:=by
 rcases h with ⟨ob,h⟩ | h
 .exact .inl (.inr ⟨ob,h⟩)
 .exact .inr h
variable {H':Hp}
theorem FrL.mono{a:Addr}{xs:List V}(e:Ext H H')(h:FrL K H a xs):FrL K H' a xs:=by
 rcases h with ⟨ob,h⟩ | h
 .exact .inl ⟨ob,e.frz _ _ _ h⟩
 .exact .inr h
mutual
noncomputable def Rep(K:PySem.W.Frag)(H:Hp):T->V->Prop
 | .non,v=>v= .non
 | .bl b,v=>v= .bl b
 | .int i,v=>v= .int i
 | .str x,v=>v= .str x
 | .ref a,v=>v= .ref a
 | .ty n,v=>v= .ty n
 | .tup xs,v=>∃a vs,v= .ref a/\H a=some (.tup vs)/\Reps K H xs vs
 | .scr xs,v=>∃a vs,v= .ref a/\FrL K H a vs/\Reps K H xs vs
noncomputable def Reps(K:PySem.W.Frag)(H:Hp):List T->List V->Prop
 | [],vs=>vs=[]
 | x::xs,vs=>∃v ws,vs=v::ws/\Rep K H x v/\Reps K H xs ws
end
mutual
theorem Rep.mono{K:PySem.W.Frag}{H H':Hp}(e:Ext H H'):∀(x:T){v:V},Rep K H x v->Rep K H' x v
 | .non,_,h=>h
 | .bl _,_,h=>h
 | .int _,_,h=>h
 | .str _,_,h=>h
 | .ref _,_,h=>h
 | .ty _,_,h=>h
 | .tup xs,_,⟨a,vs,r1,r2,r3⟩=>⟨a,vs,r1,e.tup _ _ r2,Reps.mono e xs r3⟩
 | .scr xs,_,⟨a,vs,r1,r2,r3⟩=>⟨a,vs,r1,r2.mono e,Reps.mono e xs r3⟩
theorem Reps.mono{K:PySem.W.Frag}{H H':Hp}(e:Ext H H'):∀(xs:List T){vs:List V},Reps K H xs vs->Reps K H' xs vs
 | [],_,h=>h
 | x::xs,_,⟨v,ws,r1,r2,r3⟩=>⟨v,ws,r1,Rep.mono e x r2,Reps.mono e xs r3⟩
end
variable {x:T}{v:V}{xs:List T}{vs:List V}
theorem Reps.length:∀{xs:List T}{vs:List V},Reps K H xs vs->xs.length=vs.length
 | [],_,h=>by cases h;rfl
 | _::_,_,⟨_,_,r1,_,r3⟩=>by subst r1;simp[Reps.length r3]
theorem Reps.get:∀{xs:List T}{vs:List V}{i:Nat}{x:T},Reps K H xs vs->xs[i]? =some x->∃v,vs[i]? =some v/\Rep K H x v
 | [],_,_,_,_,e=>by simp at e
 | y::ys,_,0,x,⟨v,ws,r1,r2,r3⟩,e=>by subst r1;simp at e;subst e;exact⟨v,rfl,r2⟩
 | y::ys,_,i+1,x,⟨v,ws,r1,r2,r3⟩,e=>by subst r1;simpa using Reps.get r3 (by simpa using e)
theorem Reps.get':∀{xs:List T}{vs:List V}{i:Nat}{v:V},Reps K H xs vs->vs[i]? =some v->∃x,xs[i]? =some x/\Rep K H x v
 | [],_,_,_,h,e=>by cases h;simp at e
 | y::ys,_,0,x,⟨v,ws,r1,r2,r3⟩,e=>by subst r1;simp at e;subst e;exact⟨y,rfl,r2⟩
 | y::ys,_,i+1,x,⟨v,ws,r1,r2,r3⟩,e=>by subst r1;simpa using Reps.get' r3 (by simpa using e)
theorem Reps.append:∀{xs ys:List T}{vs ws:List V},Reps K H xs vs->Reps K H ys ws->Reps K H (xs++ys) (vs++ws)
 | [],_,_,_,h,h2=>by cases h;exact h2
 | _::_,_,_,_,⟨v,ws,r1,r2,r3⟩,h2=>by subst r1;exact⟨v,_,rfl,r2,Reps.append r3 h2⟩
theorem Reps.one(r:Rep K H x v):Reps K H [x] [v]:=⟨v,[],rfl,r,rfl⟩
theorem Reps.set{x:T}{v:V}(r:Rep K H x v):∀{xs:List T}{vs:List V}(i:Nat),Reps K H xs vs->Reps K H (xs.set i x) (vs.set i v)
 | [],_,_,e=>by cases e;rfl
 | _::_,_,0,⟨_,ws,r1,r2,r3⟩=>by subst r1;exact⟨v,ws,rfl,r,r3⟩
 | _::_,_,i+1,⟨u,ws,r1,r2,r3⟩=>by subst r1;exact⟨u,_,rfl,r2,Reps.set r i r3⟩
theorem Reps.take:∀{xs:List T}{vs:List V}(n:Nat),Reps K H xs vs->Reps K H (xs.take n) (vs.take n)
 | _,_,0,_=>by simp[Reps]
 | [],_,_+1,h=>by cases h;simp[Reps]
 | _::_,_,n+1,⟨u,ws,r1,r2,r3⟩=>by subst r1;exact⟨u,_,rfl,r2,Reps.take n r3⟩
theorem Reps.drop:∀{xs:List T}{vs:List V}(n:Nat),Reps K H xs vs->Reps K H (xs.drop n) (vs.drop n)
 | _,_,0,h=>h
 | [],_,_+1,h=>by cases h;simp[Reps]
 | _::_,_,n+1,⟨u,ws,r1,r2,r3⟩=>by subst r1;exact Reps.drop n r3
theorem Reps.reverse:∀{xs:List T}{vs:List V},Reps K H xs vs->Reps K H xs.reverse vs.reverse
 | [],_,h=>by cases h;simp[Reps]
 | _::_,_,⟨u,ws,r1,r2,r3⟩=>by
  subst r1;rw[lX8,lX8];exact (Reps.reverse r3).append ⟨u,[],rfl,r2,rfl⟩
theorem Reps.rep{xs:List T}{vs:List V}(r:Reps K H xs vs):∀n:Nat,Reps K H (List.replicate n xs).flatten (List.replicate n vs).flatten
 | 0=>by simp[Reps]
 | n+1=>by simpa[lVi] using r.append (Reps.rep r n)
theorem Reps.atI{i:Int}(r:Reps K H xs vs)(h:atI xs i=some x):∃v,atI vs i=some v/\Rep K H x v:=by
 unfold L2.atI at h ⊢;rw[<-r.length];cases e:ixN xs.length i with
 | none=>rw[e] at h;cases h
 | some j=>rw[e] at h;exact r.get h
inductive GO where
 | lst (xs:List T) | dct (kvs:List (TKey×T)) | dck (kvs:List (Key×T)) | fdc (kvs:List (TKey×T)) | ins (cn:Str) (fs:List (Str×T))
abbrev Gp:=Addr->Option GO
noncomputable def gup(G:Gp)(a:Addr)(o:GO):Gp:=λb=>if b=a then some o else G b
variable {G:Gp}{o:GO}
theorem jJh{a:Addr}:gup G a o a=some o:=by simp[gup]
theorem jJq{a b:Addr}(h:b≠a):gup G a o b=G b:=by simp[gup,h]
theorem qUg{a:Addr}{o':GO}:gup (gup G a o) a o'=gup G a o':=by funext b;by_cases h:b=a<;>simp[gup,h]
noncomputable def asL:Option GO->Option (List T)
 | some (.lst xs)=>some xs
 | _=>none
noncomputable def seqT(G:Gp):T->Option (List T)
 | .tup xs=>some xs
 | .scr xs=>some xs
 | .ref a=>asL (G a)
 | _=>none
def PKV{κ:Type}(K:PySem.W.Frag)(H:Hp):List (κ×T)->List (κ×V)->Prop:=Paired λp q=>p.1=q.1/\Rep K H p.2 q.2
noncomputable def GOk(K:PySem.W.Frag)(H:Hp)(a:Addr):GO->Prop
 | .lst xs=>∃vs,H a=some (.lst vs)/\Reps K H xs vs
 | .dct kvs=>∃ws,H a=some (.dT ws)/\PKV K H kvs ws
 | .dck kvs=>∃ws,H a=some (.dK ws)/\PKV K H kvs ws
 | .fdc kvs=>∃ob ws,H a=some (.frz ob (.dT ws))/\PKV K H kvs ws
 | .ins cn fs=>∃C dx ws,H a=some (.ins C dx ws)/\PySem.W.nsIn K mainGlobals cn=some (some (.ref C))/\PKV K H fs ws
def GRel(K:PySem.W.Frag)(H:Hp)(G:Gp):Prop:=∀a o,G a=some o->GOk K H a o
section
variable {a:Addr}
theorem PKV.mono{κ:Type}{kvs:List (κ×T)}{ws:List (κ×V)}(e:Ext H H')(h:PKV K H kvs ws):PKV K H' kvs ws:=Paired.mapP h λ_ _ z=>⟨z.1,Rep.mono e _ z.2⟩
theorem GOk.move(h:GOk K H a o)(e:Ext H H')(ha:H' a=H a):GOk K H' a o:=by
 cases o with
 | lst xs=>obtain⟨vs,h1,h2⟩:=h;exact⟨vs,ha.trans h1,Reps.mono e _ h2⟩
 | dct kvs=>obtain⟨vs,h1,h2⟩:=h;exact⟨vs,ha.trans h1,h2.mono e⟩
 | dck kvs=>obtain⟨vs,h1,h2⟩:=h;exact⟨vs,ha.trans h1,h2.mono e⟩
 | fdc kvs=>obtain⟨ob,vs,h1,h2⟩:=h;exact⟨ob,vs,ha.trans h1,h2.mono e⟩
 | ins cn fs=>obtain⟨C,dx,ws,h1,h2,h3⟩:=h;exact⟨C,dx,ws,ha.trans h1,h2,h3.mono e⟩
theorem GOk.some(h:GOk K H a o):H a≠none:=by
 cases o with
 | lst xs=>obtain⟨vs,h1,h2⟩:=h;rw[h1];simp
 | dct kvs=>obtain⟨vs,h1,h2⟩:=h;rw[h1];simp
 | dck kvs=>obtain⟨vs,h1,h2⟩:=h;rw[h1];simp
 | fdc kvs=>obtain⟨ob,vs,h1,h2⟩:=h;rw[h1];simp
 | ins cn fs=>obtain⟨C,dx,ws,h1,h2,h3⟩:=h;rw[h1];simp
theorem GRel.fresh(g:GRel K H G)(h:H a=none):G a=none:=by
 cases e:G a with
 | none=>rfl
 | some o=>exact absurd h (g a o e).some
def Soft(o:Option HO):Prop:=o=none\/(∃xs,o=some (.lst xs))\/(∃kvs,o=some (.dK kvs))\/(∃kvs,o=some (.dT kvs))\/∃C dx fs,o=some (.ins C dx fs)
theorem Ext.upd{o:HO}(h:Soft (H a)):Ext H (L2.upd H a o):=by
 refine⟨λb xs e=> ?_,λb ob u e=> ?_⟩
 .rw[jKd];exact e;rintro rfl;rw[e] at h;rcases h with h | ⟨_,h⟩ | ⟨_,h⟩ | ⟨_,h⟩ | ⟨_,_,_,h⟩<;>cases h
 .rw[jKd];exact e;rintro rfl;rw[e] at h;rcases h with h | ⟨_,h⟩ | ⟨_,h⟩ | ⟨_,h⟩ | ⟨_,_,_,h⟩<;>cases h
theorem GRel.upd{o:HO}{go:GO}(g:GRel K H G)(h:Soft (H a))(n:GOk K (L2.upd H a o) a go):GRel K (L2.upd H a o) (gup G a go):=by
 intro b u e
 by_cases hb:b=a
 .subst hb;rw[jJh] at e;cases e;exact n
 .rw[jJq hb] at e;exact (g b u e).move (Ext.upd h) (jKd hb)
theorem Soft.none(h:H a=none):Soft (H a):= .inl h
theorem Soft.lst{xs:List V}(h:H a=some (.lst xs)):Soft (H a):= .inr (.inl ⟨xs,h⟩)
theorem Soft.dT{xs:List (TKey×V)}(h:H a=some (.dT xs)):Soft (H a):= .inr (.inr (.inr (.inl ⟨xs,h⟩)))
theorem Soft.dK{xs:List (Key×V)}(h:H a=some (.dK xs)):Soft (H a):= .inr (.inr (.inl ⟨xs,h⟩))
theorem GRel.tupNew(g:GRel K H G)(h:H a=Option.none):GRel K (L2.upd H a (.tup vs)) G:=by
 intro b u e;have hb:b≠a:=by rintro rfl;exact (g b u e).some h
 exact (g b u e).move (Ext.upd (.none h)) (jKd hb)
theorem Rep.tupNew(r:Reps K H xs vs)(h:H a=Option.none):Rep K (L2.upd H a (.tup vs)) (.tup xs) (.ref a):=
 ⟨a,vs,rfl,jK2,Reps.mono (Ext.upd (.none h)) _ r⟩
theorem GRel.lstNew(g:GRel K H G)(r:Reps K H xs vs)(h:Soft (H a)):GRel K (L2.upd H a (.lst vs)) (gup G a (.lst xs)):=
 g.upd h ⟨vs,jK2,Reps.mono (Ext.upd h) _ r⟩
theorem GRel.lst(g:GRel K H G)(h:G a=some (.lst xs)):∃vs,H a=some (.lst vs)/\Reps K H xs vs:=g a _ h
end
abbrev St3:=List (Option T)
def SRel(K:PySem.W.Frag)(H:Hp)(σ:L2.St)(τ:St3):Prop:=σ.length=τ.length/\∀(i:Nat)(t:T),τ[i]? =some (some t)->∃v,σ[i]? =some (some v)/\Rep K H t v
variable {σ:L2.St}{τ:St3}
theorem SRel.mono(e:Ext H H')(h:SRel K H σ τ):SRel K H' σ τ:=
 ⟨h.1,λi t q=>let ⟨v,h1,h2⟩:=h.2 i t q;⟨v,h1,Rep.mono e _ h2⟩⟩
theorem SRel.set{t:T}(h:SRel K H σ τ)(i:Nat)(r:Rep K H t v):SRel K H (σ.set i (some v)) (τ.set i (some t)):=by
 refine⟨by simp[h.1],λj u q=> ?_⟩
 by_cases hj:i=j
 .subst hj
  have hl:i<τ.length:=by
   rcases lKw i τ.length with z | z
   .exact z
   .rw[lJ3 (by simpa using z)] at q;cases q
  rw[lKy hl] at q;cases q;exact⟨v,by rw[lKy (by rw[h.1];exact hl)],r⟩
 .rw[lKu hj] at q ⊢;exact h.2 j u q
def Inv3(X:Cx)(pins:List (Addr×Obj))(τ:St3)(G:Gp)(H:Hp)(s:Shared):Prop:=∃ σ,Inv X pins σ H s/\SRel X.K H σ τ/\GRel X.K H G
abbrev VK3:=T->Gp->Prop
abbrev TE3:=St3->Gp->VK3->Prop
abbrev TT3:=St3->Gp->(Bool->Gp->Prop)->Prop
abbrev TA3:=St3->Gp->(List T->Gp->Prop)->Prop
structure Ends3 where
 nx:St3->Gp->Prop
 rt:VK3
 bk:St3->Gp->Prop:=λ_ _=>False
 ct:St3->Gp->Prop:=λ_ _=>False
abbrev TS3:=Ends3->St3->Gp->Prop
def RU(K:PySem.W.Frag)(H:Hp)(t:T)(u:Value):Prop:=∃v,Rep K H t v/\RelV v u
def RUs(K:PySem.W.Frag)(H:Hp)(ts:List T)(us:List Value):Prop:=∃vs,Reps K H ts vs/\Vals vs us
variable {u:Value}
theorem RU.mono{t:T}(e:Ext H H')(h:RU K H t u):RU K H' t u:=let ⟨v,h1,h2⟩:=h;⟨v,Rep.mono e _ h1,h2⟩
def EP3(X:Cx)(pins:List (Addr×Obj))(τ:St3)(H:Hp)(Q:VK3)(u:Value)(s':Shared):Prop:=∃t G' H',Ext H H'/\Inv3 X pins τ G' H' s'/\RU X.K H' t u/\Q t G'
def TP3(X:Cx)(pins:List (Addr×Obj))(τ:St3)(H:Hp)(Q:Bool->Gp->Prop)(b:Bool)(s':Shared):Prop:=∃G' H',Ext H H'/\Inv3 X pins τ G' H' s'/\Q b G'
def AP3(X:Cx)(pins:List (Addr×Obj))(τ:St3)(H:Hp)(Q:List T->Gp->Prop)(us:List Value)(s':Shared):Prop:=∃ts G' H',Ext H H'/\Inv3 X pins τ G' H' s'/\RUs X.K H' ts us/\Q ts G'
def SP3(X:Cx)(pins:List (Addr×Obj))(H:Hp)(D:Ends3)(f:Flow)(s':Shared):Prop:=
 match f with
 | .next=>∃ τ' G' H',Ext H H'/\Inv3 X pins τ' G' H' s'/\D.nx τ' G'
 | .brk=>∃ τ' G' H',Ext H H'/\Inv3 X pins τ' G' H' s'/\D.bk τ' G'
 | .cont=>∃ τ' G' H',Ext H H'/\Inv3 X pins τ' G' H' s'/\D.ct τ' G'
 | .ret u=>∃t τ' G' H',Ext H H'/\Inv3 X pins τ' G' H' s'/\RU X.K H' t u/\D.rt t G'
def PE3(X:Cx)(e:Expr)(t:TE3):Prop:=∀(pins:List (Addr×Obj))(s:Shared)(τ:St3)(G:Gp)(H:Hp)(Q:VK3),Inv3 X pins τ G H s->t τ G Q->wpAny (model X.prog X.w) X.A (eval e X.env) (EP3 X pins τ H Q) X.xe s
def PT3(X:Cx)(e:Expr)(t:TT3):Prop:=∀(pins:List (Addr×Obj))(s:Shared)(τ:St3)(G:Gp)(H:Hp)(Q:Bool->Gp->Prop),Inv3 X pins τ G H s->t τ G Q->wpAny (model X.prog X.w) X.A (isTrue e X.env (eval e X.env)) (TP3 X pins τ H Q) X.xe s
def PW3(X:Cx)(e:Expr)(t:TT3):Prop:=∀(whole:Sem Value)(pins:List (Addr×Obj))(s:Shared)(τ:St3)(G:Gp)(H:Hp)(Q:Bool->Gp->Prop),Inv3 X pins τ G H s->t τ G Q->wpAny (model X.prog X.w) X.A (isTrue e X.env whole) (TP3 X pins τ H Q) X.xe s
variable {X:Cx}{e:Expr}
theorem PW3.pt{t:TT3}(h:PW3 X e t):PT3 X e t:=h _
def PA3(X:Cx)(es:List Expr)(t:TA3):Prop:=∀(pos:Pos)(pins:List (Addr×Obj))(s:Shared)(τ:St3)(G:Gp)(H:Hp)(Q:List T->Gp->Prop),Inv3 X pins τ G H s->t τ G Q->wpAny (model X.prog X.w) X.A (spliced (backTo pos (starEach es X.env))) (AP3 X pins τ H Q) X.xe s
def PS3(X:Cx)(st:Stmt)(t:TS3):Prop:=∀(pins:List (Addr×Obj))(s:Shared)(τ:St3)(G:Gp)(H:Hp)(D:Ends3),Inv3 X pins τ G H s->t D τ G->wpAny (model X.prog X.w) X.A (exec st X.env) (SP3 X pins H D) X.xe s
def PSs3(X:Cx)(st:List Stmt)(t:TS3):Prop:=∀(pins:List (Addr×Obj))(s:Shared)(τ:St3)(G:Gp)(H:Hp)(D:Ends3),Inv3 X pins τ G H s->t D τ G->wpAny (model X.prog X.w) X.A (execs st X.env) (SP3 X pins H D) X.xe s
variable {pins:List (Addr×Obj)}{s:Shared}{Q:VK3}
section
variable {C:Prop}
theorem EP3.el(h:EP3 X pins τ H Q u s)(k:∀t G' H',Ext H H'->Inv3 X pins τ G' H' s->RU X.K H' t u->Q t G'->C):C:=let ⟨t,G',H',a,b,c,d⟩:=h;k t G' H' a b c d
theorem AP3.el{Q:List T->Gp->Prop}{u:List Value}(h:AP3 X pins τ H Q u s)(k:∀t G' H',Ext H H'->Inv3 X pins τ G' H' s->RUs X.K H' t u->Q t G'->C):C:=let ⟨t,G',H',a,b,c,d⟩:=h;k t G' H' a b c d
theorem TP3.el{Q:Bool->Gp->Prop}{u:Bool}(h:TP3 X pins τ H Q u s)(k:∀G' H',Ext H H'->Inv3 X pins τ G' H' s->Q u G'->C):C:=let ⟨G',H',a,b,c⟩:=h;k G' H' a b c
theorem Inv3.el(h:Inv3 X pins τ G H s)(k:∀ σ,Inv X pins σ H s->SRel X.K H σ τ->GRel X.K H G->C):C:=let ⟨σ,a,b,c⟩:=h;k σ a b c
theorem RU.el{t:T}(h:RU K H t u)(k:∀v,Rep K H t v->RelV v u->C):C:=let ⟨v,a,b⟩:=h;k v a b
theorem RUs.el{t:List T}{u:List Value}(h:RUs K H t u)(k:∀v,Reps K H t v->Vals v u->C):C:=let ⟨v,a,b⟩:=h;k v a b
end
variable {a b:Expr}{tb:TE3}
theorem EP3.ext(e:Ext H H1)(h:EP3 X pins τ H1 Q u s):EP3 X pins τ H Q u s:=let ⟨t,G',H',a,b⟩:=h;⟨t,G',H',e.trans a,b⟩
theorem TP3.ext{Q:Bool->Gp->Prop}{u:Bool}(e:Ext H H1)(h:TP3 X pins τ H1 Q u s):TP3 X pins τ H Q u s:=let ⟨G',H',a,b⟩:=h;⟨G',H',e.trans a,b⟩
theorem SP3.ext{D:Ends3}{f:Flow}(e:Ext H H1)(h:SP3 X pins H1 D f s):SP3 X pins H D f s:=by
 cases f with
 | next=>obtain⟨τ',G',H',a,b⟩:=h;exact⟨τ',G',H',e.trans a,b⟩
 | brk=>obtain⟨τ',G',H',a,b⟩:=h;exact⟨τ',G',H',e.trans a,b⟩
 | cont=>obtain⟨τ',G',H',a,b⟩:=h;exact⟨τ',G',H',e.trans a,b⟩
 | ret u=>obtain⟨t,τ',G',H',a,b⟩:=h;exact⟨t,τ',G',H',e.trans a,b⟩
theorem bin3{ta:TE3}(ha:PE3 X a ta)(hb:PE3 X b tb){R:T->T->Gp->Prop}(I:Inv3 X pins τ G H s)(h:ta τ G λx G1=>tb τ G1 λy G2=>R x y G2){α:Type}{Q:α->Shared->Prop}{f:Value->Value->Sem α}(hf:∀v u s2 x y G2 H2,Ext H H2->Inv3 X pins τ G2 H2 s2->RU X.K H2 x v->RU X.K H2 y u->R x y G2->wpAny (model X.prog X.w) X.A (f v u) Q X.xe s2):
  wpAny (model X.prog X.w) X.A (eval a X.env) (λv s₁=>wpAny (model X.prog X.w) X.A (eval b X.env) (λu s₂=>wpAny (model X.prog X.w) X.A (f v u) Q X.xe s₂) X.xe s₁) X.xe s:=by
 refine thn (ha pins s τ G H _ I h) λv s1 w_=>w_.el λx G1 H1 e1 I1 r1 q1=> ?_
 refine thn (hb pins s1 τ G1 H1 _ I1 q1) λu s2 w_=>w_.el λy G2 H2 e2 I2 r2 q2=> ?_
 exact hf v u s2 x y G2 H2 (e1.trans e2) I2 (r1.mono e2) r2 q2
def up(K:PySem.W.Frag)(H:Hp)(Q:VK3):VK:=λv H'=>∃t G',Ext H H'/\GRel K H' G'/\Rep K H' t v/\Q t G'
theorem jV8(hs:SRel X.K H σ τ)(h:EP X pins σ (up X.K H Q) u s):EP3 X pins τ H Q u s:=
 let ⟨v,H',I',r',t,G',e,g',rt,q⟩:=h
 ⟨t,G',H',e,⟨σ,I',hs.mono e,g'⟩,⟨v,rt,r'⟩,q⟩
variable {pos:Pos}
def tVar(i:Nat):TE3:=λτ G Q=>∃t,τ[i]? =some (some t)/\Q t G
def tC(t:T):TE3:=λ_ G Q=>Q t G
theorem jJc(i:Nat){x:Str}(hN:X.N[i]? =some x:=by rfl)(hv:Vis X.env.scope x:=by first | exact Or.inl rfl | exact Or.inr (Or.inl rfl) | exact Or.inr (Or.inr rfl))(hd:(x == ("__debug__":Str))=false:=by decide)(hcd:(x == ("__classdict__":Str))=false:=by decide):PE3 X (.Name x pos) (tVar i):=by
 rintro pins s τ G H Q ⟨σ,I,hs,hg⟩ ⟨t,e,q⟩;obtain⟨v,ev,rv⟩:=hs.2 i t e;exact thn (uUi hN hv hd hcd pins s σ H (up X.K H Q) I ⟨v,ev,t,G,.refl H,hg,rv,q⟩) λu s' h=>jV8 hs h
theorem jJk {i j}:PE3 X (.Constant (.int i) j pos) (tC (.int i)):=λpins s τ G H Q ⟨σ,I,hs,hg⟩ q=>
 thn (uUk pins s σ H (up X.K H Q) I ⟨.int i,G,.refl H,hg,rfl,q⟩) λu s' h=>jV8 hs h
theorem e_bl {b j}:PE3 X (.Constant (.bool b) j pos) (tC (.bl b)):=λpins s τ G H Q ⟨σ,I,hs,hg⟩ q=>
 thn (uXc pins s σ H (up X.K H Q) I ⟨.bl b,G,.refl H,hg,rfl,q⟩) λu s' h=>jV8 hs h
theorem jYj {j}:PE3 X (.Constant .none j pos) (tC .non):=λpins s τ G H Q ⟨σ,I,hs,hg⟩ q=>
 thn (uUj pins s σ H (up X.K H Q) I ⟨.non,G,.refl H,hg,rfl,q⟩) λu s' h=>jV8 hs h
abbrev R3:=T->T->Gp->VK3->Prop
def Op3(X:Cx)(f:Value->Value->Sem Value)(r:R3):Prop:=
 ∀(pins:List (Addr×Obj))(s:Shared)(τ:St3)(G:Gp)(H:Hp)(x y:T)(v u:Value)(Q:VK3),Inv3 X pins τ G H s->RU X.K H x v->RU X.K H y u->r x y G Q->wpAny (model X.prog X.w) X.A (f v u) (EP3 X pins τ H Q) X.xe s
def Un3(X:Cx)(f:Value->Sem Value)(r:T->Gp->VK3->Prop):Prop:=
 ∀(pins:List (Addr×Obj))(s:Shared)(τ:St3)(G:Gp)(H:Hp)(x:T)(v:Value)(Q:VK3),Inv3 X pins τ G H s->RU X.K H x v->r x G Q->wpAny (model X.prog X.w) X.A (f v) (EP3 X pins τ H Q) X.xe s
def Call3(X:Cx)(f:Value)(r:List T->Gp->VK3->Prop):Prop:=
 ∀(pins:List (Addr×Obj))(s:Shared)(τ:St3)(G:Gp)(H:Hp)(xs:List T)(us:List Value)(Q:VK3),Inv3 X pins τ G H s->RUs X.K H xs us->r xs G Q->wpAny (model X.prog X.w) X.A (call f us) (EP3 X pins τ H Q) X.xe s
def Mt3(X:Cx)(id:String)(r:T->List T->Gp->VK3->Prop):Prop:=
 ∀(pins:List (Addr×Obj))(s:Shared)(τ:St3)(G:Gp)(H:Hp)(x:T)(xs:List T)(v:Value)(us:List Value)(Q:VK3),Inv3 X pins τ G H s->RU X.K H x v->RUs X.K H xs us->r x xs G Q->
  wpAny (model X.prog X.w) X.A (call (.builtin id) (v::us)) (EP3 X pins τ H Q) X.xe s
def Ix3(X:Cx)(r:R3):Prop:=
 ∀(value slice:Expr)(pins:List (Addr×Obj))(s:Shared)(τ:St3)(G:Gp)(H:Hp)(x y:T)(v u:Value)(Q:VK3),Inv3 X pins τ G H s->RU X.K H x v->RU X.K H y u->r x y G Q->
  subscripted slice false v u=operate [v,u] (getItem v u)->wpAny (model X.prog X.w) X.A (subscriptTail value slice v u) (EP3 X pins τ H Q) X.xe s
def Set3(X:Cx)(r:T->T->T->Gp->(Gp->Prop)->Prop):Prop:=
 ∀(pins:List (Addr×Obj))(s:Shared)(τ:St3)(G:Gp)(H:Hp)(o i v:T)(ov iv u:Value)(Q:Gp->Prop),Inv3 X pins τ G H s->RU X.K H o ov->RU X.K H i iv->RU X.K H v u->r o i v G Q->
  wpAny (model X.prog X.w) X.A (setItem ov iv u) (λ_ s'=>∃G' H',Ext H H'/\Inv3 X pins τ G' H' s'/\Q G') X.xe s
def Tru3(X:Cx)(r:T->Gp->(Bool->Gp->Prop)->Prop):Prop:=
 ∀(pins:List (Addr×Obj))(s:Shared)(τ:St3)(G:Gp)(H:Hp)(x:T)(v:Value)(Q:Bool->Gp->Prop),Inv3 X pins τ G H s->RU X.K H x v->r x G Q->wpAny (model X.prog X.w) X.A (truthy v) (TP3 X pins τ H Q) X.xe s
variable {f:Value->Value->Sem Value}{r3 r r':R3}{g':Int->Int->T}
theorem Op3.of{r:R2}(h:OpR X f r)(hr:∀H G x y a b Q,GRel X.K H G->Rep X.K H x a->Rep X.K H y b->r3 x y G Q->r a b H (up X.K H Q)):Op3 X f r3:=by
 rintro pins s τ G H x y v u Q ⟨σ,I,hs,hg⟩ ⟨a,ra,rv⟩ ⟨b,rb,ru⟩ q;exact thn (h pins s σ H a b v u _ I rv ru (hr H G x y a b Q hg ra rb q)) λu s' h=>jV8 hs h
theorem Un3.of{f:Value->Sem Value}{r:V->Hp->VK->Prop}{r3:T->Gp->VK3->Prop}(h:UnR X f r)(hr:∀H G x a Q,GRel X.K H G->Rep X.K H x a->r3 x G Q->r a H (up X.K H Q)):Un3 X f r3:=by
 rintro pins s τ G H x v Q ⟨σ,I,hs,hg⟩ ⟨a,ra,rv⟩ q;exact thn (h pins s σ H a v _ I rv (hr H G x a Q hg ra q)) λu s' h=>jV8 hs h
theorem Call3.of{f:Value}{r:List V->Hp->VK->Prop}{r3:List T->Gp->VK3->Prop}(h:kU9 X f r)(hr:∀H G xs as Q,GRel X.K H G->Reps X.K H xs as->r3 xs G Q->r as H (up X.K H Q)):Call3 X f r3:=by
 rintro pins s τ G H xs us Q ⟨σ,I,hs,hg⟩ ⟨as,ra,rv⟩ q;exact thn (h pins s σ H as us _ I rv (hr H G xs as Q hg ra q)) λu s' h=>jV8 hs h
theorem Mt3.of{id:String}{r:V->List V->Hp->VK->Prop}{r3:T->List T->Gp->VK3->Prop}(h:MtR X id r)(hr:∀H G x xs a as Q,GRel X.K H G->Rep X.K H x a->Reps X.K H xs as->r3 x xs G Q->r a as H (up X.K H Q)):Mt3 X id r3:=by
 rintro pins s τ G H x xs v us Q ⟨σ,I,hs,hg⟩ ⟨a,ra,rv⟩ ⟨as,ras,rvs⟩ q;exact thn (h pins s σ H a as v us _ I rv rvs (hr H G x xs a as Q hg ra ras q)) λu s' h=>jV8 hs h
theorem Ix3.of{r:R2}(h:IxR X r)(hr:∀H G x y a b Q,GRel X.K H G->Rep X.K H x a->Rep X.K H y b->r3 x y G Q->r a b H (up X.K H Q)):Ix3 X r3:=by
 rintro value slice pins s τ G H x y v u Q ⟨σ,I,hs,hg⟩ ⟨a,ra,rv⟩ ⟨b,rb,ru⟩ q hh;exact thn (h value slice pins s σ H a b v u _ I rv ru (hr H G x y a b Q hg ra rb q) hh) λu s' h=>jV8 hs h
theorem Set3.of{t:TSet}{r3:T->T->T->Gp->(Gp->Prop)->Prop}(h:PSet X t)(hr:∀H G o i v a b c Q,GRel X.K H G->Rep X.K H o a->Rep X.K H i b->Rep X.K H v c->r3 o i v G Q->t a b c H (λH'=>∃G',Ext H H'/\GRel X.K H' G'/\Q G')):Set3 X r3:=by
 rintro pins s τ G H o i v ov iv u Q ⟨σ,I,hs,hg⟩ ⟨a,ra,rv⟩ ⟨b,rb,ru⟩ ⟨c,rc,rw'⟩ q;exact thn (h pins s σ H a b c ov iv u _ I rv ru rw' (hr H G o i v a b c Q hg ra rb rc q)) λ_ s' ⟨H',I',G',e,g',q'⟩=>⟨G',H',e,⟨σ,I',hs.mono e,g'⟩,q'⟩
theorem Tru3.of{r:V->Hp->(Bool->Hp->Prop)->Prop}{r3:T->Gp->(Bool->Gp->Prop)->Prop}(h:TruR X r)(hr:∀H G x a Q,GRel X.K H G->Rep X.K H x a->r3 x G Q->r a H (λb H'=>H'=H/\Q b G)):Tru3 X r3:=by
 rintro pins s τ G H x v Q ⟨σ,I,hs,hg⟩ ⟨a,ra,rv⟩ q
 exact thn (h pins s σ H a v _ I rv (hr H G x a Q hg ra q)) λb s' ⟨H',I',e,q'⟩=>by
  subst e;exact⟨G,H',.refl _,⟨σ,I',hs,hg⟩,q'⟩
theorem Op3.or(h:Op3 X f r)(h':Op3 X f r'):Op3 X f (λx y G Q=>r x y G Q\/r' x y G Q):=by
 intro pins s τ G H x y v u Q I rx ry q
 rcases q with q | q
 .exact h pins s τ G H x y v u Q I rx ry q
 .exact h' pins s τ G H x y v u Q I rx ry q
def rI(C:Int->Int->Prop)(g:Int->Int->T):R3:=λx y G Q=>∃i j,x= .int i/\y= .int j/\C i j/\Q (g i j) G
def rI0(g:Int->Int->T):R3:=λx y G Q=>∃i j,x= .int i/\y= .int j/\Q (g i j) G
theorem o_I{C:Int->Int->Prop}{g:Int->Int->V}(h:OpR X f (L2.rI C g))(hg':∀K H i j,Rep K H (g' i j) (g i j)):Op3 X f (rI C g'):=
 Op3.of h λH G x y a b Q hg ra rb ⟨i,j,ex,ey,c,q⟩=>by
  subst ex;subst ey;cases (show a= .int i from ra);cases (show b= .int j from rb)
  exact⟨i,j,rfl,rfl,c,g' i j,G,.refl H,hg,hg' _ _ i j,q⟩
theorem o_I0{g:Int->Int->V}(h:OpR X f (L2.rI0 g))(hg':∀K H i j,Rep K H (g' i j) (g i j)):Op3 X f (rI0 g'):=
 Op3.of h λH G x y a b Q hg ra rb ⟨i,j,ex,ey,q⟩=>by
  subst ex;subst ey;cases (show a= .int i from ra);cases (show b= .int j from rb)
  exact⟨i,j,rfl,rfl,g' i j,G,.refl H,hg,hg' _ _ i j,q⟩
theorem o_add:Op3 X (binaryOp .Add) (rI0 λi j=> .int (i+j)):=o_I0 uUt λ_ _ _ _=>rfl
theorem uJ8:Op3 X (binaryOp .Sub) (rI0 λi j=> .int (i-j)):=o_I0 uUm λ_ _ _ _=>rfl
theorem o_mul:Op3 X (binaryOp .Mult) (rI CMul λi j=> .int (i*j)):=o_I uUp λ_ _ _ _=>rfl
theorem uUy:Op3 X (binaryOp .FloorDiv) (rI CDiv λi j=> .int (i / j)):=o_I uJ2 λ_ _ _ _=>rfl
theorem jYc:Op3 X (binaryOp .Mod) (rI (λ_ j=>0<j) λi j=> .int (i%j)):=o_I uUq λ_ _ _ _=>rfl
theorem uXk:Op3 X (binaryOp .Pow) (rI CPow λi j=> .int (i^j.toNat)):=o_I uUo λ_ _ _ _=>rfl
theorem o_lt:Op3 X (compareOp .Lt) (rI0 λi j=> .bl (decide (i<j))):=o_I0 uXe λ_ _ _ _=>rfl
theorem o_le:Op3 X (compareOp .LtE) (rI0 λi j=> .bl (decide (i<=j))):=o_I0 uXf λ_ _ _ _=>rfl
theorem o_gt:Op3 X (compareOp .Gt) (rI0 λi j=> .bl (decide (j<i))):=o_I0 uXg λ_ _ _ _=>rfl
theorem o_ge:Op3 X (compareOp .GtE) (rI0 λi j=> .bl (decide (j<=i))):=o_I0 uXh λ_ _ _ _=>rfl
noncomputable def kJx:T->Bool
 | .non=>true
 | _=>false
theorem Rep.non_iff{a:V}(r:Rep K H x a):decide (a= .non)=kJx x:=by
 cases x with
 | non=>cases (show a= .non from r);rfl
 | bl b=>cases (show a= .bl b from r);rfl
 | int b=>cases (show a= .int b from r);rfl
 | str b=>cases (show a= .str b from r);rfl
 | ref b=>cases (show a= .ref b from r);rfl
 | ty b=>cases (show a= .ty b from r);rfl
 | tup b=>obtain⟨_,_,e,_⟩:=(show ∃c vs,a= .ref c/\_ from r);subst e;rfl
 | scr b=>obtain⟨_,_,e,_⟩:=(show ∃c vs,a= .ref c/\_ from r);subst e;rfl
theorem qXx:Op3 X (compareOp .Is) (λx y G Q=>y= .non/\Q (.bl (kJx x)) G):=
 Op3.of uUr λH G x y a b Q hg ra rb ⟨ey,q⟩=>by
  subst ey;cases (show b= .non from rb)
  exact⟨rfl,.bl (kJx x),G,.refl H,hg,by rw[ra.non_iff];rfl,q⟩
theorem uUv:Op3 X (compareOp .IsNot) (λx y G Q=>y= .non/\Q (.bl (!kJx x)) G):=
 Op3.of uJ1 λH G x y a b Q hg ra rb ⟨ey,q⟩=>by
  subst ey;cases (show b= .non from rb)
  exact⟨rfl,.bl (!kJx x),G,.refl H,hg,by rw[ra.non_iff];rfl,q⟩
def tOp(r:R3)(ta tb:TE3):TE3:=λτ G Q=>ta τ G λx G1=>tb τ G1 λy G2=>r x y G2 Q
def tUn(r:T->Gp->VK3->Prop)(ta:TE3):TE3:=λτ G Q=>ta τ G λx G1=>r x G1 Q
def jJx(t:TE3):TT3:=λτ G Q=>t τ G λx G1=>∃c,x= .bl c/\Q c G1
def tAnd(t u:TT3):TT3:=λτ G Q=>t τ G λc G1=>if c=true then u τ G1 Q else Q false G1
def tOr(t u:TT3):TT3:=λτ G Q=>t τ G λc G1=>if c=true then Q true G1 else u τ G1 Q
def tNot(t:TT3):TT3:=λτ G Q=>t τ G λc G1=>Q (!c) G1
def kKw(ta tb:TE3):TE3:=λτ G Q=>ta τ G λx G1=>∃c,x= .bl c/\if c=true then tb τ G1 Q else Q (.bl false) G1
def tOrV(ta tb:TE3):TE3:=λτ G Q=>ta τ G λx G1=>∃c,x= .bl c/\if c=true then Q (.bl true) G1 else tb τ G1 Q
def uJm(ta:TE3):TE3:=λτ G Q=>ta τ G λx G1=>∃c,x= .bl c/\Q (.bl (!c)) G1
def tIf(t:TT3)(ta tb:TE3):TE3:=λτ G Q=>t τ G λc G1=>if c=true then ta τ G1 Q else tb τ G1 Q
noncomputable def jYl(r r':R3)(ta tb tc:TE3):TE3:=λτ G Q=>ta τ G λx G1=>tb τ G1 λy G2=>r x y G2 λz G3=>∃k,z= .bl k/\if k=true then tc τ G3 (λw G4=>r' y w G4 Q) else Q (.bl false) G3
def tNil:TA3:=λ_ G Q=>Q [] G
def jJb(ta:TE3)(tr:TA3):TA3:=λτ G Q=>ta τ G λx G1=>tr τ G1 λxs G2=>Q (x::xs) G2
def tTup(t:TA3):TE3:=λτ G Q=>t τ G λxs G1=>xs.length<=sizeLine/\Q (.tup xs) G1
def tLst(t:TA3):TE3:=λτ G Q=>t τ G λxs G1=>xs.length<=sizeLine/\∀p,G1 p=none->Q (.ref p) (gup G1 p (.lst xs))
def tCB(r:List T->Gp->VK3->Prop)(t:TA3):TE3:=λτ G Q=>t τ G λxs G1=>r xs G1 Q
variable {c:Expr}{tc te to:TE3}{es:List Expr}{op:CmpOp}{p:Pos}{T0:String}{y:T}
section
variable {ta:TE3}{tA tB:TT3}{rest:List Expr}{t:TA3}
theorem e_op{op:Operator}(ho:Op3 X (binaryOp op) r)(ha:PE3 X a ta)(hb:PE3 X b tb):PE3 X (.BinOp a op b pos) (tOp r ta tb):=by
 intro pins s τ G H Q I h;exact wpAny_BinOp (bin3 ha hb I h λv u s2 x y G2 H2 e I2 rx ry q=>thn (ho pins s2 τ G2 H2 x y v u Q I2 rx ry q) λ_ _ z=>z.ext e)
theorem e_un{op:UnaryOp}{r:T->Gp->VK3->Prop}(ho:Un3 X (unaryOp op) r)(ha:PE3 X a ta):PE3 X (.UnaryOp op a pos) (tUn r ta):=by
 intro pins s τ G H Q I h;exact UnaryOp_ (thn (ha pins s τ G H _ I h) λv s1 w_=>w_.el λx G1 H1 e I1 r1 q1=>thn (ho pins s1 τ G1 H1 x v Q I1 r1 q1) λ_ _ z=>z.ext e)
theorem qJx(ho:Op3 X (compareOp op) r)(ha:PE3 X a ta)(hb:PE3 X b tb)(hm:behindInMarks op b=false):PE3 X (.Compare a [op] [b] pos) (tOp r ta tb):=by
 intro pins s τ G H Q I h;exact wpAny_Compare1 (bin3 ha hb I h λv u s2 x y G2 H2 e I2 rx ry q=>thn (ho pins s2 τ G2 H2 x y v u Q I2 rx ry q) λ_ _ z=>z.ext e) hm
theorem jKr(ho:Op3 X (compareOp op) r)(ha:PE3 X a ta)(hb:PE3 X b tb)(hm:behindInMarks op b=false):PT3 X (.Compare a [op] [b] pos) (jJx (tOp r ta tb)):=by
 intro pins s τ G H Q I h;refine wpAny_isTrue_Compare1 (bin3 ha hb I h λv u s2 x y G2 H2 e I2 rx ry q=>thn (ho pins s2 τ G2 H2 x y v u _ I2 rx ry q) λw' s3 w_=>w_.el λz G3 H3 e3 I3 r3 ⟨k,ez,q3⟩=> ?_) hm
 subst ez;obtain⟨v',rv',ru'⟩:=r3;cases (show v'= .bl k from rv');cases ru'
 exact lVq ⟨G3,H3,e.trans e3,I3,q3⟩
theorem kZ4{t:TE3}(h:PE3 X e t)(he:∀whole,isTrue e X.env whole=(do let v <-whole;standAt e.pos;holding [v] (truthy v)):=by intro _;rfl):PT3 X e (jJx t):=by
 intro pins s τ G H Q I hw;refine isTrue_plain (thn (h pins s τ G H _ I hw) λv s1 w_=>w_.el λx G1 H1 e1 I1 r1 ⟨k,ez,q1⟩=> ?_) (he _)
 subst ez;obtain⟨v',rv',ru'⟩:=r1;cases (show v'= .bl k from rv');cases ru'
 exact lVq ⟨G1,H1,e1,I1,q1⟩
def tTru(r:T->Gp->(Bool->Gp->Prop)->Prop)(t:TE3):TT3:=λτ G Q=>t τ G λx G1=>r x G1 Q
theorem uJk{t:TE3}{r:T->Gp->(Bool->Gp->Prop)->Prop}(hr:Tru3 X r)(h:PE3 X e t)(he:∀whole,isTrue e X.env whole=(do let v <-whole;standAt e.pos;holding [v] (truthy v)):=by intro _;rfl):PT3 X e (tTru r t):=by
 intro pins s τ G H Q I hw;exact isTrue_plain (thn (h pins s τ G H _ I hw) λv s1 w_=>w_.el λx G1 H1 e1 I1 r1 q1=>thn (hr pins s1 τ G1 H1 x v Q I1 r1 q1) λ_ _ z=>z.ext e1) (he _)
theorem uQp(ha:PT3 X a tA):PW3 X (.BoolOp .And [a] pos) tA:=by
 intro wh pins s τ G H Q I h;refine isTrue_and (thn (ha pins s τ G H Q I h) λc s1 e=> ?_)
 cases c with
 | true=>exact isTrue_and_nil e
 | false=>exact e
theorem kZz(ha:PT3 X a tA):PW3 X (.BoolOp .Or [a] pos) tA:=by
 intro wh pins s τ G H Q I h;refine isTrue_or (thn (ha pins s τ G H Q I h) λc s1 e=> ?_)
 cases c with
 | false=>exact isTrue_or_nil e
 | true=>exact e
theorem uV3(ha:PT3 X a tA)(hb:PW3 X (.BoolOp .And (b::rest) pos) tB):PW3 X (.BoolOp .And (a::b::rest) pos) (tAnd tA tB):=by
 intro wh pins s τ G H Q I h;refine isTrue_and (thn (ha pins s τ G H _ I h) λc s1 w_=>w_.el λG1 H1 e1 I1 q1=> ?_)
 cases c with
 | true=>exact thn (hb wh pins s1 τ G1 H1 Q I1 q1) λ_ _ z=>z.ext e1
 | false=>exact⟨G1,H1,e1,I1,q1⟩
theorem w_or(ha:PT3 X a tA)(hb:PW3 X (.BoolOp .Or (b::rest) pos) tB):PW3 X (.BoolOp .Or (a::b::rest) pos) (tOr tA tB):=by
 intro wh pins s τ G H Q I h;refine isTrue_or (thn (ha pins s τ G H _ I h) λc s1 w_=>w_.el λG1 H1 e1 I1 q1=> ?_)
 cases c with
 | true=>exact⟨G1,H1,e1,I1,q1⟩
 | false=>exact thn (hb wh pins s1 τ G1 H1 Q I1 q1) λ_ _ z=>z.ext e1
theorem kQ1(ha:PT3 X a tA):PT3 X (.UnaryOp .Not a pos) (tNot tA):=by
 intro pins s τ G H Q I h;exact isTrue_not (thn (ha pins s τ G H (λc G1=>Q (!c) G1) I h) λc s1 w_=>w_.el λG1 H1 e1 I1 q1=>⟨G1,H1,e1,I1,q1⟩)
theorem qU2 {op}{t:TE3}(h:PE3 X a t):PE3 X (.BoolOp op [a] pos) t:=λpins s τ G H Q I hw=>BoolOp_one (h pins s τ G H Q I hw)
theorem kXn(ha:PE3 X a ta)(hb:PE3 X (.BoolOp .And (b::rest) pos) tb):PE3 X (.BoolOp .And (a::b::rest) pos) (kKw ta tb):=by
 intro pins s τ G H Q I h;refine BoolOp_and (thn (ha pins s τ G H _ I h) λv s1 w_=>w_.el λx G1 H1 e1 I1 r1 ⟨k,ez,q1⟩=> ?_)
 subst ez;obtain⟨v',rv',ru'⟩:=r1;cases (show v'= .bl k from rv');cases ru'
 refine lVq ?_;cases k with
 | true=>exact thn (hb pins s1 τ G1 H1 Q I1 q1) λ_ _ z=>z.ext e1
 | false=>exact⟨.bl false,G1,H1,e1,I1,⟨.bl false,rfl,rfl⟩,q1⟩
theorem uX3(ha:PE3 X a ta):PE3 X (.UnaryOp .Not a pos) (uJm ta):=by
 intro pins s τ G H Q I h;refine UnaryOp_ (thn (ha pins s τ G H _ I h) λv s1 w_=>w_.el λx G1 H1 e1 I1 r1 ⟨k,ez,q1⟩=> ?_)
 subst ez;obtain⟨v',rv',ru'⟩:=r1;cases (show v'= .bl k from rv');cases ru'
 exact not_of (lVq ⟨.bl (!k),G1,H1,e1,I1,⟨.bl (!k),rfl,rfl⟩,q1⟩)
theorem qU3(hc:PT3 X c tA)(ha:PE3 X a ta)(hb:PE3 X b tb):PE3 X (.IfExp c a b pos) (tIf tA ta tb):=by
 intro pins s τ G H Q I h;refine IfExp_ (thn (hc pins s τ G H _ I h) λk s1 w_=>w_.el λG1 H1 e1 I1 q1=> ?_)
 cases k with
 | true=>exact thn (ha pins s1 τ G1 H1 Q I1 q1) λ_ _ z=>z.ext e1
 | false=>exact thn (hb pins s1 τ G1 H1 Q I1 q1) λ_ _ z=>z.ext e1
theorem jJd:PA3 X [] tNil:=λ_ _ _ _ G H Q I h=>Calls.spliced_nil ⟨[],G,H,.refl H,I,⟨[],rfl,.nil⟩,h⟩
theorem jJa(ha:PE3 X e te)(hr:PA3 X es t)(hs:starEach (e::es) X.env=(false,eval e X.env)::starEach es X.env:=by rfl):PA3 X (e::es) (jJb te t):=by
 intro pos pins s τ G H Q I h;rw[hs];show wpAny _ _ (spliced ((false,eval e X.env)::backTo pos (starEach es X.env))) _ _ s
 refine Calls.spliced_cons (thn (ha pins s τ G H _ I h) λu s1 w_=>w_.el λx G1 H1 e1 I1 r1 q1=> ?_)
 refine thn (hr pos pins s1 τ G1 H1 _ I1 q1) λus s2 w_=>w_.el λxs G2 H2 e2 I2 r_ q2=>r_.el λvs rs rv=> ?_
 obtain⟨v,rr,rvv⟩:=r1.mono e2;exact⟨x::xs,G2,H2,e1.trans e2,I2,⟨v::vs,⟨v,vs,rfl,rr,rs⟩,.cons rvv rv⟩,q2⟩
theorem jQd {x1}(h:PA3 X es t):PE3 X (.Tuple es x1 pos) (tTup t):=by
 intro pins s τ G H Q I hq;refine wpAny_Tuple_spliced (thn (h pos pins s τ G H _ I hq) λus s1 w_=>w_.el λxs G1 H1 e1 i_ r_ ⟨z,q⟩=>i_.el λσ I1 hs1 hg1=>r_.el λvs rs rv=>⟨by rw[<-rv.length,<-rs.length];exact z,?_⟩)
 have hf:H1 s1.heap.objs.size=none:=I1.hok.fresh (lJh _);have e2:Ext H1 (upd H1 s1.heap.objs.size (.tup vs)):= .upd (.none hf);refine⟨.tup xs,G1,upd H1 s1.heap.objs.size (.tup vs),e1.trans e2,⟨σ,I1.laid (t':=s1.toks) (λb u e=>lJm _ e) (lJh _) ?_,hs1.mono e2,hg1.tupNew hf⟩,⟨.ref s1.heap.objs.size,Rep.tupNew rs hf,rfl⟩,q⟩
 exact⟨by rw[<-rs.length];exact z,us,rv,⟨_,lJ8 _ rfl,rfl,_,rfl,rfl⟩⟩
theorem jQq(h:PA3 X es t):PE3 X (.List es pos) (tLst t):=by
 intro pins s τ G H Q I hq;refine wpAny_List_spliced (thn (h pos pins s τ G H _ I hq) λus s1 w_=>w_.el λxs G1 H1 e1 i_ r_ ⟨z,q⟩=>i_.el λσ I1 hs1 hg1=>r_.el λvs rs rv=>⟨by rw[<-rv.length,<-rs.length];exact z,?_⟩)
 have hf:H1 s1.heap.objs.size=none:=I1.hok.fresh (lJh _);have e2:Ext H1 (upd H1 s1.heap.objs.size (.lst vs)):= .upd (.none hf);refine⟨.ref s1.heap.objs.size,gup G1 s1.heap.objs.size (.lst xs),upd H1 s1.heap.objs.size (.lst vs),e1.trans e2,⟨σ,I1.laid (t':=s1.toks) (λb u e=>lJm _ e) (lJh _) ?_,hs1.mono e2,hg1.lstNew rs (.none hf)⟩,⟨.ref s1.heap.objs.size,rfl,rfl⟩,q _ (hg1.fresh hf)⟩
 exact⟨by rw[<-rs.length];exact z,us,0,rv,lJ8 _ rfl⟩
theorem e_ix(hr:Ix3 X r)(ha:PE3 X a ta)(hb:PE3 X b tb)(hs:uQh b):PE3 X (.Subscript a b pos) (tOp r ta tb):=by
 intro pins s τ G H Q I h;exact Subscript_ (bin3 ha hb I h λv u s2 x y G2 H2 e I2 rx ry q=>thn (hr a b pins s2 τ G2 H2 x y v u Q I2 rx ry q (hs _ _)) λ_ _ z=>z.ext e)
def rIx:R3:=λx y G Q=>∃xs i t,seqT G x=some xs/\y= .int i/\atI xs i=some t/\Q t G
theorem jVt{o:Option GO}(h:asL o=some xs):o=some (.lst xs):=by
 cases o with
 | none=>cases h
 | some g=>cases g with
  | lst ys=>cases h;rfl
  | dct _=>cases h
  | dck _=>cases h
  | fdc _=>cases h
  | ins _ _=>cases h
theorem jUe{a:V}(hg:GRel K H G)(r:Rep K H x a)(h:seqT G x=some xs):
  ∃p vs,a= .ref p/\(SqL K H p vs\/SqT K H p vs)/\Reps K H xs vs:=by
 cases x with
 | tup ys=>cases h;obtain⟨p,vs,e,h1,h2⟩:=(show ∃p vs,a= .ref p/\H p=some (.tup vs)/\Reps K H xs vs from r);exact⟨p,vs,e,.inr (.of h1),h2⟩
 | scr ys=>cases h;obtain⟨p,vs,e,h1,h2⟩:=(show ∃p vs,a= .ref p/\FrL K H p vs/\Reps K H xs vs from r);exact⟨p,vs,e,.inl h1.sq,h2⟩
 | ref p=>
  obtain⟨vs,h1,h2⟩:=hg.lst (jVt h);exact⟨p,vs,r,.inl (.of h1),h2⟩
 | non=>cases h
 | bl _=>cases h
 | int _=>cases h
 | str _=>cases h
 | ty _=>cases h
theorem ix_any:Ix3 X rIx:=
 Ix3.of (ix_list.or uVa) λH G x y a b Q hg ra rb ⟨xs,i,t,hx,ey,ht,q⟩=>by
  subst ey;cases (show b= .int i from rb)
  obtain⟨p,vs,e,hq,r⟩:=jUe hg ra hx;subst e;obtain⟨v,hv,rv⟩:=r.atI ht
  rcases hq with hq | hq
  .exact .inl ⟨p,vs,i,v,rfl,rfl,hq,hv,t,G,.refl H,hg,rv,q⟩
  .exact .inr ⟨p,vs,i,v,rfl,rfl,hq,hv,t,G,.refl H,hg,rv,q⟩
theorem jJp{id:String}{r:List T->Gp->VK3->Prop}{x:Str}(hc:Call3 X (.builtin id) r)(hg:Gl X x)(hm:X.mg x=none)(hv:bootBuiltins x=some (.builtin id))(ha:PA3 X (e::es) t)(hn:x≠"__name__":=by decide)(hdb:(x == ("__debug__":Str))=false:=by decide)(he:starEach (e::es) X.env=(false,eval e X.env)::starEach es X.env:=by rfl)(hpl:(backTo pos (starEach es X.env)).any (·.1)=false:=by rfl):PE3 X (.Call (.Name x p) (e::es) [] pos) (tCB r t):=by
 intro pins s τ G H Q I h;obtain⟨σ,I0,hs0,hg0⟩:=_root_.id I;refine lZf (jQj I0 hg hm hv ?_ hn hdb);exact mJ0 (thn (ha pos pins s τ G H _ I h) λus s1 w_=>w_.el λxs G1 H1 e1 I1 r1 q1=>thn (hc pins s1 τ G1 H1 xs us Q I1 r1 q1) λ_ _ z=>z.ext e1) he hpl
theorem jJ4{r:List T->Gp->VK3->Prop}{x:Str}(hc:Call3 X (.type T0) r)(hg:Gl X x)(hm:X.mg x=none)(hv:bootBuiltins x=some (.type T0))(ha:PA3 X (e::es) t)(hn:x≠"__name__":=by decide)(hdb:(x == ("__debug__":Str))=false:=by decide)(he:starEach (e::es) X.env=(false,eval e X.env)::starEach es X.env:=by rfl)(hpl:(backTo pos (starEach es X.env)).any (·.1)=false:=by rfl):PE3 X (.Call (.Name x p) (e::es) [] pos) (tCB r t):=by
 intro pins s τ G H Q I h;obtain⟨σ,I0,hs0,hg0⟩:=_root_.id I;refine lZf (jQj I0 hg hm hv ?_ hn hdb);exact lK6 (thn (ha pos pins s τ G H _ I h) λus s1 w_=>w_.el λxs G1 H1 e1 I1 r1 q1=>thn (hc pins s1 τ G1 H1 xs us Q I1 r1 q1) λ_ _ z=>z.ext e1) he hpl
theorem jUn(h:Reps K H [x] vs):∃v,vs=[v]/\Rep K H x v:=by
 obtain⟨v,ws,rfl,r,e⟩:=h;cases e;exact⟨v,rfl,r⟩
theorem kQ8(h:Reps K H [x,y] vs):∃v w,vs=[v,w]/\Rep K H x v/\Rep K H y w:=by
 obtain⟨v,ws,rfl,r,w,ws2,rfl,r2,e⟩:=h;cases e;exact⟨v,w,rfl,r,r2⟩
def rLen:List T->Gp->VK3->Prop:=λxs G Q=>∃x ys,xs=[x]/\seqT G x=some ys/\Q (.int ys.length) G
theorem jKp:Call3 X (.builtin "len") rLen:=
 Call3.of kU0 λH G xs as Q hg ra ⟨x,ys,e,hx,q⟩=>by
  subst e;obtain⟨v,rfl,rv⟩:=jUn ra;obtain⟨p,vs,rfl,hq,r⟩:=jUe hg rv hx;exact⟨p,vs,rfl,hq,.int ys.length,G,.refl H,hg,by rw[r.length];rfl,q⟩
def rAbs:List T->Gp->VK3->Prop:=λxs G Q=>∃i,xs=[.int i]/\Q (.int (if i<0 then -i else i)) G
theorem uVr:Call3 X (.builtin "abs") rAbs:=
 Call3.of qY6 λH G xs as Q hg ra ⟨i,e,q⟩=>by
  subst e;obtain⟨v,rfl,rv⟩:=jUn ra;cases (show v= .int i from rv)
  exact⟨i,rfl,.int _,G,.refl H,hg,rfl,q⟩
def rMax:List T->Gp->VK3->Prop:=λxs G Q=>∃i j,xs=[.int i,.int j]/\Q (.int (if j>i then j else i)) G
theorem uX6(hc:X.calm=true):Call3 X (.builtin "max") rMax:=
 Call3.of (qVf hc) λH G xs as Q hg ra ⟨i,j,e,q⟩=>by
  subst e;obtain⟨v,w,rfl,rv,rw'⟩:=kQ8 ra;cases (show v= .int i from rv);cases (show w= .int j from rw')
  exact⟨i,j,rfl,.int _,G,.refl H,hg,rfl,q⟩
def qQd:List T->Gp->VK3->Prop:=λxs G Q=>∃k,xs=[.bl k]/\Q (.int (if k then 1 else 0)) G
theorem uX7:Call3 X (.type "int") qQd:=
 Call3.of qVg λH G xs as Q hg ra ⟨k,e,q⟩=>by
  subst e;obtain⟨v,rfl,rv⟩:=jUn ra;cases (show v= .bl k from rv)
  exact .inr ⟨k,rfl,.int _,G,.refl H,hg,rfl,q⟩
def kV2:List T->Gp->VK3->Prop:=λxs G Q=>∃i j,xs=[.int i,.int j]/\CDiv i j/\Q (.tup [.int (i / j),.int (i%j)]) G
theorem qY7:Call3 X (.builtin "divmod") kV2:=
 Call3.of kXt λH G xs as Q hg ra ⟨i,j,e,c,q⟩=>by
  subst e;obtain⟨v,w,rfl,rv,rw'⟩:=kQ8 ra;cases (show v= .int i from rv);cases (show w= .int j from rw')
  exact⟨i,j,rfl,c,λp hp=>⟨.tup [.int (i / j),.int (i%j)],G,.upd (.none hp),hg.tupNew hp,Rep.tupNew ⟨_,_,rfl,rfl,_,_,rfl,rfl,rfl⟩ hp,q⟩⟩
def kK7:List T->Gp->VK3->Prop:=λxs G Q=>∃x ys,xs=[x]/\seqT G x=some ys/\∀p,G p=none->Q (.ref p) (gup G p (.lst ys))
theorem uVq:Call3 X (.type "list") kK7:=
 Call3.of kUz λH G xs as Q hg ra ⟨x,ys,e,hx,q⟩=>by
  subst e;obtain⟨v,rfl,rv⟩:=jUn ra;obtain⟨p,vs,rfl,hq,r⟩:=jUe hg rv hx;exact⟨p,vs,rfl,hq,λl hl=>⟨.ref l,_,.upd (.none hl),hg.lstNew r (.none hl),rfl,q l (hg.fresh hl)⟩⟩
def jKi:List T->Gp->VK3->Prop:=λxs G Q=>∃x ys,xs=[x]/\seqT G x=some ys/\Q (.tup ys) G
theorem jQe:Call3 X (.type "tuple") jKi:=
 Call3.of kQs λH G xs as Q hg ra ⟨x,ys,e,hx,q⟩=>by
  subst e;obtain⟨v,rfl,rv⟩:=jUn ra;obtain⟨p,vs,rfl,hq,r⟩:=jUe hg rv hx;cases x with
  | tup zs=>
   cases hx;obtain⟨p',vs',e',h1,h2⟩:=(show ∃p' vs',V.ref p= .ref p'/\H p'=some (.tup vs')/\Reps X.K H ys vs' from rv)
   cases e';exact⟨p,vs',rfl,.inr ⟨.of h1,.tup ys,G,.refl H,hg,⟨p,vs',rfl,h1,h2⟩,q⟩⟩
  | scr zs=>
   cases hx;obtain⟨p',vs',e',h1,h2⟩:=(show ∃p' vs',V.ref p= .ref p'/\FrL X.K H p' vs'/\Reps X.K H ys vs' from rv)
   cases e';exact⟨p,vs',rfl,.inl ⟨h1.sq,λl hl=>⟨.tup ys,G,.upd (.none hl),hg.tupNew hl,Rep.tupNew h2 hl,q⟩⟩⟩
  | ref p'=>
   cases (show V.ref p= .ref p' from rv)
   obtain⟨vs',h1,h2⟩:=hg.lst (jVt hx);exact⟨p,vs',rfl,.inl ⟨.of h1,λl hl=>⟨.tup ys,G,.upd (.none hl),hg.tupNew hl,Rep.tupNew h2 hl,q⟩⟩⟩
  | non=>cases hx
  | bl _=>cases hx
  | int _=>cases hx
  | str _=>cases hx
  | ty _=>cases hx
noncomputable def rCat:R3:=λx y G Q=>∃p q xs ys,x= .ref p/\y= .ref q/\G p=some (.lst xs)/\G q=some (.lst ys)/\xs.length+ys.length<=sizeLine/\∀l,G l=none->Q (.ref l) (gup G l (.lst (xs++ys)))
noncomputable def rRep:R3:=λx y G Q=>∃p xs n,x= .ref p/\y= .int n/\G p=some (.lst xs)/\n.toNat * xs.length<=sizeLine/\n<2^62/\ -(2^62)<n/\∀l,G l=none->Q (.ref l) (gup G l (.lst (List.replicate n.toNat xs).flatten))
def tyT(G:Gp)(T0:String)(x:T):Prop:=match x with
 | .str _=>T0="str"
 | .int _=>T0="int"
 | .ref p=>(T0="list"/\∃xs,G p=some (.lst xs))\/(T0="dict"/\((∃kvs,G p=some (.dck kvs))\/∃kvs,G p=some (.dct kvs)))
 | _=>False
theorem tyT.of{a:V}(hg:GRel K H G)(r:Rep K H x a)(h:tyT G T0 x):tyV K T0 a H:=by
 cases x with
 | str z=>cases (show a= .str z from r);exact h
 | int z=>cases (show a= .int z from r);exact h
 | ref p=>
  cases (show a= .ref p from r)
  rcases h with ⟨e,xs,h⟩ | ⟨e,h⟩
  .obtain⟨vs,h1,_⟩:=hg.lst h;exact .inl ⟨e,vs,.of h1⟩
  .refine .inr (.inr (.inl ⟨e,?_⟩))
   rcases h with ⟨kvs,h⟩ | ⟨kvs,h⟩
   .obtain⟨ws,h1,_⟩:=hg p _ h;exact .inl ⟨ws,h1⟩
   .obtain⟨ws,h1,_⟩:=hg p _ h;exact .inr ⟨ws,h1⟩
 | non=>exact False.elim h
 | bl _=>exact False.elim h
 | ty _=>exact False.elim h
 | tup _=>exact False.elim h
 | scr _=>exact False.elim h
def tBM(T0:String)(r:T->List T->Gp->VK3->Prop)(to:TE3)(t:TA3):TE3:=λτ G Q=>to τ G λx G1=>tyT G1 T0 x/\t τ G1 λxs G2=>r x xs G2 Q
theorem e_bm{id:String}{r:T->List T->Gp->VK3->Prop}{o:Expr}{name:Str}{apos cpos:Pos}(pa:PlainAttrs T0)(slot:Slot T0 name id)(hty:typeOf (.builtin id)=pure (.type "method_descriptor"))(hm:Mt3 X id r)(ho:PE3 X o to)(ha:PA3 X (e::es) t)(hbase:attributeBase o name X.env (eval o X.env)=eval o X.env:=by rfl)(hfew:((backTo cpos (starEach (e::es) X.env)).all (λx=> !x.1)&&(backToKw cpos (keywordEach [] X.env)).all (λx=>x.1.isSome)
   &&decide ((e::es).length+([]:List Keyword).length+(if ([]:List Keyword).isEmpty then 0 else 1)<30))=true:=by rfl)(hline:(apos.endLine == cpos.line)=true:=by rfl)(hs:starEach (e::es) X.env=(false,eval e X.env)::starEach es X.env:=by rfl)(hplain:(backTo cpos (starEach es X.env)).any (·.1)=false:=by rfl):
  PE3 X (.Call (.Attribute o name apos) (e::es) [] cpos) (tBM T0 r to t):=by
 intro pins s τ G H Q I h;refine wpAny_Call_method_late hbase hfew hline rfl (thn (ho pins s τ G H _ I h) λv s1 w_=>w_.el λx G1 H1 e1 I1 r1 ⟨ty,q1⟩=> ?_)
 obtain⟨σ,I0,hs0,hg0⟩:=_root_.id I1;obtain⟨a0,ra0,rv0⟩:=_root_.id r1;obtain⟨h1,h2⟩:=uQu I0 rv0 (tyT.of hg0 ra0 ty);refine⟨T0,id,pa,slot,hty,h1,h2,?_⟩;have hA:=ha cpos pins s1 τ G1 H1 _ I1 q1;rw[hs] at hA ⊢;refine Calls.callWith_builtin (by show (false||(backTo cpos (starEach es X.env)).any (·.1))=false;rw[hplain]<;>rfl) (Calls.evalArgs_plain ?_)
 exact thn hA λus s2 w_=>w_.el λvs G2 H2 e2 I2 r2 q2=>thn (hm pins s2 τ G2 H2 x vs v us Q I2 (r1.mono e2) r2 q2) λ_ _ z=>(z.ext e2).ext e1
def jQa:T->List T->Gp->VK3->Prop:=λx xs G Q=>∃p ys y,x= .ref p/\xs=[y]/\G p=some (.lst ys)/\ys.length<sizeLine/\Q .non (gup G p (.lst (ys++[y])))
def qXl:T->T->T->Gp->(Gp->Prop)->Prop:=λo i v G Q=>∃p xs k j,o= .ref p/\i= .int k/\G p=some (.lst xs)/\ixN xs.length k=some j/\Q (gup G p (.lst (xs.set j v)))
theorem s_list:Set3 X qXl:=
 Set3.of qV9 λH G o i v a b c Q hg ra rb rc ⟨p,xs,k,j,eo,ei,hp,hj,q⟩=>by
  subst eo;subst ei;cases (show a= .ref p from ra);cases (show b= .int k from rb)
  obtain⟨vs,h1,h2⟩:=hg.lst hp;exact⟨p,vs,k,j,rfl,rfl,h1,by rw[<-h2.length];exact hj,_,.upd (.lst h1),hg.lstNew (h2.set rc j) (.lst h1),q⟩
end
theorem o_cat:Op3 X (binaryOp .Add) rCat:=
 Op3.of uUs λH G x y a b Q hg ra rb ⟨p,q,xs,ys,ex,ey,hp,hq,hz,h⟩=>by
  subst ex;subst ey;cases (show a= .ref p from ra);cases (show b= .ref q from rb)
  obtain⟨vs,h1,h2⟩:=hg.lst hp;obtain⟨ws,h3,h4⟩:=hg.lst hq;exact⟨p,q,vs,ws,rfl,rfl,h1,h3,by rw[<-h2.length,<-h4.length];exact hz,λl hl=>⟨.ref l,_,.upd (.none hl),hg.lstNew (h2.append h4) (.none hl),rfl,h l (hg.fresh hl)⟩⟩
theorem uXj:Op3 X (binaryOp .Mult) rRep:=
 Op3.of uUn λH G x y a b Q hg ra rb ⟨p,xs,n,ex,ey,hp,hz,h1,h2,h⟩=>by
  subst ex;subst ey;cases (show a= .ref p from ra);cases (show b= .int n from rb)
  obtain⟨vs,h3,h4⟩:=hg.lst hp;refine⟨p,n,vs,rfl,rfl,h3,by omega,by omega,by rw[<-h4.length,lX9];exact hz,λl hl=>⟨.ref l,_,.upd (.none hl),hg.lstNew (h4.rep _) (.none hl),rfl,h l (hg.fresh hl)⟩⟩
theorem jQb:Mt3 X "list.append" jQa:=
 Mt3.of qQz λH G x xs a as Q hg ra ras ⟨p,ys,y,ex,exs,hp,hz,q⟩=>by
  subst ex;subst exs;cases (show a= .ref p from ra)
  obtain⟨v,rfl,rv⟩:=jUn ras;obtain⟨vs,h1,h2⟩:=hg.lst hp;exact⟨p,vs,v,rfl,rfl,h1,by rw[<-h2.length];exact hz,.non,_,.upd (.lst h1),hg.lstNew (h2.append (.one rv)) (.lst h1),rfl,q⟩
def jKj:TS3:=λD τ G=>D.nx τ G
def tSeq(t u:TS3):TS3:=λD τ G=>t {D with nx:=u D} τ G
def jU1(te:TE3):TS3:=λD τ G=>te τ G λ_ G1=>D.nx τ G1
def tRet(te:TE3):TS3:=λD τ G=>te τ G D.rt
def uQz:TS3:=λD _ G=>D.rt .non G
def tIfS(c:TT3)(t u:TS3):TS3:=λD τ G=>c τ G λb G1=>if b=true then t D τ G1 else u D τ G1
variable {st:Stmt}
section
variable {rest:List Stmt}{t u:TS3}
theorem jKb:PSs3 X [] jKj:=λ_ _ τ G H _ I h=>lZg ⟨τ,G,H,.refl H,I,h⟩
theorem jJe(h1:PS3 X st t)(h2:PSs3 X rest u):PSs3 X (st::rest) (tSeq t u):=by
 intro pins s τ G H D I h;refine wpAny_execs_cons (thn (h1 pins s τ G H {D with nx:=u D} I h) λf s1 q=> ?_)
 cases f with
 | next=>
  obtain⟨τ',G',H',e',I',q⟩:=q;exact thn (h2 pins s1 τ' G' H' D I' q) λ_ _ z=>z.ext e'
 | ret v=>exact q
 | brk=>exact q
 | cont=>exact q
theorem jJi(h1:PS3 X st t):PSs3 X [st] t:=by
 intro pins s τ G H D I h;refine wpAny_execs_cons (thn (h1 pins s τ G H D I h) λf s1 q=> ?_)
 cases f with
 | next=>exact lZg q
 | ret v=>exact q
 | brk=>exact q
 | cont=>exact q
theorem jQz(he:PE3 X e te)(hs:swapsWith e none pos.line X.env=pure false:=by rfl):PS3 X (.Expr e pos) (jU1 te):=by
 intro pins s τ G H D I h;obtain⟨σ,I0,hs0,hg0⟩:=id I;exact wpAny_Expr_any (thn (he pins s τ G H _ I h) λv s1 w_=>w_.el λx G1 H1 e1 I1 r1 q1=>⟨τ,G1,H1,e1,I1,q1⟩) I0.quiet hs
theorem jJy(he:PE3 X e te):PS3 X (.Return (some e) pos) (tRet te):=by
 intro pins s τ G H D I h;exact wpAny_Return_some (thn (he pins s τ G H _ I h) λv s1 w_=>w_.el λx G1 H1 e1 I1 r1 q1=>⟨x,τ,G1,H1,e1,I1,r1,q1⟩)
theorem s_if{a b:List Stmt}{tc:TT3}(hc:PT3 X c tc)(ha:PSs3 X a t)(hb:PSs3 X b u):PS3 X (.If c a b pos) (tIfS tc t u):=by
 intro pins s τ G H D I h;refine wpAny_If (thn (hc pins s τ G H _ I h) λd s1 w_=>w_.el λG1 H1 e1 I1 q1=> ?_)
 cases d with
 | true=>exact thn (ha pins s1 τ G1 H1 D I1 q1) λ_ _ z=>z.ext e1
 | false=>exact thn (hb pins s1 τ G1 H1 D I1 q1) λ_ _ z=>z.ext e1
end
abbrev TG3:=T->St3->Gp->(St3->Gp->Prop)->Prop
abbrev TGs3:=List T->St3->Gp->(St3->Gp->Prop)->Prop
def GP3(X:Cx)(pins:List (Addr×Obj))(H:Hp)(Q:St3->Gp->Prop)(s':Shared):Prop:=∃ τ' G' H',Ext H H'/\Inv3 X pins τ' G' H' s'/\Q τ' G'
def PG3(X:Cx)(target:Expr)(t:TG3):Prop:=
 ∀(pins:List (Addr×Obj))(s:Shared)(τ:St3)(G:Gp)(H:Hp)(v:T)(u:Value)(Q:St3->Gp->Prop),Inv3 X pins τ G H s->RU X.K H v u->t v τ G Q->
  wpAny (model X.prog X.w) X.A (assign target X.env u) (λ_ s'=>GP3 X pins H Q s') X.xe s
def PGs3(X:Cx)(ts:List Expr)(t:TGs3):Prop:=
 ∀(pins:List (Addr×Obj))(s:Shared)(τ:St3)(G:Gp)(H:Hp)(vs:List T)(us:List Value)(Q:St3->Gp->Prop),Inv3 X pins τ G H s->RUs X.K H vs us->t vs τ G Q->
  wpAny (model X.prog X.w) X.A (assignInOrder ((assignEach ts X.env).map (·.2)) us) (λ_ s'=>GP3 X pins H Q s') X.xe s
def jJj(i:Nat):TG3:=λv τ G Q=>Q (τ.set i (some v)) G
def gNil:TGs3:=λvs τ G Q=>vs=[]/\Q τ G
def jKc(t:TG3)(u:TGs3):TGs3:=λvs τ G Q=>∃v r,vs=v::r/\t v τ G λτ' G'=>u r τ' G' Q
def gTup(n:Nat)(t:TGs3):TG3:=λv τ G Q=>∃xs,v= .tup xs/\xs.length=n/\t xs τ G Q
def gSub(to ti:TE3)(t:T->T->T->Gp->(Gp->Prop)->Prop):TG3:=λv τ G Q=>to τ G λo G1=>ti τ G1 λi G2=>t o i v G2 λG3=>Q τ G3
def tAsg(te:TE3)(g:TG3):TS3:=λD τ G=>te τ G λx G1=>g x τ G1 D.nx
variable {i n:Nat}{tg:Expr}{g:TG3}{ta:TA3}{py:Pos}{body:List Stmt}
theorem jJo{x:Str}(hN:X.N.Nodup)(hi:X.N[i]? =some x:=by rfl)(hx:Loc X.env.scope x:=by first | exact Or.inl rfl | exact Or.inr rfl)(hf:X.fn x=true\/X.env.scope.names.lookup x=some .local:=by first | exact .inl rfl | exact .inr rfl):PG3 X (.Name x pos) (jJj i):=by
 rintro pins s τ G H v u Q ⟨σ,I,hs,hg⟩ ⟨a,ra,rv⟩ h;exact wpAny_assign_Name (jXd I hN hi hx rv (λs' I'=>⟨_,G,H,.refl H,⟨_,I',hs.set i ra,hg⟩,h⟩) hf)
theorem jQc:PGs3 X [] gNil:=by
 rintro pins s τ G H vs us Q I ⟨as,r,rv⟩ ⟨e,h⟩;subst e;cases (show as=[] from r)
 cases rv;exact assignInOrder_nil ⟨τ,G,H,.refl H,I,h⟩
theorem jJt{t:TG3}{u:TGs3}(h1:PG3 X e t)(h2:PGs3 X es u)(hs:(assignEach (e::es) X.env).map (·.2)=assign e X.env::(assignEach es X.env).map (·.2):=by rfl):PGs3 X (e::es) (jKc t u):=by
 rintro pins s τ G H vs us Q I ⟨as,r,rv⟩ ⟨v,vr,e1,h⟩;subst e1;obtain⟨a,ar,rfl,ra,rar⟩:=r;cases rv with
 | cons q qq=>
  rw[hs];refine mJq (thn (h1 pins s τ G H v _ _ I ⟨a,ra,q⟩ h) λ_ s1 ⟨τ1,G1,H1,e1,I1,q1⟩=> ?_)
  exact thn (h2 pins s1 τ1 G1 H1 vr _ Q I1 ⟨ar,Reps.mono e1 _ rar,qq⟩ q1) λ_ s2 ⟨τ2,G2,H2,e2,z⟩=>⟨τ2,G2,H2,e1.trans e2,z⟩
theorem jUw{k:Nat}{t:TGs3}(hc:X.calm=true)(h:PGs3 X es t)(hn:(assignEach es X.env).length=n:=by rfl)(hst:(assignEach es X.env).findIdx? (·.1)=none:=by rfl):PG3 X (.Tuple es k pos) (gTup n t):=by
 rintro pins s τ G H v u Q ⟨σ,I,hs,hg⟩ ⟨a,ra,rv⟩ ⟨xs,ev,hl,hw⟩;subst ev;obtain⟨p,vs,e1,h1,r1⟩:=(show ∃p vs,a= .ref p/\H p=some (.tup vs)/\Reps X.K H xs vs from ra)
 subst e1;cases rv;obtain⟨its,rv,ht,hz⟩:=I.tuple (.of h1);refine assign_Tuple_tuple (I.ok.hd hc) ht (by simp[hn,<-hl,r1.length,rv.length]) hst λh' hx=> ?_
 have I1:Inv X pins σ H {s with heap:=h'}:=I.kept (t':=s.toks) λb o e=>hx b o (lJt (lJk e)) e
 exact h pins _ τ G H xs _ Q ⟨σ,I1,hs,hg⟩ ⟨vs,r1,by simpa using rv⟩ hw
theorem jXw{o i:Expr}{ti:TE3}{t:T->T->T->Gp->(Gp->Prop)->Prop}(ho:PE3 X o to)(hi:PE3 X i ti)(hs:Set3 X t)(ha:∀v,assign (.Subscript o i pos) X.env v=(do
   let ov <-holding [v] (eval o X.env)
   let iv <-holding [v,ov] (eval i X.env)
   standAt pos
   holding [v,ov,iv] (setItem ov iv v)
   release [v,ov,iv] []):=by intro _;rfl):PG3 X (.Subscript o i pos) (gSub to ti t):=by
 intro pins s τ G H v u Q I r h;rw[ha];refine lJa (lKj (thn (ho pins s τ G H _ I h) λov s1 w_=>w_.el λx G1 H1 e1 I1 r1 q1=> ?_))
 refine lJa (lKj (thn (hi pins s1 τ G1 H1 _ I1 q1) λiv s2 w_=>w_.el λy G2 H2 e2 I2 r2 q2=> ?_))
 refine lJa (lZh (lJa (lKj (thn (hs pins s2 τ G2 H2 x y v ov iv u _ I2 (r1.mono e2) r2 (r.mono (e1.trans e2)) q2) λ_ s3 ⟨G3,H3,e3,I3,q3⟩=> ?_))))
 exact wpAny_release ⟨τ,G3,H3,(e1.trans e2).trans e3,I3,q3⟩
theorem jXk(he:PE3 X e te)(hg:PG3 X tg g)(hs:swapsWithSole [tg] e pos.line X.env=pure false:=by rfl)(hw:swappedStores [tg] e X.env=pure none:=by rfl)(h1:(assignEach [tg] X.env).map (·.2)=[assign tg X.env]:=by rfl):PS3 X (.Assign [tg] e pos) (tAsg te g):=by
 intro pins s τ G H D I h;refine wpAny_Assign_stores (thn (he pins s τ G H _ I h) λv s1 w_=>w_.el λx G1 H1 e1 I1 r1 q1=> ?_) hs hw
 rw[h1];exact thn (hg pins s1 τ G1 H1 x v _ I1 r1 q1) λ_ s2 ⟨τ2,G2,H2,e2,q⟩=>⟨τ2,G2,H2,e1.trans e2,q⟩
theorem jJ1{x:Str}{pos':Pos}(hN:X.N.Nodup)(he:PE3 X e te)(hi:X.N[i]? =some x:=by rfl)(hx:Loc X.env.scope x:=by first | exact Or.inl rfl | exact Or.inr rfl)(hs:swapsWith e (some (.Name x pos')) pos.line X.env=pure false:=by rfl)(hf:X.fn x=true\/X.env.scope.names.lookup x=some .local:=by first | exact .inl rfl | exact .inr rfl):
  PS3 X (.Assign [.Name x pos'] e pos) (tAsg te (jJj i)):=by
 intro pins s τ G H D I h;refine wpAny_Assign_Name (thn (he pins s τ G H _ I h) λv s1 w_=>w_.el λy G1 H1 e1 i_ r_ q1=>i_.el λσ I1 hs1 hg1=>r_.el λa ra rv=> ?_) hs
 exact jXd I1 hN hi hx rv (λs2 I2=>⟨_,G1,H1,e1,⟨_,I2,hs1.set i ra,hg1⟩,q1⟩) hf
def tPar(i j:Nat)(ta:TA3):TS3:=λD τ G=>ta τ G λvs G1=>∃v w,vs=[v,w]/\D.nx ((τ.set i (some v)).set j (some w)) G1
theorem uQ8{j:Nat}{x y:Str}{px pt:Pos}{kt k2 pt2}(hc:X.calm=true)(hN:X.N.Nodup)(hij:i≠j)(ha:PA3 X [a,b] ta)(hi:X.N[i]? =some x:=by rfl)(hj:X.N[j]? =some y:=by rfl)(hx:X.env.scope.names.lookup x=some .local:=by rfl)(hy:X.env.scope.names.lookup y=some .local:=by rfl)(hw:swappedStores [.Tuple [.Name x px,.Name y py] kt pt] (.Tuple [a,b] k2 pt2) X.env=pure (some [x,y]):=by rfl)(hs:swapsWithSole [.Tuple [.Name x px,.Name y py] kt pt] (.Tuple [a,b] k2 pt2) pos.line X.env=pure false:=by rfl):
  PS3 X (.Assign [.Tuple [.Name x px,.Name y py] kt pt] (.Tuple [a,b] k2 pt2) pos) (tPar i j ta):=by
 intro pins s τ G H D I h;rw[exec_Assign_arm];refine lJa (lZh ?_);rw[hs];refine lJa (lJd ?_);rw[lJb (by decide)]
 refine lJa (Tuple_ (thn (ha _ pins s τ G H _ I h) λus s1 w_=>w_.el λvs G1 H1 e1 i_ r_ q1=>i_.el λσ I1 hs1 hg1=>r_.el λas ras rvs=> ?_))
 obtain⟨v,w,ev,q1⟩:=q1;subst ev;obtain⟨a1,a2,rfl,ra1,ra2⟩:=kQ8 ras;obtain⟨u1,u2,rfl,rv,rw'⟩:=rvs.two;refine lQb ?_ (by show 2<=sizeLine;decide)
 have I2:Inv X pins σ H1 {s1 with heap:=s1.heap.push {cls:= .type "tuple",data:= .seq [u1,u2].toArray} }:=I1.kept (t':=s1.toks) λb o e=>lJm _ e
 rw[hw];refine lJa (lJd ?_);show wpAny (model X.prog X.w) X.A (do rule "assign.swapped-stores"; let items <-unpackItems (.ref s1.heap.objs.size) 2 none;assignInOrder [λv=>bindName X.env y v,λv=>bindName X.env x v] items.reverse;pure Flow.next) _ _ _
 refine lJa (lQq (lJa (unpackItems_tuple (items:= #[u1,u2]) (I1.ok.hd hc) (IsTup.new s1.heap _) λh' hx'=> ?_)))
 have I3:=I2.kept (h':=h') (t':=s1.toks) λb o e=>hx' b o (lJt (lJk e)) e
 show wpAny _ _ (assignInOrder [λv=>bindName X.env y v,λv=>bindName X.env x v] [u2,u1] >>= λ_=>pure Flow.next) _ _ _
 refine lJa (mJq (wpAny_bindName (jXd I3 hN hj (.inl hy) rw' (λs2 I4=> ?_) (.inr hy))))
 refine mJq (wpAny_bindName (jXd I4 hN hi (.inl hx) rv (λs3 I5=>assignInOrder_nil (lJd ?_)) (.inr hx)))
 rw[List.set_comm _ _ (Ne.symm hij)] at I5;exact⟨_,G1,H1,e1,⟨_,I5,(hs1.set i ra1).set j ra2,hg1⟩,q1⟩
noncomputable def jZg(c:TT3)(tb:TS3):TS3:=λD τ G=>∃W:Nat->St3->Gp->Prop,(∃m,W m τ G)/\∀m τ G,W m τ G->
 c τ G λb G1=>if b=true then ∃N:St3->Gp->Prop,(∀ τ' G',N τ' G'->∃m',m'<m/\W m' τ' G')/\tb {D with nx:=N,ct:=N,bk:=D.nx} τ G1 else D.nx τ G1
theorem kVn{tc:TT3}{tb:TS3}(hp:PassesOwn (model X.prog X.w) X.A X.env X.xe)(hc:PT3 X c tc)(hb:PSs3 X body tb):PS3 X (.While c body [] pos) (jZg tc tb):=by
 intro pins s τ G H D I h;obtain⟨W,⟨m0,w0⟩,turn⟩:=h;refine wpAny_While (codeAny_whileLoop (λn s'=>∃ τ' G' H',Ext H H'/\Inv3 X pins τ' G' H' s'/\W n τ' G') ?_ m0 ⟨τ,G,H,.refl H,I,w0⟩)
 rintro n s1 ⟨τ1,G1,H1,e1,I1,w1⟩;refine lXg hp (thn (hc pins s1 τ1 G1 H1 _ I1 (turn n τ1 G1 w1)) λb s2 w_=>w_.el λG2 H2 e2 I2 q2=> ?_)
 cases b with
 | true=>
  obtain⟨N,hN,q2⟩:=q2;rw[lJc rfl];refine lXg hp (thn (hb pins s2 τ1 G2 H2 _ I2 q2) λf s3 q3=> ?_)
  cases f with
  | next=>
   obtain⟨τ3,G3,H3,e3,I3,n3⟩:=q3;obtain⟨m',hm,w3⟩:=hN τ3 G3 n3;exact⟨m',hm,τ3,G3,H3,(e1.trans e2).trans e3,I3,w3⟩
  | cont=>
   obtain⟨τ3,G3,H3,e3,I3,n3⟩:=q3;obtain⟨m',hm,w3⟩:=hN τ3 G3 n3;exact⟨m',hm,τ3,G3,H3,(e1.trans e2).trans e3,I3,w3⟩
  | brk=>exact SP3.ext (f:= .next) (e1.trans e2) q3
  | ret v=>exact SP3.ext (f:= .ret v) (e1.trans e2) q3
 | false=>
  rw[lJb lJs];exact lZg ⟨τ1,G2,H2,e1.trans e2,I2,q2⟩
def uQl(K:PySem.W.Frag)(H0:Hp)(J:It)(xs:List T)(stay:Gp->Prop):Prop:=
 ∀i H G,Ext H0 H->GRel K H G->stay G->(i<xs.length->J.go i H)/\(xs.length<=i->J.stop i H)/\(i<xs.length->∀x H',J.yld i H x H'->Ext H H'/\GRel K H' G/\∃t,xs[i]? =some t/\Rep K H' t x)
abbrev TI3:=St3->Gp->(List T->(Gp->Prop)->Gp->Prop)->Prop
def PIE3(X:Cx)(pins:List (Addr×Obj))(τ:St3)(H:Hp)(tg:Expr)(R:List T->(Gp->Prop)->Gp->Prop)(itv:Value)(s2:Shared):Prop:=
 ∃(it:Addr)(fp:List Addr)(tn:Nat->Heap->Prop)(J:It)(xs:List T)(stay:Gp->Prop)(G':Gp)(H':Hp),itv= .ref it/\Ext H H'/\Inv3 X pins τ G' H' s2/\Turn X.prog X.w X.K tg J fp it tn/\tn 0 s2.heap/\(∀b∈fp,FpOk X pins H' b)/\
  uQl X.K H' J xs stay/\R xs stay G'
def PI3(X:Cx)(tg iter:Expr)(wi:TI3):Prop:=
 ∀(pins:List (Addr×Obj))(s:Shared)(τ:St3)(G:Gp)(H:Hp)(R:List T->(Gp->Prop)->Gp->Prop),Inv3 X pins τ G H s->wi τ G R->
  wpAny (model X.prog X.w) X.A (eval iter X.env) (λv s1=>wpAny (model X.prog X.w) X.A (pyIter v) (PIE3 X pins τ H tg R) X.xe s1) X.xe s
noncomputable def tFor(wi:TI3)(g:TG3)(tb:TS3):TS3:=λD τ G=>wi τ G λxs stay G1=>∃P:Nat->St3->Gp->Prop,P 0 τ G1/\(∀i τ G,i<=xs.length->P i τ G->stay G)/\
 (∀i x τ G,xs[i]? =some x->P i τ G->g x τ G λτ2 G2=>tb {D with nx:=P (i+1),ct:=P (i+1),bk:=D.nx} τ2 G2)/\∀ τ G,P xs.length τ G->D.nx τ G
variable {iter:Expr}{wi:TI3}
theorem jKu{tb:TS3}(hp:PassesOwn (model X.prog X.w) X.A X.env X.xe)(hc:X.calm=true)(hi:PI3 X tg iter wi)(hg:PG3 X tg g)(hb:PSs3 X body tb)(hs:∀x,foldedSetIterable iter X.env x=pure x:=by intro _;rfl):PS3 X (.For tg iter body [] pos) (tFor wi g tb):=by
 intro pins s τ G H D I h;refine wpAny_For (thn (hi pins s τ G H _ I h) λv s1 h1=>thn h1 λitv s2 h2=> ?_) hs
 obtain⟨it,fp,tn,J,xs,stay,G2,H2,e,eH,I2,T0,st2,f2,IT,P,p0,hstay,turn,fin⟩:=h2;subst e;have stat:∀{H':Hp},(∀b∈fp,H' b=none)->∀b∈fp,FpOk X pins H' b:=λhn b hb=>⟨hn b hb,(f2 b hb).2⟩
 refine codeAny_forLoop_any (λn s'=>∃i τ' G' H',n=xs.length-i/\i<=xs.length/\Ext H2 H'/\Inv3 X pins τ' G' H' s'/\tn i s'.heap/\(∀b∈fp,H' b=none)/\P i τ' G') ?_ xs.length ⟨0,τ,G2,H2,rfl,lJn _,.refl _,I2,st2,λb hb=>(f2 b hb).1,p0⟩
 rintro n s3 ⟨i,τ3,G3,H3,en,hi3,e3,⟨σ3,I3,hs3,hg3⟩,st3,fr3,p3⟩;obtain⟨go,stop,yl⟩:=IT i H3 G3 e3 hg3 (hstay i τ3 G3 hi3 p3)
 by_cases hlt:i<xs.length
 .refine lXg hp (thn (T0.item X rfl rfl rfl hc i pins s3 σ3 H3 X.xe I3 (stat fr3) st3 (go hlt)) λr s4 ⟨u,hr,h4⟩=> ?_)
  subst hr;refine lXg hp (thn h4 λ_ s5 ⟨x,H5,I5,r5,y5,st5,fr5⟩=> ?_)
  obtain⟨e5,g5,t,ht,rt⟩:=yl hlt x H5 y5;have I5':=I5.pinned (stat fr5) (T0.obj _ _ st5);refine lXg hp (thn (hg _ s5 τ3 G3 H5 t u _ ⟨σ3,I5',hs3.mono e5,g5⟩ ⟨x,rt,r5⟩ (turn i t τ3 G3 ht p3)) λ_ s6 ⟨τ6,G6,H6,e6,I6,q6⟩=> ?_)
  refine lXg hp (thn (hb _ s6 τ6 G6 H6 _ I6 q6) λf s7 q7=> ?_)
  have e36:Ext H2 H6:=(e3.trans e5).trans e6
  have again:∀{τ7:St3}{G7:Gp}{H7:Hp},Ext H6 H7->Inv3 X (pins++jVy fp s5.heap) τ7 G7 H7 s7->P (i+1) τ7 G7->
    ∃m,m<n/\∃i τ' G' H',m=xs.length-i/\i<=xs.length/\Ext H2 H'/\Inv3 X pins τ' G' H' s7/\tn i s7.heap/\(∀b∈fp,H' b=none)/\P i τ' G':=λ{τ7 G7 H7} e7 ⟨σ7,I7,hs7,hg7⟩ p7=>by
   refine⟨xs.length-(i+1),by omega,i+1,τ7,G7,H7,rfl,hlt,e36.trans e7,⟨σ7,I7.unpinned,hs7,hg7⟩,T0.keep _ _ _ st5 λb hb o e=>(I7.pin (b,o) (lKb _ (lKb _ (jVp hb e)))).1,λb hb=> ?_,p7⟩
   obtain⟨o,e,d⟩:=T0.obj _ _ st5 b hb;exact (I7.pin (b,o) (lKb _ (lKb _ (jVp hb e)))).2.1
  have un:∀{τ7:St3}{G7:Gp}{H7:Hp},Inv3 X (pins++jVy fp s5.heap) τ7 G7 H7 s7->Inv3 X pins τ7 G7 H7 s7:=λ⟨σ7,I7,a,b⟩=>⟨σ7,I7.unpinned,a,b⟩
  cases f with
  | next=>obtain⟨τ7,G7,H7,e7,I7,n7⟩:=q7;exact again e7 I7 n7
  | cont=>obtain⟨τ7,G7,H7,e7,I7,n7⟩:=q7;exact again e7 I7 n7
  | brk=>obtain⟨τ7,G7,H7,e7,I7,q7⟩:=q7;exact⟨τ7,G7,H7,(eH.trans e36).trans e7,un I7,q7⟩
  | ret v=>obtain⟨x7,τ7,G7,H7,e7,I7,r7,q7⟩:=q7;exact⟨x7,τ7,G7,H7,(eH.trans e36).trans e7,un I7,r7,q7⟩
 .have ei:i=xs.length:=by omega
  refine lXg hp (thn (T0.done X rfl rfl rfl hc i pins s3 σ3 H3 X.xe I3 (stat fr3) st3 (stop (by omega))) λr s4 ⟨hr,I4⟩=> ?_)
  subst hr;subst ei;exact lZg ⟨τ3,G3,H3,eH.trans e3,⟨σ3,I4,hs3,hg3⟩,fin τ3 G3 p3⟩
def iSeq(tl:TE3):TI3:=λτ G R=>tl τ G λx G1=>∃xs,seqT G1 x=some xs/\R xs (λG'=>seqT G' x=some xs) G1
theorem jUt{l:Expr}{tl:TE3}(hl:PE3 X l tl):PI3 X tg l (iSeq tl):=by
 intro pins s τ G H R I h;refine thn (hl pins s τ G H _ I h) λv s1 w_=>w_.el λx G1 H1 e1 i_ r_ ⟨xs,hx,q⟩=>i_.el λσ I1 hs1 hg1=>r_.el λa ra rv=> ?_
 obtain⟨p,vs,e,hq,r⟩:=jUe hg1 ra hx;subst e;cases rv
 have fpk:∀b∈[s1.heap.objs.size],FpOk X pins H1 b:=λb hb=>by
  have e:b=s1.heap.objs.size:=by simpa using hb
  subst e;exact I1.fpOk (lJh _) (I1.hok.fresh (lJh _))
 rcases hq with hq | hq
 .obtain⟨its,rv,pl,hz⟩:=I1.list hq;refine wpAny_pyIter_list pl.isList ?_;refine⟨s1.heap.objs.size,[s1.heap.objs.size],_,_,xs,λG'=>seqT G' x=some xs,G1,H1,rfl,e1,⟨σ,I1.kept (t':=s1.toks) λb o e=>lJm _ e,hs1,hg1⟩,qKe p _,⟨_,lJ8 _ rfl,rfl,rfl⟩,fpk,?_,q⟩
  intro i H2 G2 e2 g2 st;have ra2:=Rep.mono e2 _ ra
  have now:∃ws,SqL X.K H2 p ws/\Reps X.K H2 xs ws:=by
   cases x with
   | scr ys=>cases hx;obtain⟨p',ws,ep,h1,h2⟩:=(show ∃p' ws,V.ref p= .ref p'/\FrL X.K H2 p' ws/\Reps X.K H2 xs ws from ra2);cases ep;exact⟨ws,h1.sq,h2⟩
   | ref p'=>cases (show V.ref p= .ref p' from ra);obtain⟨ws,h1,h2⟩:=g2.lst (jVt st);exact⟨ws,.of h1,h2⟩
   | tup ys=>
    obtain⟨p',ws,ep,h1,h2⟩:=(show ∃p' ws,V.ref p= .ref p'/\H1 p'=some (.tup ws)/\Reps X.K H1 ys ws from ra)
    cases ep
    exfalso
    obtain⟨its',_,pl',_⟩:=I1.tuple (.of h1);obtain⟨o,n,ho,hc,_⟩:=pl;obtain⟨o',ho',hc',_⟩:=pl';rw[ho] at ho';cases ho';rw[hc] at hc';exact absurd hc' (by decide)
   | non=>cases hx
   | bl _=>cases hx
   | int _=>cases hx
   | str _=>cases hx
   | ty _=>cases hx
  obtain⟨ws,h1,h2⟩:=now;have hlen:=h2.length;refine⟨λhi=> ?_,λhi=>⟨ws,h1,by omega⟩,λ_ y H' ⟨eH,hy⟩=> ?_⟩
  .exact⟨ws,ws[i]'(by omega),h1,by simp[hlen▸hi]⟩
  .subst eH;obtain⟨t,ht,rt⟩:=h2.get' (hy ws h1);exact⟨.refl _,g2,t,ht,rt⟩
 .obtain⟨its,rv,pl,hz⟩:=I1.tuple hq;refine lZi (show s1.heap.IsTuple p its.toArray from pl) ?_
  refine⟨s1.heap.objs.size,[s1.heap.objs.size],_,_,xs,λG'=>seqT G' x=some xs,G1,H1,rfl,e1,⟨σ,I1.kept (t':=s1.toks) λb o e=>lJm _ e,hs1,hg1⟩,kZ1 p _,⟨_,lJ8 _ rfl,rfl,rfl⟩,fpk,?_,q⟩
  intro i H2 G2 e2 g2 st;have ra2:=Rep.mono e2 _ ra
  have now:∃ws,H2 p=some (.tup ws)/\Reps X.K H2 xs ws:=by
   cases x with
   | tup ys=>cases hx;obtain⟨p',ws,ep,h1,h2⟩:=(show ∃p' ws,V.ref p= .ref p'/\H2 p'=some (.tup ws)/\Reps X.K H2 xs ws from ra2);cases ep;exact⟨ws,h1,h2⟩
   | scr ys=>
    obtain⟨p',ws,ep,h1,h2⟩:=(show ∃p' ws,V.ref p= .ref p'/\FrL X.K H1 p' ws/\Reps X.K H1 ys ws from ra)
    cases ep
    exfalso
    obtain⟨its',_,pl',_⟩:=I1.list h1.sq;obtain⟨o,n,ho,hc,_⟩:=pl';obtain⟨o',ho',hc',_⟩:=pl;rw[ho] at ho';cases ho';rw[hc] at hc';exact absurd hc' (by decide)
   | ref p'=>
    cases (show V.ref p= .ref p' from ra)
    obtain⟨ws,h1,h2⟩:=hg1.lst (jVt hx)
    exfalso
    obtain⟨its',_,pl',_⟩:=I1.list (.of h1);obtain⟨o,n,ho,hc,_⟩:=pl';obtain⟨o',ho',hc',_⟩:=pl;rw[ho] at ho';cases ho';rw[hc] at hc';exact absurd hc' (by decide)
   | non=>cases hx
   | bl _=>cases hx
   | int _=>cases hx
   | str _=>cases hx
   | ty _=>cases hx
  obtain⟨ws,h1,h2⟩:=now;have hlen:=h2.length;refine⟨λhi=> ?_,λhi=>⟨ws,.of h1,by omega⟩,λ_ y H' ⟨eH,hy⟩=> ?_⟩
  .exact⟨ws,ws[i]'(by omega),.of h1,by simp[hlen▸hi]⟩
  .subst eH;obtain⟨t,ht,rt⟩:=h2.get' (hy ws (.of h1));exact⟨.refl _,g2,t,ht,rt⟩
noncomputable def rngT(lo:Int)(n:Nat):List T:=(List.range n).map λ(k:Nat)=>T.int (lo+k)
def jKl(ta:TA3):TI3:=λτ G R=>ta τ G λvs G1=>∃j:Int,vs=[.int j]/\ -(2^62)<=j/\j<2^62/\R (rngT 0 j.toNat) (λ_=>True) G1
def uKq(ta:TA3):TI3:=λτ G R=>ta τ G λvs G1=>∃i j:Int,vs=[.int i,.int j]/\(-(2^62)<=i/\i<2^62/\ -(2^62)<=j/\j<2^62)/\R (rngT i (j-i).toNat) (λ_=>True) G1
theorem kUq(lo:Int)(n:Nat):uQl K H (Itr lo n) (rngT lo n) λ_=>True:=by
 intro i H' G e g _;have hl:(rngT lo n).length=n:=by simp[rngT]
 refine⟨λh=>by rw[hl] at h;exact h,λh=>by rw[hl] at h;exact h,λhi x H2 ⟨eH,ex⟩=> ?_⟩
 rw[hl] at hi;subst eH;subst ex;exact⟨.refl _,g,.int (lo+i),by simp[rngT,hi],rfl⟩
theorem jJ6(hg:Gl X "range")(hm:X.mg "range"=none)(ha:PA3 X [a] ta)(hs:starEach [a] X.env=[(false,eval a X.env)]:=by rfl):PI3 X tg (.Call (.Name "range" p) [a] [] pos) (jKl ta):=by
 intro pins s τ G H R I h;obtain⟨σ,I0,hs0,hg0⟩:=id I;refine Call_ (jQj I0 hg hm boot_range (lK6 (thn (ha pos pins s τ G H _ I h) λus s1 w_=>w_.el λxs G1 H1 e1 i_ r_ q1=>i_.el λσ I1 hs1 hg1=>r_.el λas ras rvs=> ?_) hs rfl))
 obtain⟨j,e,q1,q2,q⟩:=q1;subst e;obtain⟨v,rfl,rv⟩:=jUn ras;cases (show v= .int j from rv)
 obtain⟨u,rfl,ru⟩:=rvs.one;obtain⟨t,rfl⟩:=ru;refine call_range_1 (thn (kYn (tg:=tg) (R:=λJ H'=>J=Itr 0 j.toNat/\H'=H1) I1 (by omega) (by omega) q1 q2 ⟨by simp,rfl⟩) λitv s2 z=> ?_)
 obtain⟨it,fp,tn,J,H',ei,I2,T0,st,fk,eJ,eH⟩:=z;subst eJ;subst eH;exact⟨it,fp,tn,_,rngT 0 j.toNat,λ_=>True,G1,H',ei,e1,⟨σ,I2,hs1,hg1⟩,T0,st,fk,kUq 0 j.toNat,q⟩
theorem qYl(hg:Gl X "range")(hm:X.mg "range"=none)(ha:PA3 X [a,b] ta)(hs:starEach [a,b] X.env=[(false,eval a X.env),(false,eval b X.env)]:=by rfl)(hs2:starEach [b] X.env=[(false,eval b X.env)]:=by rfl):
  PI3 X tg (.Call (.Name "range" p) [a,b] [] pos) (uKq ta):=by
 intro pins s τ G H R I h;obtain⟨σ,I0,hs0,hg0⟩:=id I;refine Call_ (jQj I0 hg hm boot_range (lK6 (thn (ha pos pins s τ G H _ I h) λus s1 w_=>w_.el λxs G1 H1 e1 i_ r_ q1=>i_.el λσ I1 hs1 hg1=>r_.el λas ras rvs=> ?_) (by rw[hs,hs2]) (by rw[hs2];rfl)))
 obtain⟨i,j,e,⟨q1,q2,q3,q4⟩,q⟩:=q1;subst e;obtain⟨v,w,rfl,rv,rw'⟩:=kQ8 ras;cases (show v= .int i from rv);cases (show w= .int j from rw')
 obtain⟨u,u',rfl,ru,ru'⟩:=rvs.two;obtain⟨t,rfl⟩:=ru;obtain⟨t',rfl⟩:=ru';refine call_range_2 (thn (kYn (tg:=tg) (R:=λJ H'=>J=Itr i (j-i).toNat/\H'=H1) I1 q1 q2 q3 q4 ⟨rfl,rfl⟩) λitv s2 z=> ?_)
 obtain⟨it,fp,tn,J,H',ei,I2,T0,st,fk,eJ,eH⟩:=z;subst eJ;subst eH;exact⟨it,fp,tn,_,rngT i (j-i).toNat,λ_=>True,G1,H',ei,e1,⟨σ,I2,hs1,hg1⟩,T0,st,fk,kUq i (j-i).toNat,q⟩
abbrev Sp3:=List T->Gp->VK3->Prop
def dn(K:PySem.W.Frag)(n:Nat)(sp:Sp3):Sp:=λvs H Q _=>vs.length=n/\∃xs G,Reps K H xs vs/\GRel K H G/\sp xs G λt G'=>∀v H',Ext H H'->GRel K H' G'->Rep K H' t v->Q v H'
def Fn3(P:Program)(w:World)(K:PySem.W.Frag)(mg:Str->Option Value)(base:Heap)(k:Nat)(f:Addr)(fd:FuncData)(ps:List Str)(sp:Sp3):Prop:=FnOk P w K mg base CX0 k f fd ps (dn K ps.length sp)
def jJm(sp:Sp3)(t:TA3):TE3:=λτ G Q=>t τ G λxs G1=>sp xs G1 Q
def Mono(sp:Sp3):Prop:=∀xs G Q Q',(∀t G',Q t G'->Q' t G')->sp xs G Q->sp xs G Q'
noncomputable def jZh(N:List Str)(xs:List T):St3:=xs.map some++List.replicate (N.length-xs.length) none
variable {N:List Str}
theorem qKn(r:Reps K H xs vs):SRel K H (start N vs) (jZh N xs):=by
 have hl:=r.length;refine⟨by simp[L2.start,jZh,hl],λi t h=> ?_⟩
 unfold jZh at h;unfold L2.start
 by_cases hi:i<xs.length
 .rw[lKq (by simpa using hi),lJ4] at h
  cases e:xs[i]? with
  | none=>rw[e] at h;cases h
  | some x=>
   rw[e] at h;cases h;obtain⟨v,hv,rv⟩:=r.get e;exact⟨v,by rw[lKq (by simp;omega),lJ4,hv];rfl,rv⟩
 .rw[lK2 (by simpa using hi),lYt] at h
  split at h<;>cases h
variable {P:Program}{w:World}
theorem fn3{mg:Str->Option Value}{base:Heap}{x qual:Str}{f:Addr}{fd:FuncData}{ps:List Str}{k:Nat}{sp:Sp3}(F:Fun K x qual st f fd)(S:FnScope N ps (jKa st))(hbody:∀(cdv:Value)(A:Around)(outer:List Env)(s:Shared)(H:Hp)(E:XK),Room k (A.deeper (envOfC qual (jKa st) s.heap.objs.size f cdv))->
   ∃t,PSs3 (cxOf CX0 P w K mg base N qual (jKa st) f cdv A outer s H E).nox (jUy st) t/\∀xs G Q,sp xs G Q->t {nx:=λ_ G'=>Q .non G',rt:=Q} (jZh N xs) G):Fn3 P w K mg base (k+1) f fd ps sp:=by
 refine Fun.ok (sp:=dn K ps.length sp) F S (λvs H Q E h=>h.1) λcdv A outer s H vs Q E hr hsp=> ?_
 obtain⟨t,ht,hq⟩:=hbody cdv A outer s H E hr;obtain⟨hl,xs,G,rs,hg,hsp⟩:=hsp;refine⟨λD σ H1=>D.nx=(λ_ H'=>Q .non H')/\D.rt=Q/\σ=L2.start N vs/\H1=H,?_,rfl,rfl,rfl,rfl⟩
 rintro pins s1 σ1 H1 D I ⟨e1,e2,e3,e4⟩;subst e3;subst e4;have I3:Inv3 (cxOf CX0 P w K mg base N qual (jKa st) f cdv A outer s H1 E).nox pins (jZh N xs) G H1 s1:=⟨_,I,qKn rs,hg⟩;refine thn (ht pins s1 _ G H1 _ I3 (hq xs G _ hsp)) λfl s2 z=> ?_
 cases fl with
 | next=>obtain⟨τ',G',H',e',⟨σ',I',a,b⟩,q⟩:=z;exact⟨σ',H',I',by rw[e1];exact q .non H' e' b rfl⟩
 | brk=>obtain⟨τ',G',H',e',_,q⟩:=z;exact q.elim
 | cont=>obtain⟨τ',G',H',e',_,q⟩:=z;exact q.elim
 | ret u=>obtain⟨x',τ',G',H',e',⟨σ',I',a,b⟩,⟨v,rv,ru⟩,q⟩:=z;exact⟨v,σ',H',I',ru,by rw[e2];exact q v H' e' b rv⟩
mutual
noncomputable def dep:T->Nat
 | .tup xs=>deps xs+1
 | _=>0
noncomputable def deps:List T->Nat
 | []=>0
 | x::xs=>max (dep x) (deps xs)
end
mutual
noncomputable def tree:T->Bool
 | .tup xs=>jQm xs
 | .ref _=>false
 | .scr _=>false
 | .ty _=>false
 | .non=>true
 | .bl _=>true
 | .int _=>true
 | .str _=>true
noncomputable def jQm:List T->Bool
 | []=>true
 | x::xs=>tree x&&jQm xs
end
mutual
noncomputable def eqT:T->T->Bool
 | .non,.non=>true
 | .bl a,.bl b=>a == b
 | .bl a,.int b=>(if a then 1 else 0) == b
 | .int a,.bl b=>a == (if b then 1 else 0)
 | .int a,.int b=>a == b
 | .str a,.str b=>a == b
 | .tup xs,.tup ys=>eqTs xs ys
 | _,_=>false
noncomputable def eqTs:List T->List T->Bool
 | [],[]=>true
 | x::xs,y::ys=>eqT x y&&eqTs xs ys
 | [],_::_=>false
 | _::_,[]=>false
end
theorem kQl{a b:Int}:eqT (.int a) (.int b)=(a == b):=rfl
theorem uXz{a b:Bool}:eqT (.bl a) (.bl b)=(a == b):=rfl
theorem uXy{a b:Str}:eqT (.str a) (.str b)=(a == b):=rfl
theorem uXx{a b:List T}:eqT (.tup a) (.tup b)=eqTs a b:=rfl
theorem uVl{a b:List T}:eqTs (x::a) (y::b)=(eqT x y&&eqTs a b):=rfl
theorem uVk:eqTs [] []=true:=rfl
mutual
theorem qYv{K:PySem.W.Frag}{H:Hp}:∀(x y:T){a:V},tree x=true->tree y=true->Rep K H x a->Rep K H y a->eqT x y=true
 | .non,y,a,hx,hy,r,q=>by
  cases (show a= .non from r)
  cases y<;>first | rfl | (exact absurd (show false=true from hy) lJs) | (cases (show V.non=_ from q)) | (obtain⟨_,_,e,_⟩:=(show ∃c vs,V.non= .ref c/\_ from q);cases e)
 | .bl b,y,a,hx,hy,r,q=>by
  cases (show a= .bl b from r)
  cases y with
  | bl c=>cases (show V.bl b=V.bl c from q);simp[uXz]
  | tup ys=>obtain⟨_,_,e,_⟩:=(show ∃c vs,V.bl b= .ref c/\_ from q);cases e
  | non=>cases (show V.bl b= .non from q)
  | int c=>cases (show V.bl b= .int c from q)
  | str c=>cases (show V.bl b= .str c from q)
  | _=>exact absurd (show false=true from hy) lJs
 | .int b,y,a,hx,hy,r,q=>by
  cases (show a= .int b from r)
  cases y with
  | int c=>cases (show V.int b=V.int c from q);simp[kQl]
  | tup ys=>obtain⟨_,_,e,_⟩:=(show ∃c vs,V.int b= .ref c/\_ from q);cases e
  | non=>cases (show V.int b= .non from q)
  | bl c=>cases (show V.int b= .bl c from q)
  | str c=>cases (show V.int b= .str c from q)
  | _=>exact absurd (show false=true from hy) lJs
 | .str b,y,a,hx,hy,r,q=>by
  cases (show a= .str b from r)
  cases y with
  | str c=>cases (show V.str b=V.str c from q);simp[uXy]
  | tup ys=>obtain⟨_,_,e,_⟩:=(show ∃c vs,V.str b= .ref c/\_ from q);cases e
  | non=>cases (show V.str b= .non from q)
  | bl c=>cases (show V.str b= .bl c from q)
  | int c=>cases (show V.str b= .int c from q)
  | _=>exact absurd (show false=true from hy) lJs
 | .tup xs,y,a,hx,hy,r,q=>by
  obtain⟨p,vs,e,h1,h2⟩:=(show ∃p vs,a= .ref p/\H p=some (.tup vs)/\Reps K H xs vs from r)
  subst e;cases y with
  | tup ys=>
   obtain⟨p',vs',e',h1',h2'⟩:=(show ∃p' vs',V.ref p= .ref p'/\H p'=some (.tup vs')/\Reps K H ys vs' from q)
   cases e';rw[h1] at h1';cases h1';exact kUu xs ys (show jQm xs=true from hx) (show jQm ys=true from hy) h2 h2'
  | non=>cases (show V.ref p= .non from q)
  | bl c=>cases (show V.ref p= .bl c from q)
  | int c=>cases (show V.ref p= .int c from q)
  | str c=>cases (show V.ref p= .str c from q)
  | _=>exact absurd (show false=true from hy) lJs
 | .ref _,_,_,hx,_,_,_=>absurd (show false=true from hx) lJs
 | .scr _,_,_,hx,_,_,_=>absurd (show false=true from hx) lJs
 | .ty _,_,_,hx,_,_,_=>absurd (show false=true from hx) lJs
theorem kUu{K:PySem.W.Frag}{H:Hp}:∀(xs ys:List T){vs:List V},jQm xs=true->jQm ys=true->Reps K H xs vs->Reps K H ys vs->eqTs xs ys=true
 | [],ys,_,_,_,r,q=>by
  cases r;cases ys with
  | nil=>rfl
  | cons y ys=>obtain⟨_,_,e,_⟩:=q;cases e
 | x::xs,ys,_,hx,hy,⟨v,ws,e,r1,r2⟩,q=>by
  subst e;cases ys with
  | nil=>cases q
  | cons y ys=>
   obtain⟨v',ws',e',q1,q2⟩:=q;cases e';have hx':tree x=true/\jQm xs=true:=by simpa[jQm] using hx
   have hy':tree y=true/\jQm ys=true:=by simpa[jQm] using hy
   show (eqT x y&&eqTs xs ys)=true
   rw[qYv x y hx'.1 hy'.1 r1 q1,kUu xs ys hx'.2 hy'.2 r2 q2];rfl
end
variable {op':CmpOp}
section
def rSub:R3:=rI0 λi j=> .int (i-j)
def rMod:R3:=rI (λ_ j=>0<j) λi j=> .int (i%j)
def uUe:R3:=rI CDiv λi j=> .int (i / j)
def rPow:R3:=rI CPow λi j=> .int (i^j.toNat)
def rLt:R3:=rI0 λi j=> .bl (decide (i<j))
def rGt:R3:=rI0 λi j=> .bl (decide (j<i))
def rGe:R3:=rI0 λi j=> .bl (decide (j<=i))
def rIsN:R3:=λx y G Q=>y= .non/\Q (.bl (kJx x)) G
def uJz:R3:=λx y G Q=>y= .non/\Q (.bl (!kJx x)) G
def qXn:R3:=λx y G Q=>∃xs ys,x= .tup xs/\y= .tup ys/\xs≠[]/\xs.length+ys.length<=sizeLine/\Q (.tup (xs++ys)) G
theorem uUz:Op3 X (binaryOp .Add) qXn:=
 Op3.of uJ3 λH G x y a b Q hg ra rb ⟨xs,ys,ex,ey,hx,hz,q⟩=>by
  subst ex;subst ey;obtain⟨p,vs,e1,h1,h2⟩:=(show ∃p vs,a= .ref p/\H p=some (.tup vs)/\Reps X.K H xs vs from ra)
  obtain⟨p',ws,e2,h3,h4⟩:=(show ∃p vs,b= .ref p/\H p=some (.tup vs)/\Reps X.K H ys vs from rb)
  subst e1;subst e2;have l1:=h2.length;have l2:=h4.length;refine⟨p,p',vs,ws,rfl,rfl,.of h1,.of h3,λz=>hx ?_,by omega,λz=> ?_,λz l hl=> ?_⟩
  .rw[z] at l1;exact lVk.mp l1
  .rw[z] at l2;have:ys=[]:=lVk.mp l2;subst this;exact⟨.tup (xs++[]),G,.refl H,hg,by rw[lVe];exact ra,q⟩
  .exact⟨.tup (xs++ys),G,.upd (.none hl),hg.tupNew hl,Rep.tupNew (h2.append h4) hl,q⟩
def uV8:R3:=rI0 λi j=> .int (i+j)
def uUh:R3:=λx y G Q=>uV8 x y G Q\/rCat x y G Q\/qXn x y G Q
theorem o_addA:Op3 X (binaryOp .Add) uUh:=o_add.or (o_cat.or uUz)
def uV7:R3:=rI CMul λi j=> .int (i*j)
def uUd:R3:=λx y G Q=>uV7 x y G Q\/rRep x y G Q
theorem o_mulA:Op3 X (binaryOp .Mult) uUd:=o_mul.or uXj
def rNeg:T->Gp->VK3->Prop:=λx G Q=>∃i,x= .int i/\Q (.int (-i)) G
theorem uJd:Un3 X (unaryOp .USub) rNeg:=
 Un3.of uQt λH G x a Q hg ra ⟨i,e,q⟩=>by
  subst e;cases (show a= .int i from ra)
  exact⟨i,rfl,.int (-i),G,.refl H,hg,rfl,q⟩
theorem jJr(b:Expr)(h:behindInMarks op b=false:=by first | exact uU2 _ | with_unfolding_all rfl):behindInMarks op b=false:=h
variable {ta:TE3}
theorem uK1(ho:Op3 X (compareOp op) r)(ho':Op3 X (compareOp op') r')(ha:PE3 X a ta)(hb:PE3 X b tb)(hc:PE3 X c tc)(hm:lastMarks [op,op'] [b,c]=false:=by with_unfolding_all rfl):PE3 X (.Compare a [op,op'] [b,c] pos) (jYl r r' ta tb tc):=by
 intro pins s τ G H Q I h
 refine Compare_chain (thn (ha pins s τ G H _ I h) λv s1 w_=>w_.el λx G1 H1 e1 I1 r1 q1=>chain_link (thn (hb pins s1 τ G1 H1 _ I1 q1) λu s2 ⟨y,G2,H2,e2,I2,r2,q2⟩=>
  thn (ho pins s2 τ G2 H2 x y v u _ I2 (r1.mono e2) r2 q2) λd s3 w_=>w_.el λz G3 H3 e3 I3 r_ ⟨k,e,q3⟩=>r_.el λv' rv' ru'=> ?_)) hm
 subst e;cases (show v'= .bl k from rv');cases ru'
 refine lVq ?_;cases k with
 | false=>exact ite_ff ⟨.bl false,G3,H3,(e1.trans e2).trans e3,I3,⟨.bl false,rfl,rfl⟩,q3⟩
 | true=>exact ite_tt (chain_last (thn (hc pins s3 τ G3 H3 _ I3 q3) λw' s4 w_=>w_.el λz' G4 H4 e4 I4 r4 q4=>thn (ho' pins s4 τ G4 H4 y z' u w' Q I4 (r2.mono (e3.trans e4)) r4 q4) λ_ _ z=>z.ext (((e1.trans e2).trans e3).trans e4)))
theorem qKi(ho:Op3 X (compareOp op) r)(ho':Op3 X (compareOp op') r')(ha:PE3 X a ta)(hb:PE3 X b tb)(hc:PE3 X c tc)(hm:lastMarks [op,op'] [b,c]=false:=by with_unfolding_all rfl):PT3 X (.Compare a [op,op'] [b,c] pos) (jJx (jYl r r' ta tb tc)):=by
 intro pins s τ G H Q I h
 refine isTrue_chain (thn (ha pins s τ G H _ I h) λv s1 w_=>w_.el λx G1 H1 e1 I1 r1 q1=>test_link (thn (hb pins s1 τ G1 H1 _ I1 q1) λu s2 ⟨y,G2,H2,e2,I2,r2,q2⟩=>
  thn (ho pins s2 τ G2 H2 x y v u _ I2 (r1.mono e2) r2 q2) λd s3 w_=>w_.el λz G3 H3 e3 I3 r_ ⟨k,e,q3⟩=>r_.el λv' rv' ru'=> ?_)) hm
 subst e;cases (show v'= .bl k from rv');cases ru'
 refine lVq ?_;cases k with
 | false=>
  obtain⟨k',e',q'⟩:=q3;cases e';exact ite_ff ⟨G3,H3,(e1.trans e2).trans e3,I3,q'⟩
 | true=>
  refine ite_tt (test_last (thn (hc pins s3 τ G3 H3 _ I3 q3) λw' s4 w_=>w_.el λz' G4 H4 e4 I4 r4 q4=>thn (ho' pins s4 τ G4 H4 y z' u w' _ I4 (r2.mono (e3.trans e4)) r4 q4) λd' s5 w_=>w_.el λz2 G5 H5 e5 I5 r_ ⟨k2,e2',q5⟩=>r_.el λv2 rv2 ru2=> ?_))
  subst e2';cases (show v2= .bl k2 from rv2);cases ru2
  exact lVq ⟨G5,H5,(((e1.trans e2).trans e3).trans e4).trans e5,I5,q5⟩
mutual
noncomputable def td:T->PyData
 | .tup xs=> .tuple (tds xs)
 | .int i=> .int i
 | .bl b=> .bool b
 | .str x=> .str x
 | .non=> .none
 | .ref _=> .none
 | .scr _=> .none
 | .ty _=> .none
noncomputable def tds:List T->List PyData
 | []=>[]
 | x::xs=>td x::tds xs
end
def eqOk(x:T):Bool:=tree x&&(td x).canLay0&&decide ((td x).depth<=50)
def kQm(xs:List T):Bool:=jQm xs&&PyData.canLayAll0 (tds xs)&&decide ((PyData.list (tds xs)).depth<=50)
noncomputable def eqG(G:Gp)(x y:T):Option Bool:=match x,y with
 | .ref p,.ref q=>match G p,G q with
  | some (.lst xs),some (.lst ys)=>if kQm xs=true/\kQm ys=true then some (eqTs xs ys) else none
  | _,_=>none
 | _,_=>if eqOk x=true/\eqOk y=true then some (eqT x y) else none
def rEqA:R3:=λx y G Q=>∃b,eqG G x y=some b/\Q (.bl b) G
def rNeA:R3:=λx y G Q=>∃b,eqG G x y=some b/\Q (.bl (!b)) G
noncomputable def truT(G:Gp):T->Option Bool
 | .non=>some false
 | .bl b=>some b
 | .int i=>some (i != 0)
 | .tup xs=>some (!xs.isEmpty)
 | .ref p=>match G p with
  | some (.lst xs)=>some (!xs.isEmpty)
  | some (.dck kvs)=>some (!kvs.isEmpty)
  | _=>none
 | _=>none
def rTru:T->Gp->(Bool->Gp->Prop)->Prop:=λx G Q=>∃b,truT G x=some b/\Q b G
theorem jYo(r:Reps K H xs vs):xs.isEmpty=vs.isEmpty:=by
 have:=r.length;cases xs<;>cases vs<;>simp_all
theorem kVf:Tru3 X rTru:=
 Tru3.of uQv λH G x a Q hg ra ⟨b,hb,q⟩=>by
  refine⟨b,?_,rfl,q⟩;cases x with
  | non=>cases (show a= .non from ra);cases hb;rfl
  | bl k=>cases (show a= .bl k from ra);cases hb;rfl
  | int k=>cases (show a= .int k from ra);cases hb;rfl
  | tup xs=>
   obtain⟨p,vs,e1,h1,h2⟩:=(show ∃p vs,a= .ref p/\H p=some (.tup vs)/\Reps X.K H xs vs from ra)
   subst e1;cases hb;exact .inr (.inl ⟨vs,.of h1,by rw[jYo h2]⟩)
  | ref p=>
   cases (show a= .ref p from ra)
   cases hG:G p with
   | none=>simp only[truT,hG] at hb;cases hb
   | some o=>
    simp only[truT,hG] at hb;cases o with
    | lst xs=>cases hb;obtain⟨vs,h1,h2⟩:=hg.lst hG;exact .inl ⟨vs,.of h1,by rw[jYo h2]⟩
    | dct _=>cases hb
    | fdc _=>cases hb
    | ins _ _=>cases hb
    | dck kvs=>
     cases hb;obtain⟨ws,h1,h2⟩:=hg p _ hG;refine .inr (.inr ⟨ws,h1,?_⟩);cases h2<;>rfl
  | str _=>cases hb
  | scr _=>cases hb
  | ty _=>cases hb
end
variable {h':Heap}{fp:List Addr}
theorem qKd{t':Nat}(I:Inv X pins σ H s)(k:∀b o,b∉fp->s.heap.get? b=some o->h'.get? b=some o)(hf:∀b∈fp,FpOk X pins H b):Inv X pins σ H {s with heap:=h',toks:=t'}:=by
 have nit:∀b u,H b=some u->b∉fp:=λb u e z=>by rw[(hf b z).1] at e;cases e
 refine I.step (g':=s.gens) (d':=s.drawn) (ch:=fp) (λb hb=>⟨(hf b hb).2.2.2.1,(hf b hb).2.1,(hf b hb).2.2.2.2.1,(hf b hb).2.2.2.2.2⟩) (λb o _ _ hc e _=>k b o hc e) (λb o _ _ hc e _=>⟨o.slots,k b o hc e⟩) (λ_ _ _ _ n=>n)
  (λb o hc e=>⟨o,k b o hc e⟩) (λ_ _ e=>e) (λ_ _ _ e=>e) (λb ps e=>⟨#[],by rw[e];simp⟩) (λm hm=> ?_) (λb u e=> ?_) I.bare
 .obtain⟨o,es,ep,ho,r⟩:=hm;exact⟨o,es,ep,k _ o (λz=>(hf _ z).2.1 rfl) ho,r⟩
 .refine (I.hok b u e).stay (λc v hc q=>k c v ?_ q) (λ_ q=>q) λ_ _ q=>q
  rcases hc with z | z
  .rw[z];exact nit b u e
  .exact nit c _ z
theorem kQ0{t':Nat}{p:Addr}{us:List Value}(I:Inv X pins σ H s)(k:∀b o,b∉fp->s.heap.get? b=some o->h'.get? b=some o)(hf:∀b∈fp,FpOk X pins H b)(hp:s.heap.objs.size<=p)(ht:TupD h' p us.toArray)(r:Vals vs us)(hz:vs.length<=sizeLine):Inv X pins σ (upd H p (.tup vs)) {s with heap:=h',toks:=t'}:=by
 have hn:H p=none:=I.hok.fresh hp;have nit:∀b u,H b=some u->b∉fp:=λb u e z=>by rw[(hf b z).1] at e;cases e
 have old:∀b o,s.heap.get? b=some o->b≠p:=λb o e=>lJt (lKi (lJk e) hp)
 have tr:∀b u,H b=some u->b≠p:=λb u e z=>by rw[z,hn] at e;cases e
 refine I.step (g':=s.gens) (d':=s.drawn) (ch:=fp) (λb hb=>⟨(hf b hb).2.2.2.1,(hf b hb).2.1,(hf b hb).2.2.2.2.1,(hf b hb).2.2.2.2.2⟩) (λb o _ _ hc e _=>k b o hc e) (λb o _ _ hc e _=>⟨o.slots,k b o hc e⟩) (λb o _ e n=>by rw[jKd (old b o e)];exact n)
  (λb o hc e=>⟨o,k b o hc e⟩) (λb _ e=>by rw[jKd (tr b _ e)];exact e) (λb _ _ e=>by rw[jKd (tr b _ e)];exact e) (λb ps e=>⟨#[],by rw[jKd (tr b _ e),e];simp⟩) (λm hm=> ?_) (λb u e=> ?_) I.bare
 .obtain⟨o,es,ep,ho,r⟩:=hm;exact⟨o,es,ep,k _ o (λz=>(hf _ z).2.1 rfl) ho,r⟩
 .by_cases hb:b=p
  .subst hb;rw[jK2] at e;cases e;exact⟨hz,us,r,ht⟩
  .rw[jKd hb] at e;refine (I.hok b u e).stay (λc v hc q=>k c v ?_ q) (λc q=>by rw[jKd (tr c _ q)];exact q) λc _ q=>by rw[jKd (tr c _ q)];exact q
   rcases hc with z | z
   .rw[z];exact nit b u e
   .exact nit c _ z
noncomputable def Ite(K:PySem.W.Frag)(a:Addr):It:=
 ⟨λi H=>∃xs x,SqL K H a xs/\xs[i]? =some x,λi H x H'=>∃p y,H p=none/\x= .ref p/\(∀xs,SqL K H a xs->xs[i]? =some y)/\H'=upd H p (.tup [.int i,y]),λi H=>∃xs,SqL K H a xs/\xs.length<=i⟩
variable {elts:List Expr}
theorem qKf{k:Nat}(a e it:Addr)(hei:e≠it):
  Turn P w K (.Tuple elts k pos) (Ite K a) [e,it] e (λi h=>(∃old,IsEnum h e it i old)/\h.IsListIter it a i) where
 mem:=by simp
 obj:=λi h ⟨⟨old,h1⟩,h2⟩ b hb=>by
  have hb':b=e\/b=it:=by simpa using hb
  rcases hb' with z | z
  .subst z;exact⟨_,h1,λv z=>nomatch (show Data.fields _=Data.cell v from z)⟩
  .subst z;obtain⟨o,e2,c,d⟩:=h2;exact⟨o,e2,λv z=>by rw[d] at z;cases z⟩
 keep:=λi h h' ⟨⟨old,h1⟩,h2⟩ kp=>⟨⟨old,kp e (by simp) _ h1⟩,h2.at λo q=>kp it (by simp) o q⟩
 item:=by
  rintro X hP hw hK hc i pins s σ H E I hf ⟨⟨old,he⟩,hit⟩ hg;subst hP hw hK;obtain⟨xs,x,hq,hx⟩:=hg;obtain⟨its,rv,p,hz⟩:=I.list hq;obtain⟨u,hu,ru⟩:=rv.get hx;refine wpAny_pyNext_enum_item he hit p.isList (x:=u) (by simpa using hu) hei λh1 ho hit1 hT hsz hk=> ?_
  refine⟨_,rfl,mJ5 ho λh2 he2 hs2=> ?_⟩
  have hel:e<s.heap.objs.size:=lJk he
  have hp2:∀b o,b∉[e,it]->s.heap.get? b=some o->h2.get? b=some o:=λb o hb q=>by
   have hb1:b≠e:=λz=>hb (by simp[z])
   have hb2:b≠it:=λz=>hb (by simp[z])
   exact (hs2.2 b hb1).trans (hk b o hb1 hb2 q)
  have hT2:h2.get? s.heap.objs.size=some {cls:= .type "tuple",data:= .seq #[.int i s.toks,u]}:=(hs2.2 _ (lVf hel)).trans hT;have I2:=kQ0 (t':=s.toks+1) (h':=h2) (p:=s.heap.objs.size) (vs:=[.int i,x]) (us:=[.int i s.toks,u]) I hp2 hf (lJh _) ⟨_,hT2,rfl,_,rfl,rfl⟩ (.cons ⟨_,rfl⟩ (.cons ru .nil)) (by show 2<=sizeLine;decide)
  refine⟨.ref s.heap.objs.size,_,I2,rfl,⟨_,x,I.hok.fresh (lJh _),rfl,λys hy=>by rw[I.list_inj hy hq];exact hx,rfl⟩,⟨⟨u,by simpa using he2⟩,hit1.at λo q=>(hs2.2 it hei.symm).trans q⟩,λb hb=> ?_⟩
  have hbs:∃o,s.heap.get? b=some o:=by
   have hb':b=e\/b=it:=by simpa using hb
   rcases hb' with z | z
   .subst z;exact⟨_,he⟩
   .subst z;obtain⟨o,q,_⟩:=hit;exact⟨o,q⟩
  obtain⟨o,q⟩:=hbs;rw[jKd (lJt (lJk q))];exact (hf b hb).1
 done:=by
  rintro X hP hw hK hc i pins s σ H E I hf ⟨⟨old,he⟩,hit⟩ hg;subst hP hw hK;obtain⟨xs,hq,hx⟩:=hg;obtain⟨its,rv,p,hz⟩:=I.list hq;have hl:=rv.length;exact wpAny_pyNext_enum_end (I.ok.hd hc) he hit p.isList (by simp;omega) λh1 hx1=>⟨rfl,qKd (t':=s.toks) I (λb o hb q=>hx1 b o (λz=>hb (by simp[z])) q) hf⟩
 self:=λ_ _ _ _ _ ⟨⟨old,he⟩,_⟩ h=>lZj he h
noncomputable def numT(xs:List T):List T:=(List.range xs.length).map λ(i:Nat)=>T.tup [.int i,xs.getD i .non]
theorem jUr(h:xs[i]? =some x):(numT xs)[i]? =some (.tup [.int i,x]):=by
 have hi:i<xs.length:=by
  rcases lKw i xs.length with z | z
  .exact z
  .rw[lJ3 z] at h;cases h
 have hx:xs[i]=x:=(lJg.mp h).2;simp[numT,hi,List.getD,hx]
theorem jJ0:(numT xs).length=xs.length:=by simp[numT]
noncomputable def jQf(G:Gp):T->Option (List T)
 | .ref p=>asL (G p)
 | .scr xs=>some xs
 | _=>none
theorem jQs{a:V}(hg:GRel K H G)(r:Rep K H x a)(h:jQf G x=some xs):∃p vs,a= .ref p/\SqL K H p vs/\Reps K H xs vs:=by
 cases x with
 | scr ys=>cases h;obtain⟨p,vs,e,h1,h2⟩:=(show ∃p vs,a= .ref p/\FrL K H p vs/\Reps K H xs vs from r);exact⟨p,vs,e,h1.sq,h2⟩
 | ref p=>
  obtain⟨vs,h1,h2⟩:=hg.lst (jVt h);exact⟨p,vs,r,.of h1,h2⟩
 | tup _=>cases h
 | non=>cases h
 | bl _=>cases h
 | int _=>cases h
 | str _=>cases h
 | ty _=>cases h
def jZ7(ta:TA3):TI3:=λτ G R=>ta τ G λvs G1=>∃x xs,vs=[x]/\jQf G1 x=some xs/\R (numT xs) (λG'=>jQf G' x=some xs) G1
theorem kUr{k:Nat}{tpos:Pos}(hg:Gl X "enumerate")(hm:X.mg "enumerate"=none)(hv:bootBuiltins "enumerate"=some (.type "enumerate"))(ha:PA3 X [a] ta)(hs:starEach [a] X.env=[(false,eval a X.env)]:=by rfl):
  PI3 X (.Tuple elts k tpos) (.Call (.Name "enumerate" p) [a] [] pos) (jZ7 ta):=by
 intro pins s τ G H R I h;obtain⟨σ0,I0,hs0,hg0⟩:=id I;refine Call_ (jQj I0 hg hm hv (lK6 (thn (ha pos pins s τ G H _ I h) λus s1 w_=>w_.el λxs' G1 H1 e1 i_ r_ q1=>i_.el λσ I1 hs1 hg1=>r_.el λas ras rvs=> ?_) hs rfl))
 obtain⟨x,xs,e,hx,q⟩:=q1;subst e;obtain⟨v,rfl,rv⟩:=jUn ras;obtain⟨u,rfl,ru⟩:=rvs.one;obtain⟨pa,vs,rfl,hq,r⟩:=jQs hg1 rv hx;cases ru;obtain⟨its,rvv,pl,hz⟩:=I1.list hq;refine call_enumerate_list pl.isList λh1 he hit hsz hk=> ?_
 have I2:Inv X pins σ H1 {s1 with heap:=h1}:=I1.kept (t':=s1.toks) hk
 refine lZj (Q:=PIE3 X pins τ H (.Tuple elts k tpos) R) he ?_
 have fr:∀b∈[s1.heap.objs.size+1,s1.heap.objs.size],FpOk X pins H1 b:=λb hb=>by
  have hb':b=s1.heap.objs.size+1\/b=s1.heap.objs.size:=by simpa using hb
  have hle:s1.heap.objs.size<=b:=by omega
  exact I1.fpOk hle (I1.hok.fresh hle)
 refine⟨s1.heap.objs.size+1,[s1.heap.objs.size+1,s1.heap.objs.size],_,_,numT xs,λG'=>jQf G' x=some xs,G1,H1,rfl,e1,⟨σ,I2,hs1,hg1⟩,qKf pa _ _ (Nat.succ_ne_self _),⟨⟨.none,he⟩,hit⟩,fr,?_,q⟩
 intro i H2 G2 e2 g2 st;obtain⟨pb,ws,eb,h1,h2⟩:=jQs g2 (Rep.mono e2 _ rv) st;cases eb;have hlen:=h2.length;refine⟨λhi=> ?_,λhi=>⟨ws,h1,by rw[jJ0] at hi;omega⟩,λhi y H' ⟨pp,z,hn,ey,hy,eH⟩=> ?_⟩
 .rw[jJ0] at hi;exact⟨ws,ws[i]'(by omega),h1,by simp[hlen▸hi]⟩
 .subst ey;subst eH;obtain⟨t,ht,rt⟩:=h2.get' (hy ws h1);exact⟨.upd (.none hn),g2.tupNew hn,_,jUr ht,Rep.tupNew ⟨_,_,rfl,rfl,_,_,rfl,rt,rfl⟩ hn⟩
noncomputable def clGo(env:Env):List (Str×NameKind)->List (Str×Addr)->Option (List (Str×Addr))
 | [],cs=>some cs
 | (n,k)::r,cs=>if (k == .free)=true then (match env.cells.lookup n with | some c=>clGo env r ((n,c)::cs) | none=>none) else clGo env r cs
variable {scope:Scope}{env:Env}
theorem kKl{cl:List (Str×Addr)}(h:clGo env scope.names []=some cl):closureFor scope env=pure cl:=by
 unfold closureFor
 have go:∀(names:List (Str×NameKind))(cs:List (Str×Addr)),clGo env names cs=some cl->
   (forIn names cs λ(x:Str×NameKind)(r:List (Str×Addr))=>(match x with | (nm,kd)=>if (kd == .free)=true then cellOf env nm >>= λa=>pure (ForInStep.yield ((nm,a)::r)) else pure (ForInStep.yield r):Sem (ForInStep (List (Str×Addr)))))=pure cl:=by
  intro names
  induction names with
  | nil=>intro cs e;cases e;rfl
  | cons x r ih=>
   obtain⟨n,k⟩:=x;intro cs e;unfold clGo at e;rw[lZ0]
   by_cases hk:(k == NameKind.free)=true
   .rw[lJc hk] at e;cases hc:env.cells.lookup n with
    | none=>rw[hc] at e;cases e
    | some c=>
     rw[hc] at e;have hco:cellOf env n=pure c:=by unfold cellOf;rw[hc]
     simp only[hk,lKt,hco,pure_bind];exact ih _ e
   .rw[lJb hk] at e;simp only[hk,pure_bind,lKa,lKg];exact ih _ e
 have:=go scope.names [] h
 simpa using this
theorem jY9{env:Env}{cl:List (Str×Addr)}:∀{names:List (Str×NameKind)}{cs:List (Str×Addr)},clGo env names cs=some cl->(∀n c,cs.lookup n=some c->env.cells.lookup n=some c)->∀n c,cl.lookup n=some c->env.cells.lookup n=some c
 | [],cs,e,h=>by cases e;exact h
 | (n,k)::r,cs,e,h=>by
  unfold clGo at e
  by_cases hk:(k == NameKind.free)=true
  .rw[lJc hk] at e;cases hc:env.cells.lookup n with
   | none=>rw[hc] at e;cases e
   | some c=>
    rw[hc] at e;refine jY9 e λm d q=> ?_
    rw[lQd] at q
    by_cases hm:(m == n)=true
    .rw[hm] at q;cases q;rw[eq_of_beq hm];exact hc
    .simp only[hm] at q;exact h m d q
  .rw[lJb hk] at e;exact jY9 e h
theorem kJi{env:Env}{cl:List (Str×Addr)}{m:Str}:∀{names:List (Str×NameKind)}{cs:List (Str×Addr)},clGo env names cs=some cl->(∃c,cs.lookup m=some c)->∃c,cl.lookup m=some c
 | [],cs,e,h=>by cases e;exact h
 | (n,k)::r,cs,e,h=>by
  unfold clGo at e
  by_cases hk:(k == NameKind.free)=true
  .rw[lJc hk] at e;cases hc:env.cells.lookup n with
   | none=>rw[hc] at e;cases e
   | some c=>
    rw[hc] at e;refine kJi e ?_;rw[lQd]
    by_cases hm:(m == n)=true
    .rw[hm];exact⟨_,rfl⟩
    .simp only[hm];exact h
  .rw[lJb hk] at e;exact kJi e h
theorem jZa{env:Env}{cl:List (Str×Addr)}{m:Str}:∀{names:List (Str×NameKind)}{cs:List (Str×Addr)},clGo env names cs=some cl->names.lookup m=some .free->∃c,cl.lookup m=some c
 | [],cs,e,h=>by simp at h
 | (n,k)::r,cs,e,h=>by
  unfold clGo at e;rw[lQd] at h
  by_cases hm:(m == n)=true
  .rw[hm] at h;cases h;rw[lJc (show (NameKind.free == NameKind.free)=true from rfl)] at e
   cases hc:env.cells.lookup n with
   | none=>rw[hc] at e;cases e
   | some c=>
    rw[hc] at e;refine kJi e ?_;rw[lQd,hm];exact⟨_,rfl⟩
  .simp only[hm] at h
   by_cases hk:(k == NameKind.free)=true
   .rw[lJc hk] at e;cases hc:env.cells.lookup n with
    | none=>rw[hc] at e;cases e
    | some c=>rw[hc] at e;exact jZa e h
   .rw[lJb hk] at e;exact jZa e h
theorem jQ5{env:Env}{x:Str}:∀{names:List (Str×NameKind)},(∀y∈names,y.2≠ .cell)->
  ((names.map λ(n,k)=>if (k == NameKind.free&&env.scope.kind == .function&&env.kindOf n == some .cell) then (n,NameKind.cell) else (n,k)).lookup x=some .cell\/
    (names.map λ(n,k)=>if (k == NameKind.free&&env.scope.kind == .function&&env.kindOf n == some .cell) then (n,NameKind.cell) else (n,k)).lookup x=some .free)->names.lookup x=some .free
 | [],_,h=>by simp at h
 | (n,k)::r,hc,h=>by
  have ih:= @jQ5 env x r (λy hy=>hc y (lKd _ hy))
  have hk:=hc (n,k) lJ6;rw[lJw] at h;rw[lQd]
  by_cases hx:(x == n)=true
  .rw[hx]
   by_cases hf:(k == NameKind.free&&env.scope.kind == .function&&env.kindOf n == some .cell)=true
   .have:(k == NameKind.free)=true:=by
     rw[lK5,lK5] at hf;exact hf.1.1
    rw[eq_of_beq this]
   .simp only[hf,lKa,lKg,lQd,hx] at h
    rcases h with h | h
    .cases h;exact absurd rfl hk
    .cases h;rfl
  .simp only[hx];refine ih ?_
   by_cases hf:(k == NameKind.free&&env.scope.kind == .function&&env.kindOf n == some .cell)=true
   .simpa only[hf,lKt,lQd,hx] using h
   .simpa only[hf,lKa,lKg,lQd,hx] using h
theorem jUo{env:Env}{x:Str}:∀{names:List (Str×NameKind)},
  (names.map λ(n,k)=>if (k == NameKind.free&&env.scope.kind == .function&&env.kindOf n == some .cell) then (n,NameKind.cell) else (n,k)).lookup x=some .local->names.lookup x=some .local
 | [],h=>by simp at h
 | (n,k)::r,h=>by
  have ih:= @jUo env x r;rw[lJw] at h;rw[lQd]
  by_cases hx:(x == n)=true
  .rw[hx]
   by_cases hf:(k == NameKind.free&&env.scope.kind == .function&&env.kindOf n == some .cell)=true
   .simp only[hf,lKt,lQd,hx] at h;cases h
   .simp only[hf,lKa,lKg,lQd,hx] at h;exact h
  .simp only[hx];refine ih ?_
   by_cases hf:(k == NameKind.free&&env.scope.kind == .function&&env.kindOf n == some .cell)=true
   .simpa only[hf,lKt,lQd,hx] using h
   .simpa only[hf,lKa,lKg,lQd,hx] using h
noncomputable def jUi(X:Cx)(scope:Scope)(cl:List (Str×Addr))(C:Addr)(fp:List Addr)(s:Shared)(H:Hp):Cx:=
 {X with env:=compEnvC scope cl C X.env,s₀:=s,H₀:=H,outer:=X.stack,stack:=X.stack,ex:=fp,fn:=λ_=>false,pn:=[],xe:=λ_ _=>False}
structure CmpOk (X:Cx) (scope:Scope) (cl:List (Str×Addr)) (mask:List Bool):Prop where
 cl:clGo X.env scope.names []=some cl
 kind:scope.kind= .function
 nocell:(scope.names.all λy=>y.2 != .cell)=true
 names:(scope.names.all λy=>y.2 != .local||scope.names.lookup y.1 == some .local)=true
 vis:(scope.names.all λy=>y.2 != .free||X.env.kindOf y.1 == some .cell||X.env.kindOf y.1 == some .free)=true
 len:mask.length=X.N.length
 mask:((X.N.zip mask).all λp=>p.2||scope.names.lookup p.1 != some .local)=true
noncomputable def msk{α:Type}(mask:List Bool)(τ:List (Option α)):List (Option α):=List.zipWith (λb o=>if b=true then none else o) mask τ
variable {mask:List Bool}
theorem kV9{α:Type}{τ:List (Option α)}{t:α}(h:(msk mask τ)[i]? =some (some t)):mask[i]? =some false/\τ[i]? =some (some t):=by
 unfold msk at h;rw[lYb] at h;cases hm:mask[i]? with
 | none=>exact absurd (hm▸h) (by simp)
 | some b=>
  cases ht:τ[i]? with
  | none=>rw[hm,ht] at h;cases h
  | some o=>
   rw[hm,ht] at h;cases b with
   | true=>simp at h
   | false=>simp at h;exact⟨rfl,by rw[h]⟩
theorem jYf{α:Type}{τ:List (Option α)}(h:mask.length=τ.length):(msk mask τ).length=τ.length:=by
 unfold msk;rw[List.length_zipWith,h,Nat.min_self]
theorem qQ0(h:SRel K H σ τ)(hl:mask.length=τ.length):SRel K H (msk mask σ) (msk mask τ):=by
 refine⟨by rw[jYf hl,jYf (hl.trans h.1.symm),h.1],λi t q=> ?_⟩
 obtain⟨h1,h2⟩:=kV9 q;obtain⟨v,h3,h4⟩:=h.2 i t h2;refine⟨v,?_,h4⟩;unfold msk;rw[lYb,h1,h3];simp
section
variable {cl:List (Str×Addr)}
theorem CmpOk.local(c:CmpOk X scope cl mask){x:Str}(h1:X.N[i]? =some x)(h2:mask[i]? =some false):scope.names.lookup x≠some .local:=by
 have h:=c.mask;rw[lVl] at h;have hz:(X.N.zip mask)[i]? =some (x,false):=by rw[List.getElem?_zip_eq_some];exact⟨h1,h2⟩
 have:=h _ (lJo hz)
 simpa using this
theorem CmpOk.free(c:CmpOk X scope cl mask){x:Str}(h:scope.names.lookup x=some .free):X.env.kindOf x=some .cell\/X.env.kindOf x=some .free:=by
 have hv:=c.vis;rw[lVl] at hv;have:=hv (x,.free) (lXo h)
 simpa using this
theorem CmpOk.nc(c:CmpOk X scope cl mask):∀y∈scope.names,y.2≠ .cell:=by
 have hv:=c.nocell;rw[lVl] at hv;intro y hy
 simpa using hv y hy
theorem CmpOk.nm(c:CmpOk X scope cl mask):∀y∈scope.names,y.2= .local->scope.names.lookup y.1=some .local:=by
 have hv:=c.names;rw[lVl] at hv;intro y hy e;have:=hv y hy;rw[e] at this
 simpa using this
theorem qVd(c:CmpOk X scope cl mask){h4:Heap}{tk:Nat}(I:Inv X pins σ H s)(hf:∀b∈fp,FpOk X pins H b)(ho:∀b∈fp,∃o,s.heap.get? b=some o)(hns:h4.Ns s.heap.objs.size λ_=>none)(hk:∀b o,s.heap.get? b=some o->h4.get? b=some o):
  Inv (jUi X scope cl s.heap.objs.size fp s H) [] (msk mask σ) H {s with heap:=h4,toks:=tk}:=by
 have sub:=jY9 c.cl (by simp)
 have ok:(jUi X scope cl s.heap.objs.size fp s H).Ok:=by
  refine⟨I.ok.mod,c.kind,I.ok.glob,I.ok.blt,lJh _,λx y d h1 h2=>I.ok.inj x y d (sub _ _ h1) (sub _ _ h2),λx hx=>jZa c.cl (jQ5 (env:=X.env) c.nc hx),λx d hx=>absurd (show false=true from hx) lJs,I.ok.hd,I.ok.gd,I.ok.frames,.inl rfl,
   λb hb=> ?_,I.bs,lKx I.ok.bsz I.sz,λb o e hb=> ?_,λb hb hz=> ?_,I.stack,I.stkFree⟩
  .obtain⟨o,e⟩:=ho b hb;exact⟨lJt (lJk e),λx d hd=>(hf b hb).2.2.2.2.1 x d (sub _ _ hd)⟩
  .rcases (hf b hb).2.2.2.1 with z | z
   .exact I.ok.noex b o e z
   .exact absurd (lKi (lJk e) I.ok.bsz) (Nat.not_lt.mpr z)
  .rcases lJp.mp (I.stkSub b hz) with z | z
   .exact (hf b hb).2.1 z
   .exact (hf b hb).2.2.1 z
 refine⟨ok,rfl,I.bare,Un.kept hk,⟨_,hns,λi x v h1 h2 h3=> ?_⟩,λx d hd=> ?_,I.hok.fresh (lJh _),λx d hd=>I.freeC x d (sub _ _ hd),λp hp=>absurd (show p∈([]:List (Addr×Obj)) from hp) (by simp),I.hok.kept hk,?_⟩
 .obtain⟨m1,m2⟩:=kV9 h2;have nl:=c.local h1 m1
  have fr:scope.names.lookup x=some .free:=by
   rcases h3 with z | z | z
   .exact absurd (jUo (env:=X.env) z) nl
   .exact jQ5 (env:=X.env) c.nc (.inl z)
   .exact jQ5 (env:=X.env) c.nc (.inr z)
  have hkk:=c.free fr;obtain⟨m,hn,hl⟩:=I.loc;have vis:Vis X.env.scope x:=by rcases hkk with z | z;exact .inr (.inl z);exact .inr (.inr z)
  obtain⟨u,ru,lk⟩:=hl i x v h1 m2 vis;refine⟨u,ru,?_⟩
  rcases lk with ⟨z,_⟩ | ⟨_,d,hd,cd⟩
  .exfalso;rcases hkk with q | q<;>(rw[z] at q;cases q)
  .obtain⟨d',hd'⟩:=jZa c.cl fr;have:d'=d:=by have:=sub _ _ hd';rw[hd] at this;exact (lJ0 this).symm
   subst this;refine .inr ⟨?_,d',hd',cd.keeps hk⟩
   rcases h3 with z | z | z
   .exact absurd (jUo (env:=X.env) z) nl
   .exact .inl z
   .exact .inr z
 .obtain⟨v,hv⟩:=I.cell x d (sub _ _ hd);exact⟨v,hv.keeps hk⟩
 .exact (jYf (c.len.trans I.len.symm)).trans I.len
theorem uQb{σ':L2.St}{s':Shared}{pl:List (Addr×Obj)}{C:Addr}(I:Inv X pins σ H s)(hf:∀b∈fp,FpOk X pins H b)(hC:s.heap.objs.size<=C)(J:Inv (jUi X scope cl C fp s H) pl σ' H' s')(hb:Heap.SameBut C s'.heap h'):Inv X pins σ H' {s' with heap:=h'}:=by
 have ne:∀b o,s.heap.get? b=some o->b≠C:=λb o e=>lJt (lKi (lJk e) hC)
 have u:=J.base;have hfree:H' C=none:=J.free
 have u':Un (frs X.stack) fp H H' s.heap h':=⟨λb o e n hb' hx=>(hb.2 b (ne b o e)).trans (u.keep b o e n hb' hx),λb o e n hb' hx=>let ⟨sl,z⟩:=u.slot b o e n hb' hx;⟨sl,(hb.2 b (ne b o e)).trans z⟩,
  u.free,λb o e hx=>let ⟨o',z⟩:=u.there b o e hx;⟨o',(hb.2 b (ne b o e)).trans z⟩,u.tups,u.frzs,u.tbls⟩
 have hok:HOk X.prog X.w H' h':=λb ob e=>(J.hok b ob e).stay (λc w' hc q=>(hb.2 c (by
  rintro rfl
  rcases hc with rfl | hc
  .rw[hfree] at e;cases e
  .rw[hfree] at hc;cases hc)).trans q) (λ_ q=>q) λ_ _ q=>q
 exact I.call' (s':={s' with heap:=h'}) J.os u' hok J.bare λb hb=>⟨(hf b hb).2.2.2.1,(hf b hb).2.1,(hf b hb).2.2.2.2.1,(hf b hb).2.2.2.2.2⟩
end
noncomputable abbrev qVb(ifs:List Expr)(env:Env):Sem Bool:=forIn ifs true λc b=>if b=true then isTrue c env (eval c env) >>= λd=>pure (ForInStep.yield d) else pure (ForInStep.yield b)
noncomputable def qZi(M:Model)(A:Around)(elt tg:Expr)(ifs:List Expr)(it acc:Value)(env:Env)(stop more:Shared->Prop):Option Value->Shared->Prop
 | none=>stop
 | some v=>λz=>wpAny M A (letOwnedTupleGo tg it v) (λ_ z1=>wpAny M A (assign tg env v) (λ_ z2=>wpAny M A (qVb ifs env) (λok z3=>if ok=true then wpAny M A (eval elt env) (λx z4=>wpAny M A (call (.builtin "list.append") [acc,x]) (λ_=>more) (λ_ _=>False) z4) (λ_ _=>False) z3 else more z3) (λ_ _=>False) z2) (λ_ _=>False) z1) (λ_ _=>False) z
variable {elt:Expr}{ifs:List Expr}
theorem qVc{A:Around}{R:Result->Shared->Prop}{it acc:Value}(I:Nat->Shared->Prop)(turn:∀k z,I k z->wpAny (model P w) A (pyNext it) (qZi (model P w) A elt tg ifs it acc env (R (.ok .next)) λz'=>∃m,m<k/\I m z') (λ_ _=>False) z)(n:Nat)(h:I n s):codeAny (model P w) A (.compLoop (.ListComp elt [⟨tg,iter,ifs,0⟩] scope pos) 0 it acc env) R s:=by
 refine codeAny_loop rfl I (λk z hz=>(show wpAny _ A ((compTurn (.ListComp elt [⟨tg,iter,ifs,0⟩] scope pos) 0 it acc env).onRaise _) _ _ z from wpAny_noted ?_)) n h
 rw[compTurn_list];refine lJa (lZh (lJa (lQp (turn k z hz) (λr z1 h1=> ?_) λ_ _ e=>e.elim)))
 cases r with
 | none=>exact lJd h1
 | some v=>
  refine lJa (lQp h1 (λ_ z2 h2=>lJa (lQp h2 (λ_ z3 h3=>lJa (lQp h3 (λok z4 h4=> ?_) λ_ _ e=>e.elim)) λ_ _ e=>e.elim)) λ_ _ e=>e.elim)
  by_cases hok:ok=true
  .subst hok;exact lJa (lJa (lQp h4 (λx z5 h5=>lJa (lQp h5 (λ_ z6 h6=>lJd (lJd ⟨rfl,h6⟩)) λ_ _ e=>e.elim)) λ_ _ e=>e.elim))
  .obtain rfl:ok=false:=by simpa using hok
   exact lJd ⟨rfl,h4⟩
def PIf3(X:Cx)(ifs:List Expr)(t:TT3):Prop:=∀(pins:List (Addr×Obj))(s:Shared)(τ:St3)(G:Gp)(H:Hp)(Q:Bool->Gp->Prop),Inv3 X pins τ G H s->t τ G Q->
 wpAny (model X.prog X.w) X.A (forIn ifs true λc r=>if r=true then do let ok <-isTrue c X.env (eval c X.env);pure (ForInStep.yield ok) else pure (ForInStep.yield r)) (TP3 X pins τ H Q) X.xe s
def jU6:TT3:=λ_ G Q=>Q true G
theorem jQ3:PIf3 X [] jU6:=λ_ _ _ G H _ I q=>wpAny_tests_nil ⟨G,H,.refl H,I,q⟩
theorem qZy{t:TT3}(h:PT3 X c t):PIf3 X [c] t:=λpins s τ G H Q I q=>wpAny_tests_one (h pins s τ G H Q I q)
def qJ8(mask:List Bool)(g:TG3):Prop:=∀v τ G Q,g v τ G Q->g v τ G λτ2 G2=>Q τ2 G2/\τ2.length=τ.length/\∀i:Nat,mask[i]? ≠some true->τ2[i]? =τ[i]?
def kZx(mask:List Bool)(g:TGs3):Prop:=∀v τ G Q,g v τ G Q->g v τ G λτ2 G2=>Q τ2 G2/\τ2.length=τ.length/\∀i:Nat,mask[i]? ≠some true->τ2[i]? =τ[i]?
theorem jKn(h:mask[i]? =some true:=by rfl):qJ8 mask (jJj i):=λv τ G Q q=>
 ⟨q,lQz ..,λj hj=>lKu (by rintro rfl;exact hj h)⟩
theorem qZ2:kZx mask gNil:=λv τ G Q ⟨e,q⟩=>⟨e,q,rfl,λ_ _=>rfl⟩
theorem kQh{t:TG3}{u:TGs3}(h1:qJ8 mask t)(mono:∀v τ G Q Q',(∀a b,Q a b->Q' a b)->t v τ G Q->t v τ G Q')(h2:kZx mask u)(mono2:∀v τ G Q Q',(∀a b,Q a b->Q' a b)->u v τ G Q->u v τ G Q'):kZx mask (jKc t u):=λvs τ G Q ⟨v,r,e,q⟩=>by
 refine⟨v,r,e,mono _ _ _ _ _ (λτ2 G2 ⟨z,l1,k1⟩=> ?_) (h1 _ _ _ _ q)⟩
 exact mono2 _ _ _ _ _ (λτ3 G3 ⟨z3,l3,k3⟩=>⟨z3,l3.trans l1,λi hi=>(k3 i hi).trans (k1 i hi)⟩) (h2 _ _ _ _ z)
theorem jYi:∀v τ G (Q Q':St3->Gp->Prop),(∀a b,Q a b->Q' a b)->jJj i v τ G Q->jJj i v τ G Q':=λ_ _ _ _ _ h q=>h _ _ q
theorem kZb:∀v τ G (Q Q':St3->Gp->Prop),(∀a b,Q a b->Q' a b)->gNil v τ G Q->gNil v τ G Q':=λ_ _ _ _ _ h q=>⟨q.1,h _ _ q.2⟩
theorem qUl{t:TG3}{u:TGs3}(m1:∀v τ G (Q Q':St3->Gp->Prop),(∀a b,Q a b->Q' a b)->t v τ G Q->t v τ G Q')(m2:∀v τ G (Q Q':St3->Gp->Prop),(∀a b,Q a b->Q' a b)->u v τ G Q->u v τ G Q'):
  ∀v τ G (Q Q':St3->Gp->Prop),(∀a b,Q a b->Q' a b)->jKc t u v τ G Q->jKc t u v τ G Q':=λ_ _ _ _ _ h ⟨v,r,e,q⟩=>⟨v,r,e,m1 _ _ _ _ _ (λ_ _ z=>m2 _ _ _ _ _ h z) q⟩
theorem qZ1{u:TGs3}(h:kZx mask u):qJ8 mask (gTup n u):=λv τ G Q ⟨xs,e,l,q⟩=>⟨xs,e,l,h _ _ _ _ q⟩
theorem qX5{τ2:St3}(hl:mask.length=τ.length)(l:τ2.length=(msk mask τ).length)(h:∀i:Nat,mask[i]? ≠some true->τ2[i]? =(msk mask τ)[i]?):msk mask τ2=msk mask τ:=by
 have ll:=jYf hl;apply lQj;intro i;unfold msk at h ⊢;rw[lYb,lYb];cases hm:mask[i]? with
 | none=>rfl
 | some b=>
  cases b with
  | true=>
   have h1:i<mask.length:=by
    rcases lKw i mask.length with z | z
    .exact z
    .rw[lJ3 z] at hm;cases hm
   have h2:i<τ2.length:=by omega
   have h3:i<τ.length:=by omega
   rw[lJj h2,lJj h3];simp
  | false=>
   have:=h i (by rw[hm];simp)
   rw[lYb,hm] at this;rw[this];cases τ[i]? with
   | none=>rfl
   | some o=>simp
def kVi(mask:List Bool)(g:TG3)(tif:TT3)(te:TE3)(τ:St3)(xs:List T)(stay:Gp->Prop)(G:Gp)(Q:VK3):Prop:=
 ∀D,G D=none->∃P:Nat->List T->Gp->Prop,P 0 [] (gup G D (.lst []))/\(∀i acc G,i<=xs.length->P i acc G->stay G/\G D=some (.lst acc))/\
  (∀i x acc G,xs[i]? =some x->P i acc G->g x (msk mask τ) G λτ2 G2=>tif τ2 G2 λb G3=>if b=true then te τ2 G3 λy G4=>G4 D=some (.lst acc)/\acc.length<sizeLine/\P (i+1) (acc++[y]) (gup G4 D (.lst (acc++[y]))) else P (i+1) acc G3)/\
  ∀acc G,P xs.length acc G->Q (.ref D) G
def jUc(mask:List Bool)(wi:TI3)(g:TG3)(tif:TT3)(te:TE3):TE3:=λτ G Q=>wi τ G λxs stay G1=>kVi mask g tif te τ xs stay G1 Q
section
variable {cl:List (Str×Addr)}{tif:TT3}
theorem kKk(hc:X.calm=true)(ok:CmpOk X scope cl mask)(hgk:qJ8 mask g)(hg:∀C fp s H,PG3 (jUi X scope cl C fp s H) tg g)(hif:∀C fp s H,PIf3 (jUi X scope cl C fp s H) ifs tif)(he:∀C fp s H,PE3 (jUi X scope cl C fp s H) elt te){itv:Value}{s2:Shared}{E:Value->Shared->Prop}{RR:Value->Addr->Result->Shared->Prop}(h2:PIE3 X pins τ H tg (λxs stay G=>kVi mask g tif te τ xs stay G Q) itv s2)(hRR:∀D C s' m,s'.heap.Ns C m->(∃G1 H1,Ext H H1/\H1 C=none/\Q (.ref D) G1/\∀h',Heap.SameBut C s'.heap h'->Inv3 X pins τ G1 H1 {s' with heap:=h'})->(∃oC,s'.heap.get? C=some oC/\C≠X.env.locals/\C∉X.fs/\∀v,oC.data≠ .cell v)->(∀x c,X.env.cells.lookup x=some c->c≠C)->(∀p∈X.pn++pins,p.1≠C)->X.s₀.heap.objs.size<=C->RR (.ref D) C (.ok .next) s'):
  wpAny (model X.prog X.w) X.A (newList []) (λacc s₃=>wpAny (model X.prog X.w) X.A (newFunctionEnv scope X.env.globals cl [] X.env.qual none .none (some X.env)) (λcenv s₄=>
   codeAny (model X.prog X.w) X.A (.compStart (.ListComp elt [⟨tg,iter,ifs,0⟩] scope pos) 0 itv acc {cenv with scope:=relabel scope X.env}) (RR acc cenv.locals) s₄) E s₃) E s2:=by
 obtain⟨it,fp,tn,J,xs,stay,G2,H2,e,eH,⟨σ,I2,hs2,hg2⟩,T0,st2,f2,IT,hq⟩:=h2;subst e;refine lQb (wpAny_newFunctionEnv ok.nc (by intro y hy;simp at hy) (λh4 hns hsb=> ?_) ok.kind)
 dsimp only at hns hsb ⊢
 have hD:H2 s2.heap.objs.size=none:=I2.hok.fresh (lJh _)
 generalize hs3:({s2 with heap:=s2.heap.push {cls:= .type "list",dict:=none,data:= .seq ([]:List Value).toArray} }:Shared)=s3
 have eh3:s2.heap.push {cls:= .type "list",dict:=none,data:= .seq ([]:List Value).toArray}=s3.heap:=by rw[<-hs3]
 have I3:Inv X pins σ (upd H2 s2.heap.objs.size (.lst [])) s3:=by
  rw[<-hs3];exact I2.laid (t':=s2.toks) (λb u e=>lJm _ e) (lJh _) ⟨lJn _,[],0,.nil,lJ8 _ rfl⟩
 rw[eh3] at hns hsb ⊢
 generalize hDd:s2.heap.objs.size=D at *
 have e3:Ext H2 (upd H2 D (.lst [])):= .upd (.none hD);have hg3:GRel X.K (upd H2 D (.lst [])) (gup G2 D (.lst [])):=hg2.lstNew (show Reps X.K H2 [] [] from rfl) (.none hD)
 have obj2:∀b∈fp,∃o,s2.heap.get? b=some o:=λb hb=>let ⟨o,e,_⟩:=T0.obj 0 _ st2 b hb;⟨o,e⟩
 have fD:∀b∈fp,b≠D:=λb hb=>by obtain⟨o,e⟩:=obj2 b hb;rw[<-hDd];exact lJt (lJk e)
 have f3:∀b∈fp,FpOk X pins (upd H2 D (.lst [])) b:=λb hb=>⟨by rw[jKd (fD b hb)];exact (f2 b hb).1,(f2 b hb).2⟩
 have k3:∀b o,s2.heap.get? b=some o->s3.heap.get? b=some o:=λb o e=>by rw[<-eh3];exact lJm _ e
 have obj3:∀b∈fp,∃o,s3.heap.get? b=some o:=λb hb=>let ⟨o,e⟩:=obj2 b hb;⟨o,k3 b o e⟩
 have k4:∀b o,s3.heap.get? b=some o->h4.get? b=some o:=λb o e=>hsb.extBut b o (lJt (lJk e)) (lJm _ e)
 have Ic:Inv (jUi X scope cl s3.heap.objs.size fp s3 (upd H2 D (.lst []))) [] (msk mask σ) (upd H2 D (.lst [])) {s3 with heap:=h4,toks:=s3.toks+([]:List (Str×Value)).length}:=qVd ok I3 f3 obj3 hns k4
 have st4:tn 0 h4:=T0.keep _ _ _ st2 λb _ o e=>k4 b o (k3 b o e)
 have hl3:mask.length=τ.length:=ok.len.trans (I3.len.symm.trans hs2.1);obtain⟨P,p0,hst,turn,fin⟩:=hq D (hg2.fresh hD)
 have fpc:∀{H':Hp}{pl:List (Addr×Obj)},(∀b∈fp,H' b=none)->(∀p∈pl,p.1∉fp)->∀b∈fp,FpOk (jUi X scope cl s3.heap.objs.size fp s3 (upd H2 D (.lst []))) pl H' b:=λ{H' pl} hn hp b hb=>by
  obtain⟨o,e⟩:=obj3 b hb;refine⟨hn b hb,lJt (lJk e),?_,.inl hb,λx d hd=>(f3 b hb).2.2.2.2.1 x d (jY9 ok.cl (by simp) _ _ hd),λp hpp z=> ?_⟩
  .intro z
   rcases lJp.mp (I3.stkSub b z) with q | q
   .exact (f3 b hb).2.1 q
   .exact (f3 b hb).2.2.1 q
  .have hpp':p∈pl:=by simpa[jUi] using hpp
   exact hp p hpp' (z▸hb)
 have loop:∀s4:Shared,s4={s3 with heap:=h4,toks:=s3.toks+([]:List (Str×Value)).length}->
   codeAny (model X.prog X.w) X.A (.compLoop (.ListComp elt [⟨tg,iter,ifs,0⟩] scope pos) 0 (.ref it) (.ref D) (compEnvC scope cl s3.heap.objs.size X.env)) (RR (.ref D) s3.heap.objs.size) s4:=by
  rintro s4 rfl
  refine qVc (λn s'=>∃i acc G' H',n=xs.length-i/\i<=xs.length/\Ext H2 H'/\Inv3 (jUi X scope cl s3.heap.objs.size fp s3 (upd H2 D (.lst []))) [] (msk mask τ) G' H' s'/\tn i s'.heap/\(∀b∈fp,H' b=none)/\P i acc G') ?_ xs.length
   ⟨0,[],_,_,rfl,lJn _,e3,⟨_,Ic,qQ0 (hs2.mono e3) hl3,hg3⟩,st4,λb hb=>(f3 b hb).1,p0⟩
  rintro n s5 ⟨i,acc,G5,H5,en,hi5,e5,⟨σ5,I5,hs5,hg5⟩,st5,fr5,p5⟩;obtain⟨hstay,hacc⟩:=hst i acc G5 hi5 p5;obtain⟨go,stop,yl⟩:=IT i H5 G5 e5 hg5 hstay
  by_cases hlt:i<xs.length
  .refine thn (T0.item (jUi X scope cl s3.heap.objs.size fp s3 (upd H2 D (.lst []))) rfl rfl rfl hc i [] s5 σ5 H5 (λ_ _=>False) I5 (fpc fr5 (by simp)) st5 (go hlt)) λr s6 ⟨u,hr,h6⟩=> ?_
   subst hr;refine thn h6 λ_ s7 ⟨x,H7,I7,r7,y7,st7,fr7⟩=> ?_
   obtain⟨e7,g7,t,ht,rt⟩:=yl hlt x H7 y7;have I7':=I7.pinned (fpc fr7 (by simp)) (T0.obj _ _ st7)
   refine thn (hg _ _ _ _ ([]++jVy fp s7.heap) s7 (msk mask τ) G5 H7 t u _ ⟨σ5,I7',hs5.mono e7,g7⟩ ⟨x,rt,r7⟩ (hgk _ _ _ _ (turn i t acc G5 ht p5))) λ_ s8 ⟨τ8,G8,H8,e8,I8,q8,ql8,qk8⟩=> ?_
   refine thn (hif _ _ _ _ ([]++jVy fp s7.heap) s8 τ8 G8 H8 _ I8 q8) λb s9 ⟨G9,H9,e9,I9,q9⟩=> ?_
   have back:∀{Ga:Gp}{Ha:Hp}{sa:Shared}{acc':List T},Ext H7 Ha->Inv3 (jUi X scope cl s3.heap.objs.size fp s3 (upd H2 D (.lst []))) ([]++jVy fp s7.heap) τ8 Ga Ha sa->P (i+1) acc' Ga->
     ∃m,m<n/\∃i acc G' H',m=xs.length-i/\i<=xs.length/\Ext H2 H'/\Inv3 (jUi X scope cl s3.heap.objs.size fp s3 (upd H2 D (.lst []))) [] (msk mask τ) G' H' sa/\tn i sa.heap/\(∀b∈fp,H' b=none)/\P i acc G':=by
    rintro Ga Ha sa acc' ea ⟨σa,Ia,hsa,hga⟩ pa;have e2a:Ext H5 Ha:=e7.trans ea;have hla:mask.length=τ8.length:=by rw[ql8,jYf hl3];exact hl3
    have hsm:=qQ0 (mask:=mask) hsa hla;rw[qX5 hl3 ql8 qk8] at hsm;refine⟨xs.length-(i+1),by omega,i+1,acc',Ga,Ha,rfl,hlt,e5.trans e2a,⟨msk mask σa,(Ia.weak (jYf (hla.trans hsa.1.symm)) λj v hv=>(kV9 hv).2).pins_of (λp hp=>absurd hp (by simp)),hsm,hga⟩,?_,λb hb=> ?_,pa⟩
    .exact T0.keep _ _ _ st7 λb hb o e=>(Ia.pin (b,o) (lKb _ (lKb _ (jVp hb e)))).1
    .obtain⟨o,e,d⟩:=T0.obj _ _ st7 b hb;exact (Ia.pin (b,o) (lKb _ (lKb _ (jVp hb e)))).2.1
   cases b with
   | false=>
    rw[lJb lJs] at q9 ⊢;exact back (e8.trans e9) I9 q9
   | true=>
    rw[lJc rfl] at q9 ⊢;refine thn (he _ _ _ _ ([]++jVy fp s7.heap) s9 τ8 G9 H9 _ I9 q9) λy s10 w_=>w_.el λty G10 H10 e10 I10 r10 ⟨hD10,hz10,q10⟩=> ?_
    obtain⟨vy,rvy,ruy⟩:=r10;refine thn (jQb ([]++jVy fp s7.heap) s10 τ8 G10 H10 (.ref D) [ty] (.ref D) [y] (λ_ G'=>P (i+1) (acc++[ty]) G') I10 ⟨.ref D,rfl,rfl⟩ ⟨[vy],.one rvy,.cons ruy .nil⟩ ⟨D,acc,ty,rfl,rfl,hD10,hz10,q10⟩) λ_ s11 w_=>w_.el λ_ G11 H11 e11 I11 _ q11=> ?_
    exact back (((e8.trans e9).trans e10).trans e11) I11 q11
  .have ei:i=xs.length:=by omega
   refine thn (T0.done (jUi X scope cl s3.heap.objs.size fp s3 (upd H2 D (.lst []))) rfl rfl rfl hc i [] s5 σ5 H5 (λ_ _=>False) I5 (fpc fr5 (by simp)) st5 (stop (by omega))) λr s6 ⟨hr,I6⟩=> ?_
   subst hr;subst ei;obtain⟨m,hn,_⟩:=I6.loc;obtain⟨oC,es,ep,hoC,hdC,_⟩:=id hn
   refine hRR D s3.heap.objs.size s6 m hn ⟨G5,H5,eH.trans e5,I6.free,fin acc G5 p5,λh' hb=>⟨σ,uQb I3 f3 (lJh _) I6 hb,hs2.mono e5,hg5⟩⟩
    ⟨oC,hoC,lVf I3.lt,I3.nofs (lJh _),λv z=>by rw[hdC] at z;cases z⟩ (λx d hd=> ?_) (λp hp=> ?_) I3.sz
   .obtain⟨v,q⟩:=I3.cell x d hd;exact lJt q.lt
   .exact lJt (lJk (I3.pin p hp).1)
 exact codeAny_compStart_list (loop _ (by rw[<-hs3])) (T0.self _ 0 _ _ _ st4 (loop _ (by rw[<-hs3])))
theorem jUh(hc:X.calm=true)(ok:CmpOk X scope cl mask)(hi:PI3 X tg iter wi)(hgk:qJ8 mask g)(hg:∀C fp s H,PG3 (jUi X scope cl C fp s H) tg g)(hif:∀C fp s H,PIf3 (jUi X scope cl C fp s H) ifs tif)(he:∀C fp s H,PE3 (jUi X scope cl C fp s H) elt te)(hs:∀x,foldedSetIterable iter X.env x=pure x:=by intro _;rfl):PE3 X (.ListComp elt [⟨tg,iter,ifs,0⟩] scope pos) (jUc mask wi g tif te):=by
 intro pins s τ G H Q I h;rw[eval_ListComp];refine wpAny_comprehension_free (use:=none) rfl hs (kKl ok.cl) ok.kind ok.nm (thn (hi pins s τ G H _ I h) λxv s1 h1=>thn h1 λitv s2 h2=> ?_)
 refine kKk (RR:=λacc C=>compPost (model X.prog X.w) X.A X.xe none (EP3 X pins τ H Q) acc C) hc ok hgk hg hif he h2 ?_
 rintro D C s' m hn ⟨G1,H1,e1,_,q1,hI⟩ _ _ _ _;exact⟨m,hn,λh' hb=>⟨.ref D,G1,H1,e1,hI h' hb,⟨.ref D,rfl,rfl⟩,q1⟩⟩
theorem kYh{y:Str}{spos:Pos}(hc:X.calm=true)(hN:X.N.Nodup)(ok:CmpOk X scope cl mask)(hi:PI3 X tg iter wi)(hgk:qJ8 mask g)(hg:∀C fp s H,PG3 (jUi X scope cl C fp s H) tg g)(hif:∀C fp s H,PIf3 (jUi X scope cl C fp s H) ifs tif)(he:∀C fp s H,PE3 (jUi X scope cl C fp s H) elt te)(hy:X.N[i]? =some y:=by rfl)(hx:X.env.scope.names.lookup y=some .local:=by rfl)(hsw:swapsWith (.ListComp elt [⟨tg,iter,ifs,0⟩] scope pos) (some (.Name y py)) spos.line X.env=pure true:=by rfl)(hs:∀x,foldedSetIterable iter X.env x=pure x:=by intro _;rfl):PS3 X (.Assign [.Name y py] (.ListComp elt [⟨tg,iter,ifs,0⟩] scope pos) spos) (tAsg (jUc mask wi g tif te) (jJj i)):=by
 intro pins s τ G H D I h;rw[exec_Assign_Name_used _ _ _ _ hsw];refine lJa (lZh (lJa ?_));show wpAny _ X.A (do let _ <-comprehension (.ListComp elt [⟨tg,iter,ifs,0⟩] scope pos) scope X.env _ (newList []) false (eval iter X.env) (some (assign (.Name y py) X.env))) _ _ s
 refine lJa (lQp (wpAny_comprehension_free (use:=some (assign (.Name y py) X.env)) (Q:=λ_ s'=>SP3 X pins H D .next s') rfl hs (kKl ok.cl) ok.kind ok.nm
  (thn (hi pins s τ G H _ I h) λxv s1 h1=>thn h1 λitv s2 h2=> ?_)) (λ_ s' hq=>lJd (lJd hq)) λ_ _ e=>e)
 refine kKk (RR:=λacc C=>compPost (model X.prog X.w) X.A X.xe (some (assign (.Name y py) X.env)) (λ_ s'=>SP3 X pins H D .next s') acc C) hc ok hgk hg hif he h2 ?_
 rintro Dd C s' m hn ⟨G1,H1,e1,hH1C,q1,hI⟩ ⟨oC,hoC,c1,c2,c3⟩ c4 c5 c6;show wpAny _ X.A (assign (.Name y py) X.env (.ref Dd)) _ _ _
 obtain⟨σ1,I1,hs1,hg1⟩:=hI s'.heap (.refl ..)
 have I1':Inv X (pins++[(C,oC)]) σ1 H1 s':=I1.pins_of λp hp=>(lJx.mp hp).elim (λz=>I1.pin p (lKb _ z)) λz=>by
  obtain rfl:p=(C,oC):=by simpa using z
  exact⟨hoC,hH1C,c1,c2,c3⟩
 refine wpAny_assign_Name (jXd I1' hN hy (.inl hx) (v:= .ref Dd) rfl (λs2 I2=> ?_) (.inr hx))
 have hC2:s2.heap.get? C=some oC:=(I2.pin (C,oC) (lKb _ (lKb _ (by simp)))).1
 obtain⟨oC',es,ep,hoC',r⟩:=hn;have eo:oC'=oC:=by rw[hoC] at hoC';exact (lJ0 hoC').symm
 subst eo;refine⟨m,⟨oC',es,ep,hC2,r⟩,λh' hb=>⟨_,G1,H1,e1,⟨_,?_,hs1.set i (show Rep X.K H1 (.ref Dd) (.ref Dd) from rfl),hg1⟩,q1⟩⟩
 exact I2.unpinned.turned (t':=s2.toks) (λb o hb' e=>(hb.2 b hb').trans e) hH1C c1 (.inr c6) c4 c5
end
end L3
namespace HT
open PySem PyProof.Rows
noncomputable def lexLe:(xs ys:List Int)->Bool
 | [],_=>true
 | _::_,[]=>false
 | x::xs,y::ys=>if x=y then lexLe xs ys else decide (x<=y)
theorem lexLe_cons(x y:Int)(xs ys:List Int):lexLe (x::xs) (y::ys)=if x=y then lexLe xs ys else decide (x<=y):=rfl
theorem lexLe_nil(ys:List Int):lexLe [] ys=true:=by cases ys<;>rfl
theorem kJv(x:Int)(xs:List Int):lexLe (x::xs) []=false:=rfl
theorem qXk(A:Around)(s:Shared)(a:Int)(t:Tok)(c:Int)(u:Tok)(prog:Program)(w:World)(E:Value->Shared->Prop)(Q:Value->Shared->Prop)(h:Q (.bool (decide (a<=c))) s):
  wpAny (model prog w) A (richCompare .LtE (.int a t) (.int c u)) Q E s:=
 (PyProof.Rows.le_int h:wpAny (model prog w) A (compareOp .LtE (.int a t) (.int c u)) Q E s)
section
open PySem.SeqAt
open PySem.AutoSeq1 (wpAny_loadPart')
open PySem.MeetsSeq PySem.MeetsSeq2 PySem.MeetsSeq3
theorem kKr(l b:Addr)(items items2:Array Value)(n n2:Nat)(dd dd2:Option Addr)(sl sl2:Array (Option Value))(ns ms:List Int)(hi:IntsAre items.toList ns)(hj:IntsAre items2.toList ms):
  Meets (Builtin.«tuple.__le__» ⟨[.ref l,.ref b],[]⟩)
   (λ_ R s=>s.heap.get? l=some {cls:= .type "tuple",dict:=dd,data:= .seq items n,slots:=sl}/\s.heap.get? b=some {cls:= .type "tuple",dict:=dd2,data:= .seq items2 n2,slots:=sl2}/\
    R (.ok (.ret (.bool (lexLe ns ms)))) s):=
 .of_wp λprog w A R s h=>by
  obtain⟨hp,g,d,tk,os⟩:=s;obtain⟨hl,hb,h⟩:=h;have f2:=AutoSeq1.sub_tuple_tuple;have z1:items.size=ns.length:=by rw[<-hi.length];simp
  have z2:items2.size=ms.length:=by rw[<-hj.length];simp
  wp_walk using wpAny_loadPart' hl,wpAny_loadPart' hb,wpAny_forIn_list _ (λrest b s'=>b.1=none/\s'=⟨hp,g,d,tk,os⟩/\∃(vs ws:List Value)(ns' ms':List Int),rest=vs.zip ws/\
   IntsAre vs ns'/\IntsAre ws ms'/\ns'.length+items2.size=ms'.length+items.size/\R (.ok (.ret (.bool (lexLe ns' ms')))) ⟨hp,g,d,tk,os⟩) _
  case turn=>
   rintro⟨y,x⟩ rest b s' ⟨hb',rfl,vs,ws,ns',ms',hz,hvi,hwi,hlen,hR⟩;cases hvi with
   | nil=>rw[List.zip_nil_left] at hz;cases hz
   | cons a t hvi'=>
    cases hwi with
    | nil=>rw[List.zip_nil_right] at hz;cases hz
    | cons c u hwi'=>
     rw[lXs] at hz;injection hz with hyx hrest
     injection hyx with hy hx
     subst hy hx;rw[lexLe_cons] at hR;simp only[lKk] at hlen;obtain⟨e,he,hiff⟩:=qYz A.in1 ⟨hp,g,d,tk,os⟩ a t c u;refine lJa (he prog w _ _ ?_);cases e with
     | true=>
      rw[lJc (hiff.mp rfl)] at hR
      wp_walk
      exact⟨rfl,rfl,_,_,_,_,hrest,hvi',hwi',by omega,hR⟩
     | false=>
      rw[lJb (λq=>absurd (hiff.mpr q) lJs)] at hR
      have hri:=qXk A.in1 ⟨hp,g,d,tk,os⟩ a t c u prog w
      wp_walk using hri
      exact⟨_,rfl,by simpa using hR⟩
  case fin=>
   rintro⟨b1,b2⟩ s' ⟨hb',rfl,vs,ws,ns',ms',hz,hvi,hwi,hlen,hR⟩;simp only at hb';subst hb'
   have hv:lexLe ns' ms'=decide (items.size<=items2.size):=by
    cases hvi with
    | nil=>
     simp only[lQl] at hlen;rw[lexLe_nil];exact (lJ9 (by omega)).symm
    | cons a t hv=>
     cases hwi with
     | nil=>
      simp only[lQl,lKk] at hlen;rw[kJv];exact (lJv (by omega)).symm
     | cons c u hw=>
      rw[lXs] at hz;cases hz
   rw[hv] at hR
   wp_walk
   exact⟨_,rfl,by simpa[Builtin.Tuple.tupleCompareSizes] using hR⟩
  case h=>
   exact⟨rfl,rfl,items.toList,items2.toList,ns,ms,rfl,hi,hj,by omega,h⟩
end
theorem le_tupInts{prog:Program}{w:World}{A:Around}{E:Value->Shared->Prop}{s:Shared}{l b:Addr}{items items2:Array Value}{ns ms:List Int}{Q:Value->Shared->Prop}(hl:IsTup s.heap l items)(hb:IsTup s.heap b items2)(hi:IntsAre items.toList ns)(hj:IntsAre items2.toList ms)(hu:A.units<cLine)(h:Q (.bool (lexLe ns ms)) s):wpAny (model prog w) A (compareOp .LtE (.ref l) (.ref b)) Q E s:=by
 obtain⟨⟨cls,dd,data,sl⟩,ho,hc,n,hd⟩:=id hl;obtain⟨⟨cls2,dd2,data2,sl2⟩,ho2,hc2,n2,hd2⟩:=id hb;simp only at hc hd hc2 hd2;subst hc hd hc2 hd2
 exact richCompare_meets_room (op:= .LtE) ⟨_,ho,rfl⟩ ⟨_,ho2,rfl⟩ PySem.F.slot_tuple_le PySem.F.entry_tuple_le (PySem.F.args_tuple_le_2 _ _) (kKr l b items items2 n n2 dd dd2 sl sl2 ns ms hi hj)
  ⟨ho,ho2,show Value.bool (lexLe ns ms)≠Value.notImplemented/\Q (.bool (lexLe ns ms)) s from⟨(λx=>nomatch x),h⟩⟩ hu
end HT
namespace L3
open PySem PySem.Spec PyProof.Rows L2
variable {X:Cx}{G:Gp}{x y:T}{b:Bool}{pins:List (Addr×Obj)}{σ:L2.St}{H:Hp}{s:Shared}{a:V}{u:Value}
theorem jQ0{K:PySem.W.Frag}{H:Hp}:∀{ns:List Int}{vs:List V},Reps K H (ns.map T.int) vs->vs=ns.map V.int
 | [],_,h=>h
 | n::ns,_,⟨v,ws,e,r,rs⟩=>by
  subst e;cases (show v= .int n from r)
  rw[jQ0 rs];rfl
def rLeT:R3:=λx y G Q=>∃ns ms,x= .tup (ns.map T.int)/\y= .tup (ms.map T.int)/\Q (.bl (HT.lexLe ns ms)) G
theorem uXm(hu:X.A.units<cLine):Op3 X (compareOp .LtE) rLeT:=by
 rintro pins s τ G H x y v u Q ⟨σ,I,hs,hg⟩ ⟨a,ra,rv⟩ ⟨b,rb,ru⟩ ⟨ns,ms,ex,ey,q⟩;subst ex;subst ey;obtain⟨p,vs,e1,h1,h2⟩:=(show ∃p vs,a= .ref p/\H p=some (.tup vs)/\Reps X.K H (ns.map T.int) vs from ra)
 obtain⟨p',ws,e2,h3,h4⟩:=(show ∃p vs,b= .ref p/\H p=some (.tup vs)/\Reps X.K H (ms.map T.int) vs from rb)
 subst e1;subst e2;cases rv;cases ru;rw[jQ0 h2] at h1;rw[jQ0 h4] at h3;obtain⟨its,r1,p1,_⟩:=I.tuple (.of h1);obtain⟨its2,r2,p2,_⟩:=I.tuple (.of h3);exact HT.le_tupInts p1 p2 (show IntsAre its.toArray.toList ns from kKg r1) (show IntsAre its2.toArray.toList ms from kKg r2) hu ⟨.bl _,G,H,.refl H,⟨σ,I,hs,hg⟩,⟨.bl _,rfl,rfl⟩,q⟩
def rLeI:R3:=rI0 λi j=> .bl (decide (i<=j))
def rLeA:R3:=λx y G Q=>rLeI x y G Q\/rLeT x y G Q
theorem uXn(hu:X.A.units+20<cLine):Op3 X (compareOp .LtE) rLeA:=o_le.or (uXm (by omega))
theorem qUw(h:eqG G x y=some b):
  (∃p q xs ys,x= .ref p/\y= .ref q/\G p=some (.lst xs)/\G q=some (.lst ys)/\kQm xs=true/\kQm ys=true/\b=eqTs xs ys)\/(eqOk x=true/\eqOk y=true/\b=eqT x y):=by
 by_cases hr:∃p q,x= .ref p/\y= .ref q
 .obtain⟨p,q,ex,ey⟩:=hr;subst ex;subst ey;refine .inl ?_;simp only[eqG] at h;split at h
  .rename_i xs ys h1 h2
   split at h
   .rename_i hc
    cases h;exact⟨p,q,xs,ys,rfl,rfl,h1,h2,hc.1,hc.2,rfl⟩
   .cases h
  .cases h
 .refine .inr ?_
  have e:eqG G x y=if eqOk x=true/\eqOk y=true then some (eqT x y) else none:=by
   cases x with
   | ref p=>cases y with
    | ref q=>exact absurd ⟨p,q,rfl,rfl⟩ hr
    | _=>rfl
   | _=>rfl
  rw[e] at h;split at h
  .rename_i hc
   cases h;exact⟨hc.1,hc.2,rfl⟩
  .cases h
mutual
theorem kVr{X:Cx}{pins:List (Addr×Obj)}{σ:L2.St}{H:Hp}{s:Shared}(I:Inv X pins σ H s):∀(x:T){a:V}{u:Value},tree x=true->Rep X.K H x a->RelV a u->∃as,Reads s.heap u (td x) as
 | .non,a,u,_,r,q=>by cases (show a= .non from r);cases q;exact⟨_,.none⟩
 | .bl b,a,u,_,r,q=>by cases (show a= .bl b from r);cases q;exact⟨_,.bool b⟩
 | .int b,a,u,_,r,q=>by cases (show a= .int b from r);obtain⟨t,rfl⟩:=q;exact⟨_,.int b t⟩
 | .str b,a,u,_,r,q=>by cases (show a= .str b from r);obtain⟨t,rfl⟩:=q;exact⟨_,.str b t⟩
 | .tup xs,a,u,ht,r,q=>by
  obtain⟨p,vs,e1,h1,h2⟩:=(show ∃p vs,a= .ref p/\H p=some (.tup vs)/\Reps X.K H xs vs from r)
  subst e1;cases q;obtain⟨its,rv,⟨o,ho,hc,n,hd⟩,_⟩:=I.tuple (.of h1);obtain⟨as,ra⟩:=jY1 I xs (show jQm xs=true from ht) h2 rv
  exact⟨_,.tuple ho hc hd (by simpa using ra)⟩
 | .ref _,_,_,ht,_,_=>absurd (show false=true from ht) lJs
 | .scr _,_,_,ht,_,_=>absurd (show false=true from ht) lJs
 | .ty _,_,_,ht,_,_=>absurd (show false=true from ht) lJs
theorem jY1{X:Cx}{pins:List (Addr×Obj)}{σ:L2.St}{H:Hp}{s:Shared}(I:Inv X pins σ H s):∀(xs:List T){vs:List V}{us:List Value},jQm xs=true->Reps X.K H xs vs->Vals vs us->∃as,ReadsAll s.heap us (tds xs) as
 | [],_,_,_,r,q=>by cases r;cases q;exact⟨_,.nil⟩
 | x::xs,_,_,ht,⟨v,ws,e,r1,r2⟩,q=>by
  subst e;cases q with
  | cons q1 q2=>
   have hx:tree x=true/\jQm xs=true:=by simpa[jQm] using ht
   obtain⟨as,ra⟩:=kVr I x hx.1 r1 q1;obtain⟨bs,rb⟩:=jY1 I xs hx.2 r2 q2;exact⟨_,.cons ra rb⟩
end
mutual
theorem uVj:∀(x y:T),tree x=true->tree y=true->PyData.eqv (td x) (td y)=eqT x y
 | .non,y,_,hy=>by cases y<;>first | rfl | exact absurd (show false=true from hy) lJs
 | .bl b,y,_,hy=>by cases y<;>first | rfl | exact absurd (show false=true from hy) lJs
 | .int b,y,_,hy=>by cases y<;>first | rfl | exact absurd (show false=true from hy) lJs
 | .str b,y,_,hy=>by cases y<;>first | rfl | exact absurd (show false=true from hy) lJs
 | .tup xs,y,hx,hy=>by
  cases y with
  | tup ys=>exact qUr xs ys (show jQm xs=true from hx) (show jQm ys=true from hy)
  | _=>first | rfl | exact absurd (show false=true from hy) lJs
 | .ref _,_,ht,_=>absurd (show false=true from ht) lJs
 | .scr _,_,ht,_=>absurd (show false=true from ht) lJs
 | .ty _,_,ht,_=>absurd (show false=true from ht) lJs
theorem qUr:∀(xs ys:List T),jQm xs=true->jQm ys=true->PyData.eqvAll (tds xs) (tds ys)=eqTs xs ys
 | [],[],_,_=>rfl
 | [],_::_,_,_=>rfl
 | _::_,[],_,_=>rfl
 | x::xs,y::ys,hx,hy=>by
  have hx':tree x=true/\jQm xs=true:=by simpa[jQm] using hx
  have hy':tree y=true/\jQm ys=true:=by simpa[jQm] using hy
  show (PyData.eqv (td x) (td y)&&PyData.eqvAll (tds xs) (tds ys))=(eqT x y&&eqTs xs ys)
  rw[uVj x y hx'.1 hy'.1,qUr xs ys hx'.2 hy'.2]
end
theorem kZe{b:V}{v:Value}{k:Bool}(I:Inv X pins σ H s)(hg:GRel X.K H G)(ra:Rep X.K H x a)(rb:Rep X.K H y b)(ru:RelV a u)(rv:RelV b v)(h:eqG G x y=some k):
  ∃da db as bs,Reads s.heap u da as/\Reads s.heap v db bs/\da.canLay0=true/\db.canLay0=true/\da.depth<=50/\PyData.eqv da db=k:=by
 rcases qUw h with ⟨p,q,xs,ys,ex,ey,hp,hq,ox,oy,e⟩ | ⟨ox,oy,e⟩
 .subst ex;subst ey;cases (show a= .ref p from ra);cases (show b= .ref q from rb)
  cases ru;cases rv;obtain⟨vs,h1,h2⟩:=hg.lst hp;obtain⟨ws,h3,h4⟩:=hg.lst hq;obtain⟨its,r1,⟨o,n,ho,hc,_,hd⟩,_⟩:=I.list (.of h1);obtain⟨its',r2,⟨o',n',ho',hc',_,hd'⟩,_⟩:=I.list (.of h3);simp only[kQm,lK5,lK1] at ox oy;obtain⟨as,r3⟩:=jY1 I xs ox.1.1 h2 r1;obtain⟨bs,r4⟩:=jY1 I ys oy.1.1 h4 r2;exact⟨.list (tds xs),.list (tds ys),_,_,.list ho hc hd (by simpa using r3),.list ho' hc' hd' (by simpa using r4),ox.1.2,oy.1.2,ox.2,by rw[e];exact qUr xs ys ox.1.1 oy.1.1⟩
 .simp only[eqOk,lK5,lK1] at ox oy;obtain⟨as,r3⟩:=kVr I x ox.1.1 ra ru;obtain⟨bs,r4⟩:=kVr I y oy.1.1 rb rv;exact⟨td x,td y,_,_,r3,r4,ox.1.2,oy.1.2,ox.2,by rw[e];exact uVj x y ox.1.1 oy.1.1⟩
theorem jZ1(hu:X.A.units+64<cLine):Op3 X (compareOp .Eq) rEqA:=by
 rintro pins s τ G H x y v u Q ⟨σ,I,hs,hg⟩ ⟨a,ra,rv⟩ ⟨b,rb,ru⟩ ⟨k,hk,q⟩;obtain⟨da,db,as,bs,r1,r2,c1,c2,d,e⟩:=kZe I hg ra rb rv ru hk;exact SeqAt.compareEq_reads r1 r2 c1 c2 (by omega) ⟨.bl k,G,H,.refl H,⟨σ,I,hs,hg⟩,⟨.bl k,rfl,by rw[e];rfl⟩,q⟩
theorem kUl(hu:X.A.units+64<cLine):Op3 X (compareOp .NotEq) rNeA:=by
 rintro pins s τ G H x y v u Q ⟨σ,I,hs,hg⟩ ⟨a,ra,rv⟩ ⟨b,rb,ru⟩ ⟨k,hk,q⟩;obtain⟨da,db,as,bs,r1,r2,c1,c2,d,e⟩:=kZe I hg ra rb rv ru hk;exact SeqAt.compareNe_reads r1 r2 c1 c2 (by omega) ⟨.bl (!k),G,H,.refl H,⟨σ,I,hs,hg⟩,⟨.bl (!k),rfl,by rw[e];rfl⟩,q⟩
variable {K:PySem.W.Frag}{pos:Pos}
noncomputable def jXx:T->Bool
 | .non=>true
 | .bl _=>true
 | .int _=>true
 | .str _=>true
 | _=>false
theorem jY6(r:Rep K H x a)(f:jXx x=true):kJy a=true:=by
 cases x with
 | non=>cases (show a= .non from r);rfl
 | bl _=>cases (show a= .bl _ from r);rfl
 | int _=>cases (show a= .int _ from r);rfl
 | str _=>cases (show a= .str _ from r);rfl
 | _=>exact absurd (show false=true from f) lJs
theorem qUq{b:V}(r:Rep K H x a)(q:Rep K H y b)(f:jXx x=true)(g:jXx y=true):eqV a b=eqT x y:=by
 cases x with
 | non=>cases (show a= .non from r);cases y with
  | non=>cases (show b= .non from q);rfl
  | bl _=>cases (show b= .bl _ from q);rfl
  | int _=>cases (show b= .int _ from q);rfl
  | str _=>cases (show b= .str _ from q);rfl
  | _=>exact absurd (show false=true from g) lJs
 | bl _=>cases (show a= .bl _ from r);cases y with
  | non=>cases (show b= .non from q);rfl
  | bl _=>cases (show b= .bl _ from q);rfl
  | int _=>cases (show b= .int _ from q);rfl
  | str _=>cases (show b= .str _ from q);rfl
  | _=>exact absurd (show false=true from g) lJs
 | int _=>cases (show a= .int _ from r);cases y with
  | non=>cases (show b= .non from q);rfl
  | bl _=>cases (show b= .bl _ from q);rfl
  | int _=>cases (show b= .int _ from q);rfl
  | str _=>cases (show b= .str _ from q);rfl
  | _=>exact absurd (show false=true from g) lJs
 | str _=>cases (show a= .str _ from r);cases y with
  | non=>cases (show b= .non from q);rfl
  | bl _=>cases (show b= .bl _ from q);rfl
  | int _=>cases (show b= .int _ from q);rfl
  | str _=>cases (show b= .str _ from q);rfl
  | _=>exact absurd (show false=true from g) lJs
 | _=>exact absurd (show false=true from f) lJs
def inT(x:T)(xs:List T):Bool:=xs.any λy=>eqT y x
theorem kQi{K:PySem.W.Frag}{H:Hp}{x:T}{a:V}(r:Rep K H x a)(f:jXx x=true):∀{xs:List T}{vs:List V},Reps K H xs vs->xs.all jXx=true->vs.all kJy=true/\inV a vs=inT x xs
 | [],_,h,_=>by cases h;exact⟨rfl,rfl⟩
 | y::ys,_,⟨v,ws,e,r1,r2⟩,g=>by
  subst e;rw[lVh,lK5] at g;obtain⟨h1,h2⟩:=kQi r f r2 g.2;refine⟨by rw[lVh,jY6 r1 g.1,h1];rfl,?_⟩
  unfold inV inT at h2 ⊢;rw[lQ0,lQ0,qUq r1 r g.1 f,h2]
def rInF(neg:Bool):R3:=λx y G Q=>∃xs,seqT G y=some xs/\jXx x=true/\xs.all jXx=true/\Q (.bl (if neg then !inT x xs else inT x xs)) G
theorem uKo{neg:Bool}{op:CmpOp}(h:OpR X (compareOp op) (L2.rIn X.K neg)):Op3 X (compareOp op) (rInF neg):=
 Op3.of h λH G x y a b Q hg ra rb ⟨xs,hx,fx,fs,q⟩=>by
  obtain⟨p,vs,e,hq,r⟩:=jUe hg rb hx;obtain⟨h1,h2⟩:=kQi ra fx r fs;exact⟨p,vs,e,hq,jY6 ra fx,h1,.bl _,G,.refl H,hg,by rw[h2];rfl,q⟩
theorem o_notInF:Op3 X (compareOp .NotIn) (rInF true):=uKo kUd
noncomputable def kT:Key->T
 | .inl i=> .int i
 | .inr x=> .str x
noncomputable def jUs:T->Option Key
 | .int i=>some (.inl i)
 | .str x=>some (.inr x)
 | _=>none
noncomputable def allK{K:Type}(f:T->Option K):List T->Option (List K)
 | []=>some []
 | x::xs=>match f x,allK f xs with
  | some k,some ks=>some (k::ks)
  | _,_=>none
noncomputable def key1:T->Option K1
 | .tup ts=>(allK jUs ts).map .inr
 | x=>(jUs x).map .inl
noncomputable def key2:T->Option K2
 | .tup ts=>(allK key1 ts).map .inr
 | x=>(jUs x).map .inl
noncomputable def jQr:List T->Option TKey:=allK key2
theorem jXu{k:Key}(h:jUs x=some k)(r:Rep K H x a):a=kV k:=by
 cases x with
 | int i=>cases h;exact r
 | str i=>cases h;exact r
 | non=>cases h
 | bl _=>cases h
 | tup _=>cases h
 | scr _=>cases h
 | ref _=>cases h
 | ty _=>cases h
theorem jZc{K:PySem.W.Frag}{H:Hp}{κ:Type}{f:T->Option κ}{R:κ->V->Prop}(hf:∀x k a,f x=some k->Rep K H x a->R k a):∀{xs:List T}{vs:List V}{ks:List κ},allK f xs=some ks->Reps K H xs vs->Paired R ks vs
 | [],_,_,h,r=>by cases h;cases (show _=[] from r);exact .nil
 | x::xs,_,ks,h,⟨v,ws,e,r1,r2⟩=>by
  subst e;unfold allK at h;cases e1:f x with
  | none=>rw[e1] at h;cases h
  | some k=>
   cases e2:allK f xs with
   | none=>rw[e1,e2] at h;cases h
   | some ks'=>
    rw[e1,e2] at h;cases h;exact .cons (hf _ _ _ e1 r1) (jZc hf e2 r2)
theorem qYe(x:T)(k:K1)(a:V)(h:key1 x=some k)(r:Rep K H x a):Rk1 H k a:=by
 cases x with
 | tup ts=>
  obtain⟨ks,h1,rfl⟩:=lQn.mp (show (allK jUs ts).map Sum.inr=some k from h)
  obtain⟨p,vs,e,h3,h4⟩:=(show ∃p vs,a= .ref p/\H p=some (.tup vs)/\Reps K H ts vs from r)
  exact⟨p,vs,e,h3,jZc (λx k a h r=>jXu h r) h1 h4⟩
 | int i=>cases h;exact r
 | str i=>cases h;exact r
 | non=>cases h
 | bl _=>cases h
 | scr _=>cases h
 | ref _=>cases h
 | ty _=>cases h
theorem qYc(x:T)(k:K2)(a:V)(h:key2 x=some k)(r:Rep K H x a):Rk2 H k a:=by
 cases x with
 | tup ts=>
  obtain⟨ks,h1,rfl⟩:=lQn.mp (show (allK key1 ts).map Sum.inr=some k from h)
  obtain⟨p,vs,e,h3,h4⟩:=(show ∃p vs,a= .ref p/\H p=some (.tup vs)/\Reps K H ts vs from r)
  exact⟨p,vs,e,h3,jZc qYe h1 h4⟩
 | int i=>cases h;exact r
 | str i=>cases h;exact r
 | non=>cases h
 | bl _=>cases h
 | scr _=>cases h
 | ref _=>cases h
 | ty _=>cases h
theorem jQw{xs:List T}{vs:List V}{ks:TKey}{p:Addr}(h:jQr xs=some ks)(e:H p=some (.tup vs))(r:Reps K H xs vs):TKeyAt H ks p:=⟨vs,e,jZc qYc h r⟩
noncomputable def valT{κ:Type}[DecidableEq κ](kvs:List (κ×T))(k:κ):Option T:=(kvs.find? λkv=>decide (kv.1=k)).map (·.2)
noncomputable def putT{κ:Type}[DecidableEq κ](kvs:List (κ×T))(k:κ)(v:T):List (κ×T):=
 if (kvs.any λkv=>decide (kv.1=k))=true then kvs.map (λkv=>if kv.1=k then (kv.1,v) else kv) else kvs++[(k,v)]
theorem PKV.val{κ:Type}[DecidableEq κ]{kvs:List (κ×T)}{ws:List (κ×V)}(r:PKV K H kvs ws)(k:κ):(∀t,valT kvs k=some t->∃v,valV ws k=some v/\Rep K H t v)/\(valT kvs k).isSome=(valV ws k).isSome:=by
 unfold PKV at r
 induction r with
 | nil=>exact⟨λt h=>by simp[valT] at h,rfl⟩
 | @cons p q ps qs h t ih=>
  by_cases e:p.1=k
  .have e':q.1=k:=h.1.symm.trans e;have b:valT (p::ps) k=some p.2:=by simp[valT,lQm,e]
   rw[b,jYx e'];exact⟨λt ht=>by cases ht;exact⟨q.2,rfl,h.2⟩,rfl⟩
  .have e':¬ q.1=k:=λz=>e (h.1.trans z)
   have b:valT (p::ps) k=valT ps k:=by simp[valT,lQm,e]
   rw[b,jYy e'];exact ih
theorem PKV.any{κ:Type}[DecidableEq κ]{kvs:List (κ×T)}{ws:List (κ×V)}(r:PKV K H kvs ws)(k:κ):(kvs.any λkv=>decide (kv.1=k))=ws.any λkv=>decide (kv.1=k):=by
 unfold PKV at r
 induction r with
 | nil=>rfl
 | cons h t ih=>rw[lQ0,lQ0,ih,h.1]
theorem PKV.put{κ:Type}[DecidableEq κ]{kvs:List (κ×T)}{ws:List (κ×V)}(r:PKV K H kvs ws)(k:κ){t:T}{v:V}(rt:Rep K H t v):PKV K H (putT kvs k t) (putK ws k v):=by
 unfold putT putK;rw[r.any k]
 by_cases e:(ws.any λkv=>decide (kv.1=k))=true
 .rw[lJc e,lJc e];unfold PKV at r ⊢;clear e
  induction r with
  | nil=>exact .nil
  | @cons p q ps qs h t' ih=>
   rw[lJw,lJw];refine .cons ?_ ih;obtain⟨h1,h2⟩:=h
   by_cases e:p.1=k
   .rw[lJc e,lJc (h1.symm.trans e)];exact⟨h1,rt⟩
   .rw[lJb e,lJb (λz=>e (h1.trans z))];exact⟨h1,h2⟩
 .rw[lJb e,lJb e];exact Paired.snoc r ⟨rfl,rt⟩
theorem PKV.length{κ:Type}{kvs:List (κ×T)}{ws:List (κ×V)}(r:PKV K H kvs ws):kvs.length=ws.length:=lXl r
noncomputable def dAt(G:Gp)(x y:T):Option (Option T):=match x with
 | .ref p=>match G p with
  | some (.dct kvs)=>match y with
   | .tup ys=>match jQr ys with
    | some ks=>some (valT kvs ks)
    | none=>none
   | _=>none
  | some (.dck kvs)=>match jUs y with
   | some k=>some (valT kvs k)
   | none=>none
  | some (.fdc kvs)=>match y with
   | .tup ys=>match jQr ys with
    | some ks=>some (valT kvs ks)
    | none=>none
   | _=>none
  | _=>none
 | _=>none
theorem qU9{b:V}{o:Option T}(hg:GRel K H G)(ra:Rep K H x a)(rb:Rep K H y b)(h:dAt G x y=some o):
  ∃p ov,a= .ref p/\DGet H p b ov/\o.isSome=ov.isSome/\∀t,o=some t->∃v,ov=some v/\Rep K H t v:=by
 unfold dAt at h;split at h
 .rename_i p
  cases (show a= .ref p from ra)
  split at h
  .rename_i kvs hG
   split at h
   .rename_i ys
    split at h
    .rename_i ks hk
     cases h;obtain⟨ws,h1,h2⟩:=hg p _ hG;obtain⟨q,vs,e,h3,h4⟩:=(show ∃q vs,b= .ref q/\H q=some (.tup vs)/\Reps K H ys vs from rb)
     subst e;exact⟨p,_,rfl,DGet.t h1 (jQw hk h3 h4),(h2.val ks).2,(h2.val ks).1⟩
    .cases h
   .cases h
  .rename_i kvs hG
   split at h
   .rename_i k hk
    cases h;obtain⟨ws,h1,h2⟩:=hg p _ hG;rw[jXu hk rb];exact⟨p,_,rfl,DGet.k h1,(h2.val k).2,(h2.val k).1⟩
   .cases h
  .rename_i kvs hG
   split at h
   .rename_i ys
    split at h
    .rename_i ks hk
     cases h;obtain⟨ob,ws,h1,h2⟩:=(show ∃ob ws,H p=some (.frz ob (.dT ws))/\PKV K H kvs ws from hg p _ hG)
     obtain⟨q,vs,e,h3,h4⟩:=(show ∃q vs,b= .ref q/\H q=some (.tup vs)/\Reps K H ys vs from rb)
     subst e;exact⟨p,_,rfl,.inr ⟨ws,ks,q,.inr ⟨ob,h1⟩,rfl,jQw hk h3 h4,rfl⟩,(h2.val ks).2,(h2.val ks).1⟩
    .cases h
   .cases h
  .cases h
 .cases h
def uUf:R3:=λx y G Q=>∃t,dAt G x y=some (some t)/\Q t G
theorem uKh(hu:X.A.units+20<cLine):Ix3 X uUf:=by
 rintro value slice pins s τ G H x y v u Q ⟨σ,I,hs,hg⟩ ⟨a,ra,rv⟩ ⟨b,rb,ru⟩ ⟨t,hd,q⟩ hsl;obtain⟨p,ov,e,g,_,hh⟩:=qU9 hg ra rb hd;obtain⟨w,ew,rw'⟩:=hh t rfl;subst e;subst ew;cases rv;have hT:s.TypeIs (.ref p) "dict":=kXo I g;unfold subscriptTail;refine lJa ?_;rw[getitemInPython_of_ne hT.not_modules];refine lJa (lX2 hT PySem.F.slot_dict_getitem.lookup ?_)
 have fin:wpAny (model X.prog X.w) X.A (subscripted slice false (.ref p) u) (λr s₃=>wpAny (model X.prog X.w) X.A (letTemporaryGo value (.ref p) r >>= λ_=>pure r) (EP3 X pins τ H Q) X.xe s₃) X.xe s:=by
  rw[hsl];exact wpAny_operating (qU8 hu I g ru λw' s' I' r'=>lJa (wpAny_letTemporaryGo (lJd ⟨t,G,H,.refl H,⟨σ,I',hs,hg⟩,⟨w,rw',r'⟩,q⟩)))
 first
  | exact lJd (lJa fin)
  | exact lJa (lJd (lJa fin))
  | exact lJa fin
theorem Ix3.or{r r':R3}(h:Ix3 X r)(h':Ix3 X r'):Ix3 X (λx y G Q=>r x y G Q\/r' x y G Q):=by
 intro value slice pins s τ G H x y v u Q I rx ry q hs
 rcases q with q | q
 .exact h value slice pins s τ G H x y v u Q I rx ry q hs
 .exact h' value slice pins s τ G H x y v u Q I rx ry q hs
def rIxA:R3:=λx y G Q=>rIx x y G Q\/uUf x y G Q
theorem uKi(hu:X.A.units+20<cLine):Ix3 X rIxA:=ix_any.or (uKh hu)
def qQe:R3:=λx y G Q=>∃o,dAt G y x=some o/\Q (.bl (!o.isSome)) G
theorem qXy(hu:X.A.units+20<cLine):Op3 X (compareOp .NotIn) qQe:=by
 rintro pins s τ G H x y v u Q ⟨σ,I,hs,hg⟩ ⟨a,ra,rv⟩ ⟨b,rb,ru⟩ ⟨o,hd,q⟩;obtain⟨p,ov,e,g,e2,_⟩:=qU9 hg rb ra hd;subst e;cases ru;exact uK8 hu I g rv λs' I'=>⟨.bl _,G,H,.refl H,⟨σ,I',hs,hg⟩,⟨.bl _,rfl,by rw[<-e2];rfl⟩,q⟩
def qQb:R3:=λx y G Q=>rInF true x y G Q\/qQe x y G Q
theorem uJ9(hu:X.A.units+20<cLine):Op3 X (compareOp .NotIn) qQb:=o_notInF.or (qXy hu)
def kVh:TE3:=λ_ G Q=>(∀p,G p=none->Q (.ref p) (gup G p (.dct [])))\/∀p,G p=none->Q (.ref p) (gup G p (.dck []))
theorem uX4:PE3 X (.Dict [] [] pos) kVh:=by
 rintro pins s τ G H Q ⟨σ,I,hs,hg⟩ h
 rcases h with h | h
 .exact thn (qXs pins s σ H (up X.K H Q) I λp hp=>⟨.ref p,_,.upd (.none hp),hg.upd (.none hp) (go:= .dct []) ⟨[],jK2,.nil⟩,rfl,h p (hg.fresh hp)⟩) λu s' z=>jV8 hs z
 .exact thn (qXt pins s σ H (up X.K H Q) I λp hp=>⟨.ref p,_,.upd (.none hp),hg.upd (.none hp) (go:= .dck []) ⟨[],jK2,.nil⟩,rfl,h p (hg.fresh hp)⟩) λu s' z=>jV8 hs z
noncomputable def qZl:T->T->T->Gp->(Gp->Prop)->Prop:=λo i v G Q=>∃p ys ks kvs,o= .ref p/\i= .tup ys/\jQr ys=some ks/\G p=some (.dct kvs)/\kvs.length<sizeLine/\Q (gup G p (.dct (putT kvs ks v)))
def qZm:T->T->T->Gp->(Gp->Prop)->Prop:=λo i v G Q=>∃p k kvs,o= .ref p/\jUs i=some k/\G p=some (.dck kvs)/\kvs.length<sizeLine/\Q (gup G p (.dck (putT kvs k v)))
theorem uJt(hu:X.A.units+20<cLine):Set3 X qZl:=by
 rintro pins s τ G H o i v ov iv u Q ⟨σ,I,hs,hg⟩ ⟨a,ra,rv⟩ ⟨b,rb,ru⟩ ⟨c,rc,rw'⟩ ⟨p,ys,ks,kvs,eo,ei,hk,hG,hz,q⟩;subst eo;subst ei;cases (show a= .ref p from ra);cases rv
 obtain⟨ws,h1,h2⟩:=hg p _ hG;obtain⟨b',vs,e,h3,h4⟩:=(show ∃q vs,b= .ref q/\H q=some (.tup vs)/\Reps X.K H ys vs from rb)
 subst e;have h3:=jQw hk h3 h4;have e:Ext H (upd H p (.dT (putK ws ks c))):= .upd (.dT h1);exact kUv hu I (DPut.t h1 h3 (by rw[<-h2.length];exact hz)) ru rw' λs' I'=>⟨_,_,e,⟨σ,I',hs.mono e,hg.upd (.dT h1) (go:= .dct (putT kvs ks v)) ⟨_,jK2,(h2.put ks rc).mono e⟩⟩,q⟩
theorem uJu(hu:X.A.units+20<cLine):Set3 X qZm:=by
 rintro pins s τ G H o i v ov iv u Q ⟨σ,I,hs,hg⟩ ⟨a,ra,rv⟩ ⟨b,rb,ru⟩ ⟨c,rc,rw'⟩ ⟨p,k,kvs,eo,hk,hG,hz,q⟩;subst eo;cases (show a= .ref p from ra);cases rv
 obtain⟨ws,h1,h2⟩:=hg p _ hG;have eb:=jXu hk rb;subst eb;have e:Ext H (upd H p (.dK (putK ws k c))):= .upd (.dK h1);exact kUv hu I (DPut.k h1 (by rw[<-h2.length];exact hz)) ru rw' λs' I'=>⟨_,_,e,⟨σ,I',hs.mono e,hg.upd (.dK h1) (go:= .dck (putT kvs k v)) ⟨_,jK2,(h2.put k rc).mono e⟩⟩,q⟩
theorem Set3.or{r r':T->T->T->Gp->(Gp->Prop)->Prop}(h:Set3 X r)(h':Set3 X r'):Set3 X (λo i v G Q=>r o i v G Q\/r' o i v G Q):=by
 intro pins s τ G H o i v ov iv u Q I ro ri rv q
 rcases q with q | q
 .exact h pins s τ G H o i v ov iv u Q I ro ri rv q
 .exact h' pins s τ G H o i v ov iv u Q I ro ri rv q
def uUc:T->T->T->Gp->(Gp->Prop)->Prop:=λo i v G Q=>qXl o i v G Q\/qZl o i v G Q\/qZm o i v G Q
theorem uV6(hu:X.A.units+20<cLine):Set3 X uUc:=s_list.or ((uJt hu).or (uJu hu))
noncomputable def kVb(G:Gp):T->Option String
 | .non=>some "NoneType"
 | .bl _=>some "bool"
 | .int _=>some "int"
 | .str _=>some "str"
 | .tup _=>some "tuple"
 | .scr _=>some "list"
 | .ref p=>match G p with
  | some (.lst _)=>some "list"
  | some (.dct _)=>some "dict"
  | some (.dck _)=>some "dict"
  | some (.fdc _)=>none
  | some (.ins _ _)=>none
  | none=>none
 | .ty _=>none
noncomputable def subT(t n:String):Option Bool:=
 if n="bool"\/n="int"\/n="str"\/n="list"\/n="tuple" then some (t == n||(t == "bool"&&n == "int")) else none
variable {n:String}
theorem qYa(K:PySem.W.Frag)(h:subT "bool" n=some b):PySem.W.kitOne K (.type "bool") (.type n)=some b:=by
 unfold subT at h;split at h
 .rename_i hn
  rcases hn with rfl | rfl | rfl | rfl | rfl<;>(cases h;kernel_rfl)
 .cases h
theorem qX9(K:PySem.W.Frag)(h:subT "NoneType" n=some b):PySem.W.kitOne K (.type "NoneType") (.type n)=some b:=by
 unfold subT at h;split at h
 .rename_i hn
  rcases hn with rfl | rfl | rfl | rfl | rfl<;>(cases h;kernel_rfl)
 .cases h
theorem uKg(K:PySem.W.Frag)(h:subT "int" n=some b):PySem.W.kitOne K (.type "int") (.type n)=some b:=by
 unfold subT at h;split at h
 .rename_i hn
  rcases hn with rfl | rfl | rfl | rfl | rfl<;>(cases h;kernel_rfl)
 .cases h
theorem uKf(K:PySem.W.Frag)(h:subT "str" n=some b):PySem.W.kitOne K (.type "str") (.type n)=some b:=by
 unfold subT at h;split at h
 .rename_i hn
  rcases hn with rfl | rfl | rfl | rfl | rfl<;>(cases h;kernel_rfl)
 .cases h
theorem qQ4(K:PySem.W.Frag)(h:subT "tuple" n=some b):PySem.W.kitOne K (.type "tuple") (.type n)=some b:=by
 unfold subT at h;split at h
 .rename_i hn
  rcases hn with rfl | rfl | rfl | rfl | rfl<;>(cases h;kernel_rfl)
 .cases h
theorem kY2(K:PySem.W.Frag)(h:subT "list" n=some b):PySem.W.kitOne K (.type "list") (.type n)=some b:=by
 unfold subT at h;split at h
 .rename_i hn
  rcases hn with rfl | rfl | rfl | rfl | rfl<;>(cases h;kernel_rfl)
 .cases h
theorem kY3(K:PySem.W.Frag)(h:subT "dict" n=some b):PySem.W.kitOne K (.type "dict") (.type n)=some b:=by
 unfold subT at h;split at h
 .rename_i hn
  rcases hn with rfl | rfl | rfl | rfl | rfl<;>(cases h;kernel_rfl)
 .cases h
variable {e:Expr}{te:TE3}
theorem e_ty{x:Str}(hg:Gl X x)(hm:X.mg x=none)(hv:bootBuiltins x=some (.type n))(hn:x≠"__name__":=by decide)(hd:(x == ("__debug__":Str))=false:=by decide):PE3 X (.Name x pos) (tC (.ty n)):=
 λpins s τ G H Q ⟨σ,I,hs,hg'⟩ q=>thn (uJ0 (v:= .ty n) hg hm hv rfl hn hd pins s σ H (up X.K H Q) I ⟨.ty n,G,.refl H,hg',rfl,q⟩) λu s' h=>jV8 hs h
noncomputable def kitT(t:String):List T->Option Bool
 | []=>some false
 | .ty n::r=>match subT t n with
  | some true=>some true
  | some false=>kitT t r
  | none=>none
 | _::_=>none
noncomputable def isiC:Option String->T->Option Bool
 | some t,.ty n=>subT t n
 | some t,.tup cs=>kitT t cs
 | _,_=>none
def isiT(G:Gp)(x c:T):Option Bool:=isiC (kVb G x) c
def rIsi:List T->Gp->VK3->Prop:=λxs G Q=>∃x c b,xs=[x,c]/\isiT G x c=some b/\Q (.bl b) G
theorem qQ5{K:PySem.W.Frag}{H:Hp}{t:String}(ok:∀n b,subT t n=some b->PySem.W.kitOne K (.type t) (.type n)=some b):∀{cs:List T}{vs:List V}{us:List Value}{b:Bool},Reps K H cs vs->Vals vs us->kitT t cs=some b->PySem.W.kitAny K (.type t) us=some b
 | [],_,_,_,r,q,h=>by cases r;cases q;exact h
 | c::cs,_,_,b,⟨v,ws,e,r1,r2⟩,q,h=>by
  subst e;cases q with
  | cons q1 q2=>
   cases c with
   | ty n=>
    cases (show v= .ty n from r1)
    cases q1;unfold kitT at h;unfold PySem.W.kitAny;cases e:subT t n with
    | none=>rw[e] at h;cases h
    | some k=>
     rw[e] at h;rw[ok n k e];cases k with
     | true=>exact h
     | false=>exact qQ5 ok r2 q2 h
   | _=>cases h
theorem jQu{τ:St3}{c:T}{cv:V}{cu:Value}{t:String}{Q:VK3}{Hh:Heap->Prop}(I:Inv X pins σ H s)(hs:SRel X.K H σ τ)(hg:GRel X.K H G)(Z:PySem.W.KitX X.K u (.type t) Hh)(p:Hh s.heap)(hx:u≠ .builtin "__main__.__loader__#opaque")(ok:∀n b,subT t n=some b->PySem.W.kitOne X.K (.type t) (.type n)=some b)(rc:Rep X.K H c cv)(ru:RelV cv cu)(h:isiC (some t) c=some b)(q:Q (.bl b) G):
  wpAny (model X.prog X.w) X.A (call (.builtin "isinstance") [u,cu]) (EP3 X pins τ H Q) X.xe s:=by
 have fin:∀tk,EP3 X pins τ H Q (.bool b) {s with toks:=tk}:=λtk=>⟨.bl b,G,H,.refl H,⟨σ,I.tok tk,hs,hg⟩,⟨.bl b,rfl,rfl⟩,q⟩
 cases c with
 | ty n=>
  cases (show cv= .ty n from rc);cases ru
  exact PySem.W.kia_one Z I.kIn p (ok n b h) hx fin
 | tup cs=>
  obtain⟨pp,vs,e,h1,h2⟩:=(show ∃p vs,cv= .ref p/\H p=some (.tup vs)/\Reps X.K H cs vs from rc)
  subst e;cases ru;obtain⟨its,rv,⟨⟨cls,dd,data,sl⟩,ho,hc,n,hd⟩,_⟩:=I.tuple (.of h1);simp only at hc hd;subst hc hd;exact PySem.W.kia_tup Z I.kIn p ho (qQ5 ok h2 rv h) hx fin
 | _=>cases h
theorem qVj:Call3 X (.builtin "isinstance") rIsi:=by
 rintro pins s τ G H xs us Q ⟨σ,I,hs,hg⟩ ⟨as,ras,rvs⟩ ⟨x,c,b,e,h,q⟩;subst e;obtain⟨a,cv,rfl,ra,rc⟩:=kQ8 ras;obtain⟨u,cu,rfl,ru,rcu⟩:=rvs.two;unfold isiT at h;cases x with
 | non=>cases (show a= .non from ra);cases ru;exact jQu I hs hg PySem.W.kitx_none True.intro (λz=>nomatch z) (λn b=>qX9 _) rc rcu h q
 | bl k=>cases (show a= .bl k from ra);cases ru;exact jQu I hs hg PySem.W.kitx_bool True.intro (λz=>nomatch z) (λn b=>qYa _) rc rcu h q
 | int k=>cases (show a= .int k from ra);obtain⟨t,rfl⟩:=ru;exact jQu I hs hg PySem.W.kitx_int True.intro (λz=>nomatch z) (λn b=>uKg _) rc rcu h q
 | str k=>cases (show a= .str k from ra);obtain⟨t,rfl⟩:=ru;exact jQu I hs hg PySem.W.kitx_str True.intro (λz=>nomatch z) (λn b=>uKf _) rc rcu h q
 | tup ys=>
  obtain⟨p,vs,e,h1,h2⟩:=(show ∃p vs,a= .ref p/\H p=some (.tup vs)/\Reps X.K H ys vs from ra)
  subst e;cases ru;obtain⟨its,rv,⟨o,ho,hc,_⟩,_⟩:=I.tuple (.of h1);exact jQu I hs hg PySem.W.kitx_tuple ⟨o,ho,hc⟩ (λz=>nomatch z) (λn b=>qQ4 _) rc rcu h q
 | scr ys=>
  obtain⟨p,vs,e,h1,h2⟩:=(show ∃p vs,a= .ref p/\FrL X.K H p vs/\Reps X.K H ys vs from ra)
  subst e;cases ru;obtain⟨its,rv,⟨o,n,ho,hc,_⟩,_⟩:=I.list h1.sq;exact jQu I hs hg PySem.W.kitx_list ⟨o,ho,hc⟩ (λz=>nomatch z) (λn b=>kY2 _) rc rcu h q
 | ref p=>
  cases (show a= .ref p from ra);cases ru
  cases hG:G p with
  | none=>simp only[kVb,hG] at h;cases h
  | some g=>
   cases g with
   | lst ys=>
    simp only[kVb,hG] at h;obtain⟨vs,h1,h2⟩:=hg.lst hG;obtain⟨its,rv,⟨o,n,ho,hc,_⟩,_⟩:=I.list (.of h1);exact jQu I hs hg PySem.W.kitx_list ⟨o,ho,hc⟩ (λz=>nomatch z) (λn b=>kY2 _) rc rcu h q
   | fdc kvs=>simp only[kVb,hG] at h;cases h
   | ins _ _=>simp only[kVb,hG] at h;cases h
   | dct kvs=>
    simp only[kVb,hG] at h;obtain⟨ws,h1,_⟩:=hg p _ hG;obtain⟨_,_,xs,_,o,es,ep,h3,h4,_⟩:=(show ObjOk X.prog X.w H s.heap p (.dT ws) from I.hok p _ h1)
    exact jQu I hs hg PySem.W.kitx_dict ⟨o,h3,h4.1⟩ (λz=>nomatch z) (λn b=>kY3 _) rc rcu h q
   | dck kvs=>
    simp only[kVb,hG] at h;obtain⟨ws,h1,_⟩:=hg p _ hG;obtain⟨_,_,vs,_,pp⟩:=(show ObjOk X.prog X.w H s.heap p (.dK ws) from I.hok p _ h1)
    obtain⟨o,es,ep,h3,h4,_⟩:=pp;exact jQu I hs hg PySem.W.kitx_dict ⟨o,h3,h4.1⟩ (λz=>nomatch z) (λn b=>kY3 _) rc rcu h q
 | ty _=>cases h
abbrev TO3:=St3->Gp->(Option Int->Gp->Prop)->Prop
def PO3(X:Cx)(e:Option Expr)(t:TO3):Prop:=
 ∀(pins:List (Addr×Obj))(s:Shared)(τ:St3)(G:Gp)(H:Hp)(Q:Option Int->Gp->Prop),Inv3 X pins τ G H s->t τ G Q->
  wpAny (model X.prog X.w) X.A (evalPart e X.env) (λu s'=>∃o G' H',Ext H H'/\Inv3 X pins τ G' H' s'/\IsPart u o/\Q o G') X.xe s
def kVg:TO3:=λ_ G Q=>Q none G
def qKk(t:TE3):TO3:=λτ G Q=>t τ G λx G1=>∃i,x= .int i/\Q (some i) G1
theorem uUl:PO3 X none kVg:=by
 intro pins s τ G H Q I h;rw[evalPart_none];exact lJd ⟨none,G,H,.refl H,I,.none,h⟩
theorem qQn(h:PE3 X e te):PO3 X (some e) (qKk te):=by
 intro pins s τ G H Q I hw;rw[evalPart_some];refine thn (h pins s τ G H _ I hw) λu s1 w_=>w_.el λx G1 H1 e1 I1 r_ ⟨i,ex,q⟩=>r_.el λv rv ru=> ?_
 subst ex;cases (show v= .int i from rv)
 obtain⟨t,rfl⟩:=ru;exact⟨some i,G1,H1,e1,I1,.int i t,q⟩
def Sl3(X:Cx)(r:T->Option Int->Option Int->Gp->VK3->Prop):Prop:=
 ∀(pins:List (Addr×Obj))(s:Shared)(τ:St3)(G:Gp)(H:Hp)(x:T)(v vl vu:Value)(lo hi:Option Int)(sl:Addr)(Q:VK3),Inv3 X pins τ G H s->RU X.K H x v->s.heap.IsSliceOf sl vl vu .none->IsPart vl lo->IsPart vu hi->r x lo hi G Q->
  ∃T id,typeLookup (.type T) "__getitem__"=pure (some (.builtin id))/\s.TypeIs v T/\wpAny (model X.prog X.w) X.A (getItem v (.ref sl)) (EP3 X pins τ H Q) X.xe s
def tSl(r:T->Option Int->Option Int->Gp->VK3->Prop)(te:TE3)(tl th:TO3):TE3:=λτ G Q=>te τ G λx G1=>tl τ G1 λl G2=>th τ G2 λu G3=>r x l u G3 Q
theorem qU1{r:T->Option Int->Option Int->Gp->VK3->Prop}{lo hi:Option Expr}{tl th:TO3}{p2:Pos}(hr:Sl3 X r)(he:PE3 X e te)(hl:PO3 X lo tl)(hu:PO3 X hi th):PE3 X (.Subscript e (.Slice lo hi none p2) pos) (tSl r te tl th):=by
 intro pins s τ G H Q I h;refine Subscript_ (thn (he pins s τ G H _ I h) λv s1 w_=>w_.el λx G1 H1 e1 I1 r1 q1=> ?_)
 refine wpAny_Slice (thn (hl pins s1 τ G1 H1 _ I1 q1) λvl s2 ⟨l,G2,H2,e2,I2,pl,q2⟩=>thn (hu pins s2 τ G2 H2 _ I2 q2) λvu s3 ⟨u,G3,H3,e3,⟨σ,I3,hs3,hg3⟩,pu,q3⟩=> ?_)
 rw[evalPart_none];refine lJd ?_;have I4:Inv X pins σ H3 {s3 with heap:=s3.heap.push {cls:= .type "slice",data:= .fields #[vl,vu,.none]} }:=I3.kept (t':=s3.toks) λb ob q=>lJm _ q
 obtain⟨T0,id,hT,ht,hg⟩:=hr pins {s3 with heap:=s3.heap.push {cls:= .type "slice",data:= .fields #[vl,vu,.none]} } τ G3 H3 x v vl vu l u s3.heap.objs.size Q ⟨σ,I4,hs3,hg3⟩ ((r1.mono e2).mono e3) (Heap.IsSliceOf.new ..) pl pu q3
 show wpAny (model X.prog X.w) X.A (subscriptTail e (.Slice lo hi none p2) v (.ref s3.heap.objs.size)) (EP3 X pins τ H Q) X.xe {s3 with heap:=s3.heap.push {cls:= .type "slice",data:= .fields #[vl,vu,.none]} }
 exact thn (tail_any (ops:=[.ref s3.heap.objs.size,v]) ht hT hg (by with_unfolding_all rfl)) λ_ _ z=>z.ext ((e1.trans e2).trans e3)
noncomputable def cutT(xs:List T)(lo hi:Option Int):List T:=(xs.drop (HT.sIx xs.length 0 lo)).take (HT.sIx xs.length xs.length hi-HT.sIx xs.length 0 lo)
noncomputable def rSlA:T->Option Int->Option Int->Gp->VK3->Prop:=λx lo hi G Q=>
 (∃xs,jQf G x=some xs/\∀p,G p=none->Q (.ref p) (gup G p (.lst (cutT xs lo hi))))\/∃xs,x= .tup xs/\Q (.tup (cutT xs lo hi)) G
end L3
namespace HT
open PySem PyProof.Rows
theorem getItem_tuple_whole{prog:Program}{w:World}{A:Around}{E:Value->Shared->Prop}{s:Shared}{t sl:Addr}{items:Array Value}{vl vu:Value}{lo hi:Option Int}{Q:Value->Shared->Prop}(ht:IsTup s.heap t items)(hs:s.heap.IsSliceOf sl vl vu .none)(pl:IsPart vl lo)(pu:IsPart vu hi)(hw:sIx items.size 0 lo=0/\sIx items.size items.size hi=items.size)(h:Q (.ref t) s):wpAny (model prog w) A (getItem (.ref t) (.ref sl)) Q E s:=by
 obtain⟨os,hos,hcs,hds⟩:=id hs;have hTs:s.TypeIs (.ref sl) "slice":=⟨os,hos,hcs⟩;unfold getItem
 try with_reducible refine lKj ?_
 first | refine lJa (lJd ?_) | skip
 refine lJa (wpAny_sequenceKey ht.typeIs (by decide) ?_)
 refine lJa (lVr (name:=Str.ofString "__getitem__") ht.typeIs lXq
  (lQh lXq ht.typeIs entry_tuple_getitem ?_ (args_tuple_getitem _ _)))
 show wpAny _ _ (Builtin.Tuple.tupleItemsOf (.ref t) >>= _) _ _ s
 refine lJa (tupleItemsOf_ ht ?_);refine lJa (lVc hTs ?_);rw[lJc (by decide)]
 refine lJa (jU0 hs pl pu ?_)
 have hyes:(((sIx items.size 0 lo:Nat):Int) == 0&&(1:Int) == 1&&(sIx items.size items.size hi-sIx items.size 0 lo) == items.size)=true:=by
  rw[hw.1,hw.2];simp
 show wpAny _ _ (if (((sIx items.size 0 lo:Nat):Int) == 0&&(1:Int) == 1&&(sIx items.size items.size hi-sIx items.size 0 lo) == items.size)=true then _ else _) _ _ s
 rw[lJc hyes];refine lJa ?_;unfold Builtin.Tuple.tupleIsExact;refine lJa (lVc ht.typeIs (lJd ?_));rw[lJc (by decide)]
 exact lJa (lQq (lJd ⟨_,rfl,lJd h⟩))
end HT
namespace L3
open PySem PySem.Spec PyProof.Rows L2
variable {X:Cx}{K:PySem.W.Frag}{H:Hp}{xs:List T}{vs:List V}
theorem Reps.cut(r:Reps K H xs vs)(lo hi:Option Int):Reps K H (cutT xs lo hi) (cutV vs lo hi):=by
 unfold cutT cutV;rw[<-r.length];exact (r.drop _).take _
theorem qJy{lo hi:Option Int}(h:HT.sIx xs.length 0 lo=0/\HT.sIx xs.length xs.length hi=xs.length):cutT xs lo hi=xs:=by
 unfold cutT;rw[h.1,h.2];simp
theorem sl_any:Sl3 X rSlA:=by
 rintro pins s τ G H x v vl vu lo hi sl Q ⟨σ,I,hs,hg⟩ ⟨a,ra,rv⟩ hsl pl pu h
 rcases h with ⟨xs,hx,q⟩ | ⟨xs,ex,q⟩
 .obtain⟨p,vs,e,hq,r⟩:=jQs hg ra hx;subst e;obtain⟨T0,id,h1,h2,h3⟩:=uJr pins s σ H (.ref p) v vl vu lo hi sl (up X.K H Q) I rv hsl pl pu ⟨p,vs,rfl,hq,λl hl=>⟨.ref l,_,.upd (.none hl),hg.lstNew (r.cut lo hi) (.none hl),rfl,q l (hg.fresh hl)⟩⟩
  exact⟨T0,id,h1,h2,thn h3 λ_ _ z=>jV8 hs z⟩
 .subst ex;obtain⟨p,vs,e,h1,h2⟩:=(show ∃p vs,a= .ref p/\H p=some (.tup vs)/\Reps X.K H xs vs from ra)
  subst e
  by_cases hw:HT.sIx xs.length 0 lo=0/\HT.sIx xs.length xs.length hi=xs.length
  .cases rv;obtain⟨its,rv',ht,hz⟩:=I.tuple (.of h1);have hlen:its.toArray.size=xs.length:=by rw[lJr,<-rv'.length,h2.length]
   refine⟨"tuple",_,lXq.lookup,ht.typeIs,HT.getItem_tuple_whole ht hsl pl pu (by rw[hlen];exact hw) ?_⟩
   rw[qJy hw] at q;exact⟨.tup xs,G,H,.refl H,⟨σ,I,hs,hg⟩,⟨.ref p,ra,rfl⟩,q⟩
  .obtain⟨T0,id,h3,h4,h5⟩:=uQ5 pins s σ H (.ref p) v vl vu lo hi sl (up X.K H Q) I rv hsl pl pu ⟨p,vs,rfl,.of h1,by rw[<-h2.length];exact hw,λl hl=>⟨.tup (cutT xs lo hi),G,.upd (.none hl),hg.tupNew hl,Rep.tupNew (h2.cut lo hi) hl,q⟩⟩
   exact⟨T0,id,h3,h4,thn h5 λ_ _ z=>jV8 hs z⟩
def jQv(ta:TA3):TE3:=λτ G Q=>ta τ G λvs G1=>∃j:Int,vs=[.int j]/\ -(2^62)<=j/\j<=2^20/\∀p,G1 p=none->Q (.ref p) (gup G1 p (.lst (rngT 0 j.toNat)))
theorem qXf{n:Nat}(hl:vs.length=n)(h:∀(i:Nat) v,vs[i]? =some v->v= .int (0+i)):Reps K H (rngT 0 n) vs:=by
 have e:vs=(List.range n).map λ(k:Nat)=>V.int (0+k):=by
  apply lQj;intro i;cases hv:vs[i]? with
  | none=>
   have:n<=i:=by rw[<-hl];exact List.getElem?_eq_none_iff.mp hv
   simp[this]
  | some v=>
   have hi:i<n:=by rw[<-hl];exact (lJg.mp hv).1
   rw[h i v hv];simp[hi]
 rw[e];unfold rngT
 generalize List.range n=l
 induction l with
 | nil=>rfl
 | cons k ks ih=>exact⟨_,_,rfl,rfl,ih⟩
variable {pos p:Pos}
theorem kJe{a:Expr}{ta:TA3}{p2 p3:Pos}(hgl:Gl X "list")(hml:X.mg "list"=none)(hgr:Gl X "range")(hmr:X.mg "range"=none)(hc:X.calm=true)(ha:PA3 X [a] ta)(hs:starEach [a] X.env=[(false,eval a X.env)]:=by rfl)(ho:starEach [Expr.Call (.Name "range" p2) [a] [] p3] X.env=[(false,eval (.Call (.Name "range" p2) [a] [] p3) X.env)]:=by rfl):
  PE3 X (.Call (.Name "list" p) [.Call (.Name "range" p2) [a] [] p3] [] pos) (jQv ta):=by
 intro pins s τ G H Q I h;obtain⟨σ0,I0,hs0,hg0⟩:=id I;refine lZf (jQj I0 hgl hml (u:= .type "list") (by rfl) ?_)
 refine lK6 (T:="list") ?_ ho rfl;rw[ho];show wpAny _ _ (spliced ((false,eval (.Call (.Name "range" p2) [a] [] p3) X.env)::backTo pos [])) _ _ s
 refine Calls.spliced_cons ?_;refine Call_ (jQj I0 hgr hmr boot_range (lK6 (thn (ha p3 pins s τ G H _ I h) λus s1 w_=>w_.el λxs G1 H1 e1 i_ r_ ⟨j,e,q1,q2,q⟩=>i_.el λσ I1 hs1 hg1=>r_.el λas ras rvs=> ?_) hs rfl))
 subst e;obtain⟨v,rfl,rv⟩:=jUn ras;cases (show v= .int j from rv)
 obtain⟨u,rfl,ru⟩:=rvs.one;obtain⟨t,rfl⟩:=ru;refine call_range_1 ?_;refine Calls.spliced_nil ?_;have I2:Inv X pins σ H1 {s1 with heap:=s1.heap.push {cls:= .type "range",data:= .fields #[.int 0 s1.toks,.int j t,.int 1 (s1.toks+1)]},toks:=s1.toks+1+1}:=I1.kept λb o e=>lJm _ e
 refine call_list_range (n:=j.toNat) (I1.ok.hd hc) (IsRange.new ..) (small_one (by omega) (by omega) q1 (by omega)) (by rw[rangeSize_one];split<;>omega) (by omega) λh' tk acc' c' hk hobj hit=> ?_
 have hf:H1 (s1.heap.push {cls:= .type "range",data:= .fields #[.int 0 s1.toks,.int j t,.int 1 (s1.toks+1)]}).objs.size=none:=I2.hok.fresh (lJh _);have hz:acc'.size<=sizeLine:=by rw[hit.1,lKe];omega
 obtain⟨vs,hvs,rr⟩:∃vs:List V,Vals vs acc'.toList/\Reps X.K H1 (rngT 0 j.toNat) vs:=by
  refine⟨(List.range j.toNat).map λ(k:Nat)=>V.int (0+k),?_,qXf (by simp) (λi v hv=> ?_)⟩
  .have all:∀(l:List Value)(n0:Nat),(∀(i:Nat) v,l[i]? =some v->∃t,v= .int ((0:Int)+((n0+i:Nat):Int)*1) t)->Vals ((List.range' n0 l.length).map λ(k:Nat)=>V.int (0+k)) l:=by
    intro l
    induction l with
    | nil=>intro n0 _;exact .nil
    | cons v l ih=>
     intro n0 hh;obtain⟨t,ht⟩:=hh 0 v rfl;rw[lKk,List.range'_succ,lJw];refine .cons ⟨t,by rw[ht];simp⟩ (ih (n0+1) λi w hw=> ?_)
     obtain⟨t',ht'⟩:=hh (i+1) w (by simpa using hw)
     exact⟨t',by rw[ht'];congr 1;omega⟩
   have:=all acc'.toList 0 (λi v hv=>by
    obtain⟨t,ht⟩:=hit.2 i v (by simpa using hv)
    exact⟨t,by rw[ht];simp⟩)
   rw[List.range_eq_range'];rw[show acc'.toList.length=j.toNat by simpa using hit.1] at this
   exact this
  .rw[lJ4] at hv;cases e:(List.range j.toNat)[i]? with
   | none=>rw[e] at hv;cases hv
   | some k=>
    rw[e] at hv;cases hv;have:=lJg.mp e;obtain⟨h1,h2⟩:=this;simp at h2;rw[<-h2]
 refine⟨.ref _,_,_,e1.trans (.upd (.none hf)),⟨σ,I2.laid (t':=tk) (o:= .lst vs) hk (lJh _) ⟨by rw[hvs.length];simpa using hz,acc'.toList,c',hvs,by simpa using hobj⟩,hs1.mono (.upd (.none hf)),hg1.lstNew rr (.none hf)⟩,⟨.ref _,rfl,rfl⟩,q _ (hg1.fresh hf)⟩
noncomputable def insT(xs:List T)(k:Nat)(y:T):List T:=xs.take k++y::xs.drop k
noncomputable def jZw:T->List T->Gp->VK3->Prop:=λx as G Q=>∃p xs k y,x= .ref p/\as=[.int k,y]/\G p=some (.lst xs)/\0<=k/\k<=xs.length/\xs.length<sizeLine/\Q .non (gup G p (.lst (insT xs k.toNat y)))
theorem kYs:Mt3 X "list.insert" jZw:=by
 rintro pins s τ G H x as v us Q ⟨σ,I,hs,hg⟩ ⟨a,ra,rv⟩ ⟨bs,rbs,rus⟩ ⟨p,xs,k,y,ex,ea,hp,k0,k1,hz,q⟩;subst ex;subst ea;cases (show a= .ref p from ra);cases rv
 obtain⟨b1,b2,rfl,r1,r2⟩:=kQ8 rbs;cases (show b1= .int k from r1)
 obtain⟨u1,u2,rfl,ru1,ru2⟩:=rus.two;obtain⟨t,rfl⟩:=ru1;obtain⟨vs,h1,h2⟩:=hg.lst hp;obtain⟨z,its,n,r,hl,e⟩:=I.lstM h1;have hlen:=h2.length
 have hfit:¬ (!Builtin.List.listFitsIndex k)=true:=by
  have h63:=kKb;rw[fitsIndex_both (by omega) (by omega)]
  exact lJs
 refine lXf F.slot_list_insert ⟨_,e,rfl⟩ F.entry_list_insert (F.args_list_insert_3 _ _ _) (AutoSeq1.list_insert_list_int_val_1 p its.toArray n k t u2 hfit (by rw[lJr];omega)) ⟨e,?_⟩
 have e2:Ext H (upd H p (.lst (vs.take k.toNat++b2::vs.drop k.toNat))):= .upd (.lst h1);refine⟨.non,_,_,e2,⟨σ,I.lset (its':=its.take k.toNat++u2::its.drop k.toNat) h1 e ?_ ((r.take _).append (.cons ru2 (r.drop _))) ?_,hs.mono e2,hg.lstNew (xs:=insT xs k.toNat y) ((h2.take _).append ⟨b2,_,rfl,r2,h2.drop _⟩) (.lst h1)⟩,⟨.non,rfl,rfl⟩,q⟩
 .have hk:¬ k<0:=by omega
  have hm:min k.toNat its.toArray.size=k.toNat:=by rw[lJr];omega
  simp only[hk,lKa,hm];apply Array.ext';simp[Array.toList_extract];rw[lVw (Nat.le_of_eq (by simp))]
 .simp only[lJ7,lKk,lQc,lXp];omega
def qQf:T->List T->Gp->VK3->Prop:=λx as G Q=>∃p xs y,x= .ref p/\as=[y]/\G p=some (.lst xs)/\jXx y=true/\xs.all jXx=true/\Q (.int (xs.countP λz=>eqT z y)) G
theorem kUw{K:PySem.W.Frag}{H:Hp}{y:T}{b:V}(ry:Rep K H y b)(fy:jXx y=true):∀{xs:List T}{vs:List V}{us:List Value},Reps K H xs vs->Vals vs us->xs.all jXx=true->us.countP (eqU b)=xs.countP λz=>eqT z y
 | [],_,_,r,q,_=>by cases r;cases q;rfl
 | x::xs,_,_,⟨v,ws,e,r1,r2⟩,q,f=>by
  subst e;cases q with
  | cons q1 q2=>
   rw[lVh,lK5] at f;rw[List.countP_cons,List.countP_cons,kUw ry fy r2 q2 f.2,qUs q1 (jY6 r1 f.1),qUq r1 ry f.1 fy]
theorem uKb:Mt3 X "list.count" qQf:=by
 rintro pins s τ G H x as v us Q ⟨σ,I,hs,hg⟩ ⟨a,ra,rv⟩ ⟨bs,rbs,rus⟩ ⟨p,xs,y,ex,ea,hp,fy,fs,q⟩;subst ex;subst ea;cases (show a= .ref p from ra);cases rv
 obtain⟨b,rfl,rb⟩:=jUn rbs;obtain⟨u,rfl,ru⟩:=rus.one;obtain⟨vs,h1,h2⟩:=hg.lst hp;obtain⟨z,its,n,r,hl,e⟩:=I.lstM h1;have fl:=(kQi rb fy h2 fs).1;refine lXf F.slot_list_count ⟨_,e,rfl⟩ F.entry_list_count (F.args_list_count_2 _ _) (SeqAt.list_countAt p its.toArray n none #[] u (eqU b)) ⟨e,λw hw=>jY2 ru (jY6 rb fy) r fl w (by simpa using hw),?_⟩
 refine⟨.int _,G,H,.refl H,⟨σ,I.tok _,hs,hg⟩,⟨.int _,rfl,s.toks,?_⟩,q⟩;rw[<-kUw rb fy h2 r fs]
noncomputable def kXy:List T->Option Bool
 | []=>some true
 | .bl b::r=>match kXy r with
  | some c=>some (b&&c)
  | none=>none
 | _::_=>none
def rAll:List T->Gp->VK3->Prop:=λas G Q=>∃p xs b,as=[.ref p]/\G p=some (.lst xs)/\kXy xs=some b/\Q (.bl b) G
theorem kU6:∀{xs:List T}{b:Bool},kXy xs=some b->∃bs:List Bool,xs=bs.map T.bl/\b=bs.all (λx=>x)
 | [],b,h=>by cases h;exact⟨[],rfl,rfl⟩
 | .bl c::r,b,h=>by
  unfold kXy at h;cases e:kXy r with
  | none=>rw[e] at h;cases h
  | some d=>
   rw[e] at h;cases h;obtain⟨bs,h1,h2⟩:=kU6 e;exact⟨c::bs,by rw[h1];rfl,by rw[h2];rfl⟩
 | .non::_,_,h=>by cases h
 | .int _::_,_,h=>by cases h
 | .str _::_,_,h=>by cases h
 | .tup _::_,_,h=>by cases h
 | .scr _::_,_,h=>by cases h
 | .ref _::_,_,h=>by cases h
 | .ty _::_,_,h=>by cases h
theorem kYl{K:PySem.W.Frag}{H:Hp}:∀{bs:List Bool}{vs:List V}{us:List Value},Reps K H (bs.map T.bl) vs->Vals vs us->us=bs.map Value.bool
 | [],_,_,h,q=>by cases h;cases q;rfl
 | n::ns,_,_,⟨v,ws,e,r,rs⟩,q=>by
  subst e;cases (show v= .bl n from r)
  cases q with
  | cons q1 q2=>cases q1;rw[kYl rs q2];rfl
theorem kU5:∀(bs:List Bool),bs.all (λx=>x)=(List.range bs.length).all λi=>bs.getD i true
 | []=>rfl
 | b::bs=>by
  rw[lVh,kU5 bs,lKk,List.range_succ_eq_map,lVh,List.all_map];simp[Function.comp_def,List.getD]
theorem uQd(hc:X.calm=true):Call3 X (.builtin "all") rAll:=by
 rintro pins s τ G H as us Q ⟨σ,I,hs,hg⟩ ⟨bs',rbs,rus⟩ ⟨p,xs,b,e,hp,hb,q⟩;subst e;obtain⟨a,rfl,ra⟩:=jUn rbs;cases (show a= .ref p from ra)
 obtain⟨u,rfl,ru⟩:=rus.one;cases ru;obtain⟨vs,h1,h2⟩:=hg.lst hp;obtain⟨bs,ex,eb⟩:=kU6 hb;subst ex;obtain⟨its,rv,pl,hz⟩:=I.list (.of h1);have eit:=kYl h2 rv;subst eit;refine call_all_walk (wpAny_pyIter_list pl.isList ?_);have hne:p≠s.heap.objs.size:=by obtain⟨o,n,ho,_⟩:=pl;exact lJt (lJk ho)
 refine⟨s.heap.objs.size,[s.heap.objs.size,p],[s.heap.objs.size],(bs.map Value.bool).toArray.size,_,_,λi=>bs.getD i true,rfl,Walks.list (A:=X.A.in1) (show X.A.in1.handled=none from I.ok.hd hc) s.heap.objs.size p hne (bs.map Value.bool).toArray,⟨⟨_,lJ8 _ rfl,rfl,rfl⟩,pl.isList.push _⟩,?_,?_⟩
 .intro i v s' Q' E' hP hQ;have hP':(bs.map Value.bool)[i]? =some v:=by simpa using hP
  rw[lJ4] at hP';cases e:bs[i]? with
  | none=>rw[e] at hP';cases hP'
  | some c=>
   rw[e] at hP';cases hP';have:bs.getD i true=c:=by simp[List.getD,e]
   have hQ':Q' (bs.getD i true) s':=hQ;rw[this] at hQ';exact lVq hQ'
 .intro h' tk hk;have hk2:∀b o,s.heap.get? b=some o->h'.get? b=some o:=λb o e=>hk b o (by simpa using lJt (lJk e)) (lJm _ e)
  refine⟨.bl b,G,H,.refl H,⟨σ,I.kept hk2,hs,hg⟩,⟨.bl b,rfl,?_⟩,q⟩;rw[eb,kU5];simp;rfl
structure Cal (P:Program) (w:World) (K:PySem.W.Frag) (mg:Str->Option Value) (base:Heap) (k:Nat) (x:Str) (ps:List Str) (sp:Sp3):Prop where
 ex:∃f fd,Fn3 P w K mg base k f fd ps sp/\mg x=some (.ref f)/\PySem.W.keepIn K (.ref f)=true/\Binds K fd ps []
 mono:Mono sp
 len:∀xs G Q,sp xs G Q->xs.length=ps.length
theorem jJu{k:Nat}{ps:List Str}{sp:Sp3}{x:Str}{e:Expr}{es:List Expr}{t:TA3}(C:Cal X.prog X.w X.K X.mg X.base k x ps sp)(hr:Room k X.A)(ha:PA3 X (e::es) t)(hg:Gl X x:=by rfl)(hdb:(x == ("__debug__":Str))=false:=by decide)(he:starEach (e::es) X.env=(false,eval e X.env)::starEach es X.env:=by rfl)(hpl:(backTo pos (starEach es X.env)).any (·.1)=false:=by rfl):
  PE3 X (.Call (.Name x p) (e::es) [] pos) (jJm sp t):=by
 intro pins s τ G H Q I h;obtain⟨f,fd,F,hm,hk,hb⟩:=C.ex;obtain⟨σ0,I0,hs0,hg0⟩:=id I;refine lZf (uKe I0 hg hm ?_ hdb);refine PySem.W.callWith_K (h₀:=X.base) I0.ok.mod.kin hk (thn (ha pos pins s τ G H _ I h) λus s1 w_=>w_.el λxs G1 H1 e1 i_ r_ q=>i_.el λσ I1 hs1 hg1=>r_.el λas ras rvs=>⟨I1.kIn,?_⟩) he hpl
 refine thn (uUa (dvs:=[]) (ds:=[]) (E:=E0) (Q:=up X.K H1 Q) F hr hb .nil uXd I1 rvs ?_) λu s' z=>(jV8 hs1 z).ext e1
 rw[lVe];exact⟨by rw[<-ras.length];exact C.len _ _ _ q,xs,G1,ras,hg1,C.mono _ _ _ _ (λt G' hq v H' e g r=>⟨t,G',e,g,r,hq⟩) q⟩
def kUc:=kK7
theorem qVh:Call3 X (.type "list") kUc:=uVq
end L3
namespace L3
open PySem PySem.Spec PyProof.Rows
inductive Res where
 | val (t:T) | newL (xs:List T)
def fin3:Res->Gp->VK3->Prop
 | .val t,G,Q=>Q t G
 | .newL xs,G,Q=>∀p,G p=none->Q (.ref p) (gup G p (.lst xs))
variable {X:L2.Cx}{r r':R3}
theorem Op3.imp{f:Value->Value->Sem Value}(h:Op3 X f r)(i:∀x y G Q,r' x y G Q->r x y G Q):Op3 X f r':=λpins s τ G H x y v u Q I rx ry q=>h pins s τ G H x y v u Q I rx ry (i x y G Q q)
theorem Ix3.imp(h:Ix3 X r)(i:∀x y G Q,r' x y G Q->r x y G Q):Ix3 X r':=λa b pins s τ G H x y v u Q I rx ry q hs=>h a b pins s τ G H x y v u Q I rx ry (i x y G Q q) hs
theorem Set3.imp{r r':T->T->T->Gp->(Gp->Prop)->Prop}(h:Set3 X r)(i:∀o j v G Q,r' o j v G Q->r o j v G Q):Set3 X r':=λpins s τ G H o j v a b c Q I ro rj rv q=>h pins s τ G H o j v a b c Q I ro rj rv (i o j v G Q q)
theorem Sl3.imp{r r':T->Option Int->Option Int->Gp->VK3->Prop}(h:Sl3 X r)(i:∀x l u G Q,r' x l u G Q->r x l u G Q):Sl3 X r':=λpins s τ G H x v vl vu lo hi sl Q I rx hs pl pu q=>h pins s τ G H x v vl vu lo hi sl Q I rx hs pl pu (i x lo hi G Q q)
noncomputable def addR(G:Gp):T->T->Option Res
 | .int i,.int j=>some (.val (.int (i+j)))
 | .ref p,.ref q=>match G p,G q with
  | some (.lst xs),some (.lst ys)=>if xs.length+ys.length<=sizeLine then some (.newL (xs++ys)) else none
  | _,_=>none
 | .tup xs,.tup ys=>if xs.length≠0/\xs.length+ys.length<=sizeLine then some (.val (.tup (xs++ys))) else none
 | _,_=>none
def jKm:R3:=λx y G Q=>∃r,addR G x y=some r/\fin3 r G Q
variable {x y:T}{G:Gp}{Q:VK3}
theorem uX9(h:jKm x y G Q):uUh x y G Q:=by
 obtain⟨r,hr,q⟩:=h;unfold addR at hr;split at hr
 .cases hr;exact .inl ⟨_,_,rfl,rfl,q⟩
 .rename_i p q'
  split at hr
  .rename_i xs ys h1 h2
   split at hr
   .rename_i hz;cases hr;exact .inr (.inl ⟨p,q',xs,ys,rfl,rfl,h1,h2,hz,q⟩)
   .cases hr
  .cases hr
 .rename_i xs ys
  split at hr
  .rename_i hz;cases hr;exact .inr (.inr ⟨xs,ys,rfl,rfl,λz=>hz.1 (by rw[z];rfl),hz.2,q⟩)
  .cases hr
 .cases hr
theorem o_addF:Op3 X (binaryOp .Add) jKm:=o_addA.imp λ_ _ _ _=>uX9
noncomputable def mulR(G:Gp):T->T->Option Res
 | .int i,.int j=>some (.val (.int (i*j)))
 | .ref p,.int n=>match G p with
  | some (.lst xs)=>if n.toNat * xs.length<=sizeLine/\n<2^62/\ -(2^62)<n then some (.newL (List.replicate n.toNat xs).flatten) else none
  | _=>none
 | _,_=>none
def mulC:T->T->Prop
 | .int i,.int j=>L2.CMul i j
 | _,_=>True
def jVi:R3:=λx y G Q=>∃r,mulR G x y=some r/\mulC x y/\fin3 r G Q
theorem uXp(h:jVi x y G Q):uUd x y G Q:=by
 obtain⟨r,hr,c,q⟩:=h;unfold mulR at hr;split at hr
 .cases hr;exact .inl ⟨_,_,rfl,rfl,c,q⟩
 .rename_i p n
  split at hr
  .rename_i xs h1
   split at hr
   .rename_i hz;cases hr;exact .inr ⟨p,xs,n,rfl,rfl,h1,hz.1,hz.2.1,hz.2.2,q⟩
   .cases hr
  .cases hr
 .cases hr
theorem jQ6:Op3 X (binaryOp .Mult) jVi:=o_mulA.imp λ_ _ _ _=>uXp
def ixR(G:Gp)(x y:T):Option T:=match seqT G x with
 | some xs=>match y with
  | .int i=>L2.atI xs i
  | _=>none
 | none=>match dAt G x y with
  | some o=>o
  | none=>none
def rIxF:R3:=λx y G Q=>∃t,ixR G x y=some t/\Q t G
theorem uXs(h:rIxF x y G Q):rIxA x y G Q:=by
 obtain⟨t,ht,q⟩:=h;unfold ixR at ht;split at ht
 .rename_i xs hx
  split at ht
  .rename_i i;exact .inl ⟨xs,i,t,hx,rfl,ht,q⟩
  .cases ht
 .split at ht
  .rename_i o ho;subst ht;exact .inr ⟨t,ho,q⟩
  .cases ht
theorem ix_F(hu:X.A.units+20<cLine):Ix3 X rIxF:=(uKi hu).imp λ_ _ _ _=>uXs
noncomputable def setR(G:Gp)(o i v:T):Option Gp:=match o with
 | .ref p=>match G p with
  | some (.lst xs)=>match i with
   | .int k=>match L2.ixN xs.length k with
    | some j=>some (gup G p (.lst (xs.set j v)))
    | none=>none
   | _=>none
  | some (.dct kvs)=>match i with
   | .tup ys=>match jQr ys with
    | some ks=>if kvs.length<sizeLine then some (gup G p (.dct (putT kvs ks v))) else none
    | none=>none
   | _=>none
  | some (.dck kvs)=>match jUs i with
   | some k=>if kvs.length<sizeLine then some (gup G p (.dck (putT kvs k v))) else none
   | none=>none
  | some (.fdc _)=>none
  | some (.ins _ _)=>none
  | none=>none
 | _=>none
def jU3:T->T->T->Gp->(Gp->Prop)->Prop:=λo i v G Q=>∃G',setR G o i v=some G'/\Q G'
theorem uQ7{o i v:T}{Q:Gp->Prop}(h:jU3 o i v G Q):uUc o i v G Q:=by
 obtain⟨G',hr,q⟩:=h;unfold setR at hr;split at hr
 .rename_i p
  split at hr
  .rename_i xs h1
   split at hr
   .rename_i k
    split at hr
    .rename_i j hj;cases hr;exact .inl ⟨p,xs,k,j,rfl,rfl,h1,hj,q⟩
    .cases hr
   .cases hr
  .rename_i kvs h1
   split at hr
   .rename_i ys
    split at hr
    .rename_i ks hk
     split at hr
     .rename_i hz;cases hr;exact .inr (.inl ⟨p,ys,ks,kvs,rfl,rfl,hk,h1,hz,q⟩)
     .cases hr
    .cases hr
   .cases hr
  .rename_i kvs h1
   split at hr
   .rename_i k hk
    split at hr
    .rename_i hz;cases hr;exact .inr (.inr ⟨p,k,kvs,rfl,hk,h1,hz,q⟩)
    .cases hr
   .cases hr
  .cases hr
  .cases hr
  .cases hr
 .cases hr
theorem s_F(hu:X.A.units+20<cLine):Set3 X jU3:=(uV6 hu).imp λ_ _ _ _ _=>uQ7
noncomputable def rLeF:R3:=λx y G Q=>(∃i j:Int,x= .int i/\y= .int j/\Q (.bl (decide (i<=j))) G)\/∃a b c d:Int,x= .tup [.int a,.int b]/\y= .tup [.int c,.int d]/\Q (.bl (HT.lexLe [a,b] [c,d])) G
theorem kJ8{i j:Int}:rLeF (.int i) (.int j) G Q=Q (.bl (decide (i<=j))) G:=by
 apply propext
 constructor
 .rintro (⟨_,_,e,f,q⟩ | ⟨_,_,_,_,e,_⟩)
  .cases e;cases f;exact q
  .cases e
 .intro q;exact .inl ⟨_,_,rfl,rfl,q⟩
theorem kJ7{a b c d:Int}:rLeF (.tup [.int a,.int b]) (.tup [.int c,.int d]) G Q=Q (.bl (HT.lexLe [a,b] [c,d])) G:=by
 apply propext
 constructor
 .rintro (⟨_,_,e,_⟩ | ⟨_,_,_,_,e,f,q⟩)
  .cases e
  .cases e;cases f;exact q
 .intro q;exact .inr ⟨_,_,_,_,rfl,rfl,q⟩
theorem uXq(h:rLeF x y G Q):rLeA x y G Q:=by
 rcases h with ⟨i,j,e,f,q⟩ | ⟨a,b,c,d,e,f,q⟩
 .exact .inl ⟨_,_,e,f,q⟩
 .exact .inr ⟨[a,b],[c,d],e,f,q⟩
theorem qJi(hu:X.A.units+20<cLine):Op3 X (compareOp .LtE) rLeF:=(uXn hu).imp λ_ _ _ _=>uXq
noncomputable def inR(G:Gp)(x y:T):Option Bool:=match seqT G y with
 | some xs=>if jXx x=true/\xs.all jXx=true then some (inT x xs) else none
 | none=>match dAt G y x with
  | some o=>some o.isSome
  | none=>none
def jVn:R3:=λx y G Q=>∃b,inR G x y=some b/\Q (.bl (!b)) G
theorem qX0(h:jVn x y G Q):qQb x y G Q:=by
 obtain⟨b,hb,q⟩:=h;unfold inR at hb;split at hb
 .rename_i xs hx
  split at hb
  .rename_i hc;cases hb;exact .inl ⟨xs,hx,hc.1,hc.2,q⟩
  .cases hb
 .split at hb
  .rename_i o ho;cases hb;exact .inr ⟨o,ho,q⟩
  .cases hb
theorem kUk(hu:X.A.units+20<cLine):Op3 X (compareOp .NotIn) jVn:=(uJ9 hu).imp λ_ _ _ _=>qX0
noncomputable def slR(G:Gp)(x:T)(lo hi:Option Int):Option Res:=match x with
 | .tup xs=>some (.val (.tup (cutT xs lo hi)))
 | .scr xs=>some (.newL (cutT xs lo hi))
 | .ref p=>match G p with
  | some (.lst xs)=>some (.newL (cutT xs lo hi))
  | _=>none
 | _=>none
def rSlF:T->Option Int->Option Int->Gp->VK3->Prop:=λx lo hi G Q=>∃r,slR G x lo hi=some r/\fin3 r G Q
theorem uV5{lo hi:Option Int}(h:rSlF x lo hi G Q):rSlA x lo hi G Q:=by
 obtain⟨r,hr,q⟩:=h;unfold slR at hr;split at hr
 .cases hr;exact .inr ⟨_,rfl,q⟩
 .cases hr;exact .inl ⟨_,rfl,q⟩
 .split at hr
  .rename_i xs h1;cases hr;exact .inl ⟨xs,by simp only[jQf,h1,asL],q⟩
  .cases hr
 .cases hr
theorem sl_F:Sl3 X rSlF:=sl_any.imp λ_ _ _ _ _=>uV5
end L3
namespace L2
open PySem PySem.Spec PyProof.Rows
noncomputable def Its(lo c:Int)(n:Nat):It:=⟨λi _=>i<n,λi H x H'=>H'=H/\x= .int (lo+i*c),λi _=>n<=i⟩
variable {tg:Expr}
theorem kVc{P:Program}{w:World}{K:PySem.W.Frag}(it:Addr)(lo c:Int)(n:Nat):Turn P w K tg (Its lo c n) [it] it (λi h=>IsRangeIter h it (lo+(i:Nat)*c) ((n:Int)-(i:Nat)) c) where
 mem:=by simp
 obj:=λi h st b hb=>by
  have e:b=it:=by simpa using hb
  subst e
  exact⟨_,st,λv z=>by
   have z':Data.fields _=Data.cell v:=z;cases z'⟩
 keep:=λi h h' st k=>k it (by simp) _ st
 item:=by
  intro X hP hw hK hc i pins s σ H E I hf st hg;subst hP hw hK;obtain⟨f0,f1,f2,f3,f4,f5⟩:=hf it (by simp)
  have W:=Walks.range (prog:=X.prog) (w:=X.w) (I.ok.hd hc) it lo c n;refine W.item i s _ _ hg st λv h' tk hv st' kk=> ?_
  obtain⟨t,rfl⟩:=hv;have I1:Inv X pins σ H {s with heap:=h',toks:=tk}:=I.turned (λb o hb e=>kk b o (by simpa using hb) e) f0 f1 f3 f4 f5
  exact⟨_,rfl,qUj (s:={s with heap:=h',toks:=tk}) (n:="range_iterator") st' rfl rfl (by decide) ⟨.int (lo+i*c),H,I1,⟨t,rfl⟩,⟨rfl,rfl⟩,st',λb hb=>(hf b hb).1⟩⟩
 done:=by
  intro X hP hw hK hc i pins s σ H E I hf st hg;subst hP hw hK;obtain⟨f0,f1,f2,f3,f4,f5⟩:=hf it (by simp)
  exact wpAny_pyNext_range_end (I.ok.hd hc) st (by have:n<=i:=hg;omega) λh' eb=>⟨rfl,I.turned (t':=s.toks) (λb o hb e=>eb b o hb e) f0 f1 f3 f4 f5⟩
 self:=λ_ _ _ _ _ st h=>wpAny_pyIter_rangeiter st h
section
variable {X:Cx}
theorem qK9{pins:List (Addr×Obj)}{σ:St}{H:Hp}{s:Shared}{R:It->Hp->Prop}{E:Value->Shared->Prop}{lo hi c:Int}{t u v:Tok}{tk:Nat}(I:Inv X pins σ H s)(hsm:Builtin.Range.small lo hi c=true)(q:R (Its lo c (Builtin.Range.rangeSize lo hi c).toNat) H):wpAny (model X.prog X.w) X.A (pyIter (.ref s.heap.objs.size)) (PIE X pins σ tg R) E {s with heap:=s.heap.push {cls:= .type "range",data:= .fields #[.int lo t,.int hi u,.int c v]},toks:=tk}:=by
 refine wpAny_pyIter_range (IsRange.new ..) hsm ?_;have I1:Inv X pins σ H {s with heap:=s.heap.push {cls:= .type "range",data:= .fields #[.int lo t,.int hi u,.int c v]},toks:=tk}:=I.kept λb o e=>lJm _ e
 refine⟨(s.heap.push {cls:= .type "range",data:= .fields #[.int lo t,.int hi u,.int c v]}).objs.size,[(s.heap.push {cls:= .type "range",data:= .fields #[.int lo t,.int hi u,.int c v]}).objs.size],_,_,H,rfl,
  I1.kept (t':=tk) λb o e=>lJm _ e,kVc _ lo c (Builtin.Range.rangeSize lo hi c).toNat,?_,λb hb=> ?_,q⟩
 .show IsRangeIter _ _ (lo+((0:Nat):Int)*c) ((((Builtin.Range.rangeSize lo hi c).toNat:Nat):Int)-((0:Nat):Int)) c
  rw[<-rangeSize_toNat,show lo+((0:Nat):Int)*c=lo by simp,show Builtin.Range.rangeSize lo hi c-((0:Nat):Int)=Builtin.Range.rangeSize lo hi c by simp]
  exact lJ8 _ rfl
 .have e:b=(s.heap.push {cls:= .type "range",data:= .fields #[.int lo t,.int hi u,.int c v]}).objs.size:=by simpa using hb
  subst e;exact I1.fpOk (lJh _) (I1.hok.fresh (lJh _))
end
end L2
namespace L3
open PySem PySem.Spec PyProof.Rows L2
noncomputable def rngS(lo c:Int)(n:Nat):List T:=(List.range n).map λ(k:Nat)=>T.int (lo+k*c)
noncomputable def qYm(ta:TA3):TI3:=λτ G R=>ta τ G λvs G1=>∃i j c:Int,vs=[.int i,.int j,.int c]/\(c≠0/\c.natAbs<1073741824/\Builtin.Range.small i j c=true)/\R (rngS i c (Builtin.Range.rangeSize i j c).toNat) (λ_=>True) G1
variable {K:PySem.W.Frag}
theorem qJq{H:Hp}(lo c:Int)(n:Nat):uQl K H (Its lo c n) (rngS lo c n) λ_=>True:=by
 intro i H' G e g _;have hl:(rngS lo c n).length=n:=by simp[rngS]
 refine⟨λh=>by rw[hl] at h;exact h,λh=>by rw[hl] at h;exact h,λhi x H2 ⟨eH,ex⟩=> ?_⟩
 rw[hl] at hi;subst eH;subst ex;exact⟨.refl _,g,.int (lo+i*c),by simp[rngS,hi],rfl⟩
variable {X:Cx}{tg a:Expr}{pos p:Pos}{ta:TA3}
theorem qYk{b c:Expr}(hg:Gl X "range")(hm:X.mg "range"=none)(ha:PA3 X [a,b,c] ta)(hs:starEach [a,b,c] X.env=[(false,eval a X.env),(false,eval b X.env),(false,eval c X.env)]:=by rfl)(hs2:starEach [b,c] X.env=[(false,eval b X.env),(false,eval c X.env)]:=by rfl):
  PI3 X tg (.Call (.Name "range" p) [a,b,c] [] pos) (qYm ta):=by
 intro pins s τ G H R I h;obtain⟨σ,I0,hs0,hg0⟩:=id I;refine Call_ (jQj I0 hg hm boot_range (lK6 (thn (ha pos pins s τ G H _ I h) λus s1 w_=>w_.el λxs G1 H1 e1 i_ r_ q1=>i_.el λσ I1 hs1 hg1=>r_.el λas ras rvs=> ?_) (by rw[hs,hs2]) (by rw[hs2];rfl)))
 obtain⟨i,j,k,e,⟨q1,q2,q3⟩,q⟩:=q1;subst e;obtain⟨v,as1,rfl,rv,ras1⟩:=ras;obtain⟨w,z,rfl,rw',rz⟩:=kQ8 ras1;cases (show v= .int i from rv);cases (show w= .int j from rw');cases (show z= .int k from rz)
 cases rvs with
 | cons ru rvs=>
  obtain⟨u',u'',rfl,ru',ru''⟩:=Vals.two rvs;obtain⟨t,rfl⟩:=ru;obtain⟨t',rfl⟩:=ru';obtain⟨t'',rfl⟩:=ru'';refine call_range_3 q1 (thn (qK9 (tg:=tg) (R:=λJ H'=>J=Its i k (Builtin.Range.rangeSize i j k).toNat/\H'=H1) I1 q3 ⟨rfl,rfl⟩) λitv s2 z=> ?_) (Or.inl (lZs q2))
  obtain⟨it,fp,tn,J,H',ei,I2,T0,st,fk,eJ,eH⟩:=z;subst eJ;subst eH;exact⟨it,fp,tn,_,rngS i k (Builtin.Range.rangeSize i j k).toNat,λ_=>True,G1,H',ei,e1,⟨σ,I2,hs1,hg1⟩,T0,st,fk,qJq i k _,q⟩
def Draw(P:Program)(w:World)(A:Around)(i:Addr)(r:Option Value)(S S':Heap->Prop):Prop:=
 ∀(s:Shared)(Q E:Value->Shared->Prop),S s.heap->
  (∀x g,r=some x->S' g->Heap.SameBut i s.heap g->Q x {s with heap:=g})->
  (∀g e o,r=none->Heap.ExtBut i s.heap g->g.get? e=some o->o.cls= .type "StopIteration"->E (.ref e) {s with heap:=g})->
  wpAny (model P w) A (Builtin.SmallTypes.nextOf (.ref i)) Q E s
def qJ3(i t:Addr)(k:Nat)(xs:Array Value)(h:Heap):Prop:=h.IsTupleIter i t k/\h.IsTuple t xs
variable {P:Program}{w:World}
theorem kKs{A:Around}{i t:Addr}{k:Nat}{xs:Array Value}(hh:A.handled=none)(ne:t≠i):Draw P w A i xs[k]? (qJ3 i t k xs) (qJ3 i t (k+1) xs):=by
 rintro s Q E ⟨⟨o,ho,hc,hd⟩,q,hq,hqc,n,hn⟩ item stop;have ty:s.TypeIs (.ref i) "tuple_iterator":=⟨o,ho,hc⟩;refine lJa (lVr (name:=Str.ofString "__next__") ty mJ1 (lQh mJ1 ty F.entry_tuple_iterator_next ?_ (F.args_tuple_iterator_next_1 _)));refine (show wpAny _ _ (field (.ref i) 0 >>= _) _ _ s from lJa (lQa ho hd (x:= .ref t) rfl ?_))
 refine (show wpAny _ _ (if (Value.ref t == Value.none)=true then _ else field (.ref i) 1 >>= _) _ _ s from ?_)
 rw[lJb (by exact lJs)]
 refine lJa (lQa ho hd (x:= .int k 0) rfl (show wpAny _ _ (seqItems? (.ref t) >>= _) _ _ s from lJa (lXd hq hn ?_)))
 cases hx:xs[k]? with
 | some x=>
  simp only[hx,lYw]
  have up:qJ3 i t (k+1) xs (s.heap.update i (Obj.mapFields (·.setIfInBounds 1 (rawInt ((k:Int)+1))))):=by
   refine⟨⟨_,lX7 _ ho (Obj.isFreed_of_fields (Obj.data_mapFields hd _)),(Obj.cls_mapFields ..).trans hc,?_⟩,q,(lYc ..).extBut t q ne hq,hqc,n,hn⟩;rw[Obj.data_mapFields hd];simp[rawInt]
  exact lJa (wpAny_setField ho hd (by simp) (lJd ⟨x,rfl,lJd (item x _ hx up (lYc ..))⟩))
 | none=>
  simp only[hx,lYw];refine lJa (lQq (lJa (wpAny_setField ho hd (by simp) (show wpAny _ _ (newExc (.type "StopIteration") [] >>= _) _ _ _ from lJa ?_))))
  simp only[newExc,newTuple,raiseNew];refine lJa (lQb (lJa (m:=firstArgMember _ _) (lZk (a:=Value.none) (by first | rfl | (simp only[firstArgMember];rfl)) (lQb ?_ (by size_fits)))) (by size_fits))
  refine lJa (wpAny_handled ?_);rw[show A.in1.handled=none from hh]
  exact lJa (lJd (wpAny_throw (stop _ _ _ hx (((lYc ..).extBut.push _).push _) (lJ8 _ rfl) rfl)))
noncomputable def itOf(t:Addr):Obj:={cls:= .type "tuple_iterator",data:= .fields #[.ref t,.int 0 0]}
theorem uQo{n a b:Nat}(ha:a<n)(hb:b<n):ZipApart (n+4) (n+2) (n+3) n (n+1) a b:=by
 constructor<;>(show @Ne Nat _ _;omega)
noncomputable def Itv(K:PySem.W.Frag)(a:Addr)(n:Nat):It:=
 ⟨λi H=>i<n/\∃xs x,SqL K H a xs/\xs.length=n/\xs[n-1-i]? =some x,λi H x H'=>H'=H/\∀xs,SqL K H a xs->xs[n-1-i]? =some x,λi _=>n<=i⟩
theorem qVz(a it:Addr)(n:Nat):Turn P w K tg (Itv K a n) [it] it (λi h=>i<=n/\h.IsRevIter it a ((n:Int)-1-(i:Nat))) where
 mem:=lYd _
 obj:=λi h ⟨_,o,e,c,d⟩ b hb=>by
  obtain rfl:=lJ1.mp hb;exact⟨o,e,λv z=>by rw[d] at z;cases z⟩
 keep:=λi h h' ⟨l,st⟩ k=>⟨l,st.at λo e=>k it (lYd _) o e⟩
 item:=by
  rintro X hP hw hK hc i pins s σ H E I hf ⟨hl,st⟩ ⟨hi,xs,x,hq,hn,hx⟩;subst hP hw hK;obtain⟨its,rv,p,hz⟩:=I.list hq;obtain⟨u,hu,ru⟩:=rv.get hx;obtain⟨f0,f1,_,f3,f4,f5⟩:=hf it (lYd _);rw[show (n:Int)-1-(i:Nat)=((n-1-i:Nat):Int) by omega] at st
  refine wpAny_pyNext_rev_item st p.isList (x:=u) (by simpa using hu) λh' st' sb=> ?_
  rw[show ((n-1-i:Nat):Int)-1=(n:Int)-1-((i+1:Nat):Int) by omega] at st'
  have I1:Inv X pins σ H {s with heap:=h'}:=I.turned (t':=s.toks) (λb o hb e=>(sb.2 b hb).trans e) f0 f1 f3 f4 f5
  obtain⟨o,e,c,d⟩:=id st';exact⟨u,rfl,qUj (s:={s with heap:=h'}) e c d (by decide) ⟨x,H,I1,ru,⟨rfl,λys hy=>(I.list_inj hy hq).symm▸hx⟩,⟨hi,st'⟩,λb hb=>(hf b hb).1⟩⟩
 done:=by
  rintro X hP hw hK hc i pins s σ H E I hf ⟨hl,st⟩ hg;subst hP hw hK;have hg':n<=i:=hg;obtain⟨f0,f1,_,f3,f4,f5⟩:=hf it (lYd _);rw[show (n:Int)-1-(i:Nat)= -1 by omega] at st
  exact wpAny_pyNext_rev_end (I.ok.hd hc) st λh' eb=>⟨rfl,I.turned (t':=s.toks) (λb o hb e=>eb b o hb e) f0 f1 f3 f4 f5⟩
 self:=λ_ _ _ _ _ ⟨_,st⟩ h=>mJr st h
def iRev(ta:TA3):TI3:=λτ G R=>ta τ G λvs G1=>∃x xs,vs=[x]/\jQf G1 x=some xs/\R xs.reverse (λG'=>jQf G' x=some xs) G1
theorem qJt(hg:Gl X "reversed")(hm:X.mg "reversed"=none)(hv:bootBuiltins "reversed"=some (.type "reversed"))(ha:PA3 X [a] ta)(hs:starEach [a] X.env=[(false,eval a X.env)]:=by rfl):
  PI3 X tg (.Call (.Name "reversed" p) [a] [] pos) (iRev ta):=by
 intro pins s τ G H R I h;obtain⟨σ0,I0,_,_⟩:=id I;refine Call_ (jQj I0 hg hm hv (lK6 (thn (ha pos pins s τ G H _ I h) λus s1 w_=>w_.el λxs' G1 H1 e1 i_ r_ q1=>i_.el λσ I1 hs1 hg1=>r_.el λas ras rvs=> ?_) hs rfl))
 obtain⟨x,xs,e,hx,q⟩:=q1;subst e;obtain⟨v,rfl,rv⟩:=jUn ras;obtain⟨u,rfl,ru⟩:=rvs.one;obtain⟨pa,vs,rfl,hq,r⟩:=jQs hg1 rv hx;cases ru;obtain⟨its,rvv,pl,hz⟩:=I1.list hq;have hlen:its.length=xs.length:=by have:=rvv.length;have:=r.length;omega
 refine call_reversed_list pl.isList ?_
 have st:(s1.heap.push (revObj pa (((its.toArray).size:Int)-1))).IsRevIter s1.heap.objs.size pa ((xs.length:Int)-1-((0:Nat):Int)):=⟨_,lJ8 _ rfl,rfl,by
  show Data.fields #[.ref pa,rawInt (((its.toArray).size:Int)-1)]=_
  rw[show ((its.toArray).size:Int)-1=(xs.length:Int)-1-((0:Nat):Int) by simp[hlen]]⟩
 refine mJr st ?_
 have fr:∀b∈[s1.heap.objs.size],FpOk X pins H1 b:=λb hb=>by
  obtain rfl:=lJ1.mp hb;exact I1.fpOk (lJh _) (I1.hok.fresh (lJh _))
 refine⟨s1.heap.objs.size,[s1.heap.objs.size],_,_,xs.reverse,λG'=>jQf G' x=some xs,G1,H1,rfl,e1,⟨σ,I1.kept (t':=s1.toks) λb o e=>lJm _ e,hs1,hg1⟩,qVz pa _ xs.length,⟨lJn _,st⟩,fr,?_,q⟩
 intro i H2 G2 e2 g2 sty;obtain⟨pb,ws,eb,h1,h2⟩:=jQs g2 (Rep.mono e2 _ rv) sty;cases eb;have hl2:=h2.length;rw[List.length_reverse];refine⟨λhi=>⟨hi,ws,ws[xs.length-1-i]'(by omega),h1,by omega,lJj _⟩,λhi=>hi,λhi y H' ⟨eH,hy⟩=> ?_⟩
 subst eH;obtain⟨t,ht,rt⟩:=h2.get' (hy ws h1);exact⟨.refl _,g2,t,by rw[List.getElem?_reverse hi];exact ht,rt⟩
end L3
namespace L3
open PySem
variable {n:Nat}
theorem atN{α:Type}{xs:List α}:L2.atI xs (n:Int)=xs[n]? :=by
 unfold L2.atI L2.ixN
 by_cases h:n<xs.length
 .simp[h]
 .simp[h]
theorem at0{α:Type}{x:α}{xs:List α}:L2.atI (x::xs) 0=some x:=(atN (n:=0)).trans rfl
theorem at1{α:Type}{x y:α}{xs:List α}:L2.atI (x::y::xs) 1=some y:=(atN (n:=1)).trans rfl
theorem at2{α:Type}{x y z:α}{xs:List α}:L2.atI (x::y::z::xs) 2=some z:=(atN (n:=2)).trans rfl
variable {i:Int}
theorem atZ{α:Type}{xs:List α}(h:0<=i):L2.atI xs i=xs[i.toNat]? :=by
 obtain⟨n,rfl⟩:=lK3 h
 simpa using atN
theorem kXv{α:Type}{xs:List α}{y:α}:L2.atI (xs++[y]) (-1)=some y:=by
 unfold L2.atI L2.ixN;have:¬ (0:Int)<= -1:=by decide
 simp only[this,lKa];rw[lJc (by simp;omega)]
 have e:(-1+((xs++[y]).length:Int)).toNat=xs.length:=by simp;omega
 rw[e];simp
theorem kJw{k:Nat}(h:k<n):L2.ixN n (k:Int)=some k:=by simp[L2.ixN,h]
theorem ix0:L2.ixN (n+1) 0=some 0:=kJw (k:=0) (by omega)
theorem ix1:L2.ixN (n+2) 1=some 1:=kJw (k:=1) (by omega)
theorem ix2:L2.ixN (n+3) 2=some 2:=kJw (k:=2) (by omega)
theorem ix30:L2.ixN 3 0=some 0:=ix0
theorem ix31:L2.ixN 3 1=some 1:=ix1
theorem ix32:L2.ixN 3 2=some 2:=ix2
theorem ixZ{k:Int}(h0:0<=k)(h:k<n):L2.ixN n k=some k.toNat:=by simp[L2.ixN,h0,h]
variable {G:Gp}{j:Int}
theorem qZa:addR G (.int i) (.int j)=some (.val (.int (i+j))):=rfl
variable {p:Addr}{xs:List T}
theorem kZw{q:Addr}{ys:List T}(h1:G p=some (.lst xs))(h2:G q=some (.lst ys))(hz:xs.length+ys.length<=sizeLine):addR G (.ref p) (.ref q)=some (.newL (xs++ys)):=by simp only[addR,h1,h2,hz,lKt]
theorem qX2:mulR G (.int i) (.int j)=some (.val (.int (i*j))):=rfl
theorem qX4:mulC (.int i) (.int j)=L2.CMul i j:=rfl
theorem qX3:mulC (.ref p) (.int j)=True:=rfl
variable {Q:VK3}
theorem uKw{t:T}:fin3 (.val t) G Q=Q t G:=rfl
theorem kXl:fin3 (.newL xs) G Q=∀p,G p=none->Q (.ref p) (gup G p (.lst xs)):=rfl
theorem uKj:ixR G (.tup xs) (.int i)=L2.atI xs i:=rfl
theorem uKk:ixR G (.scr xs) (.int i)=L2.atI xs i:=rfl
theorem jK6(h:G p=some (.lst xs)):ixR G (.ref p) (.int i)=L2.atI xs i:=by simp only[ixR,seqT,h,asL]
variable {v:T}
theorem jXj{k:Int}{j:Nat}(h:G p=some (.lst xs))(hj:L2.ixN xs.length k=some j):setR G (.ref p) (.int k) v=some (gup G p (.lst (xs.set j v))):=by simp only[setR,h,hj]
theorem qXd:seqT G (.tup xs)=some xs:=rfl
theorem jJn(h:G p=some (.lst xs)):seqT G (.ref p)=some xs:=by simp only[seqT,h,asL]
theorem kYf{k:Int}(h:G p=some (.lst xs)):setR G (.ref p) (.int k) v=(L2.ixN xs.length k).map λj=>gup G p (.lst (xs.set j v)):=by
 cases e:L2.ixN xs.length k with
 | none=>simp only[setR,h,e,Option.map_none]
 | some j=>simp only[setR,h,e,lQ1]
theorem qXa{k:Int}:setR (gup G p (.lst xs)) (.ref p) (.int k) v=(L2.ixN xs.length k).map λj=>gup G p (.lst (xs.set j v)):=by
 rw[kYf jJh];simp only[qUg]
theorem uKl:ixR (gup G p (.lst xs)) (.ref p) (.int i)=L2.atI xs i:=jK6 jJh
theorem kYg:seqT (gup G p (.lst xs)) (.ref p)=some xs:=jJn jJh
def uQm(g:TG3)(tb:TS3)(D:Ends3)(τ:St3)(xs:List T)(stay:Gp->Prop)(G:Gp):Prop:=∃P:Nat->St3->Gp->Prop,P 0 τ G/\(∀i τ G,i<=xs.length->P i τ G->stay G)/\
 (∀i x τ G,xs[i]? =some x->P i τ G->g x τ G λτ2 G2=>tb {D with nx:=P (i+1),ct:=P (i+1),bk:=D.nx} τ2 G2)/\∀ τ G,P xs.length τ G->D.nx τ G
variable {wi:TI3}{g:TG3}{τ:St3}
theorem jJv{tb:TS3}{D:Ends3}:tFor wi g tb D τ G=wi τ G λxs stay G1=>uQm g tb D τ xs stay G1:=rfl
def kZy(mask:List Bool)(g:TG3)(tif:TT3)(te:TE3)(τ:St3)(xs:List T)(stay:Gp->Prop)(G:Gp)(Q:VK3):Prop:=kVi mask g tif te τ xs stay G Q
variable {mask:List Bool}{tif:TT3}{te:TE3}
theorem qV2:jUc mask wi g tif te τ G Q=wi τ G λxs stay G1=>kZy mask g tif te τ xs stay G1 Q:=rfl
def Sub(G G':Gp):Prop:=∀c o,G c=some o->G' c=some o
theorem Sub.refl(G:Gp):Sub G G:=λ_ _ h=>h
theorem Sub.trans{G1 G2:Gp}(h:Sub G G1)(h':Sub G1 G2):Sub G G2:=λc o e=>h' c o (h c o e)
variable {o:GO}
theorem Sub.new(hp:G p=none):Sub G (gup G p o):=λc u e=>by rw[jJq];exact e;rintro rfl;rw[hp] at e;cases e
variable {G':Gp}
theorem Sub.over(h:Sub G G')(hp:G p=none):Sub G (gup G' p o):=λc u e=>by rw[jJq];exact h c u e;rintro rfl;rw[hp] at e;cases e
theorem Sub.none(h:Sub G G')(hp:G' p=none):G p=none:=by
 cases e:G p with
 | none=>rfl
 | some o=>rw[h p o e] at hp;cases hp
variable {a:Addr}
theorem jKw(h:gup G a o p=none):p≠a/\G p=none:=by
 by_cases e:p=a
 .subst e;rw[jJh] at h;cases h
 .rw[jJq e] at h;exact⟨e,h⟩
theorem jJf(h:G a=some o)(hp:G p=none):a≠p:=by rintro rfl;rw[h] at hp;cases hp
theorem Sub.seq{x:T}(h:Sub G G')(e:seqT G x=some xs):seqT G' x=some xs:=by
 cases x with
 | ref p=>have:=jVt e;simp only[seqT,h p _ this,asL]
 | tup _=>exact e
 | scr _=>exact e
 | non=>exact e
 | bl _=>exact e
 | int _=>exact e
 | str _=>exact e
 | ty _=>exact e
theorem jJ7{α β:Type}{enc:α->β}{es:List α}{i:Nat}{x:β}(h:(es.map enc)[i]? =some x):∃e,es[i]? =some e/\x=enc e:=by
 rw[lJ4] at h;cases e1:es[i]? with
 | none=>rw[e1] at h;cases h
 | some e=>rw[e1] at h;exact⟨e,rfl,(lJ0 h).symm⟩
theorem kQq{α:Type}{es:List α}{enc:α->T}{stay:Gp->Prop}(f:α->Option T)(hz:es.length<=sizeLine)(hst:∀G',Sub G G'->stay G')(h:∀(i:Nat) e,es[i]? =some e->∀G' (K:T->Gp->Prop) (K0:Gp->Prop),Sub G G'->(∀y G4,f e=some y->Sub G' G4->K y G4)->(f e=none->∀G4,Sub G' G4->K0 G4)->g (enc e) (msk mask τ) G' λτ2 G2=>tif τ2 G2 λb G3=>if b=true then te τ2 G3 K else K0 G3)(hq:∀D G',G D=none->G' D=some (.lst (es.filterMap f))->Sub G G'->Q (.ref D) G'):kZy mask g tif te τ (es.map enc) stay G Q:=by
 intro D hD;refine⟨λi acc G'=>acc=(es.take i).filterMap f/\G' D=some (.lst acc)/\Sub G G',⟨by simp,jJh,.new hD⟩,?_,?_,?_⟩
 .rintro i acc G' hi ⟨ea,eg,hs⟩;exact⟨hst G' hs,eg⟩
 .rintro i x acc G' hx0 ⟨ea,eg,hs⟩;obtain⟨e,hx,rfl⟩:=jJ7 hx0;have hi:i<es.length:=(lJg.mp hx).1;have tk:es.take (i+1)=es.take i++[e]:=by rw[lQe,hx];rfl
  have hlen:acc.length<sizeLine:=by
   have h1:acc.length<=(es.take i).length:=by rw[ea];exact List.length_filterMap_le _ _
   rw[lQc] at h1;omega
  refine h i e hx G' _ _ hs (λy G4 hy h4=>⟨h4 D _ eg,hlen,?_,jJh,(hs.trans h4).over hD⟩) λhn G4 h4=>⟨?_,h4 D _ eg,hs.trans h4⟩
  .rw[tk,lQ2,<-ea];simp[hy]
  .rw[tk,lQ2,<-ea];simp[hn]
 .rintro acc G' ⟨ea,eg,hs⟩;rw[lJe,lQt] at ea;rw[ea] at eg;exact hq D G' hD eg hs
theorem jK4{α:Type}{es:List α}{enc:α->T}{stay:Gp->Prop}(f:α->T)(hz:es.length<=sizeLine)(hst:∀G',Sub G G'->stay G')(h:∀(i:Nat) e,es[i]? =some e->∀G' (K:T->Gp->Prop) (K0:Gp->Prop),Sub G G'->(∀G4,Sub G' G4->K (f e) G4)->g (enc e) (msk mask τ) G' λτ2 G2=>tif τ2 G2 λb G3=>if b=true then te τ2 G3 K else K0 G3)(hq:∀D G',G D=none->G' D=some (.lst (es.map f))->Sub G G'->Q (.ref D) G'):kZy mask g tif te τ (es.map enc) stay G Q:=by
 refine kQq (λe=>some (f e)) hz hst (λi e he G' K K0 hs hk _=>h i e he G' K K0 hs λG4 h4=>hk _ G4 rfl h4) λD G' hD h1 h2=>hq D G' hD ?_ h2
 rw[h1];congr 2;induction es with
 | nil=>rfl
 | cons a as ih=>simp
theorem jKq(h:G p=some (.lst xs)):tyT G "list" (.ref p)=True:=by simp[tyT,h]
theorem uJe:tyT (gup G p (.lst xs)) "list" (.ref p)=True:=jKq jJh
theorem kKj{α:Type}{es:List α}{enc:α->T}{stay:Gp->Prop}(f:α->List T)(hz:es.length<=sizeLine)(hst:∀G',Sub G G'->stay G')(h:∀(i:Nat) e,es[i]? =some e->∀G' (K:T->Gp->Prop) (K0:Gp->Prop),Sub G G'->(∀p G4,G' p=none->G4 p=some (.lst (f e))->Sub G' G4->K (.ref p) G4)->g (enc e) (msk mask τ) G' λτ2 G2=>tif τ2 G2 λb G3=>if b=true then te τ2 G3 K else K0 G3)(hq:∀D rs G',G D=none->G' D=some (.lst (rs.map T.ref))->Sub G G'->rs.length=es.length->(D::rs).Nodup->(∀(i:Nat)(r:Addr)(e:α),rs[i]? =some r->es[i]? =some e->G r=none/\G' r=some (.lst (f e)))->Q (.ref D) G'):kZy mask g tif te τ (es.map enc) stay G Q:=by
 intro D hD;refine⟨λi acc G'=>∃rs:List Addr,acc=rs.map T.ref/\rs.length=i/\G' D=some (.lst acc)/\Sub G G'/\(D::rs).Nodup/\(∀(i:Nat)(r:Addr)(e:α),rs[i]? =some r->es[i]? =some e->G r=none/\G' r=some (.lst (f e))),⟨[],rfl,rfl,jJh,.new hD,by simp,by simp⟩,?_,?_,?_⟩
 .rintro i acc G' hi ⟨rs,ea,hl,eg,hs,hn,hr⟩;exact⟨hst G' hs,eg⟩
 .rintro i x acc G' hx0 ⟨rs,ea,hl,eg,hs,hn,hr⟩;obtain⟨e,hx,rfl⟩:=jJ7 hx0;have hi:i<es.length:=(lJg.mp hx).1;have hlen:acc.length<sizeLine:=by rw[ea,lJe];omega
  refine h i e hx G' _ _ hs λp G4 hp h4 s4=>⟨s4 D _ eg,hlen,rs++[p],by simp[ea],by simp[hl],jJh,(hs.trans s4).over hD,?_,?_⟩
  .have hDp:D≠p:=jJf eg hp
   have hpr:p∉rs:=by
    intro hm;obtain⟨j,hj⟩:∃j:Nat,_:=lJ2 hm
    have hjl:j<rs.length:=(lJg.mp hj).1;have:=(hr j p es[j] hj (lJj (by omega))).2
    rw[hp] at this;cases this
   rw[lKz] at hn;simp only[lKz,lJx,lJ1,not_or,lVx,lKr,not_false_eq_true,lXr,and_true];exact⟨⟨hn.1,hDp⟩,hn.2,trivial,λa ha b hb=>by subst hb;rintro rfl;exact hpr ha⟩
  .intro j r e' hj he';have hjl:j<rs.length+1:=by have:=(lJg.mp hj).1;simpa using this
   by_cases hjr:j<rs.length
   .rw[lKq hjr] at hj;obtain⟨q1,q2⟩:=hr j r e' hj he';have:r≠D:=by rintro rfl;exact (lKz.mp hn).1 (lJo hj)
    exact⟨q1,by rw[jJq this];exact s4 _ _ q2⟩
   .have hj2:j=rs.length:=by omega
    subst hj2;rw[lK2 (lJh _)] at hj;simp at hj;subst hj;rw[hl,hx] at he';cases he';exact⟨hs.none hp,by rw[jJq (jJf eg hp).symm];exact h4⟩
 .rintro acc G' ⟨rs,ea,hl,eg,hs,hn,hr⟩;rw[ea] at eg;exact hq D rs G' hD eg hs (by simpa using hl) hn hr
end L3
namespace L3
open PySem PySem.Spec PyProof.Rows L2
variable {X:Cx}
def uUg:R3:=λx y G Q=>∃ys,x= .tup []/\y= .tup ys/\Q (.tup ys) G
theorem uU0:Op3 X (binaryOp .Add) uUg:=by
 rintro pins s τ G H x y v u Q ⟨σ,I,hs,hg⟩ ⟨a,ra,rv⟩ ⟨b,rb,ru⟩ ⟨ys,ex,ey,q⟩;subst ex;subst ey;obtain⟨pa,vs,rfl,h1,r1⟩:=(show ∃p vs,a= .ref p/\H p=some (.tup vs)/\Reps X.K H [] vs from ra)
 obtain⟨pb,ws,rfl,h2,r2⟩:=(show ∃p vs,b= .ref p/\H p=some (.tup vs)/\Reps X.K H ys vs from rb)
 cases rv;cases ru;obtain⟨its,q1,p1,_⟩:=I.tuple (.of h1);obtain⟨its2,q2,p2,_⟩:=I.tuple (.of h2)
 have e0:its.toArray.isEmpty=true:=by
  have e1:=r1.length;have e2:=q1.length;have:its=[]:=mJ2 (by simp at e1;omega)
  rw[this];rfl
 obtain⟨⟨cls,dd,data,sl⟩,ho,hc,n,hd⟩:=id p1;obtain⟨⟨cls2,dd2,data2,sl2⟩,ho2,hc2,n2,hd2⟩:=id p2;simp only at hc hd hc2 hd2;subst hc hd hc2 hd2
 exact concat_meets ⟨_,ho,rfl⟩ ⟨_,ho2,rfl⟩ mJp seq_tuple_add lZu lZv (lZw _ _) (tuple_addW0 pa pb its.toArray its2.toArray n n2 dd dd2 sl sl2 e0)
  ⟨ho,ho2,.tup ys,G,H,.refl H,⟨σ,I,hs,hg⟩,⟨.ref pb,⟨pb,ws,rfl,h2,r2⟩,rfl⟩,q⟩
def qXo:R3:=λx y G Q=>jKm x y G Q\/uUg x y G Q
theorem qZs:Op3 X (binaryOp .Add) qXo:=o_addF.or uU0
variable {P:Program}{w:World}{A:Around}
theorem qU6(hh:A.handled=none)(it t:Addr)(ne:t≠it)(xs:Array Value):Draws P w A it [it,t] xs.size (λi v=>xs[i]? =some v) (λi h=>qJ3 it t i xs h) where
 live:=λ_ _ ⟨⟨o,ho,_⟩,_⟩=>⟨o,ho⟩
 frame:=λ_ _ _ ⟨⟨o,ho,r⟩,⟨q,hq,r'⟩⟩ k=>⟨⟨o,k it (by simp) o ho,r⟩,⟨q,k t (by simp) q hq,r'⟩⟩
 item:=λi s Q E hi st hQ=>kKs hh ne s Q E st (λx g e s' b=>hQ x g s.toks e s' b) λ_ _ _ e=>by rw[lK4 hi] at e;cases e
 done:=λs Q E st hE=>kKs hh ne s Q E st (λx _ e=>by rw[lVm (lJh _)] at e;cases e) λg e o _ b he hc=>hE g e b ⟨o,he,hc⟩
noncomputable def kZi(i:Addr):Obj:={cls:= .type "enumerate",data:= .fields #[.none,.bool false,.ref i,rawInt 0,.none,.none]}
theorem qY0(t:Addr)(xs:Array Value):
  Meets (Builtin.«enumerate.__new__» ⟨[.type "enumerate",.ref t],[]⟩) λ_ R s=>s.heap.IsTuple t xs/\R (.ok (.ret (.ref (s.heap.push (itOf t)).objs.size))) {s with heap:=(s.heap.push (itOf t)).push (kZi s.heap.objs.size)}:=by
 refine .of_wp λP w A R s ⟨ht,h⟩=> ?_
 obtain⟨g,a1,a2,a3,a4⟩:=s;have sb:=sub_enumerate;have m1:Heap.IsTuple (Shared.heap ⟨g,a1,a2,a3,a4⟩) t xs:=ht;obtain⟨⟨c,dct,dt,sl⟩,hl,hc,n,hd⟩:=id ht
 replace hc:c= .type "tuple":=hc
 replace hd:dt= .seq xs n:=hd
 subst hc hd
 wp_walk using AutoSeq1.wpAny_loadPart' hl
 refine wpAny_stack_any (λstk=>lJd ?_)
 split
 .rename_i k _ _ _ _ _
  cases (k == Value.type "enumerate")<;>(wp_walk using AutoSeq1.wpAny_loadPart' hl,wpAny_pyIter_tuple m1;exact⟨_,rfl,h⟩)
 .wp_walk using AutoSeq1.wpAny_loadPart' hl,wpAny_pyIter_tuple m1;exact⟨_,rfl,h⟩
variable {s:Shared}{xs:Array Value}{E:Value->Shared->Prop}
theorem qUx{t:Addr}{Q:Value->Shared->Prop}(ht:s.heap.IsTuple t xs)(h:∀g n,n=s.heap.objs.size->IsEnum g (n+1) n 0 .none->qJ3 n t 0 xs g->(∀c o,s.heap.get? c=some o->g.get? c=some o)->Q (.ref (n+1)) {s with heap:=g}):wpAny (model P w) A (call (.type "enumerate") [.ref t]) Q E s:=by
 refine callType_new F.called_enumerate (by decide) (F.typeCall_enumerate_1 _) (F.newCall_enumerate_1 _) (λobj=>F.args_object_init_2 obj _) F.entry_enumerate_new (qY0 t xs) ⟨ht,?_⟩
 have hn:∀(g:Heap)(o:Obj),(g.push o).objs.size=g.objs.size+1:=λ_ _=>lXt ..
 have up:∀{g:Heap}{o q:Obj}{c:Addr},g.get? c=some q->(g.push o).get? c=some q:=λe=>lJm _ e
 obtain⟨q,hq,hr⟩:=ht;have c0:((s.heap.push (itOf t)).push (kZi s.heap.objs.size)).get? s.heap.objs.size=some (itOf t):=up (lJ8 _ rfl);have c1:((s.heap.push (itOf t)).push (kZi s.heap.objs.size)).get? (s.heap.push (itOf t)).objs.size=some (kZi s.heap.objs.size):=lJ8 _ rfl;show _/\_
 simp only[hn] at c1 ⊢;exact⟨⟨_,c1,rfl⟩,h _ _ rfl c1 ⟨⟨_,c0,rfl,rfl⟩,q,up (up hq),hr⟩ λc o e=>up (up e)⟩
variable {e it:Addr}{i:Int}
theorem jUj{t:Addr}{k:Nat}{old:Value}{Q:Option Value->Shared->Prop}(hh:A.handled=none)(ne:t≠it)(he:IsEnum s.heap e it i old)(st:qJ3 it t k xs s.heap)(hk:xs.size<=k)(hQ:∀g,Heap.ExtBut it s.heap g->Q none {s with heap:=g}):wpAny (model P w) A (pyNext (.ref e)) Q E s:=by
 have ty:s.TypeIs (.ref e) "enumerate":=⟨_,he,rfl⟩;refine lJa (lXh (lVr (name:=Str.ofString "__next__") ty F.slot_enumerate_next (lQh F.slot_enumerate_next ty F.entry_enumerate_next ?_ (F.args_enumerate_next_1 _))));refine (show wpAny _ _ (field (.ref e) 2 >>= _) _ _ _ from lJa (lQa he rfl (x:= .ref it) rfl (lJa ?_)))
 refine kKs (A:=A.in1) hh ne s _ _ st (λx _ e=>by rw[lVm hk] at e;cases e) λg x o _ b hx hc=> ?_
 exact lJa (lX3 (T:="StopIteration") (b:=true) ⟨o,hx,hc⟩ isSubtype_stop (lJd (hQ g b)))
noncomputable def Itn(K:PySem.W.Frag)(a:Addr):It:=
 ⟨λi H=>∃xs x,SqT K H a xs/\xs[i]? =some x,λi H x H'=>∃p y,H p=none/\x= .ref p/\(∀xs,SqT K H a xs->xs[i]? =some y)/\H'=upd H p (.tup [.int i,y]),λi H=>∃xs,SqT K H a xs/\xs.length<=i⟩
theorem kZh{h:Heap}{a:Addr}{old:Value}{k:Nat}(he:IsEnum h e it i old)(hi:h.IsTupleIter it a k)(ht:h.IsTuple a xs):a≠it/\e∉[it,a]:=by
 obtain⟨o,ho,hc,_⟩:=hi;obtain⟨q,hq,hqc,_⟩:=ht;refine⟨λz=> ?_,λm=> ?_⟩
 .subst z;rw[ho] at hq;cases hq;rw[hc] at hqc;simp at hqc
 .simp only[lJp,lKr,lQr] at m
  rcases m with rfl | rfl
  .rw[he] at ho;cases ho;simp at hc
  .rw[he] at hq;cases hq;simp at hqc
variable {K:PySem.W.Frag}{elts:List Expr}{pos:Pos}
theorem kZ3{k:Nat}(a e it:Addr)(hei:e≠it):
  Turn P w K (.Tuple elts k pos) (Itn K a) [e,it] e (λi h=>(∃old,IsEnum h e it i old)/\h.IsTupleIter it a i) where
 mem:=lJ6 ..
 obj:=λi h ⟨⟨old,h1⟩,h2⟩ b hb=>by
  simp only[lKr,lJp,lQr] at hb
  rcases hb with rfl | rfl
  .exact⟨_,h1,λv z=>nomatch (show Data.fields _=Data.cell v from z)⟩
  .obtain⟨o,e2,c,d⟩:=h2;exact⟨o,e2,λv z=>by rw[d] at z;cases z⟩
 keep:=λi h h' ⟨⟨old,h1⟩,h2⟩ kp=>⟨⟨old,kp e (by simp) _ h1⟩,h2.at λo q=>kp it (by simp) o q⟩
 item:=by
  rintro X hP hw hK hc i pins s σ H E I hf ⟨⟨old,he⟩,hit⟩ ⟨xs,x,hq,hx⟩;subst hP hw hK;obtain⟨its,rv,p,hz⟩:=I.tuple hq;obtain⟨u,hu,ru⟩:=rv.get hx;have p':s.heap.IsTuple a its.toArray:=p;obtain⟨nei,hef⟩:=kZh he hit p';have hlt:i<its.toArray.size:=by simpa using (lJg.mp hu).1
  refine wpAny_pyNext_enum_itemD (qU6 (A:=X.A.in1) (I.ok.hd hc) it a nei its.toArray) he ⟨hit,p'⟩ hlt hei hef λx' h1 tk hx' ho hit1 hT hsz hk=> ?_
  obtain rfl:u=x':=by simpa[hu] using hx'
  refine⟨_,rfl,mJ5 ho λh2 he2 hs2=> ?_⟩
  have hel:e<s.heap.objs.size:=lJk he
  have hp2:∀b o,b∉[e,it]->s.heap.get? b=some o->h2.get? b=some o:=λb o hb q=>by
   simp only[lJp,lKr,lQr,not_or] at hb;exact (hs2.2 b hb.1).trans (hk b o hb.1 hb.2 q)
  have hT2:h2.get? s.heap.objs.size=some {cls:= .type "tuple",data:= .seq #[.int i tk,u]}:=(hs2.2 _ (lVf hel)).trans hT;have I2:=kQ0 (t':=tk+1) (h':=h2) (p:=s.heap.objs.size) (vs:=[.int i,x]) (us:=[.int i tk,u]) I hp2 hf (lJh _) ⟨_,hT2,rfl,_,rfl,rfl⟩ (.cons ⟨_,rfl⟩ (.cons ru .nil)) (by show 2<=sizeLine;decide)
  refine⟨.ref s.heap.objs.size,_,I2,rfl,⟨_,x,I.hok.fresh (lJh _),rfl,λys hy=>by rw[I.tuple_inj hy hq];exact hx,rfl⟩,⟨⟨u,by simpa using he2⟩,hit1.1.at λo q=>(hs2.2 it hei.symm).trans q⟩,λb hb=> ?_⟩
  have hbs:∃o,s.heap.get? b=some o:=by
   have hb':=hb;simp only[lKr,lJp,lQr] at hb'
   rcases hb' with rfl | rfl
   .exact⟨_,he⟩
   .obtain⟨o,q,_⟩:=hit;exact⟨o,q⟩
  obtain⟨o,q⟩:=hbs;rw[jKd (lJt (lJk q))];exact (hf b hb).1
 done:=by
  rintro X hP hw hK hc i pins s σ H E I hf ⟨⟨old,he⟩,hit⟩ ⟨xs,hq,hx⟩;subst hP hw hK;obtain⟨its,rv,p,hz⟩:=I.tuple hq;have p':s.heap.IsTuple a its.toArray:=p;obtain⟨nei,hef⟩:=kZh he hit p';have hl:=rv.length;refine jUj (I.ok.hd hc) nei he ⟨hit,p'⟩ (by simp;omega) λh1 hx1=>⟨rfl,qKd (t':=s.toks) I (λb o hb q=>hx1 b o (λz=>hb (by simp[z])) q) hf⟩
 self:=λ_ _ _ _ _ ⟨⟨old,he⟩,_⟩ h=>lZj he h
def iEnT(ta:TA3):TI3:=λτ G R=>ta τ G λvs G1=>∃xs,vs=[.tup xs]/\R (numT xs) (λ_=>True) G1
theorem qJu{k:Nat}{tpos p:Pos}{a:Expr}{ta:TA3}(hg:Gl X "enumerate")(hm:X.mg "enumerate"=none)(hv:bootBuiltins "enumerate"=some (.type "enumerate"))(ha:PA3 X [a] ta)(hs:starEach [a] X.env=[(false,eval a X.env)]:=by rfl):
  PI3 X (.Tuple elts k tpos) (.Call (.Name "enumerate" p) [a] [] pos) (iEnT ta):=by
 intro pins s τ G H R I h;obtain⟨σ0,I0,_,_⟩:=id I;refine Call_ (jQj I0 hg hm hv (lK6 (thn (ha pos pins s τ G H _ I h) λus s1 w_=>w_.el λxs' G1 H1 e1 i_ r_ q1=>i_.el λσ I1 hs1 hg1=>r_.el λas ras rvs=> ?_) hs rfl))
 obtain⟨xs,e,q⟩:=q1;subst e;obtain⟨v,rfl,rv⟩:=jUn ras;obtain⟨u,rfl,ru⟩:=rvs.one;obtain⟨pa,vs,rfl,hq,r⟩:=(show ∃p vs,v= .ref p/\H1 p=some (.tup vs)/\Reps X.K H1 xs vs from rv)
 cases ru;obtain⟨its,rvv,pl,hz⟩:=I1.tuple (.of hq);refine qUx (show s1.heap.IsTuple pa its.toArray from pl) λh1 n hn he hit hk=> ?_
 subst hn;have I2:Inv X pins σ H1 {s1 with heap:=h1}:=I1.kept (t':=s1.toks) hk
 refine lZj (Q:=PIE3 X pins τ H (.Tuple elts k tpos) R) he ?_
 have fr:∀b∈[s1.heap.objs.size+1,s1.heap.objs.size],FpOk X pins H1 b:=λb hb=>by
  simp only[lKr,lJp,lQr] at hb;have hle:s1.heap.objs.size<=b:=by omega
  exact I1.fpOk hle (I1.hok.fresh hle)
 refine⟨s1.heap.objs.size+1,[s1.heap.objs.size+1,s1.heap.objs.size],_,_,numT xs,λ_=>True,G1,H1,rfl,e1,⟨σ,I2,hs1,hg1⟩,kZ3 pa _ _ (Nat.succ_ne_self _),⟨⟨.none,he⟩,hit.1⟩,fr,?_,q⟩
 intro i H2 G2 e2 g2 _;obtain⟨pb,ws,eb,h1',h2⟩:=(show ∃p vs,V.ref pa= .ref p/\H2 p=some (.tup vs)/\Reps X.K H2 xs vs from Rep.mono e2 _ rv)
 cases eb;have hlen:=h2.length;refine⟨λhi=> ?_,λhi=>⟨ws,.of h1',by rw[jJ0] at hi;omega⟩,λhi y H' ⟨pp,z,hn,ey,hy,eH⟩=> ?_⟩
 .rw[jJ0] at hi;exact⟨ws,ws[i]'(by omega),.of h1',by simp[hlen▸hi]⟩
 .subst ey;subst eH;obtain⟨t,ht,rt⟩:=h2.get' (hy ws (.of h1'));exact⟨.upd (.none hn),g2.tupNew hn,_,jUr ht,Rep.tupNew ⟨_,_,rfl,rfl,_,_,rfl,rt,rfl⟩ hn⟩
noncomputable def qKl(tk tv:TE3):TE3:=λτ G Q=>∀p,G p=none->tk τ (gup G p (.dck [])) λx G1=>tv τ G1 λy G2=>∃k,jUs x=some k/\G2 p=some (.dck [])/\Q (.ref p) (gup G2 p (.dck [(k,y)]))
theorem uK0{k v:Expr}{tk tv:TE3}(hk:PE3 X k tk)(hv:PE3 X v tv):PE3 X (.Dict [some k] [v] pos) (qKl tk tv):=by
 rintro pins s τ G H Q ⟨σ,I,hs,hg⟩ h;have hn:=I.hok.fresh (lJh s.heap.objs.size);have I1:=I.laid (a:=s.heap.objs.size) (o:= .dK []) (h':=s.heap.push {cls:= .type "dict",data:= .dict #[]}) (t':=s.toks) (λ_ _ q=>lJm _ q) (lJh _) (kZm s.heap I.big)
 have I3:Inv3 X pins τ (gup G s.heap.objs.size (.dck [])) (upd H s.heap.objs.size (.dK [])) {s with heap:=s.heap.push {cls:= .type "dict",data:= .dict #[]},toks:=s.toks}:=
  ⟨σ,I1,hs.mono (.upd (.none hn)),hg.upd (.none hn) (go:= .dck []) ⟨[],jK2,.nil⟩⟩
 refine wpAny_Dict_walk (knd:=jJ2 X.prog X.w) rfl rfl (by simp) (by simp) (pairTrees_cons_walk (thn (hk pins _ τ _ _ _ I3 (h _ (hg.fresh hn))) λu s1 w_=>w_.el λx G1 H1 e1 J1 ru q1=>thn (hv pins s1 τ G1 H1 _ J1 q1) λu2 s2 w_=>w_.el λy G2 H2 e2 i_ ru2 ⟨key,hkey,hd,q2⟩=>i_.el λσ2 J2 hs2 hg2=>pairTrees_nil_walk ?_))
 obtain⟨ws,hH2,pk⟩:=(show ∃ws,H2 s.heap.objs.size=some (.dK ws)/\PKV X.K H2 [] ws from hg2 _ _ hd)
 cases pk;obtain⟨a,ra,rva⟩:=ru.mono e2;obtain⟨c,rc,rvc⟩:=ru2;obtain rfl:=jXu hkey ra;obtain⟨rs,cr,rk⟩:=kKn (P:=X.prog) (w:=X.w) (kvs:=[(key,c)]) (ws:=[(u,u2)]) (.cons ⟨rva,rvc⟩ .nil);obtain⟨z,hdd,vs0,r0,dd⟩:=uK5 J2.hok hH2;cases r0;refine⟨rs,cr,dd,λh' dd' hsb=> ?_⟩
 have he:∃q,h'.get? s.heap.objs.size=some q:=let ⟨q,_,_,hq,_⟩:=dd';⟨q,hq⟩
 have JJ:=kXp (t':=s2.toks+[(u,u2)].length) J2 (by rw[hH2];exact True.intro) hsb he (qZ6 (kvs:=[(key,c)]) (by rw[lKe];exact Nat.succ_le_of_lt (lXu _)) hdd (rk.merge .nil) dd')
 have ext:Ext H2 (upd H2 s.heap.objs.size (.dK [(key,c)])):= .upd (.dK hH2);exact⟨.ref s.heap.objs.size,_,_,(((Ext.upd (.none hn)).trans e1).trans e2).trans ext,⟨σ2,JJ,hs2.mono ext,hg2.upd (.dK hH2) (go:= .dck [(key,y)]) ⟨_,jK2,PKV.put (kvs:=[]) .nil key (Rep.mono ext _ rc)⟩⟩,⟨.ref _,rfl,rfl⟩,q2⟩
theorem uXr{k:Key}{u:Value}(h:(jJ2 P w).is k u=true):RelV (kV k) u:=by
 cases k with
 | inl i=>exact Value.isInt_shape h
 | inr x=>
  have h':Value.isStrOf x u=true:=h;cases u<;>simp[Value.isStrOf] at h'
  subst h';exact⟨_,rfl⟩
theorem kQz:∀(us:List Value)(ks:List Key),us.length=ks.length->(∀(j:Nat)(v:Value)(k:Key),us[j]? =some v->ks[j]? =some k->RelV (kV k) v)->Vals (ks.map kV) us
 | [],[],_,_=> .nil
 | u::us,k::ks,hl,h=> .cons (h 0 u k rfl rfl) (kQz us ks (by simpa using hl) λj v k' h1 h2=>h (j+1) v k' h1 h2)
 | [],_::_,e,_=>by simp at e
 | _::_,[],e,_=>by simp at e
theorem jZm{K:PySem.W.Frag}{H:Hp}:∀ks:List Key,Reps K H (ks.map kT) (ks.map kV)
 | []=>rfl
 | .inl i::ks=>⟨_,_,rfl,rfl,jZm ks⟩
 | .inr x::ks=>⟨_,_,rfl,rfl,jZm ks⟩
theorem KV.keys{kvs:List (Key×V)}{vs:List (Key×Value)}(h:KV kvs vs):vs.map Prod.fst=kvs.map Prod.fst:=by
 unfold KV at h
 induction h with
 | nil=>rfl
 | cons h t ih=>rw[lJw,lJw,ih,h.1]
theorem PKV.keys{H:Hp}{kvs:List (Key×T)}{ws:List (Key×V)}(h:PKV K H kvs ws):ws.map Prod.fst=kvs.map Prod.fst:=by
 unfold PKV at h
 induction h with
 | nil=>rfl
 | cons h t ih=>rw[lJw,lJw,ih,h.1]
noncomputable def kJ6:List T->Gp->VK3->Prop:=λxs G Q=>∃(p:Addr)(kvs:List (Key×T)),xs=[.ref p]/\G p=some (.dck kvs)/\∀q,G q=none->Q (.ref q) (gup G q (.lst (kvs.map λkv=>kT kv.1)))
theorem kXu(hc:X.calm=true):Call3 X (.type "list") kJ6:=by
 rintro pins s τ G H xs us Q ⟨σ,I,hs,hg⟩ ⟨as,ras,rvs⟩ ⟨p,kvs,e,hp,q⟩;subst e;obtain⟨v,rfl,rv⟩:=jUn ras;obtain⟨u,rfl,ru⟩:=rvs.one;cases (show v= .ref p from rv);cases ru
 obtain⟨ws,h1,h2⟩:=(show ∃ws,H p=some (.dK ws)/\PKV X.K H kvs ws from hg p _ hp)
 obtain⟨z,hd,vs,kv,dd⟩:=uK5 I.hok h1;obtain⟨ep,dat⟩:=dd.dictAt;have hk:=KV.keys kv;have hk2:ws.map Prod.fst=kvs.map Prod.fst:=PKV.keys h2;have hlen:vs.length=ws.length:=by simpa using lKl List.length hk
 refine PySem.W.kdl_call (PySem.W.kdl_dict (knd:=jJ2 X.prog X.w) (kvs:=vs) (ep:=ep) hd) (I.ok.hd hc) dat (by omega) λh' tk acc c' kp hn it=> ?_
 have hv:Vals ((kvs.map Prod.fst).map kV) acc.toList:=kQz _ _ (by rw[<-hk2,<-hk];simpa using it.1) λj v k h1 h2=>by
  obtain⟨k',x,e1,e2⟩:=it.2 j v (by simpa using h1)
  rw[<-hk2,<-hk,lJ4,e1] at h2;cases h2;exact uXr e2
 have fr:=I.hok.fresh (lJh s.heap.objs.size);have hkl:(kvs.map Prod.fst).length=ws.length:=by rw[<-hk2];simp
 have I3:=I.laid (a:=s.heap.objs.size) (o:= .lst ((kvs.map Prod.fst).map kV)) (h':=h') (t':=tk) kp (lJh _) ⟨by rw[lJe,hkl];exact z,acc.toList,c',hv,by simpa using hn⟩
 have ext:Ext H (upd H s.heap.objs.size (.lst ((kvs.map Prod.fst).map kV))):= .upd (.none fr);refine⟨.ref _,_,_,ext,⟨σ,I3,hs.mono ext,hg.lstNew (jZm _) (.none fr)⟩,⟨.ref _,rfl,rfl⟩,?_⟩;have:=q _ (hg.fresh fr);rw[lJz];exact this
end L3
namespace L3
open PySem PySem.Spec PyProof.Rows L2 MeetsSeq
section
variable {X:Cx}
end
end L3
namespace L3
open PySem PySem.Spec PyProof.Rows L2
variable {X:Cx}
theorem qJn:typeLookup (.type "list_reverseiterator") "__len__"=pure none:=by rw[lX4,lX5];kernel_rfl
theorem kXc:typeLookup (.type "list_reverseiterator") "__length_hint__"=pure (some (.builtin "list_reverseiterator.__length_hint__")):=by rw[lX4,lX5];kernel_rfl
variable {P:Program}{w:World}{A:Around}{E:Value->Shared->Prop}{s:Shared}{it:Addr}
theorem qYp{Q:Bool->Shared->Prop}(ty:s.TypeIs (.ref it) "list_reverseiterator")(h:Q false s):wpAny (model P w) A (Builtin.List.listLengthHint (.ref it)) Q E s:=by
 (unfold Builtin.List.listLengthHint)
 refine lJa (lX2 ty qJn ?_);refine (show wpAny _ A (specialOf (Value.ref it) (Str.ofString "__length_hint__") >>= _) _ _ _ from lJa (lX2 ty kXc ?_))
 generalize hn:("list_reverseiterator.__length_hint__":String)=nm
 wp_delta
 rw[show splitId nm=some ("list_reverseiterator","__length_hint__") by subst hn;decide +kernel];subst hn
 refine lJa (lX3 (T:="list_reverseiterator") (b:=true) ty (by rw[lZl];kernel_rfl) (lXi (λz=>absurd z (by decide)) λ_=> ?_))
 exact lXi (λ_=>lXi (λz=>absurd z (by decide +kernel)) λ_=>lJd h) λz=>absurd (by decide +kernel) z
variable {l:Addr}{xs:Array Value}
theorem qJw{R:Result->Shared->Prop}{S:Addr}(hh:A.handled=none)(hi:s.heap.IsRevIter it l ((xs.size:Int)-1))(hl:s.heap.IsList l xs)(hz:xs.size<=sizeLine)(res:Value)(c0:Nat)(hS:s.heap.get? S=some {cls:= .type "list",data:= .seq #[] c0})(hSl:S≠l)(hR:∀(g:Heap)(tk:Nat)(acc:Array Value)(c':Nat),(∀d o,d≠S->d≠it->s.heap.get? d=some o->g.get? d=some o)->g.get? S=some {cls:= .type "list",dict:=none,data:= .seq acc c',slots:= #[]}->ItemsOf (λi v=>xs[xs.size-1-i]? =some v) acc xs.size->R (.ok (.ret res)) {s with heap:=g,toks:=tk}):
  wpAny (model P w) A.in1 (Builtin.List.listExtendWith (.ref S) (.ref it) res) (λfin z=>match fin with | .done f=>R (.ok f) z | .again c'=>c'.quiet=true/\codeAny (model P w) A c' R z) (λe z=>R (.error e) z) s:=by
 have hSi:S≠it:=by
  rintro rfl;obtain⟨o,ho,hc,_⟩:=hi;rw[hS] at ho;cases ho;exact absurd hc (show ¬ Value.type "list"=Value.type "list_reverseiterator" by decide)
 have ne:l≠it:=by
  rintro rfl;obtain⟨o,ho,hc,_⟩:=hi;obtain⟨o',ho',hc',_⟩:=hl;rw[ho] at ho';cases ho';rw[hc] at hc';exact absurd hc' (by decide)
 have Wk:=(Walks.listRev (prog:=P) (w:=w) (A:=A.in1) hh it l ne xs).toS;have hSf:S∉[it,l]:=by simp[hSi,hSl]
 (unfold Builtin.List.listExtendWith)
 refine lJa (lVc hi.typeIs ?_);have z1:Builtin.List.listSameRef (.ref S) (.ref it)=false:=by simp[Builtin.List.listSameRef,hSi]
 have z2:(Value.type "list_reverseiterator" == Value.type "list")=false:=by decide
 have z3:(Value.type "list_reverseiterator" == Value.type "tuple")=false:=by decide
 simp only[z1,z2,z3,Bool.or_false,lKg,lKa];refine lJa (mJr hi (lJa (lKj (qYp hi.typeIs ?_))));refine lXi (λz=>absurd z (by decide +kernel)) λ_=>lJd ⟨lQy F.plain_extend_loop _,?_⟩
 refine codeAny_extend_loopS Wk hz S hSf res xs.size 0 _ #[] c0 rfl (lJn _) ⟨lJn _,by simpa using hi,hl⟩ hS (ItemsOf.nil _) λz acc c' hm hS' hacc=> ?_
 rw[Moved.eq_with hm];exact hR z.heap z.toks acc c' (λb o h1 h2 e=>hm.heap b o (by simp[h1,h2]) e) hS' hacc
theorem kXs{Q:List Value->Shared->Prop}(hh:A.handled=none)(hi:s.heap.IsRevIter it l ((xs.size:Int)-1))(hl:s.heap.IsList l xs)(hz:xs.size<=sizeLine)(hQ:∀(g:Heap)(tk:Nat)(acc:Array Value),(∀d o,d≠it->s.heap.get? d=some o->g.get? d=some o)->s.heap.objs.size<g.objs.size->ItemsOf (λi v=>xs[xs.size-1-i]? =some v) acc xs.size->Q acc.toList {s with heap:=g,toks:=tk}):wpAny (model P w) A (collect (.ref it)) Q E s:=by
 have key:∀R:Result->Shared->Prop,(∀(g:Heap)(tk:Nat)(acc:Array Value)(c':Nat),(∀d o,d≠it->s.heap.get? d=some o->g.get? d=some o)->g.get? s.heap.objs.size=some {cls:= .type "list",dict:=none,data:= .seq acc c',slots:= #[]}->ItemsOf (λi v=>xs[xs.size-1-i]? =some v) acc xs.size->R (.ok (.ret (.ref s.heap.objs.size))) {s with heap:=g,toks:=tk})->
   codeAny (model P w) A (.builtin "proto.collect" ⟨[.ref it],[]⟩) R s:=by
  intro R hR;refine lQs F.entry_proto_collect ?_;rw[lQu F.plain_proto_collect _];refine (show wpAny _ A.in1 (newList [] >>= λl=>again (.builtin "list.__iadd__" ⟨[l,.ref it],[]⟩)) _ _ s from lJa (lQb (lJd ⟨lQy lYx _,lQs F.entry_list_iadd ?_⟩)))
  rw[lQu lYx _];have hS:(s.heap.push {cls:= .type "list",data:= .seq ([]:List Value).toArray}).get? s.heap.objs.size=some {cls:= .type "list",data:= .seq ([]:List Value).toArray}:=lJ8 _ rfl;obtain⟨ol,hol,hcl⟩:=id hl;exact qJw (A:=A) (R:=R) hh (hi.at λo e=>lJm _ e) ⟨ol,lJm _ hol,hcl⟩ hz (.ref s.heap.objs.size) _ hS (lVf (lJk hol)) λg tk acc c' kp hS' itm=>hR g tk acc c' (λd o h1 e=>kp d o (lJt (lJk e)) h1 (lJm _ e)) hS' itm
 unfold collect;exact lJa (wpAny_runValue (key _ λg tk acc c' kp hS' itm=>(show wpAny _ A (load s.heap.objs.size >>= _) _ _ _ from lJa (wpAny_load hS' (lJd (hQ g tk acc kp (lJk hS') itm))))))
variable {Q:Value->Shared->Prop}
theorem qKg(hh:A.handled=none)(hi:s.heap.IsRevIter it l ((xs.size:Int)-1))(hl:s.heap.IsList l xs)(hz:xs.size<=sizeLine)(hQ:∀(g:Heap)(tk:Nat)(acc:Array Value),(∀d o,d≠it->s.heap.get? d=some o->g.get? d=some o)->s.heap.objs.size<g.objs.size->ItemsOf (λi v=>xs[xs.size-1-i]? =some v) acc xs.size->Q (.ref g.objs.size) {s with heap:=g.push {cls:= .type "tuple",data:= .seq acc},toks:=tk}):
  wpAny (model P w) A (call (.type "tuple") [.ref it]) Q E s:=by
 refine callType_codes (Q₁:=λobj z=>z.TypeIs obj "tuple"/\Q obj z) F.called_tuple (F.typeCall_tuple_1 _) F.entry_object_init (mJs ?_) λobj z hz=>⟨hz.1,F.args_object_init_2 obj _,object_init_meets F.called_tuple.init.lookup F.called_tuple.made (by decide) P w A.in1 _ z ⟨hz.1,rfl,hz.2⟩⟩
 refine (show wpAny _ A.in1.in1 (do checkBuiltinCall "tuple.__new__" ⟨[.type "tuple",.ref it],[]⟩;again (.builtin "tuple.__new__" ⟨[.type "tuple",.ref it],[]⟩)) _ _ s from lJa (lZk (F.newCall_tuple_1 _) (lJd ⟨lQy F.plain_tuple_new _,lQs F.entry_tuple_new ?_⟩)))
 rw[lQu F.plain_tuple_new _];have h1:=sub_tuple_self;have h2:=init_tuple_lookup;have h3:=madeHere_tuple;have ty:=hi.typeIs
 wp_walk using wpAny_typeOf ty,kXs (A:=A.in1.in1) hh hi hl hz
 intro g tk acc kp big itm;refine (show wpAny _ _ (Builtin.Tuple.tupleExact acc.toList.toArray >>= λx=>ret x) _ _ _ from ?_)
 unfold Builtin.Tuple.tupleExact;refine lJa (lQb (lJd ?_) (by show acc.toList.toArray.size<=sizeLine;simp only[Array.toArray_toList];rw[itm.1];exact hz))
 rw[show acc.toList.toArray=acc by simp]
 exact⟨⟨_,lJ8 _ rfl,rfl⟩,hQ g tk acc kp big itm⟩
variable {pos:Pos}
def uJl(ta:TA3):TE3:=λτ G Q=>ta τ G λvs G1=>∃x xs,vs=[x]/\jQf G1 x=some xs/\Q (.tup xs.reverse) G1
theorem uVo{pos' p p':Pos}{a:Expr}{ta:TA3}(hc:X.calm=true)(hl:Gl X "tuple")(hlm:X.mg "tuple"=none)(hg:Gl X "reversed")(hm:X.mg "reversed"=none)(hv:bootBuiltins "reversed"=some (.type "reversed"))(ha:PA3 X [a] ta)(hs:starEach [a] X.env=[(false,eval a X.env)]:=by rfl)(hs':starEach [Expr.Call (.Name "reversed" p) [a] [] pos] X.env=[(false,eval (.Call (.Name "reversed" p) [a] [] pos) X.env)]:=by rfl):
  PE3 X (.Call (.Name "tuple" p') [.Call (.Name "reversed" p) [a] [] pos] [] pos') (uJl ta):=by
 intro pins s τ G H Q I h;obtain⟨σ,I0,_,_⟩:=id I;refine Call_ (jQj I0 hl hlm rfl (lK6 ?_ hs' rfl));rw[hs'];refine Calls.spliced_cons (Call_ (jQj I0 hg hm hv (lK6 (thn (ha pos pins s τ G H _ I h) λus s1 w_=>w_.el λys G1 H1 e1 i_ r_ q1=>i_.el λσ1 I1 hs1 hg1=>r_.el λas ras rvs=> ?_) hs rfl)))
 obtain⟨x,xs,e,hx,q⟩:=q1;subst e;obtain⟨v,rfl,rv⟩:=jUn ras;obtain⟨u,rfl,ru⟩:=rvs.one;obtain⟨pa,vs,rfl,hq,r⟩:=jQs hg1 rv hx;cases ru;obtain⟨its,rvv,pl,hz⟩:=I1.list hq;have hlen:its.length=xs.length:=by have:=rvv.length;have:=r.length;omega
 refine call_reversed_list pl.isList (Calls.spliced_nil ?_);obtain⟨ol,hol,hcl⟩:=id pl.isList;refine qKg (l:=pa) (xs:=its.toArray) (I1.ok.hd hc) ⟨_,lJ8 _ rfl,rfl,rfl⟩ ⟨ol,lJm _ hol,hcl⟩ (by have:=rvv.length;simp;omega) λg tk acc kp big itm=> ?_
 have hacc:acc.toList=its.reverse:=by
  apply lQj;intro i
  by_cases hi:i<its.length
  .have hia:i<acc.size:=by rw[itm.1];simpa using hi
   have e1:acc.toList[i]? =some acc[i]:=by simp[hia]
   have e2:=itm.2 i acc[i] (by simp[hia])
   rw[e1,List.getElem?_reverse hi]
   simpa using e2.symm
  .rw[lJ3 (by have:=itm.1;simp at this ⊢; omega),lJ3 (by simp;omega)]
 have hge:s1.heap.objs.size<=g.objs.size:=by rw[lXt] at big;omega
 have fr:=I1.hok.fresh hge;have hvl:=rvv.length;have I3:=I1.laid (a:=g.objs.size) (o:= .tup vs.reverse) (h':=g.push {cls:= .type "tuple",data:= .seq acc}) (t':=tk) (λb o e=>lJm _ (kp b o (lJt (lJk e)) (lJm _ e))) hge ⟨by simp;omega,acc.toList,by rw[hacc];exact rvv.reverse,by simpa using TupD.new g acc⟩
 have ext:Ext H1 (upd H1 g.objs.size (.tup vs.reverse)):= .upd (.none fr);exact⟨.tup xs.reverse,G1,_,e1.trans ext,⟨σ1,I3,hs1.mono ext,hg1.tupNew fr⟩,⟨.ref g.objs.size,Rep.tupNew r.reverse fr,rfl⟩,q⟩
section
variable {d:Addr}
theorem jYm{o:Obj}{es:Array DictEntry}{ep:Nat}(hd:(d == sysModules)=false)(ho:s.heap.get? d=some o)(hc:o.ExactDict)(hx:o.data= .dict es ep)(hz:es.size<=sizeLine)(h:Q (.int es.size (s.toks+1)) {s with toks:=s.toks+1+1}):wpAny (model P w) A (call (.builtin "len") [.ref d]) Q E s:=by
 have hsl:=lKe;have ty:s.TypeIs (.ref d) "dict":=⟨o,ho,hc.1⟩;refine Calls.call_function_entry kind_len plain_len entry_len (args_len1 _) ?_;unfold Builtin.«len»; refine lJa (m:=oneArg "len" _) (lJd ?_)
 have M:MeetsIn P w (Builtin.«dict.__len__» ⟨[.ref d],[]⟩) (λ_ R z=>(∃o es ep,z.heap.get? d=some o/\o.data= .dict es ep/\R (.ok (.ret (.int es.size z.toks))) {z with toks:=z.toks+1})):=
  .of_wp λA R z ⟨o,es,ep,ho,hx,h⟩=>by
   refine (show wpAny _ _ (dictSize d >>= _) _ _ z from ?_)
   unfold dictSize;refine lJa (lJa (wpAny_dictEntries ho hx (lJd ?_)));refine (show wpAny _ _ (Builtin.Dict.pendingCount d >>= _) _ _ z from lJa (wpAny_pendingCount_other hd (wpAny_ret_mkInt ?_)))
   rw[lXv];exact h
 refine lJa (m:=callSpecial? (.ref d) (Str.ofString "__len__")) (lVr (name:=Str.ofString "__len__") ty F.slot_dict_len (call_meetsIn F.slot_dict_len ty F.entry_dict_len (F.args_dict_len_1 _) M ⟨o,es,ep,ho,hx,?_⟩));refine (show wpAny _ _ _ _ _ {s with toks:=s.toks+1} from lJa (lKj (lJd (lJa (wpAny_letGo ?_)))))
 refine (show wpAny _ _ (if ((es.size:Nat):Int)<0 then _ else _) _ _ _ from ?_);rw[lJb (by omega)]
 refine (show wpAny _ _ (if ((es.size:Nat):Int)>=2^63 then _ else _) _ _ _ from ?_);rw[lJb (by omega)]
 exact (lJa (wpAny_mkInt (lJd ⟨_,rfl,h⟩)))
end
noncomputable def lenG(G:Gp):T->Option Nat
 | .ref p=>match G p with
  | some (.lst xs)=>some xs.length
  | some (.dct kvs)=>some kvs.length
  | some (.dck kvs)=>some kvs.length
  | some (.fdc _)=>none
  | some (.ins _ _)=>none
  | none=>none
 | .tup xs=>some xs.length
 | .scr xs=>some xs.length
 | _=>none
def qQc:List T->Gp->VK3->Prop:=λxs G Q=>∃x n,xs=[x]/\lenG G x=some n/\Q (.int (n:Nat)) G
theorem qVi:Call3 X (.builtin "len") qQc:=by
 rintro pins s τ G H xs us Q I rs ⟨x,n,ex,hx,q⟩
 by_cases hd:∃p,x= .ref p/\((∃kvs,G p=some (.dct kvs))\/∃kvs,G p=some (.dck kvs))
 .subst ex;obtain⟨p,rfl,hk⟩:=hd;obtain⟨σ,I,hs,hg⟩:=I;obtain⟨as,ras,rvs⟩:=rs;obtain⟨v,rfl,rv⟩:=jUn ras;obtain⟨u,rfl,ru⟩:=rvs.one;cases (show v= .ref p from rv);cases ru
  rcases hk with ⟨kvs,hG⟩ | ⟨kvs,hG⟩
  .simp only[lenG,hG] at hx;cases hx;obtain⟨ws,h1,h2⟩:=hg p _ hG;obtain⟨z,y,xs,r,o,es,ep,e1,e2,e3,e4,e5⟩:=(show ObjOk X.prog X.w H s.heap p (.dT ws) from I.hok p _ h1)
   have l1:es.size=kvs.length:=by
    have a1:=lKl List.length e4;have a2:=lXl r;have a3:=h2.length;simp at a1;omega
   refine jYm y e1 e2 e3 (by have:=h2.length;omega) ?_
   rw[l1];exact⟨.int (kvs.length:Nat),G,H,.refl H,⟨σ,I.tok _,hs,hg⟩,⟨.int _,rfl,_,rfl⟩,q⟩
  .simp only[lenG,hG] at hx;cases hx;obtain⟨ws,h1,h2⟩:=hg p _ hG;obtain⟨z,y,vs,rel,o,es,ep,e1,e2,e3,e4,e5,e6⟩:=(show ObjOk X.prog X.w H s.heap p (.dK ws) from I.hok p _ h1)
   have l1:es.size=kvs.length:=by
    have a1:=e5.length;have a2:=rel.length;have a3:=h2.length;simp at a1;omega
   refine jYm y e1 e2 e3 (by have:=h2.length;omega) ?_
   rw[l1];exact⟨.int (kvs.length:Nat),G,H,.refl H,⟨σ,I.tok _,hs,hg⟩,⟨.int _,rfl,_,rfl⟩,q⟩
 .refine jKp pins s τ G H xs us Q I rs ?_;cases x with
  | ref p=>
   cases hG:G p with
   | none=>simp only[lenG,hG] at hx;cases hx
   | some g=>
    cases g with
    | lst ys=>simp only[lenG,hG] at hx;cases hx;exact⟨_,ys,ex,by simp only[seqT,hG,asL],q⟩
    | dct kvs=>exact absurd ⟨p,rfl,.inl ⟨kvs,hG⟩⟩ hd
    | fdc kvs=>simp only[lenG,hG] at hx;cases hx
    | ins _ _=>simp only[lenG,hG] at hx;cases hx
    | dck kvs=>exact absurd ⟨p,rfl,.inr ⟨kvs,hG⟩⟩ hd
  | tup ys=>cases hx;exact⟨_,ys,ex,rfl,q⟩
  | scr ys=>cases hx;exact⟨_,ys,ex,rfl,q⟩
  | non=>cases hx
  | bl _=>cases hx
  | int _=>cases hx
  | str _=>cases hx
  | ty _=>cases hx
theorem jU5:∀{is:List Int}{us:List Value},Vals (is.map V.int) us->∃ps:List (Int×Tok),us=ps.map (λp=> .int p.1 p.2)/\ps.map (·.1)=is
 | [],_,.nil=>⟨[],rfl,rfl⟩
 | i::is,_,.cons ⟨t,e⟩ r=>by
  obtain⟨ps,e1,e2⟩:=jU5 r;subst e1;subst e2;subst e;exact⟨(i,t)::ps,rfl,rfl⟩
theorem szle{n:Nat}(h:Nat.ble n 16777216=true):n<=sizeLine:=by rw[PySem.sizeLine_eq];exact Nat.le_of_ble_eq_true h
end L3
namespace L3
theorem xe1{A0:Type}{σ:Type}{f:A0->σ}{p:A0->Prop}{τ:σ}{C:σ->Prop}(h:∃a0,τ=f a0/\p a0)(k:∀a0,p a0->C (f a0)):C τ:=by
 obtain⟨a0,e,h⟩:=h;rw[e];exact k _ h
theorem xi1{A0:Type}{σ:Type}{f:A0->σ}{p:A0->Prop}{τ:σ}(a0:A0)(e:τ=f a0)(h:p a0):∃a0,τ=f a0/\p a0:=⟨a0,e,h⟩
theorem xe2{A0 A1:Type}{σ:Type}{f:A0->A1->σ}{p:A0->A1->Prop}{τ:σ}{C:σ->Prop}(h:∃a0 a1,τ=f a0 a1/\p a0 a1)(k:∀a0 a1,p a0 a1->C (f a0 a1)):C τ:=by
 obtain⟨a0,a1,e,h⟩:=h;rw[e];exact k _ _ h
theorem xi2{A0 A1:Type}{σ:Type}{f:A0->A1->σ}{p:A0->A1->Prop}{τ:σ}(a0:A0)(a1:A1)(e:τ=f a0 a1)(h:p a0 a1):∃a0 a1,τ=f a0 a1/\p a0 a1:=⟨a0,a1,e,h⟩
theorem xe3{A0 A1 A2:Type}{σ:Type}{f:A0->A1->A2->σ}{p:A0->A1->A2->Prop}{τ:σ}{C:σ->Prop}(h:∃a0 a1 a2,τ=f a0 a1 a2/\p a0 a1 a2)(k:∀a0 a1 a2,p a0 a1 a2->C (f a0 a1 a2)):C τ:=by
 obtain⟨a0,a1,a2,e,h⟩:=h;rw[e];exact k _ _ _ h
theorem xi3{A0 A1 A2:Type}{σ:Type}{f:A0->A1->A2->σ}{p:A0->A1->A2->Prop}{τ:σ}(a0:A0)(a1:A1)(a2:A2)(e:τ=f a0 a1 a2)(h:p a0 a1 a2):∃a0 a1 a2,τ=f a0 a1 a2/\p a0 a1 a2:=⟨a0,a1,a2,e,h⟩
theorem xe4{A0 A1 A2 A3:Type}{σ:Type}{f:A0->A1->A2->A3->σ}{p:A0->A1->A2->A3->Prop}{τ:σ}{C:σ->Prop}(h:∃a0 a1 a2 a3,τ=f a0 a1 a2 a3/\p a0 a1 a2 a3)(k:∀a0 a1 a2 a3,p a0 a1 a2 a3->C (f a0 a1 a2 a3)):C τ:=by
 obtain⟨a0,a1,a2,a3,e,h⟩:=h;rw[e];exact k _ _ _ _ h
theorem xi4{A0 A1 A2 A3:Type}{σ:Type}{f:A0->A1->A2->A3->σ}{p:A0->A1->A2->A3->Prop}{τ:σ}(a0:A0)(a1:A1)(a2:A2)(a3:A3)(e:τ=f a0 a1 a2 a3)(h:p a0 a1 a2 a3):∃a0 a1 a2 a3,τ=f a0 a1 a2 a3/\p a0 a1 a2 a3:=⟨a0,a1,a2,a3,e,h⟩
theorem xe5{A0 A1 A2 A3 A4:Type}{σ:Type}{f:A0->A1->A2->A3->A4->σ}{p:A0->A1->A2->A3->A4->Prop}{τ:σ}{C:σ->Prop}(h:∃a0 a1 a2 a3 a4,τ=f a0 a1 a2 a3 a4/\p a0 a1 a2 a3 a4)(k:∀a0 a1 a2 a3 a4,p a0 a1 a2 a3 a4->C (f a0 a1 a2 a3 a4)):C τ:=by
 obtain⟨a0,a1,a2,a3,a4,e,h⟩:=h;rw[e];exact k _ _ _ _ _ h
theorem xe6{A0 A1 A2 A3 A4 A5:Type}{σ:Type}{f:A0->A1->A2->A3->A4->A5->σ}{p:A0->A1->A2->A3->A4->A5->Prop}{τ:σ}{C:σ->Prop}(h:∃a0 a1 a2 a3 a4 a5,τ=f a0 a1 a2 a3 a4 a5/\p a0 a1 a2 a3 a4 a5)(k:∀a0 a1 a2 a3 a4 a5,p a0 a1 a2 a3 a4 a5->C (f a0 a1 a2 a3 a4 a5)):C τ:=by
 obtain⟨a0,a1,a2,a3,a4,a5,e,h⟩:=h;rw[e];exact k _ _ _ _ _ _ h
theorem xi6{A0 A1 A2 A3 A4 A5:Type}{σ:Type}{f:A0->A1->A2->A3->A4->A5->σ}{p:A0->A1->A2->A3->A4->A5->Prop}{τ:σ}(a0:A0)(a1:A1)(a2:A2)(a3:A3)(a4:A4)(a5:A5)(e:τ=f a0 a1 a2 a3 a4 a5)(h:p a0 a1 a2 a3 a4 a5):∃a0 a1 a2 a3 a4 a5,τ=f a0 a1 a2 a3 a4 a5/\p a0 a1 a2 a3 a4 a5:=⟨a0,a1,a2,a3,a4,a5,e,h⟩
theorem xe7{A0 A1 A2 A3 A4 A5 A6:Type}{σ:Type}{f:A0->A1->A2->A3->A4->A5->A6->σ}{p:A0->A1->A2->A3->A4->A5->A6->Prop}{τ:σ}{C:σ->Prop}(h:∃a0 a1 a2 a3 a4 a5 a6,τ=f a0 a1 a2 a3 a4 a5 a6/\p a0 a1 a2 a3 a4 a5 a6)(k:∀a0 a1 a2 a3 a4 a5 a6,p a0 a1 a2 a3 a4 a5 a6->C (f a0 a1 a2 a3 a4 a5 a6)):C τ:=by
 obtain⟨a0,a1,a2,a3,a4,a5,a6,e,h⟩:=h;rw[e];exact k _ _ _ _ _ _ _ h
theorem xi7{A0 A1 A2 A3 A4 A5 A6:Type}{σ:Type}{f:A0->A1->A2->A3->A4->A5->A6->σ}{p:A0->A1->A2->A3->A4->A5->A6->Prop}{τ:σ}(a0:A0)(a1:A1)(a2:A2)(a3:A3)(a4:A4)(a5:A5)(a6:A6)(e:τ=f a0 a1 a2 a3 a4 a5 a6)(h:p a0 a1 a2 a3 a4 a5 a6):∃a0 a1 a2 a3 a4 a5 a6,τ=f a0 a1 a2 a3 a4 a5 a6/\p a0 a1 a2 a3 a4 a5 a6:=⟨a0,a1,a2,a3,a4,a5,a6,e,h⟩
theorem xe8{A0 A1 A2 A3 A4 A5 A6 A7:Type}{σ:Type}{f:A0->A1->A2->A3->A4->A5->A6->A7->σ}{p:A0->A1->A2->A3->A4->A5->A6->A7->Prop}{τ:σ}{C:σ->Prop}(h:∃a0 a1 a2 a3 a4 a5 a6 a7,τ=f a0 a1 a2 a3 a4 a5 a6 a7/\p a0 a1 a2 a3 a4 a5 a6 a7)(k:∀a0 a1 a2 a3 a4 a5 a6 a7,p a0 a1 a2 a3 a4 a5 a6 a7->C (f a0 a1 a2 a3 a4 a5 a6 a7)):C τ:=by
 obtain⟨a0,a1,a2,a3,a4,a5,a6,a7,e,h⟩:=h;rw[e];exact k _ _ _ _ _ _ _ _ h
theorem xe9{A0 A1 A2 A3 A4 A5 A6 A7 A8:Type}{σ:Type}{f:A0->A1->A2->A3->A4->A5->A6->A7->A8->σ}{p:A0->A1->A2->A3->A4->A5->A6->A7->A8->Prop}{τ:σ}{C:σ->Prop}(h:∃a0 a1 a2 a3 a4 a5 a6 a7 a8,τ=f a0 a1 a2 a3 a4 a5 a6 a7 a8/\p a0 a1 a2 a3 a4 a5 a6 a7 a8)(k:∀a0 a1 a2 a3 a4 a5 a6 a7 a8,p a0 a1 a2 a3 a4 a5 a6 a7 a8->C (f a0 a1 a2 a3 a4 a5 a6 a7 a8)):C τ:=by
 obtain⟨a0,a1,a2,a3,a4,a5,a6,a7,a8,e,h⟩:=h;rw[e];exact k _ _ _ _ _ _ _ _ _ h
variable {a0 a1 C:Prop}
theorem ae2(k:a0->a1->C)(h:a0/\a1):C:=k h.1 h.2
variable {a2:Prop}
theorem ae3(k:a0->a1->a2->C)(h:a0/\a1/\a2):C:=k h.1 h.2.1 h.2.2
variable {a3:Prop}
theorem ae4(k:a0->a1->a2->a3->C)(h:a0/\a1/\a2/\a3):C:=k h.1 h.2.1 h.2.2.1 h.2.2.2
variable {a4:Prop}
theorem ae5(k:a0->a1->a2->a3->a4->C)(h:a0/\a1/\a2/\a3/\a4):C:=k h.1 h.2.1 h.2.2.1 h.2.2.2.1 h.2.2.2.2
variable {a5:Prop}
theorem ae6(k:a0->a1->a2->a3->a4->a5->C)(h:a0/\a1/\a2/\a3/\a4/\a5):C:=k h.1 h.2.1 h.2.2.1 h.2.2.2.1 h.2.2.2.2.1 h.2.2.2.2.2
variable {a6:Prop}
theorem ae7(k:a0->a1->a2->a3->a4->a5->a6->C)(h:a0/\a1/\a2/\a3/\a4/\a5/\a6):C:=k h.1 h.2.1 h.2.2.1 h.2.2.2.1 h.2.2.2.2.1 h.2.2.2.2.2.1 h.2.2.2.2.2.2
variable {a7:Prop}
theorem ae8(k:a0->a1->a2->a3->a4->a5->a6->a7->C)(h:a0/\a1/\a2/\a3/\a4/\a5/\a6/\a7):C:=k h.1 h.2.1 h.2.2.1 h.2.2.2.1 h.2.2.2.2.1 h.2.2.2.2.2.1 h.2.2.2.2.2.2.1 h.2.2.2.2.2.2.2
variable {a8:Prop}
theorem ae9(k:a0->a1->a2->a3->a4->a5->a6->a7->a8->C)(h:a0/\a1/\a2/\a3/\a4/\a5/\a6/\a7/\a8):C:=k h.1 h.2.1 h.2.2.1 h.2.2.2.1 h.2.2.2.2.1 h.2.2.2.2.2.1 h.2.2.2.2.2.2.1 h.2.2.2.2.2.2.2.1 h.2.2.2.2.2.2.2.2
variable {a9:Prop}
theorem ae10(k:a0->a1->a2->a3->a4->a5->a6->a7->a8->a9->C)(h:a0/\a1/\a2/\a3/\a4/\a5/\a6/\a7/\a8/\a9):C:=k h.1 h.2.1 h.2.2.1 h.2.2.2.1 h.2.2.2.2.1 h.2.2.2.2.2.1 h.2.2.2.2.2.2.1 h.2.2.2.2.2.2.2.1 h.2.2.2.2.2.2.2.2.1 h.2.2.2.2.2.2.2.2.2
theorem ae11{a10:Prop}(k:a0->a1->a2->a3->a4->a5->a6->a7->a8->a9->a10->C)(h:a0/\a1/\a2/\a3/\a4/\a5/\a6/\a7/\a8/\a9/\a10):C:=k h.1 h.2.1 h.2.2.1 h.2.2.2.1 h.2.2.2.2.1 h.2.2.2.2.2.1 h.2.2.2.2.2.2.1 h.2.2.2.2.2.2.2.1 h.2.2.2.2.2.2.2.2.1 h.2.2.2.2.2.2.2.2.2.1 h.2.2.2.2.2.2.2.2.2.2
end L3
namespace L3
open PySem PySem.Spec PyProof.Rows L2
variable {X:Cx}
def qXm:R3:=λx y G Q=>∃b c,x= .bl b/\y= .bl c/\Q (.bl (!(b == c))) G
theorem uUw:Op3 X (compareOp .IsNot) qXm:=by
 rintro pins s τ G H x y v u Q I ⟨a,ra,rv⟩ ⟨b,rb,ru⟩ ⟨p,q,ex,ey,h⟩;subst ex;subst ey;cases (show a= .bl p from ra);cases (show b= .bl q from rb)
 cases rv;cases ru;refine (show wpAny _ _ (isSame (.bool p) (.bool q) >>= λr=>pure (Value.bool (!r))) _ _ s from lJa (wpAny_isSame_plain (by cases p<;>cases q<;>rfl) (lJd ?_)))
 exact⟨.bl (!(p == q)),G,H,.refl H,I,⟨.bl (!(p == q)),rfl,by cases p<;>cases q<;>rfl⟩,h⟩
section
variable {P:Program}{w:World}{A:Around}{E:Value->Shared->Prop}{s:Shared}{d it:Addr}{o:Obj}{es:Array DictEntry}{ep i:Nat}
end
end L3
namespace L3
open PySem
noncomputable def itr{α:Type}(f:α->α):Nat->α->α
 | 0,a=>a
 | n+1,a=>itr f n (f a)
theorem jK0{α:Type}(f:α->α):∀(m n:Nat)(a:α),itr f (m+n) a=itr f n (itr f m a)
 | 0,n,a=>by rw[lQ3];rfl
 | m+1,n,a=>by rw[Nat.add_right_comm];exact jK0 f m n (f a)
theorem jXv{α:Type}(f:α->α)(n:Nat)(a:α):itr f (n+1) a=f (itr f n a):=jK0 f n 1 a
namespace St
open SetTable
variable {xs:Array Nat}
theorem getD_at{k d:Nat}(h:k<xs.size):xs.getD k d=xs[k]:=by simp[Array.getD,h]
theorem uKs(xs:Array Nat)(j:Nat)(hs:∀a b:Nat,a<b->∀(hb:b<xs.size),xs.getD a 0<xs[b]):∀(fuel lo hi:Nat),hi<=xs.size->lo<=hi->hi-lo<=fuel->(∀k,k<lo->xs.getD k 0<j)->(∀k (h:k<xs.size),hi<=k->j<=xs[k])->
  (below.go xs j fuel lo hi)<=xs.size/\(∀k,k<below.go xs j fuel lo hi->xs.getD k 0<j)/\(∀k (h:k<xs.size),below.go xs j fuel lo hi<=k->j<=xs[k])
 | 0,lo,hi,h1,h2,h3,h4,h5=>by
  have e:hi=lo:=by omega
  subst e;exact⟨h1,h4,h5⟩
 | fuel+1,lo,hi,h1,h2,h3,h4,h5=>by
  unfold below.go
  by_cases c:lo<hi
  .rw[lJc c];have hm:(lo+hi) / 2<xs.size:=by omega
   by_cases d:xs.getD ((lo+hi) / 2) j<j
   .simp only[d,lKt];refine uKs xs j hs fuel _ hi h1 (by omega) (by omega) (λk hk=> ?_) h5
    rw[getD_at hm] at d
    by_cases e:k=(lo+hi) / 2
    .subst e;rw[getD_at hm];exact d
    .exact lYa (hs k _ (by omega) hm) d
   .simp only[d,lKa];refine uKs xs j hs fuel lo _ (by omega) (by omega) (by omega) h4 λk h hk=> ?_
    rw[getD_at hm] at d
    by_cases e:k=(lo+hi) / 2
    .subst e;omega
    .have:=hs ((lo+hi) / 2) k (by omega) h
     rw[getD_at hm] at this;omega
  .rw[lJb c];have e:hi=lo:=by omega
   subst e;exact⟨h1,h4,h5⟩
def Ris(xs:Array Nat):Prop:=xs.toList.Pairwise (· < ·)
theorem Ris.lt(h:Ris xs)(a b:Nat)(hab:a<b)(hb:b<xs.size):xs.getD a 0<xs[b]:=by
 rw[getD_at (by omega)]
 have:=lYe.mp h a b (by simpa using (by omega:a<xs.size)) (by simpa using hb) hab
 simpa using this
theorem jZb(h:Ris xs)(j:Nat):below xs j<=xs.size/\(∀k,k<below xs j->xs.getD k 0<j)/\(∀k (h:k<xs.size),below xs j<=k->j<=xs[k]):=
 uKs xs j h.lt xs.size 0 xs.size (lJh _) (lJn _) (lJh _) (λk hk=>absurd hk (lKs _)) λk h1 h2=>absurd h1 (by omega)
variable {i:Nat}
theorem kZs(h:Ris xs)(hi:i<xs.size):below xs xs[i]=i:=by
 obtain⟨h1,h2,h3⟩:=jZb h xs[i]
 rcases lXw (below xs xs[i]) i with c | c | c
 .have a:=h3 (below xs xs[i]) (by omega) (lJh _)
  have b:=h.lt _ i c hi;rw[getD_at (by omega)] at b
  omega
 .exact c
 .have:=h2 i c;rw[getD_at hi] at this;omega
theorem below_next(h:Ris xs)(hi:i<xs.size):below xs (xs[i]+1)=i+1:=by
 obtain⟨h1,h2,h3⟩:=jZb h (xs[i]+1)
 rcases lXw (below xs (xs[i]+1)) (i+1) with c | c | c
 .have:=h3 i hi (by omega)
  omega
 .exact c
 .have a:=h2 (i+1) c;have hi1:i+1<xs.size:=by omega
  rw[getD_at hi1] at a;have b:=h.lt i (i+1) (by omega) hi1
  rw[getD_at hi] at b;omega
theorem below_zero(h:Ris xs):below xs 0=0:=by
 obtain⟨h1,h2,h3⟩:=jZb h 0
 rcases lZ1 (below xs 0) with c | c
 .exact c
 .exact absurd (h2 0 c) (lKs _)
variable {j:Nat}
theorem insertAt_ris(h:Ris xs)(hj:j∉xs.toList):Ris (insertAt xs (below xs j) j):=by
 obtain⟨h1,h2,h3⟩:=jZb h j;unfold Ris;rw[SetTable.toList_insertAt,lKh,List.pairwise_cons]
 have up:∀b,b∈xs.toList.drop (below xs j)->j<b:=by
  intro b hb;obtain⟨k,hk,e⟩:=lVy hb;rw[lXp] at hk;rw[lZ2] at e;have hk':below xs j+k<xs.size:=by simp at hk;omega
  have:=h3 _ hk' (by omega)
  have e':xs[below xs j+k]=b:=by simpa using e
  have ne:b≠j:=λz=>hj (z▸lVn hb)
  omega
 have dn:∀a,a∈xs.toList.take (below xs j)->a<j:=by
  intro a ha;obtain⟨k,hk,e⟩:=lVy ha;rw[lQc] at hk;rw[lYy] at e;have:=h2 k (by omega)
  rw[getD_at (by simp at hk;omega)] at this
  have e':xs[k]'(by simp at hk;omega)=a:=by simpa using e
  omega
 refine⟨List.Pairwise.sublist (lVg _ _) h,⟨up,List.Pairwise.sublist (lVo _ _) h⟩,?_⟩;intro a ha b hb
 (rcases lJp.mp hb with rfl | hb)
 .exact dn a ha
 .exact lYa (dn a ha) (up b hb)
theorem has_nil(j:Nat):has #[] j=false:=rfl
theorem slot_cases{t:SetTable}(hd:t.dummies= #[])(j:Nat):(t.slot j= .empty/\(Ris t.place->j∉t.place.toList))\/∃i,t.slot j= .live i/\∃h:i<t.place.size,t.place[i]=j/\i=below t.place j:=by
 unfold SetTable.slot
 by_cases c:(t.place[below t.place j]? == some j)=true
 .right
  refine⟨below t.place j,?_,?_⟩
  .simp only[c,lKt]
  .have c':=eq_of_beq c;obtain⟨h,e⟩:=mJ3.mp c';exact⟨h,e,rfl⟩
 .left
  refine⟨?_,λhr hm=> ?_⟩
  .rw[hd];simp only[c,has_nil,lKg,lKa]
  .obtain⟨k,hk,e⟩:=lVy hm;have hk':k<t.place.size:=by simpa using hk
   have e':t.place[k]=j:=by simpa using e
   apply c;rw[<-e',kZs hr hk',lK4 hk'];exact beq_self_eq_true _
theorem slot_empty{t:SetTable}(hd:t.dummies= #[])(h:j∉t.place.toList):t.slot j= .empty:=by
 rcases slot_cases hd j with c | ⟨i,_,hi,e,_⟩
 .exact c.1
 .exact absurd (by rw[<-e];simp) h
theorem slot_live{t:SetTable}(hr:Ris t.place)(hi:i<t.place.size):t.slot t.place[i]= .live i:=by
 unfold SetTable.slot;rw[kZs hr hi];simp[hi]
theorem qKv(mask i:Nat):runEnd mask i-i<=9:=by unfold runEnd;split<;>omega
def kKo(t:SetTable)(p:Probe):Prop:=p.j=p.i/\p.more=runEnd t.mask p.i-p.i
theorem jZe(t:SetTable):∀(m:Nat)(p:Probe),m<=p.more->itr t.advance m p={p with j:=p.j+m,more:=p.more-m}
 | 0,p,_=>by cases p;rfl
 | m+1,p,h=>by
  show itr t.advance m (t.advance p)=_
  have e:t.advance p={p with j:=p.j+1,more:=p.more-1}:=by unfold SetTable.advance;rw[lJc (by omega)]
  rw[e,jZe t m _ (by show m<=p.more-1;omega)]
  simp only[Probe.mk.injEq,and_true,true_and];omega
theorem qY9(t:SetTable)(p:Probe):∃m,m<=p.more+1/\kKo t (itr t.advance m p)/\(itr t.advance m p).i=(leap t.mask p.i p.perturb).1/\(itr t.advance m p).perturb=p.perturb / 32:=by
 refine⟨p.more+1,lJh _,?_⟩;rw[jXv,jZe t p.more p (lJh _)];unfold SetTable.advance;rw[lJb (by show ¬ p.more-p.more>0;omega)]
 exact⟨⟨rfl,rfl⟩,rfl,rfl⟩
noncomputable def lp(mask:Nat)(x:Nat×Nat):Nat×Nat:=leap mask x.1 x.2
theorem kJj(t:SetTable):∀(k:Nat)(p:Probe),kKo t p->∃m,m<=10*k/\kKo t (itr t.advance m p)/\((itr t.advance m p).i,(itr t.advance m p).perturb)=itr (lp t.mask) k (p.i,p.perturb)
 | 0,p,h=>⟨0,lJh _,h,rfl⟩
 | k+1,p,h=>by
  obtain⟨m,h1,h2,h3,h4⟩:=qY9 t p;obtain⟨m',h1',h2',h3'⟩:=kJj t k _ h2;have hm:p.more<=9:=by rw[h.2];exact qKv _ _
  refine⟨m+m',by omega,?_,?_⟩
  .rw[jK0];exact h2'
  .rw[jK0,h3',h3,h4];rfl
theorem kXd(mask:Nat):∀(k:Nat)(x:Nat×Nat),(itr (lp mask) k x).2=x.2 / 32^k
 | 0,x=>by simp[itr]
 | k+1,x=>by
  show (itr (lp mask) k (lp mask x)).2=_
  rw[kXd mask k];show x.2 / 32 / 32^k=_
  rw[Nat.div_div_eq_div_mul,Nat.pow_succ,lX9]
noncomputable def five(mask i:Nat):Nat:=(i*5+1)%(mask+1)
theorem kXe(mask:Nat):∀(k i:Nat),itr (lp mask) k (i,0)=(itr (five mask) k i,0)
 | 0,i=>rfl
 | k+1,i=>by
  show itr (lp mask) k (lp mask (i,0))=_
  have e:lp mask (i,0)=(five mask i,0):=by simp[lp,leap,five]
  rw[e];exact kXe mask k _
noncomputable def orb(mask:Nat):Nat->Nat->List Nat
 | 0,_=>[]
 | n+1,i=>i::orb mask n (five mask i)
theorem qQq(mask:Nat):∀(n i k:Nat),k<n->(orb mask n i)[k]? =some (itr (five mask) k i)
 | n+1,i,0,_=>rfl
 | n+1,i,k+1,h=>by
  show (orb mask n (five mask i))[k]? =_
  exact qQq mask n _ k (by omega)
theorem kV3(mask:Nat):∀(n i:Nat),(orb mask n i).length=n
 | 0,_=>rfl
 | n+1,i=>by simp[orb,kV3 mask n]
variable {mask:Nat}
theorem qQp{n:Nat}(h:j∈orb mask n i):∃k,k<n/\itr (five mask) k i=j:=by
 obtain⟨k,hk,e⟩:=lVy h;rw[kV3] at hk;refine⟨k,hk,?_⟩;have:=qQq mask n i k hk;rw[lJj (by rw[kV3];exact hk),e] at this
 (exact (lJ0 this).symm)
def Full(mask:Nat):Prop:=(∀j,j<=mask->∃k,k<=mask/\itr (five mask) k 0=j)/\itr (five mask) (mask+1) 0=0
theorem kXk(h:(List.range (mask+1)).all (λj=>(orb mask (mask+1) 0).contains j)=true)(h0:itr (five mask) (mask+1) 0=0):Full mask:=by
 refine⟨λj hj=> ?_,h0⟩
 rw[lVl] at h;have:=h j (lKc.mpr (by omega))
 obtain⟨k,hk,e⟩:=qQp (List.contains_iff_mem.mp this);exact⟨k,by omega,e⟩
theorem full7:Full 7:=kXk (by decide +kernel) (by decide +kernel)
theorem full31:Full 31:=kXk (by decide +kernel) (by decide +kernel)
theorem full127:Full 127:=kXk (by decide +kernel) (by decide +kernel)
noncomputable def bts(mask:Nat):Nat->Nat->Nat->Nat
 | 0,_,acc=>acc
 | n+1,i,acc=>bts mask n (five mask i) (acc ||| 2^i)
theorem qVl{mask j:Nat}:∀{n i acc:Nat},(bts mask n i acc).testBit j=true->acc.testBit j=true\/j∈orb mask n i
 | 0,i,acc,h=> .inl h
 | n+1,i,acc,h=>by
  rcases qVl (n:=n) h with h | h
  .rw[Nat.testBit_or,Bool.or_eq_true] at h
   rcases h with h | h
   .exact .inl h
   .rw[Nat.testBit_two_pow] at h;exact .inr (by rw[show j=i from (mJt h).symm];exact lJ6 ..)
  .exact .inr (lKd _ h)
theorem kZc(h:bts mask (mask+1) 0 0=2^(mask+1)-1)(h0:itr (five mask) (mask+1) 0=0):Full mask:=by
 refine⟨λj hj=> ?_,h0⟩
 have hb:(bts mask (mask+1) 0 0).testBit j=true:=by rw[h,Nat.testBit_two_pow_sub_one];exact lJ9 (by omega)
 rcases qVl hb with z | z
 .rw[Nat.zero_testBit] at z;cases z
 .obtain⟨k,hk,e⟩:=qQp z;exact⟨k,by omega,e⟩
theorem full511:Full 511:=kZc (by decide +kernel) (by decide +kernel)
theorem full2047:Full 2047:=kZc (by decide +kernel) (by decide +kernel)
theorem Full.all(h:Full mask)(hi:i<=mask)(hj:j<=mask):∃k,k<=mask/\itr (five mask) k i=j:=by
 obtain⟨a,ha,ea⟩:=h.1 i hi;obtain⟨b,hb,eb⟩:=h.1 j hj
 by_cases c:a<=b
 .refine⟨b-a,by omega,?_⟩
  rw[<-ea,<-jK0,show a+(b-a)=b by omega,eb]
 .refine⟨mask+1-a+b,by omega,?_⟩
  rw[<-ea,<-jK0,show a+(mask+1-a+b)=mask+1+b by omega,jK0,h.2,eb]
theorem qVm(h:Int):bits h<2^64:=by
 unfold bits;have h1:=lV6 h (show (2^64:Int)≠0 by decide)
 have h2:=lV7 h (show (0:Int)<2^64 by decide)
 omega
theorem kJ2(t:SetTable)(h:Int):kKo t (t.probeStart h):=⟨rfl,rfl⟩
theorem met{t:SetTable}(hf:Full t.mask)(h:Int)(hj:j<=t.mask):∃n,n<=10*(t.mask+14)/\(itr t.advance n (t.probeStart h)).j=j:=by
 obtain⟨m,h1,h2,h3⟩:=kJj t 13 _ (kJ2 t h)
 have hp:(itr t.advance m (t.probeStart h)).perturb=0:=by
  have e:=lKl Prod.snd h3;rw[kXd] at e;refine e.trans (lYz (lKi (qVm h) (by decide)))
 have hi:(itr t.advance m (t.probeStart h)).i<=t.mask:=by
  have e:=lKl Prod.fst h3;rw[jXv] at e
  have:(lp t.mask (itr (lp t.mask) 12 ((t.probeStart h).i,(t.probeStart h).perturb))).1<=t.mask:=by
   unfold lp leap;exact lQf (lQ4 _ (lXu _))
  rw[<-e] at this;exact this
 obtain⟨k,hk,ek⟩:=hf.all hi hj;obtain⟨m',h1',h2',h3'⟩:=kJj t k _ h2;refine⟨m+m',by omega,?_⟩
 rw[jK0,h2'.1];rw[hp,kXe] at h3';exact (lKl Prod.fst h3').trans ek
theorem adv_dummy(t:SetTable)(p:Probe):(t.advance p).dummy=p.dummy:=by unfold SetTable.advance;split<;>rfl
def Miss(t:SetTable)(hashAt:Nat->Int)(h:Int)(j:Nat):Prop:=∃i,t.slot j= .live i/\hashAt i≠h
theorem pgo_ok{t:SetTable}(hd:t.dummies= #[])(hashAt:Nat->Int)(h:Int):∀(n fuel:Nat)(p:Probe),t.slot (itr t.advance n p).j= .empty->n<fuel->p.dummy=none->
  (∃m,m<=n/\t.slot (itr t.advance m p).j= .empty/\(∀k,k<m->Miss t hashAt h (itr t.advance k p).j)/\probe.go t hashAt h fuel p=some (.empty (itr t.advance m p).j none))\/
  (∃m i,m<n/\t.slot (itr t.advance m p).j= .live i/\hashAt i=h/\(∀k,k<m->Miss t hashAt h (itr t.advance k p).j)/\probe.go t hashAt h fuel p=some (.candidate (itr t.advance m p).j i (itr t.advance (m+1) p)))
 | n,0,p,_,hn,_=>absurd hn (lKs _)
 | n,fuel+1,p,he,hn,hp=>by
  rcases slot_cases hd p.j with ⟨c,_⟩ | ⟨i,c,_⟩
  .left
   refine⟨0,lJn _,c,λk hk=>absurd hk (lKs _),?_⟩
   unfold probe.go;rw[c,hp];rfl
  .by_cases q:hashAt i=h
   .right
    have n0:n≠0:=by rintro rfl;rw[show itr t.advance 0 p=p from rfl,c] at he;cases he
    refine⟨0,i,by omega,c,q,λk hk=>absurd hk (lKs _),?_⟩
    unfold probe.go;simp only[c,q,beq_self_eq_true,lKt];rfl
   .have n0:n≠0:=by rintro rfl;rw[show itr t.advance 0 p=p from rfl,c] at he;cases he
    obtain⟨n',rfl⟩:∃n',n=n'+1:=⟨n-1,by omega⟩
    have e:probe.go t hashAt h (fuel+1) p=probe.go t hashAt h fuel (t.advance p):=by
     conv=>lhs;unfold probe.go
     have q':(hashAt i == h)=false:=by simpa using q
     simp only[c,q',lKg,lKa]
    have ih:=pgo_ok hd hashAt h n' fuel (t.advance p) he (by omega) (by rw[adv_dummy];exact hp)
    rw[e]
    rcases ih with ⟨m,h1,h2,h3,h4⟩ | ⟨m,i',h1,h2,h3,h4,h5⟩
    .left
     refine⟨m+1,by omega,h2,λk hk=> ?_,h4⟩
     cases k with
     | zero=>exact⟨i,c,q⟩
     | succ k=>exact h3 k (by omega)
    .right
     refine⟨m+1,i',by omega,h2,h3,λk hk=> ?_,h5⟩
     cases k with
     | zero=>exact⟨i,c,q⟩
     | succ k=>exact h4 k (by omega)
end St
end L3
namespace L3
open PySem
namespace St
open SetTable
theorem fm_congr{α β:Type}{f g:α->Option β}:∀{l:List α},(∀x,x∈l->f x=g x)->l.filterMap f=l.filterMap g
 | [],_=>rfl
 | a::l,h=>by rw[lVu,lVu,h a (lJ6 ..),fm_congr λx hx=>h x (lKd _ hx)]
theorem jXy{g f:Nat->Option Nat}{j k:Nat}(hf:f j=none)(hg:g j=some k)(he:∀i,i≠j->g i=f i):∀{l:List Nat},l.Nodup->j∈l->(l.filterMap g).Perm (k::l.filterMap f)
 | [],_,h=>absurd h (lKr)
 | a::l,hn,h=>by
  rw[lKz] at hn
  by_cases e:a=j
  .subst e;rw[lXx hg,lZ3 hf];refine List.Perm.cons _ (List.Perm.of_eq (fm_congr λx hx=>he x ?_))
   rintro rfl;exact hn.1 hx
  .have ih:=jXy hf hg he hn.2 ((lJp.mp h).resolve_left (λz=>e z.symm))
   cases q:f a with
   | none=>rw[lZ3 (by rw[he a e];exact q),lZ3 q];exact ih
   | some b=>
    rw[lXx (by rw[he a e];exact q),lXx q]
    exact (List.Perm.cons b ih).trans (List.Perm.swap _ _ _)
noncomputable def jK9(owner:Array (Option Nat))(j:Nat):Option Nat:=owner.getD j none
def uV1(t:SetTable)(owner:Array (Option Nat))(h:Int)(j:Nat):Prop:=∃n,(itr t.advance n (t.probeStart h)).j=j/\∀k,k<n->jK9 owner (itr t.advance k (t.probeStart h)).j≠none
structure Own (t:SetTable) (hashes:List Int) (owner:Array (Option Nat)) (n:Nat):Prop where
 size:owner.size=t.mask+1
 perm:((List.range (t.mask+1)).filterMap (jK9 owner)).Perm (List.range n)
 chain:∀j i,jK9 owner j=some i->∃h,hashes[i]? =some h/\uV1 t owner h j
variable {mask:Nat}
theorem uKc{x:Nat×Nat}(hx:x.1<=mask):∀(k:Nat),(itr (lp mask) k x).1<=mask
 | 0=>hx
 | k+1=>by
  rw[jXv];unfold lp leap;exact lQf (lQ4 _ (lXu _))
theorem kVo{i:Nat}(h:i<=mask):runEnd mask i<=mask:=by unfold runEnd;split<;>omega
theorem qKw(mask i:Nat):i<=runEnd mask i:=by unfold runEnd;split<;>omega
theorem qUo{t:SetTable}{owner:Array (Option Nat)}(hz:owner.size=t.mask+1):∀(fuel:Nat)(p:Probe),kKo t p->p.i<=t.mask->∀K,K<fuel->jK9 owner (itr (lp t.mask) K (p.i,p.perturb)).1=none->
  ∃n j,layClean.free t.mask owner fuel p.i p.perturb=some j/\(itr t.advance n p).j=j/\j<=t.mask/\jK9 owner j=none/\∀k,k<n->jK9 owner (itr t.advance k p).j≠none
 | 0,p,_,_,K,hK,_=>absurd hK (lKs _)
 | fuel+1,p,hl,hi,K,hK,he=>by
  have hr:=kVo hi;have hg:=qKw t.mask p.i
  have sl:∀k,k<runEnd t.mask p.i+1-p.i->((owner.getD (p.i+k) (some 0)).isNone=true↔jK9 owner (p.i+k)=none):=by
   intro k hk;unfold jK9;have:p.i+k<owner.size:=by omega
   simp[Array.getD,this]
  have pj:∀k,k<runEnd t.mask p.i+1-p.i->(itr t.advance k p).j=p.i+k:=by
   intro k hk;rw[jZe t k p (by rw[hl.2];omega)]
   show p.j+k=_
   rw[hl.1]
  unfold layClean.free;cases q:(List.range (runEnd t.mask p.i+1-p.i)).find? (λk=>(owner.getD (p.i+k) (some 0)).isNone) with
  | some k=>
   obtain⟨h1,as,bs,h2,h3⟩:=List.find?_eq_some_iff_append.mp q
   have hk:k<runEnd t.mask p.i+1-p.i:=by
    have:k∈List.range (runEnd t.mask p.i+1-p.i):=by rw[h2];simp
    exact lKc.mp this
   have ha:∀x,x<k->x∈as:=by
    intro x hx
    have e:as.length=k:=by
     have e1:(List.range (runEnd t.mask p.i+1-p.i))[as.length]? =some k:=by rw[h2];simp
     rw[lXy (by have:=lKl List.length h2;simp at this;omega)] at e1
     exact lJ0 e1
    have e2:(List.range (runEnd t.mask p.i+1-p.i))[x]? =as[x]? :=by rw[h2,lKq (by omega)]
    rw[lXy (by omega)] at e2
    exact lJo e2.symm
   refine⟨k,p.i+k,rfl,pj k hk,by omega,(sl k hk).mp h1,λx hx=> ?_⟩
   rw[pj x (by omega)]
   intro z;have:=h3 x (ha x hx);rw[(sl x (by omega)).mpr z] at this
   exact absurd this (by decide)
  | none=>
   have none_:∀k,k<runEnd t.mask p.i+1-p.i->jK9 owner (p.i+k)≠none:=by
    intro k hk z;have:=List.find?_eq_none.mp q k (lKc.mpr hk);exact this ((sl k hk).mpr z)
   have K0:K≠0:=by
    rintro rfl;exact none_ 0 (by omega) he
   obtain⟨K',rfl⟩:∃K',K=K'+1:=⟨K-1,by omega⟩
   have hm:p.more=runEnd t.mask p.i-p.i:=hl.2
   have e1:itr t.advance (p.more+1) p={p with j:=(leap t.mask p.i p.perturb).1,more:=runEnd t.mask (leap t.mask p.i p.perturb).1-(leap t.mask p.i p.perturb).1,i:=(leap t.mask p.i p.perturb).1,perturb:=(leap t.mask p.i p.perturb).2}:=by
    rw[jXv,jZe t p.more p (lJh _)];unfold SetTable.advance;rw[lJb (by show ¬ p.more-p.more>0;omega)]
   have hl2:kKo t (itr t.advance (p.more+1) p):=by rw[e1];exact⟨rfl,rfl⟩
   have hi2:(itr t.advance (p.more+1) p).i<=t.mask:=by
    rw[e1];exact lQf (lQ4 _ (lXu _))
   obtain⟨n,j,g1,g2,g3,g4,g5⟩:=qUo hz fuel _ hl2 hi2 K' (by omega) (by rw[e1];exact he)
   refine⟨p.more+1+n,j,?_,?_,g3,g4,λk hk=> ?_⟩
   .rw[e1] at g1;exact g1
   .rw[jK0];exact g2
   .by_cases c:k<p.more+1
    .rw[pj k (by omega)];exact none_ k (by omega)
    .have:=g5 (k-(p.more+1)) (by omega)
     rw[<-jK0,show p.more+1+(k-(p.more+1))=k by omega] at this
     exact this
variable {owner:Array (Option Nat)}
theorem jXi{j k:Nat}(hj:j<owner.size)(i:Nat):jK9 (owner.setIfInBounds j (some k)) i=if i=j then some k else jK9 owner i:=by
 unfold jK9;rw[lVp,lVp,lY0]
 by_cases e:j=i
 .subst e;simp[hj]
 .rw[lJb e,lJb (λz=>e z.symm)]
variable {n:Nat}
theorem qUm{t:SetTable}(hf:Full t.mask){hashes:List Int}(o:Own t hashes owner n)(hn:n<=t.mask)(h:Int):∃K,K<turns t.mask/\jK9 owner (itr (lp t.mask) K ((t.probeStart h).i,(t.probeStart h).perturb)).1=none:=by
 have hex:∃j,j<=t.mask/\jK9 owner j=none:=by
  apply lVd;intro q
  have all:∀j,j∈List.range (t.mask+1)->(jK9 owner j).isSome=true:=by
   intro j hj;cases e:jK9 owner j with
   | none=>exact absurd ⟨j,by have:=lKc.mp hj;omega,e⟩ q
   | some _=>rfl
  have len:∀l:List Nat,(∀j,j∈l->(jK9 owner j).isSome=true)->(l.filterMap (jK9 owner)).length=l.length:=by
   intro l hl
   induction l with
   | nil=>rfl
   | cons a l ih=>
    obtain⟨b,hb⟩:=lXn.mp (hl a (lJ6 ..));rw[lXx hb,lKk,lKk,ih λj hj=>hl j (lKd _ hj)]
  have:=o.perm.length_eq;rw[len _ all,lK7,lK7] at this;omega
 obtain⟨j,hj,e⟩:=hex;have hs:(t.probeStart h).i<=t.mask:=lQf (lQ4 _ (lXu _));have h13:=kXd t.mask 13 ((t.probeStart h).i,(t.probeStart h).perturb);have z:(t.probeStart h).perturb / 32^13=0:=lYz (lKi (qVm h) (by decide))
 obtain⟨k,hk,ek⟩:=hf.all (uKc (x:=((t.probeStart h).i,(t.probeStart h).perturb)) hs 13) hj;refine⟨13+k,by unfold turns;omega,?_⟩
 rw[jK0]
 generalize hy:itr (lp t.mask) 13 ((t.probeStart h).i,(t.probeStart h).perturb)=y at h13 ek
 obtain⟨y1,y2⟩:=y;have y0:y2=0:=h13.trans z;subst y0;rw[kXe,ek];exact e
theorem qXu{t:SetTable}(hf:Full t.mask){hashes:List Int}{h:Int}(o:Own t hashes owner n)(hn:n<t.mask+1)(hh:hashes[n]? =some h)(hn':n<=t.mask):
  ∃j,layClean.free t.mask owner (turns t.mask) (bits h%(t.mask+1)) (bits h)=some j/\Own t hashes (owner.setIfInBounds j (some n)) (n+1):=by
 obtain⟨K,hK,eK⟩:=qUm hf o hn' h;have hs:(t.probeStart h).i<=t.mask:=lQf (lQ4 _ (lXu _));obtain⟨m,j,g1,g2,g3,g4,g5⟩:=qUo o.size (turns t.mask) (t.probeStart h) (kJ2 t h) hs K hK eK;have hj:j<owner.size:=by rw[o.size];omega
 have grow:∀i,jK9 owner i≠none->jK9 (owner.setIfInBounds j (some n)) i≠none:=by
  intro i hi;rw[jXi hj];split
  .simp
  .exact hi
 refine⟨j,g1,by rw[lZ4];exact o.size,?_,?_⟩
 .refine (jXy (f:=jK9 owner) (j:=j) (k:=n) g4 (by rw[jXi hj,lJc rfl]) (λi hi=>by rw[jXi hj,lJb hi]) (lV8) (lKc.mpr (by omega))).trans ?_
  rw[lKv (n:=n)];exact (List.Perm.cons n o.perm).trans (List.perm_append_singleton n _).symm
 .intro i x hx;rw[jXi hj] at hx
  by_cases e:i=j
  .subst e;rw[lJc rfl] at hx;cases hx;exact⟨h,hh,m,g2,λk hk=>grow _ (g5 k hk)⟩
  .rw[lJb e] at hx;obtain⟨h',e1,n',e2,e3⟩:=o.chain i x hx;exact⟨h',e1,n',e2,λk hk=>grow _ (e3 k hk)⟩
theorem qQo(t:SetTable)(hashes:List Int):Own t hashes (Array.replicate (t.mask+1) none) 0:=by
 have z:∀j,jK9 (Array.replicate (t.mask+1) none) j=none:=by
  intro j;unfold jK9;rw[lVp,Array.getElem?_replicate];split<;>rfl
 refine⟨by simp,?_,λj i h=>by rw[z] at h;cases h⟩
 have:(List.range (t.mask+1)).filterMap (jK9 (Array.replicate (t.mask+1) none))=[]:=by
  rw[List.filterMap_eq_nil_iff];intro j _;exact z j
 rw[this];exact List.Perm.nil
theorem qUp{t:SetTable}(hf:Full t.mask)(all:List Int)(hn:all.length<=t.mask):∀(l:List Int)(done:List Int)(owner:Array (Option Nat)),all=done++l->Own t all owner done.length->
  ∃owner',l.foldl (λ(acc:Option (Array (Option Nat)×Nat)) h=>do
   let (owner,k) <-acc
   let j <-layClean.free t.mask owner (turns t.mask) (bits h%(t.mask+1)) (bits h)
   pure (owner.setIfInBounds j (some k),k+1)) (some (owner,done.length))=some (owner',all.length)/\Own t all owner' all.length
 | [],done,owner,e,o=>by
  rw[lVe] at e;subst e;exact⟨owner,rfl,o⟩
 | h::l,done,owner,e,o=>by
  have hlt:done.length<all.length:=by rw[e];simp
  obtain⟨j,h1,o'⟩:=qXu (h:=h) hf o (by omega) (by rw[e];simp) (by omega)
  have e':all=(done++[h])++l:=by rw[e];simp
  obtain⟨owner',h2,h3⟩:=qUp hf all hn l (done++[h]) _ e' (by simpa using o')
  refine⟨owner',?_,h3⟩;rw[lZx]
  have:(do
   let (owner,k) <-some (owner,done.length)
   let j <-layClean.free t.mask owner (turns t.mask) (bits h%(t.mask+1)) (bits h)
   pure (owner.setIfInBounds j (some k),k+1))=some (owner.setIfInBounds j (some done.length),done.length+1):=by
   show (layClean.free t.mask owner (turns t.mask) (bits h%(t.mask+1)) (bits h)).bind _=_
   rw[h1];rfl
  rw[this]
  simpa using h2
theorem kXg{t:SetTable}(hf:Full t.mask)(hashes:Array Int)(hn:hashes.size<=t.mask):∃owner,layClean t.mask hashes=some owner/\Own t hashes.toList owner hashes.size:=by
 obtain⟨owner,h1,h2⟩:=qUp hf hashes.toList (by simpa using hn) hashes.toList [] _ rfl (qQo t _)
 refine⟨owner,?_,by simpa using h2⟩
 unfold layClean;rw[<-Array.foldl_toList];have h1':=h1;simp only[lQl] at h1';rw[h1'];rfl
def Chain(t:SetTable)(h:Int)(j:Nat):Prop:=∃n,(itr t.advance n (t.probeStart h)).j=j/\∀k,k<n->(itr t.advance k (t.probeStart h)).j∈t.place.toList
structure Good (t:SetTable) (hs:List Int):Prop where
 len:t.place.size=hs.length
 ris:Ris t.place
 dum:t.dummies= #[]
 chain:∀x,x∈t.place.toList.zip hs->Chain t x.2 x.1
theorem laid_ok(hf:Full mask)(finger moves:Nat)(led plain:Bool)(hashes:Array Int)(hn:hashes.size<=mask):
  ∃t order,laid mask finger moves led plain hashes=some (t,order)/\t.mask=mask/\t.led=led/\t.plain=plain/\order.toList.Perm (List.range hashes.size)/\Good t (order.toList.filterMap (hashes[·]?)):=by
 let t0:SetTable:={mask:=mask,place:= #[],dummies:= #[],finger:=finger,led:=led,moves:=moves,plain:=plain}
 obtain⟨owner,h1,o⟩:=kXg (t:=t0) hf hashes hn;have hl:layClean mask hashes=some owner:=h1
 let live:=(List.range (mask+1)).filterMap λj=>((owner.getD j none).map (j,·))
 refine⟨{mask:=mask,place:=(live.map (·.1)).toArray,dummies:= #[],finger:=finger,led:=led,moves:=moves,plain:=plain},(live.map (·.2)).toArray,?_,rfl,rfl,rfl,?_,?_⟩
 .unfold laid;rw[hl];rfl
 .have e:live.map (·.2)=(List.range (mask+1)).filterMap (jK9 owner):=by
   show ((List.range (mask+1)).filterMap λj=>(owner.getD j none).map (j,·)).map (·.2)=_
   rw[List.map_filterMap];refine fm_congr λj _=> ?_
   unfold jK9;cases owner.getD j none<;>rfl
  show (live.map (·.2)).Perm _
  rw[e];exact o.perm
 .have live_mem:∀j k,(j,k)∈live->jK9 owner j=some k/\j<=mask:=by
   intro j k hm;obtain⟨j',hj',e⟩:=lV5.mp hm;obtain⟨k',e1,e2⟩:=lQn.mp e;cases e2;exact⟨e1,by have:=lKc.mp hj';omega⟩
  have mem_place:∀j,j∈live.map (·.1)↔jK9 owner j≠none/\j<=mask:=by
   intro j
   constructor
   .intro hm;obtain⟨⟨j',k⟩,h2,rfl⟩:=lJl.mp hm;obtain⟨h3,h4⟩:=live_mem _ _ h2;exact⟨by rw[h3];simp,h4⟩
   .rintro⟨h2,h3⟩;obtain⟨k,hk⟩:=Option.ne_none_iff_exists'.mp h2;refine lJl.mpr ⟨(j,k),lV5.mpr ⟨j,lKc.mpr (by omega),?_⟩,rfl⟩
    show (jK9 owner j).map _=_
    rw[hk];rfl
  have hin:∀k,k∈live.map (·.2)->k<hashes.size:=by
   intro k hk;obtain⟨⟨j,k'⟩,h2,rfl⟩:=lJl.mp hk;obtain⟨h',e1,_⟩:=o.chain j k' (live_mem _ _ h2).1;have:=(lJg.mp e1).1
   simpa using this
  have fm:∀l:List Nat,(∀k,k∈l->k<hashes.size)->∀i:Nat,(l.filterMap (hashes[·]?)).length=l.length/\(l.filterMap (hashes[·]?))[i]? =(l[i]?).bind (hashes[·]?):=by
   intro l
   induction l with
   | nil=>intro _ i;exact⟨rfl,by simp⟩
   | cons a l ih=>
    intro hl i;have ha:=hl a (lJ6 ..);have e:hashes[a]? =some hashes[a]:=lK4 ha;have ih':=ih (λk hk=>hl k (lKd _ hk))
    rw[lXx e];refine⟨by rw[lKk,lKk,(ih' 0).1],?_⟩
    cases i with
    | zero=>simp[e]
    | succ i=>simpa using (ih' i).2
  refine⟨?_,?_,rfl,?_⟩
  .show (live.map (·.1)).toArray.size=_
   rw[lJr,lJe];have:=(fm (live.map (·.2)) hin 0).1
   rw[lJe] at this;exact this.symm
  .show (live.map (·.1)).Pairwise (· < ·)
   rw[lQo]
   have:live.Pairwise λa b=>a.1<b.1:=by
    show ((List.range (mask+1)).filterMap λj=>(owner.getD j none).map (j,·)).Pairwise _
    rw[lZ5];refine (List.pairwise_lt_range).imp λ{a b} hab x hx y hy=> ?_
    obtain⟨k,_,e⟩:=lQn.mp hx;obtain⟨k',_,e'⟩:=lQn.mp hy;rw[<-e,<-e'];exact hab
   exact this
  .intro x hx;obtain⟨i,hi,hxe⟩:=lVy hx;rw[lZ6] at hxe;obtain⟨xj,h⟩:=x;obtain⟨pe,he⟩:=Prod.mk.inj hxe;have hi':i<live.length:=by rw[List.length_zip] at hi;have:=lKi hi (Nat.min_le_left _ _);simpa using this
   have hh:((live.map (·.2)).filterMap (hashes[·]?))[i]? =some h:=by rw[<-he];exact lJj _
   have pl:live[i].1=xj:=by rw[<-pe];simp
   show Chain _ h xj
   rw[<-pl];have e2:=(fm (live.map (·.2)) hin i).2
   have hh':((live.map (·.2)).filterMap (hashes[·]?))[i]? =some h:=hh
   rw[hh',lJ4,lJj hi'] at e2;have e3:hashes[live[i].2]? =some h:=e2.symm;obtain⟨h3,h4⟩:=live_mem live[i].1 live[i].2 (lYf hi');obtain⟨h',e4,n,e5,e6⟩:=o.chain _ _ h3
   have:h'=h:=by
    have:hashes.toList[live[i].2]? =some h:=by simpa using e3
    rw[this] at e4;exact (lJ0 e4).symm
   subst this;refine⟨n,e5,λk hk=> ?_⟩
   show (itr t0.advance k (t0.probeStart h')).j∈live.map (·.1)
   refine (mem_place _).mpr ⟨e6 k hk,?_⟩;apply lVd;intro z;refine e6 k hk ?_;unfold jK9;rw[lVp,lVm (by rw[o.size];show mask+1<=_;omega)]
   rfl
end St
end L3
namespace L3
open PySem PySem.Spec PyProof.Rows L2
def TupKept(h h':Heap):Prop:=∀b o,h.get? b=some o->o.cls= .type "tuple"->h'.get? b=some o
variable {prog:Program}{w:World}{h h':Heap}{a:Addr}{o:Obj}{A:Around}{E:Value->Shared->Prop}{s:Shared}{Q:Bool->Shared->Prop}
section
variable {K:Type}[DecidableEq K]{c:Nat}
def Stab(V:KeyV prog w K c):Prop:=∀{h h':Heap}{k:K}{v:Value},TupKept h h'->V.is h k v->V.is h' k v
theorem kZ6{V:KeyV prog w K c}(hV:Stab V)(kp:TupKept h h'){ks:List K}{vs:List Value}(hi:ItemsV V h ks vs):ItemsV V h' ks vs:=by
 induction hi with
 | nil=>exact .nil
 | cons a _ ih=>exact .cons (hV kp a) ih
theorem kYb{V:KeyV prog w K c}(hV:Stab V):Stab (jUk V):=by
 rintro h h' k v kp ⟨a,o,items,n,rfl,ho,hc,hd,hi⟩;exact⟨a,o,items,n,rfl,kp a o ho hc,hc,hd,kZ6 hV kp hi⟩
theorem kYc{V:KeyV prog w K c}(hV:Stab V):Stab (kZ5 V):=by
 rintro h h' (k | k) v kp hx
 .exact hx
 .exact kYb hV kp hx
theorem qKo:Stab (jYq prog w):=λ_ hx=>hx
theorem jKs{k:TKey}(kp:TupKept h h')(hx:(jJg prog w).is h k a):(jJg prog w).is h' k a:=kYb (kYc (kYc qKo)) kp hx
theorem TupKept.same(ho:h.get? a=some o)(hc:o.cls= .type "set")(hs:Heap.SameBut a h h'):TupKept h h':=by
 intro b ob hb hcb
 have ne:b≠a:=by
  rintro rfl;rw[ho] at hb;cases hb;rw[hc] at hcb;exact absurd hcb (by decide)
 exact (hs.2 b ne).trans hb
def HbV(V:KeyV prog w K c)(f:K->Bool):Prop:=∀{A:Around}{E:Value->Shared->Prop}{s:Shared}{k:K}{v:Value}{Q:Bool->Shared->Prop}(n:Nat),c<=n->f k=true->V.is s.heap k v->Q true s->wpAny (model prog w) A (hashByValue n v) Q E s
noncomputable def intK:Key->Bool
 | .inl _=>true
 | .inr _=>false
noncomputable def intS{α:Type}(f:α->Bool):Key ⊕ List α->Bool
 | .inl k=>intK k
 | .inr ks=>ks.all f
noncomputable def intT:TKey->Bool:=λks=>ks.all (intS (intS intK))
theorem qUf:HbV (jYq prog w) intK:=by
 intro A E s k v Q n _ hk hv h
 rcases jJs (show jXa k v=true from hv) with ⟨i,t,_,rfl⟩ | ⟨i,t,rfl,rfl⟩
 .cases n<;>exact lJd h
 .cases hk
theorem qZz{V:KeyV prog w K c}{f:K->Bool}(hV:HbV V f):HbV (jUk V) (λks=>ks.all f):=by
 rintro A E s ks v Q n hn hf ⟨a,o,items,m,rfl,ho,hc,hd,hi⟩ h;obtain⟨n,rfl⟩:∃nn,n=nn+1:=⟨n-1,by omega⟩
 have hT:s.TypeIs (.ref a) "tuple":=⟨o,ho,hc⟩;unfold hashByValue
 (refine lJa (lX2 hT F.slot_tuple_hash.lookup ?_))
 refine (show wpAny _ _ (seqItems? (.ref a) >>= _) _ _ s from ?_)
 refine lJa (lXd ho hd (lJa ?_));refine (show wpAny _ _ (forIn items _ _) _ _ s from ?_)
 rw[<-lXk];refine lXc _ (λrest r z=>r.1=none/\z=s/\∃left,left.all f=true/\ItemsV V s.heap left rest) _ ?_ ?_ _ _ ⟨rfl,rfl,ks,hf,hi⟩
 .rintro x rest r z ⟨hr,rfl,left,hfl,hl⟩;cases hl with
  | cons h1 hl'=>
   rw[lVh,lK5] at hfl;refine lJa (hV n (by omega) hfl.1 h1 ?_)
   simp only[lKa,lX6,lKg];exact lJd ⟨rfl,rfl,_,hfl.2,hl'⟩
 .rintro⟨r1,r2⟩ z ⟨hr,rfl,_⟩;simp only at hr;subst hr;exact lJd h
theorem qZ0{V:KeyV prog w K c}{f:K->Bool}(hV:HbV V f):HbV (kZ5 V) (intS f):=by
 rintro A E s (k | k) v Q n hn hf hx h
 .exact qUf n (lJn _) hf hx h
 .exact qZz hV n hn hf hx h
theorem uKr{k:TKey}(hf:intT k=true)(hx:(jJg prog w).is s.heap k a)(h:Q true s):wpAny (model prog w) A (hashByValue 8 (.ref a)) Q E s:=
 qZz (qZ0 (qZ0 qUf)) 8 (by decide) hf hx h
def OcV(V:KeyV prog w K c):Prop:=∀{A:Around}{E:Value->Shared->Prop}{s:Shared}{k:K}{v:Value}{Q:Bool->Shared->Prop}(n:Nat),c<=n->V.is s.heap k v->Q false s->wpAny (model prog w) A (ofAClassStatement n v) Q E s
theorem qQy:OcV (jYq prog w):=by
 intro A E s k v Q n _ hv h
 rcases jJs (show jXa k v=true from hv) with ⟨i,t,_,rfl⟩ | ⟨i,t,rfl,rfl⟩<;>(cases n<;>exact lJd h)
theorem qZq{V:KeyV prog w K c}(hV:OcV V):OcV (jUk V):=by
 rintro A E s ks v Q n hn ⟨a,o,items,m,rfl,ho,hc,hd,hi⟩ h;obtain⟨n,rfl⟩:∃nn,n=nn+1:=⟨n-1,by omega⟩
 have hT:s.TypeIs (.ref a) "tuple":=⟨o,ho,hc⟩;unfold ofAClassStatement
 (refine lJa (lVc hT ?_))
 dsimp only
 rw[lJc (by decide)]
 refine lJa (lJd ?_);rw[lJb (by decide)]
 refine lJa (lXd ho hd (lJa ?_));rw[<-lXk];refine lXc _ (λrest r z=>r.1=none/\z=s/\∃left,ItemsV V s.heap left rest) _ ?_ ?_ _ _ ⟨rfl,rfl,ks,hi⟩
 .rintro x rest r z ⟨hr,rfl,left,hl⟩;cases hl with
  | cons h1 hl'=>
   refine lJa (hV n (by omega) h1 ?_)
   rw[lJb (by decide)]
   exact lJd ⟨rfl,rfl,_,hl'⟩
 .rintro⟨r1,r2⟩ z ⟨hr,rfl,_⟩;simp only at hr;subst hr;exact lJd h
theorem qZr{V:KeyV prog w K c}(hV:OcV V):OcV (kZ5 V):=by
 rintro A E s (k | k) v Q n hn hx h
 .exact qQy n (lJn _) hx h
 .exact qZq hV n hn hx h
theorem qQx{k:TKey}(hx:(jJg prog w).is s.heap k a)(h:Q false s):wpAny (model prog w) A (ofAClassStatement 8 (.ref a)) Q E s:=
 qZq (qZr (qZr qQy)) 8 (by decide) hx h
theorem uQs{k:TKey}(hx:(jJg prog w).is s.heap k a){ys:List Value}(hy:∀y,y∈ys->∃k' b,y= .ref b/\(jJg prog w).is s.heap k' b)(h:Q false s):wpAny (model prog w) A (searchCouldBeSeen (.ref a) ys) Q E s:=by
 unfold searchCouldBeSeen;refine lJa ?_;refine lXc _ (λrest r z=>r.1=none/\z=s/\∀y,y∈rest->∃k' b,y= .ref b/\(jJg prog w).is s.heap k' b) _ ?_ ?_ _ _ ⟨rfl,rfl,hy⟩
 .rintro x rest r z ⟨hr,rfl,hl⟩;obtain⟨k',b,rfl,hb⟩:=hl x (lJ6 ..);have hl':=λy hy=>hl y (lKd _ hy)
  dsimp only
  split
  .exact lJd ⟨rfl,rfl,hl'⟩
  .refine lJa ((jJg prog w).quiet hx ?_);rw[lJb (by decide)]
   refine lJa ((jJg prog w).quiet hb ?_);rw[lJb (by decide)]
   refine lJa (qQx hx ?_);rw[lJb (by decide)]
   refine lJa (qQx hb ?_);rw[lJb (by decide)]
   exact lJd ⟨rfl,rfl,hl'⟩
 .rintro⟨r1,r2⟩ z ⟨hr,rfl,_⟩;simp only at hr;subst hr;exact lJd h
end
variable {mask n ep:Nat}{arr:Array (Int×Value)}{es:List (TKey×Addr)}{b:Addr}
def entS(prog:Program)(w:World)(e:TKey×Addr):Int×Value:=((jJg prog w).hash e.1,.ref e.2)
def hashes(prog:Program)(w:World)(es:List (TKey×Addr)):List Int:=es.map λe=>(jJg prog w).hash e.1
def MaskOk(mask n:Nat):Prop:=(mask=7/\n<=4)\/(mask=31/\n<=18)\/(mask=127/\n<=76)\/(mask=511/\n<=306)\/(mask=2047/\n<=1228)
theorem MaskOk.full(h:MaskOk mask n):St.Full mask/\n<=mask/\mask%2=1:=by
 rcases h with ⟨rfl,h⟩ | ⟨rfl,h⟩ | ⟨rfl,h⟩ | ⟨rfl,h⟩ | ⟨rfl,h⟩
 .exact⟨St.full7,by omega,rfl⟩
 .exact⟨St.full31,by omega,rfl⟩
 .exact⟨St.full127,by omega,rfl⟩
 .exact⟨St.full511,by omega,rfl⟩
 .exact⟨St.full2047,by omega,rfl⟩
theorem qJe{t:SetTable}{f g:Nat->Int}{h:Int}{p:SetTable.Probe}(e:∀i,f i=g i):t.probe f h p=t.probe g h p:=by rw[funext e]
structure SetD (prog:Program) (w:World) (h:Heap) (a:Addr) (o:Obj) (arr:Array (Int×Value)) (ep:Nat) (t:SetTable) (es:List (TKey×Addr)):Prop where
 get:h.get? a=some o
 exact_:o.ExactSet
 data:o.data= .set arr ep t
 arr_:arr.toList=es.map (entS prog w)
 are:∀e,e∈es->(jJg prog w).is h e.1 e.2
 good:St.Good t (hashes prog w es)
 mask:MaskOk t.mask es.length
 plain:t.plain=true
theorem SetD.size{t:SetTable}(d:SetD prog w h a o arr ep t es):arr.size=es.length:=by
 rw[<-lKn,d.arr_,lJe]
theorem SetD.fits{t:SetTable}(d:SetD prog w h a o arr ep t es):t.fits arr.size=true:=by
 have l:=d.good.len;unfold hashes at l;rw[lJe] at l;obtain⟨_,hm,_⟩:=d.mask.full;simp only[SetTable.fits,SetTable.fill,d.good.dum,l,d.size,lK5,beq_iff_eq,lK1];exact⟨trivial,by simpa using hm⟩
theorem SetD.state{t:SetTable}(d:SetD prog w s.heap a o arr ep t es){Q:(Array (Int×Value)×Nat×SetTable)->Shared->Prop}(h:Q (arr,ep,t) s):wpAny (model prog w) A (setState a) Q E s:=
 mJu d.get d.data d.fits h
theorem SetD.at{t:SetTable}(d:SetD prog w h a o arr ep t es){i:Nat}(hi:i<t.place.size):∃e,es[i]? =some e/\arr[i]? =some (entS prog w e):=by
 have l:=d.good.len;unfold hashes at l;rw[lJe] at l;have hi':i<es.length:=by omega
 refine⟨es[i],lJj hi',?_⟩;rw[<-lJ5,d.arr_,lJ4,lJj hi'];rfl
def uV2(t:SetTable)(es:List (TKey×Addr))(k:TKey)(p:SetTable.Probe):Prop:=∃n i b,t.slot (itr t.advance n p).j= .live i/\es[i]? =some (k,b)/\∀m,m<n->t.slot (itr t.advance m p).j≠ .empty
theorem qKt{t:SetTable}(d:SetD prog w s.heap a o arr ep t es){k:TKey}(hk:(jJg prog w).is s.heap k b)(hu:(jJg prog w).room A){Q:SetFound->Shared->Prop}(h1:∀j,t.slot j= .empty->k∉es.map (·.1)->St.Chain t ((jJg prog w).hash k) j->Q (.free j false) s)(h2:k∈es.map (·.1)->Q (.there none) s):∀(n fuel:Nat)(stand:Option SetTable.Probe)(p:SetTable.Probe),stand.getD (t.probeStart ((jJg prog w).hash k))=p->p.dummy=none->t.slot (itr t.advance n p).j= .empty->n<10*SetTable.turns t.mask->n<fuel->
  (k∈es.map (·.1)->uV2 t es k p)->(∃n0,p=itr t.advance n0 (t.probeStart ((jJg prog w).hash k))/\∀m,m<n0->(itr t.advance m (t.probeStart ((jJg prog w).hash k))).j∈t.place.toList)->
  wpAny (model prog w) A (setSearchFrom a (.ref b) ((jJg prog w).hash k) true fuel stand) Q E s:=by
 intro n
 induction n using Nat.strongRecOn with
 | ind n ih=>
 intro fuel stand p hp hdm he hn hfu hA hC;obtain⟨fuel,rfl⟩:∃f,fuel=f+1:=⟨fuel-1,by omega⟩
 unfold setSearchFrom;refine lJa (d.state ?_)
 dsimp only
 have gw:t.gaveWay=false:=by
  unfold SetTable.gaveWay;rw[d.mask.full.2.2];rfl
 rw[gw,lJb (by decide),hp]
 rw[qJe (g:=λi=>((arr[i]?).map (·.1)).getD 0) ?hsw]
 case hsw=>exact λi=>rfl
 have hash_at:∀(i:Nat)(k':TKey)(b':Addr),es[i]? =some (k',b')->((arr[i]?).map (·.1)).getD 0=(jJg prog w).hash k':=by
  intro i k' b' e;have:arr[i]? =some (entS prog w (k',b')):=by rw[<-lJ5,d.arr_,lJ4,e];rfl
  rw[this];rfl
 have onway:∀m,(∀q,q<m->St.Miss t (λi=>((arr[i]?).map (·.1)).getD 0) ((jJg prog w).hash k) (itr t.advance q p).j)->∀q,q<m->(itr t.advance q p).j∈t.place.toList:=by
  intro m hm q hq;obtain⟨i,hi,_⟩:=hm q hq
  rcases St.slot_cases d.good.dum (itr t.advance q p).j with c | ⟨i',c,hi',e,_⟩
  .rw[c.1] at hi;cases hi
  .rw[<-e];simp
 have way:∀m,(∀q,q<m->(itr t.advance q p).j∈t.place.toList)->∃n0,itr t.advance m p=itr t.advance n0 (t.probeStart ((jJg prog w).hash k))/\∀q,q<n0->(itr t.advance q (t.probeStart ((jJg prog w).hash k))).j∈t.place.toList:=by
  intro m hm;obtain⟨n0,e0,c0⟩:=hC;refine⟨n0+m,by rw[jK0,e0],λq hq=> ?_⟩
  by_cases c:q<n0
  .exact c0 q c
  .have:=hm (q-n0) (by omega)
   rw[e0,<-jK0,show n0+(q-n0)=q by omega] at this
   exact this
 have ahead:∀m,(∀q,q<m->St.Miss t (λi=>((arr[i]?).map (·.1)).getD 0) ((jJg prog w).hash k) (itr t.advance q p).j)->∀{n' i:Nat}{b':Addr},t.slot (itr t.advance n' p).j= .live i->es[i]? =some (k,b')->m<=n':=by
  intro m hm n' i b' hs hi;apply lVd;intro z;obtain⟨i',q1,q2⟩:=hm n' (by omega)
  rw[hs] at q1;cases q1;exact q2 (hash_at _ _ _ hi)
 rcases St.pgo_ok d.good.dum (λi=>((arr[i]?).map (·.1)).getD 0) ((jJg prog w).hash k) n (10*SetTable.turns t.mask) p he hn hdm with ⟨m,hm,e1,e2,e3⟩ | ⟨m,i,hm,e1,e2,e3,e4⟩
 .rw[show t.probe (λi=>((arr[i]?).map (·.1)).getD 0) ((jJg prog w).hash k) p=_ from e3]
  dsimp only
  refine lJd (h1 _ e1 (λz=> ?_) ?_)
  .obtain⟨n',i,b',q1,q2,q3⟩:=hA z;have:=ahead m e2 q1 q2
   by_cases c:m=n'
   .subst c;rw[e1] at q1;cases q1
   .exact q3 m (by omega) e1
  .obtain⟨n0,w1,w2⟩:=way m (onway m e2);exact⟨n0,by rw[w1],w2⟩
 .rw[show t.probe (λi=>((arr[i]?).map (·.1)).getD 0) ((jJg prog w).hash k) p=_ from e4]
  dsimp only
  have hi:i<t.place.size/\t.place.toList[i]? =some (itr t.advance m p).j:=by
   rcases St.slot_cases d.good.dum (itr t.advance m p).j with c | ⟨i',c,hi',e,_⟩
   .rw[c.1] at e1;cases e1
   .rw[c] at e1;cases e1;exact⟨hi',by simp[hi',e]⟩
  obtain⟨⟨k',b'⟩,ee,ea⟩:=d.at hi.1;have hk':(jJg prog w).is s.heap k' b':=d.are _ (lJo ee);have rest:∀(R:Unit->Shared->Prop),R () s->True:=λ_ _=>trivial
  have go:wpAny (model prog w) A (do
    let some (_,y):=arr[i]? | unsupported "internal:set-entry"
    let equal <-holding [y] (eqBool y (.ref b))
    let (es',_,t') <-setState a
    if true&&equal then return .there none
    let some same:=(t'.sameMemory t.moves t.mask) | unsupported "set.changed-during-lookup:is-the-new-block-at-the-old-address"
    let still <-match (if same then t'.slot (itr t.advance m p).j else .empty) with
     | .live i'=>match (es'[i']?) with
      | some (_,y')=>do pure (if (<-isSame y' y) then some i' else none)
      | none=>pure none
     | _=>pure none
    match still with
    | none=>rule "set.search.anew"; setSearchFrom a (.ref b) ((jJg prog w).hash k) true fuel none
    | some i'=>if equal then return .there (some i') else setSearchFrom a (.ref b) ((jJg prog w).hash k) true fuel (some (itr t.advance (m+1) p))) Q E s:=by
   rw[ea]
   dsimp only[entS]
   refine lJa (lKj ((jJg prog w).eqBool hu hk' hk ?_));refine lJa (d.state ?_)
   dsimp only
   by_cases eq:k'=k
   .subst eq;rw[lJc (by simp)]
    exact lJd (h2 (lJl.mpr ⟨_,lJo ee,rfl⟩))
   .rw[lJb (by simp[eq])]
    rw[show t.sameMemory t.moves t.mask=some true by simp[SetTable.sameMemory]]
    dsimp only
    rw[lJc rfl,e1]
    dsimp only
    rw[ea]
    dsimp only[entS]
    refine lJa (wpAny_isSame_ref_self (lJa (lJd ?_)));rw[lJc rfl]
    dsimp only
    rw[lJb (by simp[eq])]
    have ne:∀ {n' i' b''},t.slot (itr t.advance n' p).j= .live i'->es[i']? =some (k,b'')->m+1<=n':=by
     intro n' i' b'' q1 q2;have:=ahead m e3 q1 q2
     by_cases c:m=n'
     .subst c;rw[e1] at q1;cases q1;rw[ee] at q2;exact absurd (Prod.mk.inj (lJ0 q2)).1 eq
     .omega
    refine ih (n-(m+1)) (by omega) fuel (some (itr t.advance (m+1) p)) (itr t.advance (m+1) p) rfl ?_ ?_ (by omega) (by omega) ?_ ?_
    .have dm:∀q,(itr t.advance q p).dummy=none:=by
      intro q
      induction q with
      | zero=>exact hdm
      | succ q ihq=>rw[jXv,St.adv_dummy];exact ihq
     exact dm _
    .rw[<-jK0,show m+1+(n-(m+1))=n by omega];exact he
    .intro z;obtain⟨n',i',b'',q1,q2,q3⟩:=hA z;have:=ne q1 q2;refine⟨n'-(m+1),i',b'',?_,q2,λq hq=> ?_⟩
     .rw[<-jK0,show m+1+(n'-(m+1))=n' by omega];exact q1
     .rw[<-jK0];exact q3 _ (by omega)
    .refine way (m+1) λq hq=> ?_
     by_cases c:q<m
     .exact onway m e3 q c
     .have:q=m:=by omega
      subst this;exact lJo hi.2
  split
  .refine lJa (uQs hk ?_ ?_)
   .intro y hy;obtain⟨x,hx,rfl⟩:=lJl.mp hy
    have hx':x∈arr.toList:=by
     have:=(Array.mem_filter.mp (lY1.mp hx)).1;exact lY1.mpr this
    rw[d.arr_] at hx';obtain⟨e,he',rfl⟩:=lJl.mp hx';exact⟨e.1,e.2,rfl,d.are e he'⟩
   .rw[lJb (by decide)]
    exact go
  .exact go
theorem SetD.chain{t:SetTable}(d:SetD prog w h a o arr ep t es){k:TKey}(hk:k∈es.map (·.1)):uV2 t es k (t.probeStart ((jJg prog w).hash k)):=by
 obtain⟨⟨k',b⟩,he,e⟩:=lJl.mp hk;cases (show k'=k from e)
 obtain⟨i,hi,ei⟩:=lVy he;have l:=d.good.len;unfold hashes at l;rw[lJe] at l;have hp:i<t.place.size:=by omega
 have hz:(t.place[i],(jJg prog w).hash k)∈t.place.toList.zip (hashes prog w es):=by
  refine lJo (i:=i) ?_;unfold hashes;simp[List.getElem?_zip_eq_some,hp,hi,ei]
 obtain⟨n,h1,h2⟩:=d.good.chain _ hz;refine⟨n,i,b,?_,by rw[lJj hi,ei],λm hm=> ?_⟩
 .rw[h1];exact St.slot_live d.good.ris hp
 .obtain⟨q,hq,e⟩:=lVy (h2 m hm);have hq':q<t.place.size:=by simpa using hq
  have e':t.place[q]=(itr t.advance m (t.probeStart ((jJg prog w).hash k))).j:=by simpa using e
  rw[<-e',St.slot_live d.good.ris hq'];simp
theorem uVi{t:SetTable}(hd:t.dummies= #[])(hn:t.place.size<=t.mask):∃j,j<=t.mask/\t.slot j= .empty:=by
 have:∃j,j<=t.mask/\j∉t.place.toList:=by
  apply lVd;intro q
  have sub:(List.range (t.mask+1)) ⊆ t.place.toList:=by
   intro j hj;apply lVd;intro z;exact q ⟨j,by have:=lKc.mp hj;omega,z⟩
  have:=lV8.length_le_of_subset sub;simp at this;omega
 obtain⟨j,h1,h2⟩:=this;exact⟨j,h1,St.slot_empty hd h2⟩
theorem qJa{t:SetTable}(d:SetD prog w s.heap a o arr ep t es){k:TKey}(hk:(jJg prog w).is s.heap k b)(hu:(jJg prog w).room A){Q:SetFound->Shared->Prop}(h1:∀j,t.slot j= .empty->k∉es.map (·.1)->St.Chain t ((jJg prog w).hash k) j->Q (.free j false) s)(h2:k∈es.map (·.1)->Q (.there none) s):wpAny (model prog w) A (setSearch a (.ref b) ((jJg prog w).hash k) true) Q E s:=by
 have l:=d.good.len;unfold hashes at l;rw[lJe] at l;obtain⟨hf,hm,_⟩:=d.mask.full;obtain⟨j,hj,ej⟩:=uVi (t:=t) d.good.dum (by omega)
 obtain⟨n,hn,en⟩:=St.met hf ((jJg prog w).hash k) hj;have hm127:t.mask<=2047:=by rcases d.mask with ⟨e,_⟩ | ⟨e,_⟩ | ⟨e,_⟩ | ⟨e,_⟩ | ⟨e,_⟩<;>omega
 unfold setSearch;refine qKt d hk hu h1 h2 n 100000 none (t.probeStart ((jJg prog w).hash k)) rfl rfl (by rw[en];exact ej) (by unfold SetTable.turns;omega) (by omega) d.chain ⟨0,rfl,λm hm=>absurd hm (lKs _)⟩
variable {j:Nat}
theorem kKm{t t':SetTable}(hm:t'.mask=t.mask)(hp:∀j,j∈t.place.toList->j∈t'.place.toList){h:Int}(c:St.Chain t h j):St.Chain t' h j:=by
 obtain⟨n,h1,h2⟩:=c;have ea:t'.advance=t.advance:=by funext p;unfold SetTable.advance;rw[hm]
 have eb:t'.probeStart h=t.probeStart h:=by unfold SetTable.probeStart;rw[hm]
 refine⟨n,by rw[ea,eb];exact h1,λk hk=> ?_⟩
 rw[ea,eb];exact hp _ (h2 k hk)
theorem zipE{α β:Type}{xs:List α}{ys:List β}(hl:xs.length=ys.length)(p:Nat){x:α}{y:β}{z:α×β}(h:z∈(xs.take p++x::xs.drop p).zip (ys.take p++y::ys.drop p)):z∈xs.zip ys\/z=(x,y):=by
 rw[List.zip_append (by simp[hl]),lXs] at h
 have e1:(xs.take p).zip (ys.take p)=(xs.zip ys).take p:=by rw[lY2,lY2,List.take_zipWith]
 have e2:(xs.drop p).zip (ys.drop p)=(xs.zip ys).drop p:=by rw[lY2,lY2,List.drop_zipWith]
 rw[e1,e2] at h
 (rcases lJx.mp h with h | h)
 .exact .inl (lQg h)
 .rcases (lJp.mp h) with h | h
  .exact .inr h
  .exact .inl (lVn h)
theorem qYr{t:SetTable}{hs:List Int}(g:St.Good t hs){h:Int}(he:t.slot j= .empty)(hc:St.Chain t h j):St.Good (t.put j).1 (hs.take (t.put j).2++h::hs.drop (t.put j).2):=by
 have hj:j∉t.place.toList:=by
  rcases St.slot_cases g.dum j with c | ⟨i,c,_⟩
  .exact c.2 g.ris
  .rw[c] at he;cases he
 have ep:(t.put j).1.place=SetTable.insertAt t.place (SetTable.below t.place j) j:=rfl
 have mem:∀q,q∈t.place.toList->q∈(t.put j).1.place.toList:=by
  intro q hq;rw[ep,SetTable.toList_insertAt];rw[<-lK8 (SetTable.below t.place j) t.place.toList] at hq
  rcases (lJx.mp hq) with z | z
  ·(exact lKf _ z)
  .exact lKb _ (lKd _ z)
 have hl:=g.len;refine⟨?_,?_,?_,?_⟩
 .rw[ep,<-lKn,SetTable.toList_insertAt];show _=(hs.take (SetTable.below t.place j)++h::hs.drop (SetTable.below t.place j)).length
  simp[hl]
 .rw[ep];exact St.insertAt_ris g.ris hj
 .show (if SetTable.has t.dummies j=true then _ else t.dummies)= #[]
  rw[g.dum,St.has_nil];rfl
 .intro x hx;rw[ep,SetTable.toList_insertAt] at hx
  rcases zipE (by simpa using hl) _ hx with z | rfl
  .exact kKm (t:=t) (t':=(t.put j).1) rfl mem (g.chain x z)
  .exact kKm (t:=t) (t':=(t.put j).1) rfl mem hc
noncomputable def putE(p:Nat)(e:TKey×Addr)(es:List (TKey×Addr)):List (TKey×Addr):=es.take p++e::es.drop p
theorem jXo(p:Nat)(e:TKey×Addr)(es:List (TKey×Addr)):(putE p e es).Perm (e::es):=by
 unfold putE;refine lZ7.trans ?_;rw[lK8]
theorem qQg{t:SetTable}(ho:h.get? a=some o)(hd:o.data= .set arr ep t)(arr':Array (Int×Value))(t':SetTable):
  (h.update a (Obj.putSet arr' t')).get? a=some {o with data:= .set arr' (ep+1) t'}:=by
 have:=lX7 (Obj.putSet arr' t') ho (by rw[putSet_of arr' t' hd];rfl)
 rw[putSet_of arr' t' hd] at this;exact this
theorem kKa{α:Type}{l:List Nat}{xs:List α}(hp:l.Perm (List.range xs.length)):(l.filterMap (xs[·]?)).Perm xs:=by
 have:=hp.filterMap (λi=>xs[i]?)
 rw[List.filterMap_getElem?_range_length] at this;exact this
theorem jXs{α β:Type}(f:α->β)(xs:List α):∀l:List Nat,(l.filterMap (xs[·]?)).map f=l.filterMap ((xs.map f)[·]?)
 | []=>rfl
 | a::l=>by
  rw[lVu,lVu,lJ4];cases xs[a]? with
  | none=>exact jXs f xs l
  | some x=>rw[lJw,jXs f xs l];rfl
theorem qXh{t:SetTable}(ho:s.heap.get? a=some o)(hex:o.ExactSet)(hd:o.data= .set arr ep t)(harr:arr.toList=es.map (entS prog w))(are:∀e,e∈es->(jJg prog w).is s.heap e.1 e.2)(hf:t.fits arr.size=true)(hpl:t.plain=true){wanted:Nat}(hw:SetTable.sizeAbove wanted-1=mask)(hl:SetTable.sizeAbove wanted<=sizeLine)(hM:MaskOk mask es.length){Q:Unit->Shared->Prop}(h:∀h' o' arr' ep' t' es',Heap.SameBut a s.heap h'->es'.Perm es->t'.led=t.led->SetD prog w h' a o' arr' ep' t' es'->Q () {s with heap:=h'}):wpAny (model prog w) A (setRelay a wanted) Q E s:=by
 have hsz:arr.size=es.length:=by rw[<-lKn,harr,lJe]
 obtain⟨hfull,hle,_⟩:=hM.full;obtain⟨t',order,e1,e2,e3,e4,e5,e6⟩:=St.laid_ok hfull t.finger (t.movedTo mask) t.led t.plain (arr.map (·.1)) (by rw[Array.size_map,hsz];exact hle)
 have e1':t.relaid (arr.map (·.1)) wanted=some (t',order):=by unfold SetTable.relaid;rw[hw];exact e1
 have hash_:(arr.map (·.1)).toList=hashes prog w es:=by
  rw[lY3,harr,lJz];rfl
 have po:order.toList.Perm (List.range es.length):=by
  have:=e5;rw[Array.size_map,hsz] at this;exact this
 have em:(order.filterMap (arr[·]?)).toList=(order.toList.filterMap (es[·]?)).map (entS prog w):=by
  rw[Array.toList_filterMap,jXs,<-harr];exact St.fm_congr λx _=>by rw[lJ5]
 have pe:(order.toList.filterMap (es[·]?)).Perm es:=kKa po
 have sz2:(order.filterMap (arr[·]?)).size=es.length:=by rw[<-lKn,em,lJe,pe.length_eq]
 unfold setRelay
 (refine lJa (mJu ho hd hf ?_))
 dsimp only
 rw[lJb (Nat.not_lt.mpr hl)];refine lJa ?_
 refine (show wpAny (model prog w) A (do
  let some (t,order):=t.relaid (arr.map (·.1)) wanted | unsupported "internal:set-table-without-room"
  let es':=order.filterMap (arr[·]?)
  if es'.size != arr.size then unsupported "internal:set-table-lost-an-element"
  pure (es',t)) _ _ _ from ?_)
 rw[e1']
 dsimp only
 rw[lJb (by rw[sz2,hsz];simp)]
 refine lJd ?_
 dsimp only
 refine wpAny_storeSet_of ho hd ?_ (by rw[sz2,<-hsz,lKe];have:=hM;rcases hM with ⟨_,z⟩ | ⟨_,z⟩ | ⟨_,z⟩ | ⟨_,z⟩ | ⟨_,z⟩<;>omega)
 have sb:=lYc s.heap a (Obj.putSet (order.filterMap (arr[·]?)) t')
 have kp:TupKept s.heap _:=TupKept.same ho hex.1 sb;refine h _ _ _ _ t' (order.toList.filterMap (es[·]?)) sb pe e3 ⟨qQg ho hd _ _,hex,rfl,em,λe he=>jKs kp (are e (pe.mem_iff.mp he)),?_,?_,e4.trans hpl⟩
 .have:=e6
  have e7:order.toList.filterMap ((arr.map (·.1))[·]?)=hashes prog w (order.toList.filterMap (es[·]?)):=by
   unfold hashes;rw[jXs];refine St.fm_congr λx _=> ?_
   rw[<-lJ5,hash_];rfl
  rw[e7] at this;exact this
 .rw[pe.length_eq,e2];exact hM
theorem uVu{t:SetTable}(d:SetD prog w s.heap a o arr ep t es){k:TKey}(hk:(jJg prog w).is s.heap k b)(hi:intT k=true)(hu:(jJg prog w).room A)(hn:es.length<1228)(h1:k∈es.map (·.1)->Q false s)(h2:k∉es.map (·.1)->∀h' o' arr' ep' t' es',Heap.SameBut a s.heap h'->es'.Perm ((k,b)::es)->t'.led=t.led->SetD prog w h' a o' arr' ep' t' es'->Q true {s with heap:=h'}):
  wpAny (model prog w) A (setAddHashed a (.ref b) ((jJg prog w).hash k)) Q E s:=by
 unfold setAddHashed;refine lKj ?_;unfold setAddHashedIn;refine lJa (d.state ?_)
 dsimp only
 rw[show byScan (.ref b) arr=false from rfl,lJb (by decide)]
 refine lJa (qJa d hk hu (λj hj hnk hc=> ?_) λz=>lJd (h1 z))
 dsimp only
 refine lJa (d.state ?_)
 dsimp only
 have hpl:(t.put j).1.plain=true:=d.plain;rw[lJc hpl];refine lJa (uKr hi hk ?_);simp only[↓reduceIte];have hsz:=d.size;have hlen:t.place.size=es.length:=by have l:=d.good.len;unfold hashes at l;rw[lJe] at l;exact l
 have g1:St.Good (t.put j).1 (hashes prog w (putE (t.put j).2 (k,b) es)):=by
  have:=qYr d.good hj hc;unfold hashes putE;rw[lQv,lJw,lV9,lYg];exact this
 have ae:(SetTable.insertAt arr (t.put j).2 ((jJg prog w).hash k,Value.ref b)).toList=(putE (t.put j).2 (k,b) es).map (entS prog w):=by
  rw[SetTable.toList_insertAt,d.arr_];unfold putE;rw[lQv,lJw,lV9,lYg];rfl
 have pl:=(jXo (t.put j).2 (k,b) es).length_eq;rw[lKk] at pl
 have asz:(SetTable.insertAt arr (t.put j).2 ((jJg prog w).hash k,Value.ref b)).size=es.length+1:=by
  rw[<-lKn,ae,lJe,pl]
 refine lJa (wpAny_storeSet_of d.get d.data ?_ (by rw[asz,lKe];omega))
 have sb1:=lYc s.heap a (Obj.putSet (SetTable.insertAt arr (t.put j).2 ((jJg prog w).hash k,Value.ref b)) (t.put j).1);have kp1:TupKept s.heap _:=TupKept.same d.get d.exact_.1 sb1;have ob1:=qQg d.get d.data (SetTable.insertAt arr (t.put j).2 ((jJg prog w).hash k,Value.ref b)) (t.put j).1
 have are1:∀e,e∈putE (t.put j).2 (k,b) es->(jJg prog w).is (s.heap.update a (Obj.putSet (SetTable.insertAt arr (t.put j).2 ((jJg prog w).hash k,Value.ref b)) (t.put j).1)) e.1 e.2:=by
  intro e he
  rcases lJp.mp ((jXo _ _ _).mem_iff.mp he) with rfl | he
  .exact jKs kp1 hk
  .exact jKs kp1 (d.are e he)
 have fl:(t.put j).1.fill=es.length+1:=by
  have l:=g1.len;unfold hashes at l;rw[lJe,pl] at l;unfold SetTable.fill;rw[g1.dum,l];rfl
 have mk:(t.put j).1.mask=t.mask:=rfl
 by_cases full:(t.put j).1.tooFull=true
 .rw[full];simp only[Bool.not_false,Bool.and_self,↓reduceIte]
  have full':(es.length+1)*5>=t.mask*3:=by
   unfold SetTable.tooFull at full;rw[fl,mk] at full;exact mJt full
  have w1:SetTable.sizeAbove (SetTable.grown (arr.size+1))<=sizeLine/\MaskOk (SetTable.sizeAbove (SetTable.grown (arr.size+1))-1) (putE (t.put j).2 (k,b) es).length:=by
   rw[pl,hsz]
   rcases d.mask with ⟨e,z⟩ | ⟨e,z⟩ | ⟨e,z⟩ | ⟨e,z⟩ | ⟨e,z⟩
   .have:es.length=4:=by omega
    rw[this];exact⟨by rw[lKe];decide,.inr (.inl ⟨by decide,by omega⟩)⟩
   .have:es.length=18:=by omega
    rw[this];exact⟨by rw[lKe];decide,.inr (.inr (.inl ⟨by decide,by omega⟩))⟩
   .have:es.length=76:=by omega
    rw[this];exact⟨by rw[lKe];decide,.inr (.inr (.inr (.inl ⟨by decide,by omega⟩)))⟩
   .have:es.length=306:=by omega
    rw[this];exact⟨by rw[lKe];decide,.inr (.inr (.inr (.inr ⟨by decide,by omega⟩)))⟩
   .omega
  have ft:(t.put j).1.fits (SetTable.insertAt arr (t.put j).2 ((jJg prog w).hash k,Value.ref b)).size=true:=by
   have l:=g1.len;unfold hashes at l;rw[lJe,pl] at l;simp only[SetTable.fits,lK5,beq_iff_eq,lK1];refine⟨by rw[asz];exact l,?_⟩
   rw[fl,mk]
   rcases d.mask with ⟨e,z⟩ | ⟨e,z⟩ | ⟨e,z⟩ | ⟨e,z⟩ | ⟨e,z⟩<;>omega
  refine lJa (qXh (s:={s with heap:=s.heap.update a (Obj.putSet (SetTable.insertAt arr (t.put j).2 ((jJg prog w).hash k,Value.ref b)) (t.put j).1)}) ob1 d.exact_ rfl ae are1 ft hpl rfl w1.1 w1.2 λh' o' arr' ep' t' es' sb2 pe el d'=> ?_)
  exact lJd (h2 hnk h' o' arr' ep' t' es' (sb1.trans sb2) (pe.trans (jXo _ _ _)) el d')
 .rw[show (t.put j).1.tooFull=false from by simpa using full]
  simp only[Bool.and_false,lKg,↓reduceIte]
  have full':(es.length+1)*5<t.mask*3:=by
   unfold SetTable.tooFull at full;rw[fl,mk] at full
   simpa using full
  refine lJd (h2 hnk _ _ _ _ (t.put j).1 _ sb1 (jXo _ _ _) rfl ⟨ob1,d.exact_,rfl,ae,are1,g1,?_,hpl⟩);rw[pl,mk]
  rcases d.mask with ⟨e,_⟩ | ⟨e,_⟩ | ⟨e,_⟩ | ⟨e,_⟩ | ⟨e,_⟩
  .exact .inl ⟨e,by omega⟩
  .exact .inr (.inl ⟨e,by omega⟩)
  .exact .inr (.inr (.inl ⟨e,by omega⟩))
  .exact .inr (.inr (.inr (.inl ⟨e,by omega⟩)))
  .exact .inr (.inr (.inr (.inr ⟨e,by omega⟩)))
variable {kb:List (TKey×Addr)}{e:TKey×Addr}{us:List TKey}
section
noncomputable def bt(w:World):Bool:=w.params.followText "set-order"
structure Put (es kb:List (TKey×Addr)):Prop where
 sub:∀e,e∈es->e∈kb
 all:∀e,e∈kb->e.1∈es.map (·.1)
 nod:(es.map (·.1)).Nodup
theorem Put.old(p:Put es kb)(h:e.1∈es.map (·.1)):Put es (kb++[e]):=by
 refine⟨λx hx=>lKf _ (p.sub x hx),λx hx=> ?_,p.nod⟩
 rcases (lJx.mp hx) with z | z
 .exact p.all x z
 .rw[lJ1.mp z];exact h
theorem Put.new{es':List (TKey×Addr)}(p:Put es kb)(h:e.1∉es.map (·.1))(hp:es'.Perm (e::es)):Put es' (kb++[e]):=by
 have hm:(es'.map (·.1)).Perm (e.1::es.map (·.1)):=hp.map _
 refine⟨λx hx=> ?_,λx hx=> ?_,?_⟩
 .rcases lJp.mp (hp.mem_iff.mp hx) with rfl | z
  .exact lKb _ (lJ1.mpr rfl)
  .exact lKf _ (p.sub x z)
 .refine hm.mem_iff.mpr ?_
  rcases (lJx.mp hx) with z | z
  .exact lKd _ (p.all x z)
  .rw[lJ1.mp z];exact lJ6 ..
 .exact hm.nodup_iff.mpr (lKz.mpr ⟨h,p.nod⟩)
theorem Put.few(p:Put es kb)(h:∀e,e∈kb->e.1∈us):es.length<=us.length:=by
 have h1:(es.map (·.1)) ⊆ us:=by
  intro k hk;obtain⟨e,he,rfl⟩:=lJl.mp hk;exact h e (p.sub e he)
 have:=p.nod.length_le_of_subset h1
 simpa using this
theorem SetD.move{t:SetTable}(d:SetD prog w h a o arr ep t es)(hg:h'.get? a=some o)(kp:TupKept h h'):SetD prog w h' a o arr ep t es:=
 ⟨hg,d.exact_,d.data,d.arr_,λe he=>jKs kp (d.are e he),d.good,d.mask,d.plain⟩
def SetIs(prog:Program)(w:World)(h:Heap)(a:Addr)(kb:List (TKey×Addr)):Prop:=∃o arr ep t es,SetD prog w h a o arr ep t es/\Put es kb/\t.led= !bt w
theorem SetIs.move(d:SetIs prog w h a kb)(hg:∀o,h.get? a=some o->h'.get? a=some o)(kp:TupKept h h'):SetIs prog w h' a kb:=by
 obtain⟨o,arr,ep,t,es,d,p,l⟩:=d;exact⟨o,arr,ep,t,es,d.move (hg o d.get) kp,p,l⟩
section
variable {R:Result->Shared->Prop}{I:Addr}{fp:List Addr}{G:Array GenState->Array GenState->Prop}{P:Nat->Value->Prop}{St:Nat->Shared->Prop}
theorem kX7{wr:List Addr}{s':Shared}(hm:Moved wr G s s')(hw:∀b o,b∈wr->s.heap.get? b=some o->o.cls≠ .type "tuple"):TupKept s.heap s'.heap:=by
 intro b o hb hc;exact hm.heap b o (λz=>hw b o z hb hc) hb
theorem qV8(W:WalksS prog w A.in1 I fp [I] G n P St)(S:Addr)(hSf:S∉fp)(hIt:∀i s o,St i s->s.heap.get? I=some o->o.cls≠ .type "tuple")(kb:List (TKey×Addr))(hu:(jJg prog w).room A.in1)(hk:∀e,e∈kb->intT e.1=true)(hval:∀i v,P i v->∃e,kb[i]? =some e/\v= .ref e.2)(hn:n=kb.length)(hus:us.length<400)(hkus:∀e,e∈kb->e.1∈us):
  ∀(q i:Nat)(s:Shared),n-i=q->i<=n->St i s->(∀e,e∈kb->(jJg prog w).is s.heap e.1 e.2)->SetIs prog w s.heap S (kb.take i)->
   (∀s',Moved (S::[I]) G s s'->SetIs prog w s'.heap S kb->R (.ok (.ret .none)) s')->codeAny (model prog w) A (.builtin "set.update.loop" ⟨[.ref S,.ref I],[]⟩) R s:=by
 have hSw:S∉[I]:=λh=>hSf (W.sub _ h)
 have hsub:∀b∈[I],b∈S::[I]:=λb hb=>lKd _ hb
 intro q
 induction q with
 | zero=>
  intro i s hq hi hst hks hS hR;have hin:i=n:=by omega
  subst hin;refine lQs mJ4 ?_;rw[lQu lY4 _];refine (show wpAny _ A.in1 (pyNext (.ref I) >>= _) _ _ s from ?_)
  (refine lJa (W.done s _ _ hst λs' hm=> ?_))
  refine (show wpAny _ A.in1 (ret Value.none) _ _ s' from ?_)
  refine lJd (hR s' (hm.mono hsub) ?_);rw[hn,lQt] at hS;exact hS.move (λo e=>hm.heap S o hSw e) (kX7 hm λb o hb e=>by rw[lJ1.mp hb] at e;exact hIt _ _ _ hst e)
 | succ q ih=>
  intro i s hq hi hst hks hS hR;have hlt:i<n:=by omega
  refine lQs mJ4 ?_;rw[lQu lY4 _];refine (show wpAny _ A.in1 (pyNext (.ref I) >>= _) _ _ s from ?_)
  (refine lJa (W.item i s _ _ hlt hst λv s' hP hst' hm=> ?_))
  obtain⟨⟨k,b⟩,he,rfl⟩:=hval i v hP;have hmem:(k,b)∈kb:=lJo he;have tk:=kX7 hm λb o hb e=>by rw[lJ1.mp hb] at e;exact hIt _ _ _ hst e
  have hS':=hS.move (h':=s'.heap) (λo e=>hm.heap S o hSw e) tk
  have hks':∀e,e∈kb->(jJg prog w).is s'.heap e.1 e.2:=λe he=>jKs tk (hks e he)
  refine (show wpAny _ A.in1 (holding [Value.ref b] (setAdd S (.ref b)) >>= _) _ _ s' from ?_)
  (refine lJa (lKj ?_))
  unfold setAdd;refine lKj ?_;refine lJa ((jJg prog w).pyHash hu (hks' _ hmem) ?_);obtain⟨o,arr,ep,t,es,d,p,l⟩:=hS';have hl:=p.few λe he=>hkus e (lQg he)
  have tk1:kb.take (i+1)=kb.take i++[(k,b)]:=by
   rw[lQe,he];rfl
  refine uVu (s:={s' with toks:=s'.toks+(jJg prog w).draws k}) d (hks' _ hmem) (hk _ hmem) hu (by omega) (λz=> ?_) (λz h' o' arr' ep' t' es' sb pe el d'=> ?_)
  .refine lJd ⟨lQy lY4 _,ih (i+1) _ (by omega) hlt (W.frame _ s' _ _ hst' (lYh _ _) λb hb o e=>e) hks' ?_ λs'' hm'' hS''=> ?_⟩
   .rw[tk1];exact⟨o,arr,ep,t,es,d,p.old z,l⟩
   .exact hR s'' (Moved.trans W.gtrans ((hm.mono hsub).then_heap (lYh _ _) λb o hb e=>e) hm'') hS''
  .have tk2:TupKept s'.heap h':=TupKept.same d.get d.exact_.1 sb;refine lJd ⟨lQy lY4 _,ih (i+1) _ (by omega) hlt (W.frame _ s' _ _ hst' (lYh _ _) λb hb o e=> ?_) (λe he=>jKs tk2 (hks' e he)) ?_ λs'' hm'' hS''=> ?_⟩
   .exact (sb.2 b (λz=>hSf (z▸hb))).trans e
   .rw[tk1];exact⟨o',arr',ep',t',es',d',p.new z pe,el.trans l⟩
   .refine hR s'' (Moved.trans W.gtrans ((hm.mono hsub).then_heap (lYh _ _) λb o hb e=> ?_) hm'') hS''
    exact (sb.2 b (λz=>hb (by rw[z];exact lJ6 ..))).trans e
end
theorem qKs{led:Bool}(hl:led= !bt w):SetIs prog w (h.push {cls:= .type "set",dict:=none,data:= .set #[] 0 (.fresh 0 0 led)}) h.objs.size []:=by
 refine⟨_,#[],0,_,[],⟨lJ8 _ rfl,⟨rfl,rfl,rfl⟩,rfl,rfl,λe he=>absurd he (lKr),⟨rfl,List.Pairwise.nil,rfl,λx hx=> ?_⟩,.inl ⟨rfl,lJn _⟩,rfl⟩,⟨λ_ h=>h,λe he=>absurd he (lKr),lXr⟩,hl⟩
 exact absurd hx (by simp[hashes])
theorem qV7(a:Value){Q₁:Value->Shared->Prop}(h:Q₁ (.ref s.heap.objs.size) {s with heap:=s.heap.push {cls:= .type "set",dict:=none,data:= .set #[] 0 (.fresh 0 0 (!bt w))} }):codeAny (model prog w) A (.call (.builtin "set.__new__") ⟨[.type "set",a],[]⟩) (wants Q₁ E) s:=by
 refine mJs ?_;refine (show wpAny _ A.in1 (do checkBuiltinCall "set.__new__" ⟨[.type "set",a],[]⟩;again (.builtin "set.__new__" ⟨[.type "set",a],[]⟩)) _ _ s from ?_)
 (refine lJa (lZk (F.newCall_set_1 a) (lJd ⟨lQy F.plain_set_new _,lQs F.entry_set_new ?_⟩)))
 (rw[lQu F.plain_set_new _])
 (unfold Builtin.«set.__new__» Builtin.Frozenset.newClass)
 have hsub:=sub_set_self
 (obtain⟨hp,g,d,tk,os⟩:=s)
 dsimp only
 wp_walk
 (refine lYs (lJd ?_))
 dsimp only
 simp only[newObj]
 (refine lJa (wpAny_alloc (lJd ?_)))
 exact lJd h
noncomputable def jVx(w:World):Obj:={cls:= .type "set",dict:=none,data:= .set #[] 0 (.fresh 0 0 (!bt w))}
end
namespace Si
theorem own:Manifest.owners.lookup (String.ofList ['r','o','t','a','r','e','t','i','_','t','e','s'].reverse)=some Manifest.sig_set_iterator:=by kernel_rfl
theorem slot_next:Slot "set_iterator" "__next__" "set_iterator.__next__":=
 .of (owner:="set_iterator") (n:="__next__") (by rw[lX4,lX5];kernel_rfl) (by decide +kernel) (by decide +kernel) (by decide +kernel) (by first | exact .inl (by decide +kernel) | exact .inr (by decide +kernel)) (by rw[lZl];kernel_rfl)
theorem entry_next:entryFor table "set_iterator.__next__"=some Builtin.«set_iterator.__next__» :=entryFor_of_tree (by kernel_rfl)
theorem args_next(a:Value):argsOk "set_iterator.__next__" ⟨[a],[]⟩:=by
 unfold argsOk;rw[signature?_of (id:="set_iterator.__next__") (n:=['_','_','t','x','e','n','_','_']) (o:=['r','o','t','a','r','e','t','i','_','t','e','s']) (by kernel_rfl) own];kernel_rfl
theorem entry_iter:entryFor table "set.__iter__"=some Builtin.«frozenset.__iter__» :=entryFor_alias (id':="frozenset.__iter__") (by kernel_rfl) rfl (by decide +kernel) (by kernel_rfl)
theorem slot_iter:Slot "set_iterator" "__iter__" "set_iterator.__iter__":=
 .of (owner:="set_iterator") (n:="__iter__") (by rw[lX4,lX5];kernel_rfl) (by decide +kernel) (by decide +kernel) (by decide +kernel) (by first | exact .inl (by decide +kernel) | exact .inr (by decide +kernel)) (by rw[lZl];kernel_rfl)
theorem entry_it:entryFor table "set_iterator.__iter__"=some Builtin.«dict_keyiterator.__iter__» :=entryFor_alias (id':="dict_keyiterator.__iter__") (by kernel_rfl) rfl (by decide +kernel) (by kernel_rfl)
theorem args_it(a:Value):argsOk "set_iterator.__iter__" ⟨[a],[]⟩:=by
 unfold argsOk;rw[signature?_of (id:="set_iterator.__iter__") (n:=['_','_','r','e','t','i','_','_']) (o:=['r','o','t','a','r','e','t','i','_','t','e','s']) (by kernel_rfl) own];kernel_rfl
end Si
section
variable {prog:Program}{w:World}{A:Around}{E:Value->Shared->Prop}{s:Shared}
theorem SetD.stateB{h0:Heap}{S:Addr}{o:Obj}{arr:Array (Int×Value)}{ep:Nat}{t:SetTable}{es:List (TKey×Addr)}(d:SetD prog w h0 S o arr ep t es)(hg:s.heap.get? S=some o){Q:(Array (Int×Value)×Nat×SetTable)->Shared->Prop}(h:Q (arr,ep,t) s):wpAny (model prog w) A (setState S) Q E s:=
 mJu hg d.data d.fits h
theorem qYg{S:Addr}{o:Obj}{arr:Array (Int×Value)}{ep:Nat}{t:SetTable}{es:List (TKey×Addr)}(d:SetD prog w s.heap S o arr ep t es){Q:Value->Shared->Prop}
  (hQ:Q (.ref s.heap.objs.size) {s with heap:=s.heap.push {cls:= .type "set_iterator",data:= .fields #[.int 0 0,.int 0 0,.ref S,.int es.length 0,.int ep 0]} }):wpAny (model prog w) A (pyIter (.ref S)) Q E s:=by
 have hT:s.TypeIs (.ref S) "set":=⟨o,d.get,d.exact_.1⟩;refine wpAny_pyIter_slot hT PySem.F.slot_set_iter (lQh PySem.F.slot_set_iter hT Si.entry_iter ?_ (PySem.F.args_set_iter_1 _));unfold Builtin.«frozenset.__iter__» Builtin.Frozenset.slot0 slotArgs
 (simp only[List.isEmpty_nil,lX6,lKg,↓reduceIte,bind_assoc,lQl,mJv])
 (unfold Builtin.Frozenset.addrOf Builtin.Frozenset.sizeOf)
 refine lJa (lJd ?_)
 try dsimp only
 refine lJa (lJd ?_);simp only[setEntries,setDrawn,bind_assoc];refine lJa (d.state ?_);refine lJa (lJd (lJa (lJd (lJa (d.state ?_)))))
 dsimp only[setsByText]
 refine lJa (lJa (lYs (lJd (lJa (lJd ?_)))));rw[lJb (λz=> ?_)]
 ·(refine lJa (lJd ?_))
  unfold setEpoch;refine lJa (lJa (d.state (lJd ?_)));refine lJa (lQb (lJd ⟨_,rfl,"set_iterator",_,⟨_,lJ8 _ rfl,rfl⟩,Si.slot_next.lookup,?_⟩));have:=d.size
  simpa[rawInt,this] using hQ
 .have z':(!(w.params.followText "set-order")&&(!t.plain&&decide (arr.size>1)))=true:=z;rw[d.plain] at z';simp at z'
theorem kKi{α:Type}:∀{l:List α}{i:Nat}(h:i<l.length),(l[i]::l.eraseIdx i).Perm l
 | a::l,0,_=> .refl _
 | a::l,i+1,h=>by
  have hi:i<l.length:=by simpa using h
  exact (List.Perm.swap _ _ _).trans (List.Perm.cons a (kKi hi))
theorem qQl{α:Type}(next:Nat->Nat):∀(fuel k:Nat)(left:List α)(out:Array α),fuel=left.length->(pickOrder.go next fuel k left out).toList.Perm (out.toList++left)
 | 0,k,left,out,h=>by
  have:left=[]:=mJ2 h.symm;subst this;rw[lVe];exact .refl _
 | fuel+1,k,left,out,h=>by
  have hl:next k%left.length<left.length:=lQ4 _ (by omega)
  unfold pickOrder.go;rw[lJj hl]
  dsimp only
  refine (qQl next fuel (k+1) _ _ (by rw[List.length_eraseIdx_of_lt hl];omega)).trans ?_
  rw[Array.toList_push,lJq]
  (refine lXz _ ?_)
  rw[List.singleton_append];exact kKi hl
theorem qQk{α:Type}(next:Nat->Nat)(xs:Array α):(pickOrder next xs).toList.Perm xs.toList:=by
 have:=qQl next xs.size 0 xs.toList #[] (by simp)
 rw[show (#[]:Array α).toList++xs.toList=xs.toList from rfl] at this
 exact this
noncomputable def ordS(w:World)(S:Addr)(ep:Nat)(arr:Array (Int×Value)):Array (Int×Value):=if bt w=true then pickOrder (w.params.setOrder S ep) arr else arr
theorem jXp(w:World)(S:Addr)(ep:Nat)(arr:Array (Int×Value)):(ordS w S ep arr).toList.Perm arr.toList:=by
 unfold ordS;split
 .exact qQk _ _
 .exact .refl _
noncomputable def jVu(w:World)(t:SetTable)(i:Nat):Nat:=if bt w=true then 0 else if i=0 then 0 else t.place.getD (i-1) 0+1
theorem qJz{t:SetTable}{hs:List Int}(g:St.Good t hs)(hb:bt w=false){i:Nat}(hi:i<=t.place.size):SetTable.below t.place (jVu w t i)=i:=by
 unfold jVu;rw[hb,lJb (by decide)]
 by_cases c:i=0
 .subst c;exact St.below_zero g.ris
 .rw[lJb c,St.getD_at (by omega),St.below_next g.ris (by omega)]
  omega
theorem kJ4{h0:Heap}{S:Addr}{o:Obj}{arr:Array (Int×Value)}{ep:Nat}{t:SetTable}{es:List (TKey×Addr)}(d:SetD prog w h0 S o arr ep t es)(hg:s.heap.get? S=some o)(hl:t.led= !bt w){i:Nat}(hi:i<=arr.size){Q:Option (Value×Nat)->Shared->Prop}
  (hQ:Q (((ordS w S ep arr)[i]?).map λe=>(e.2,jVu w t (i+1))) s):wpAny (model prog w) A (setNext S (jVu w t i) i ep) Q E s:=by
 have hp:t.place.size=arr.size:=by
  have l:=d.good.len;unfold hashes at l;rw[lJe] at l;rw[l,d.size]
 unfold setNext;refine lJa (d.stateB hg ?_)
 dsimp only[setsByText]
 (refine lJa (lJa (lYs (lJd ?_))))
 refine (show wpAny _ _ (if bt w=true then _ else _) _ _ _ from ?_)
 cases hb:bt w with
 | true=>
  rw[lJc rfl,lJb (by simp)]
  unfold setWalk;refine lJa (lJa (d.stateB hg ?_))
  dsimp only[setsByText]
  (refine lJa (lJa (lYs (lJd ?_))))
  refine (show wpAny _ _ (if bt w=true then _ else _) _ _ _ from ?_)
  rw[hb,lJc rfl];refine lJa (lYs (lJd (lJd ?_)));have e1:jVu w t i=jVu w t (i+1):=by unfold jVu;rw[hb];rfl
  unfold ordS at hQ;rw[hb,lJc rfl,<-e1] at hQ;exact hQ
 | false=>
  rw[lJb (by decide)]
  rw[lJb (λz=> ?_)]
  .refine lJa (m:=(if (!t.led&& !arr.isEmpty)=true then unsupported "set:maker-not-led" else pure ())) ?_
   rw[hl,hb];simp only[Bool.not_false,lX6,Bool.false_and,lKg,↓reduceIte]
   (refine lJd (lJd ?_))
   rw[qJz d.good hb (by omega)]
   unfold ordS at hQ;rw[hb,lJb (by decide)] at hQ
   by_cases c:i<arr.size
   .have hi':i<t.place.size:=by omega
    rw[lK4 c,lK4 hi'];rw[lK4 c] at hQ
    dsimp only
    have e1:jVu w t (i+1)=t.place[i]+1:=by
     unfold jVu;rw[hb,lJb (by decide),lJb (by omega),lY5,St.getD_at hi']
    rw[e1] at hQ;exact hQ
   .rw[lVm (by omega)]
    rw[lVm (by omega)] at hQ
    exact hQ
  .have z':(!t.plain&&decide (arr.size>1))=true:=z;rw[d.plain] at z';simp at z'
noncomputable def qJr(S:Addr)(ep n slot i:Nat):Obj:={cls:= .type "set_iterator",dict:=none,data:= .fields #[.int slot 0,.int i 0,.ref S,.int n 0,.int ep 0],slots:= #[]}
theorem qX1{h0:Heap}{S I:Addr}{o:Obj}{arr:Array (Int×Value)}{ep:Nat}{t:SetTable}{es:List (TKey×Addr)}(d:SetD prog w h0 S o arr ep t es)(hl:t.led= !bt w)(hg:s.heap.get? S=some o){i:Nat}(hI:s.heap.get? I=some (qJr S ep arr.size (jVu w t i) i)){e:Int×Value}(he:(ordS w S ep arr)[i]? =some e){Q:Option Value->Shared->Prop}
  (hQ:∀h',Heap.SameBut I s.heap h'->h'.get? I=some (qJr S ep arr.size (jVu w t (i+1)) (i+1))->Q (some e.2) {s with heap:=h'}):wpAny (model prog w) A (pyNext (.ref I)) Q E s:=by
 have hT:s.TypeIs (.ref I) "set_iterator":=⟨_,hI,rfl⟩;have hsz:(ordS w S ep arr).size=arr.size:=by rw[<-lKn,(jXp w S ep arr).length_eq,lKn]
 have hi:i<arr.size:=by have:=(mJ3.mp he).1;omega
 unfold pyNext;refine lJa (lXh (lVr (name:=Str.ofString "__next__") hT Si.slot_next (lQh Si.slot_next hT Si.entry_next ?_ (Si.args_next _))));unfold Builtin.«set_iterator.__next__»;refine lJa (lJd ?_);refine lJa (wpAny_fieldsOf hI rfl ?_)
 dsimp only
 unfold setEntries;refine lJa (lJa (d.stateB hg (lJd ?_)))
 dsimp only
 rw[lJb (by simp)]
 simp only[lYw];refine lJa (kJ4 d hg hl (lV4 hi) ?_);rw[he]
 dsimp only[Option.map_some]
 refine lJa (lZm hI (by simp) λh1 e1 sb1=> ?_)
 refine lJa (lZm (s:={s with heap:=h1}) e1 (by simp) λh2 e2 sb2=> ?_)
 refine lJd ⟨_,rfl,lJd (hQ h2 (sb1.trans sb2) ?_)⟩
 simpa[rawInt,qJr] using e2
theorem uKy{h0:Heap}{S I:Addr}{o:Obj}{arr:Array (Int×Value)}{ep:Nat}{t:SetTable}{es:List (TKey×Addr)}(d:SetD prog w h0 S o arr ep t es)(hl:t.led= !bt w)(hh:A.handled=none)(hg:s.heap.get? S=some o)(hI:s.heap.get? I=some (qJr S ep arr.size (jVu w t arr.size) arr.size)){Q:Option Value->Shared->Prop}
  (hQ:∀h',Heap.ExtBut I s.heap h'->Q none {s with heap:=h'}):wpAny (model prog w) A (pyNext (.ref I)) Q E s:=by
 have hT:s.TypeIs (.ref I) "set_iterator":=⟨_,hI,rfl⟩;have hsz:(ordS w S ep arr).size=arr.size:=by rw[<-lKn,(jXp w S ep arr).length_eq,lKn]
 unfold pyNext;refine lJa (lXh (lVr (name:=Str.ofString "__next__") hT Si.slot_next (lQh Si.slot_next hT Si.entry_next ?_ (Si.args_next _))));unfold Builtin.«set_iterator.__next__»;refine lJa (lJd ?_);refine lJa (wpAny_fieldsOf hI rfl ?_)
 dsimp only
 unfold setEntries;refine lJa (lJa (d.stateB hg (lJd ?_)))
 dsimp only
 rw[lJb (by simp)]
 simp only[lYw];refine lJa (kJ4 d hg hl (lJh _) ?_);rw[lVm (by omega)]
 dsimp only[Option.map_none]
 refine lJa (lZm hI (by simp) λh1 e1 sb1=> ?_)
 refine (show wpAny _ _ (newExc (.type "StopIteration") [] >>= _) _ _ _ from lJa ?_)
 simp only[newExc,newTuple];refine lJa (lQb ?_ (by size_fits));refine lJa (m:=firstArgMember _ _) (lZk (a:=Value.none) (by first | rfl | (simp only[firstArgMember];rfl)) (lQb ?_ (by size_fits)))
 simp only[raiseNew];refine lJa (wpAny_handled ?_);rw[show A.in1.handled=none from hh];refine lJa (lJd (wpAny_throw ?_))
 exact lJa (lX3 (T:="StopIteration") (b:=true) ⟨_,lJ8 _ rfl,rfl⟩ isSubtype_stop (lJd (hQ _ ((sb1.extBut.push _).push _))))
theorem qJ9{h0:Heap}{S I:Addr}{o:Obj}{arr:Array (Int×Value)}{ep:Nat}{t:SetTable}{es:List (TKey×Addr)}(d:SetD prog w h0 S o arr ep t es)(hl:t.led= !bt w)(hh:A.handled=none)(hIS:I≠S):
  WalksS prog w A I [I,S] [I] (λa b=>b=a) arr.size (λi v=>((ordS w S ep arr)[i]?).map (·.2)=some v) (λi s=>s.heap.get? S=some o/\s.heap.get? I=some (qJr S ep arr.size (jVu w t i) i)) where
 sub:=λb hb=>by rw[lJ1.mp hb];exact lJ6 ..
 grefl:=λ_=>rfl
 gtrans:=λ_ _ _ h1 h2=>(h2.trans h1)
 frame:=λi s h' _ st _ hk=>⟨hk S (by simp) _ st.1,hk I (by simp) _ st.2⟩
 item:=by
  intro i s Q E hi st hQ;have hsz:(ordS w S ep arr).size=arr.size:=by rw[<-lKn,(jXp w S ep arr).length_eq,lKn]
  refine qX1 d hl st.1 st.2 (e:=(ordS w S ep arr)[i]) (lK4 (by omega)) λh' sb e=> ?_
  refine hQ _ _ (by rw[lK4 (by omega)];rfl) ⟨(sb.2 S (λz=>hIS z.symm)).trans st.1,e⟩ ⟨λb ob hb e=> ?_,rfl,rfl,rfl,lJh _⟩
  exact (sb.2 b (λz=>hb (lJ1.mpr z))).trans e
 done:=by
  intro s Q E st hQ;refine uKy d hl hh st.1 st.2 λh' eb=>hQ _ ⟨λb ob hb e=> ?_,rfl,rfl,rfl,lJh _⟩
  exact eb b ob (λz=>hb (lJ1.mpr z)) e
 self:=by
  intro i s Q E st hQ;have hT:s.TypeIs (.ref I) "set_iterator":=⟨_,st.2,rfl⟩;refine wpAny_pyIter_slot hT Si.slot_iter (lQh Si.slot_iter hT Si.entry_it ?_ (Si.args_it _));exact (show wpAny _ _ (ret (.ref I)) _ _ s from lJd ⟨_,rfl,"set_iterator",_,hT,Si.slot_next.lookup,hQ⟩)
theorem qYo{S:Addr}{o:Obj}(hg:s.heap.get? S=some o)(hc:o.cls= .type "set"){Q:Bool->Shared->Prop}(h:Q false s):wpAny (model prog w) A (Builtin.List.listLengthHint (.ref S)) Q E s:=by
 have hT:s.TypeIs (.ref S) "set":=⟨o,hg,hc⟩
 (unfold Builtin.List.listLengthHint)
 refine lJa (lX2 hT PySem.F.slot_set_len.lookup ?_)
 generalize hn:("set.__len__":String)=nm
 wp_delta
 rw[show splitId nm=some ("set","__len__") by subst hn;decide +kernel];subst hn
 refine lJa (lX3 (T:="set") (b:=true) hT (by rw[lZl];kernel_rfl) (lXi (λz=>absurd z (by decide)) λ_=> ?_))
 refine lXi (λ_=> ?_) λz=>absurd (by decide +kernel) z
 exact lJa (lVc hT (lJd h))
theorem qJv{R:Result->Shared->Prop}{S L:Addr}{o:Obj}{arr:Array (Int×Value)}{ep:Nat}{t:SetTable}{es:List (TKey×Addr)}(d:SetD prog w s.heap S o arr ep t es)(hl:t.led= !bt w)(hh:A.handled=none)(res:Value)(c0:Nat)
  (hL:s.heap.get? L=some {cls:= .type "list",data:= .seq #[] c0}) (hLS:L≠S)
  (hR:∀(g:Heap)(tk:Nat)(acc:Array Value)(c':Nat),(∀b ob,b≠L->s.heap.get? b=some ob->g.get? b=some ob)->g.get? L=some {cls:= .type "list",dict:=none,data:= .seq acc c',slots:= #[]}->ItemsOf (λi v=>((ordS w S ep arr)[i]?).map (·.2)=some v) acc arr.size->R (.ok (.ret res)) {s with heap:=g,toks:=tk}):
  wpAny (model prog w) A.in1 (Builtin.List.listExtendWith (.ref L) (.ref S) res) (λfin z=>match fin with | .done f=>R (.ok f) z | .again c'=>c'.quiet=true/\codeAny (model prog w) A c' R z) (λe z=>R (.error e) z) s:=by
 have hT:s.TypeIs (.ref S) "set":=⟨o,d.get,d.exact_.1⟩;have hIS:s.heap.objs.size≠S:=lVf (lJk d.get);have hIL:L≠s.heap.objs.size:=lJt (lJk hL);have hSf:L∉[s.heap.objs.size,S]:=by simp[hIL,hLS]
 have asz:arr.size<=sizeLine:=by
  rw[d.size,lKe]
  rcases d.mask with ⟨_,z⟩ | ⟨_,z⟩ | ⟨_,z⟩<;>omega
 (unfold Builtin.List.listExtendWith)
 (refine lJa (lVc hT ?_))
 have z1:Builtin.List.listSameRef (.ref L) (.ref S)=false:=by simp[Builtin.List.listSameRef,hLS]
 have z2:(Value.type "set" == Value.type "list")=false:=by decide
 have z3:(Value.type "set" == Value.type "tuple")=false:=by decide
 simp only[z1,z2,z3,Bool.or_false,lKg,lKa];refine lJa (qYg d ?_);refine lJa (lKj (qYo (o:=o) (lJm _ d.get) d.exact_.1 ?_));refine lXi (λ_=> ?_) λz=>absurd (by decide +kernel) z
 refine lJa (lQq ?_)
 generalize hg1:s.heap.push {cls:=Value.type "set_iterator",data:=Data.fields #[Value.int 0 0,Value.int 0 0,Value.ref S,Value.int (es.length:Int) 0,Value.int (ep:Int) 0]}=h1
 have hI1:h1.get? s.heap.objs.size=some (qJr S ep arr.size (jVu w t 0) 0):=by
  rw[<-hg1,d.size,show jVu w t 0=0 by unfold jVu;split<;>rfl]
  exact lJ8 _ rfl
 have up:∀b ob,s.heap.get? b=some ob->h1.get? b=some ob:=λb ob e=>by rw[<-hg1];exact lJm _ e
 have hL1:=up L _ hL;refine lJa ?_;refine (show wpAny _ A.in1 (updateSeq L (·.push .none) >>= λ_=>updateSeq L (·.pop)) _ _ {s with heap:=h1} from ?_)
 refine lJa (wpAny_updateSeq hL1 rfl ?_);have hL2:=lX7 (Obj.mapSeq (·.push Value.none)) hL1 rfl
 refine wpAny_updateSeq (s:={s with heap:=h1.update L (Obj.mapSeq (·.push Value.none))}) hL2 rfl ?_
 have hL3:=lX7 (Obj.mapSeq (·.pop)) hL2 rfl
 have oth:∀b ob,b≠L->h1.get? b=some ob->((h1.update L (Obj.mapSeq (·.push Value.none))).update L (Obj.mapSeq (·.pop))).get? b=some ob:=
  λb ob hb e=>(lYu _ _ (Ne.symm hb)).trans ((lYu _ _ (Ne.symm hb)).trans e)
 refine lJd ⟨lQy F.plain_extend_loop _,?_⟩;refine codeAny_extend_loopS (qJ9 (A:=A.in1) d hl hh hIS) asz L hSf res arr.size 0 _ #[] _ rfl (lJn _) ⟨oth S o (Ne.symm hLS) (up S o d.get),oth _ _ (Ne.symm hIL) hI1⟩ hL3 (ItemsOf.nil _) λz acc c' hm hL' hacc=> ?_
 rw[Moved.eq_with hm];refine hR z.heap z.toks acc c' (λb ob hb e=>hm.heap b ob ?_ (oth b ob hb (up b ob e))) hL' hacc
 simp only[lJp,lKr,lQr,not_or];exact⟨hb,lJt (lJk e)⟩
theorem kXr{S:Addr}{o:Obj}{arr:Array (Int×Value)}{ep:Nat}{t:SetTable}{es:List (TKey×Addr)}(d:SetD prog w s.heap S o arr ep t es)(hl:t.led= !bt w)(hh:A.handled=none){Q:List Value->Shared->Prop}
  (hQ:∀(g:Heap)(tk:Nat)(acc:List Value),(∀b ob,s.heap.get? b=some ob->g.get? b=some ob)->s.heap.objs.size<g.objs.size->acc.Perm (es.map λe=> .ref e.2)->Q acc {s with heap:=g,toks:=tk}):wpAny (model prog w) A (collect (.ref S)) Q E s:=by
 have hLS:s.heap.objs.size≠S:=lVf (lJk d.get)
 have key:∀R:Result->Shared->Prop,(∀(g:Heap)(tk:Nat)(acc:Array Value)(c':Nat),(∀b ob,s.heap.get? b=some ob->g.get? b=some ob)->g.get? s.heap.objs.size=some {cls:= .type "list",dict:=none,data:= .seq acc c',slots:= #[]}->ItemsOf (λi v=>((ordS w S ep arr)[i]?).map (·.2)=some v) acc arr.size->R (.ok (.ret (.ref s.heap.objs.size))) {s with heap:=g,toks:=tk})->
   codeAny (model prog w) A (.builtin "proto.collect" ⟨[.ref S],[]⟩) R s:=by
  intro R hR;refine lQs F.entry_proto_collect ?_
  (rw[lQu F.plain_proto_collect _])
  refine (show wpAny _ A.in1 (newList [] >>= λl=>again (.builtin "list.__iadd__" ⟨[l,.ref S],[]⟩)) _ _ s from lJa (lQb (lJd ⟨lQy lYx _,lQs F.entry_list_iadd ?_⟩)))
  (rw[lQu lYx _])
  have hS1:(s.heap.push {cls:= .type "list",data:= .seq ([]:List Value).toArray}).get? s.heap.objs.size=some {cls:= .type "list",data:= .seq ([]:List Value).toArray}:=lJ8 _ rfl;have d1:SetD prog w (s.heap.push {cls:= .type "list",data:= .seq ([]:List Value).toArray}) S o arr ep t es:=d.move (lJm _ d.get) λb ob e _=>lJm _ e
  exact qJv (A:=A) (R:=R) (s:={s with heap:=s.heap.push {cls:= .type "list",data:= .seq ([]:List Value).toArray} }) d1 hl hh (.ref s.heap.objs.size) 0 hS1 hLS λg tk acc c' kp hL' hacc=>hR g tk acc c' (λb ob e=>kp b ob (lJt (lJk e)) (lJm _ e)) hL' hacc
 unfold collect;refine lJa (wpAny_runValue (key _ λg tk acc c' kp hL' hacc=>(show wpAny _ A (load s.heap.objs.size >>= _) _ _ _ from lJa (wpAny_load hL' (lJd (hQ g tk acc.toList kp (lJk hL') ?_))))))
 have e1:acc.toList=(ordS w S ep arr).toList.map (·.2):=by
  have hsz:(ordS w S ep arr).size=arr.size:=by rw[<-lKn,(jXp w S ep arr).length_eq,lKn]
  apply lQj;intro i;rw[lJ4,lJ5,lJ5]
  by_cases hi:i<acc.size
  .have:=hacc.2 i acc[i] (lK4 hi);rw[lK4 hi];exact this.symm
  .rw[lVm (by omega),lVm (by rw[hsz,<-hacc.1];omega)]
   rfl
 rw[e1];refine ((jXp w S ep arr).map _).trans ?_;rw[d.arr_,lJz];exact .refl _
end
end L3
namespace L3
open PySem PySem.Spec PyProof.Rows L2
noncomputable def lexLt{K:Type}[DecidableEq K](lt:K->K->Option Bool):List K->List K->Option Bool
 | [],[]=>some false
 | [],_::_=>some true
 | _::_,[]=>some false
 | x::xs,y::ys=>if x=y then lexLt lt xs ys else lt x y
noncomputable def ltI:Key->Key->Option Bool
 | .inl i,.inl j=>some (decide (i<j))
 | _,_=>none
def ltS{K:Type}[DecidableEq K](lt:K->K->Option Bool):Key ⊕ List K->Key ⊕ List K->Option Bool
 | .inl x,.inl y=>ltI x y
 | .inr x,.inr y=>lexLt lt x y
 | _,_=>none
def ltK:TKey->TKey->Option Bool:=lexLt (ltS (ltS ltI))
section
variable {prog:Program}{w:World}{K:Type}[DecidableEq K]{c:Nat}
def LtV(V:KeyV prog w K c)(lt:K->K->Option Bool):Prop:=∀{A:Around}{E:Value->Shared->Prop}{s:Shared}{x y:K}{u v:Value}{b:Bool}{Q:Value->Shared->Prop},A.units+c<cLine->V.is s.heap x u->V.is s.heap y v->lt x y=some b->Q (.bool b) s->wpAny (model prog w) A (compareOp .Lt u v) Q E s
theorem kXb:LtV (jYq prog w) ltI:=by
 intro A E s x y u v b Q _ hx hy hl h
 rcases jJs (show jXa x u=true from hx) with ⟨i,t,rfl,rfl⟩ | ⟨i,t,rfl,rfl⟩
 .rcases jJs (show jXa y v=true from hy) with ⟨j,t',rfl,rfl⟩ | ⟨j,t',rfl,rfl⟩
  .cases hl;exact PyProof.Rows.lt_int h
  .cases hl
 .cases hl
open PySem.SeqAt in
open PySem.AutoSeq1 (wpAny_loadPart') in
open PySem.MeetsSeq PySem.MeetsSeq2 PySem.MeetsSeq3 in
theorem qZv{V:KeyV prog w K c}{lt:K->K->Option Bool}(hV:LtV V lt):LtV (jUk V) (lexLt lt):=by
 rintro A E s x y u v b Q hu ⟨a1,o1,its1,n1,rfl,ho1,hc1,hd1,hi1⟩ ⟨a2,o2,its2,n2,rfl,ho2,hc2,hd2,hi2⟩ hl h;obtain⟨cls,dd,data,sl⟩:=o1;obtain⟨cls2,dd2,data2,sl2⟩:=o2;simp only at hc1 hd1 hc2 hd2;subst hc1 hd1 hc2 hd2;have hT1:s.TypeIs (.ref a1) "tuple":=⟨_,ho1,rfl⟩;have hT2:s.TypeIs (.ref a2) "tuple":=⟨_,ho2,rfl⟩;refine (show wpAny _ _ (richCompare .Lt (.ref a1) (.ref a2)) _ _ s from wpAny_richCompare_same_room hT1 hT2 PySem.F.slot_tuple_lt (lQh PySem.F.slot_tuple_lt hT1 PySem.F.entry_tuple_lt ?_ (PySem.F.args_tuple_lt_2 _ _)) (by omega))
 have f2:=AutoSeq1.sub_tuple_tuple
 (obtain⟨hp,g,d,tk,os⟩:=s)
 have z1:its1.size=x.length:=by rw[hi1.length];simp
 have z2:its2.size=y.length:=by rw[hi2.length];simp
 wp_walk using wpAny_loadPart' ho1,wpAny_loadPart' ho2,wpAny_forIn_list _ (λrest bb s'=>bb.1=none/\s'=⟨hp,g,d,tk,os⟩/\∃(vs ws:List Value)(x' y':List K),rest=vs.zip ws/\ItemsV V hp x' vs/\ItemsV V hp y' ws/\x'.length+its2.size=y'.length+its1.size/\lexLt lt x' y'=some b) _
 case turn=>
  rintro⟨p,q⟩ rest bb s' ⟨hb',rfl,vs,ws,x',y',hz,hv1,hv2,hlen,hR⟩;cases hv1 with
  | nil=>rw[List.zip_nil_left] at hz;cases hz
  | @cons k1 v1 ks1 vs1 h1 hv1'=>
   cases hv2 with
   | nil=>rw[List.zip_nil_right] at hz;cases hz
   | @cons k2 v2 ks2 vs2 h2 hv2'=>
    rw[lXs] at hz;injection hz with hyx hrest
    injection hyx with hy hx
    subst hy hx;simp only[lKk] at hlen;have he:=V.eqAt (A:=A.in1) (s:=⟨hp,g,d,tk,os⟩) (by rw[lQk];omega) h1 h2
    refine lJa (he prog w _ _ ?_)
    by_cases e:k1=k2
    .have hR':lexLt lt ks1 ks2=some b:=by
      have:=hR;unfold lexLt at this;rw[lJc e] at this;exact this
     rw[lJ9 e]
     wp_walk
     exact⟨rfl,rfl,_,_,_,_,hrest,hv1',hv2',by omega,hR'⟩
    .have hR':lt k1 k2=some b:=by
      have:=hR;unfold lexLt at this;rw[lJb e] at this;exact this
     rw[lJv e];have hri:∀{Q':Value->Shared->Prop}{E':Value->Shared->Prop},Q' (.bool b) ⟨hp,g,d,tk,os⟩->wpAny (model prog w) A.in1 (richCompare .Lt p q) Q' E' ⟨hp,g,d,tk,os⟩:=λhq=>(hV (A:=A.in1) (s:=⟨hp,g,d,tk,os⟩) (by rw[lQk];omega) h1 h2 hR' hq:wpAny (model prog w) A.in1 (compareOp .Lt p q) _ _ _)
     wp_walk using hri
     exact⟨_,rfl,(λz=>nomatch z),h⟩
 case fin=>
  rintro⟨b1,b2⟩ s' ⟨hb',rfl,vs,ws,x',y',hz,hv1,hv2,hlen,hR⟩;simp only at hb';subst hb'
  have hv:b=decide (its1.size<its2.size):=by
   cases hv1 with
   | nil=>
    cases hv2 with
    | nil=>simp only[lQl] at hlen;cases hR;exact (lJv (by omega)).symm
    | cons _ _=>simp only[lQl,lKk] at hlen;cases hR;exact (lJ9 (by omega)).symm
   | cons _ hv1'=>
    cases hv2 with
    | nil=>simp only[lQl,lKk] at hlen;cases hR;exact (lJv (by omega)).symm
    | cons _ _=>rw[lXs] at hz;cases hz
  wp_walk
  refine⟨_,rfl,(λz=>nomatch z),?_⟩
  simpa[Builtin.Tuple.tupleCompareSizes,<-hv] using h
 case h=>
  exact⟨rfl,rfl,its1.toList,its2.toList,x,y,rfl,hi1,hi2,by omega,hl⟩
theorem kYu{V:KeyV prog w K c}{lt:K->K->Option Bool}(hV:LtV V lt):LtV (kZ5 V) (ltS lt):=by
 rintro A E s (x | x) (y | y) u v b Q hu hx hy hl h
 .exact kXb (by omega) hx hy hl h
 .cases hl
 .cases hl
 .exact qZv hV hu hx hy hl h
end
end L3
namespace L3
open PySem PySem.Spec PyProof.Rows L2 PySem.W
def Rn{α:Type}(n:Nat)(lt:Nat->Nat->Bool):KasT α->(α->Prop)->Prop
 | .ret a,Q=>Q a
 | .ask i j k,Q=>i<n/\j<n/\Rn n lt (k (lt i j)) Q
theorem Rn.mono{α:Type}{n:Nat}{lt:Nat->Nat->Bool}{Q Q':α->Prop}(hq:∀a,Q a->Q' a):∀{t:KasT α},Rn n lt t Q->Rn n lt t Q'
 | .ret a,h=>hq a h
 | .ask i j k,h=>⟨h.1,h.2.1,Rn.mono hq (t:=k (lt i j)) h.2.2⟩
theorem Rn.bind{α β:Type}{n:Nat}{lt:Nat->Nat->Bool}{f:α->KasT β}{Q:β->Prop}:∀{t:KasT α},Rn n lt t (λa=>Rn n lt (f a) Q)->Rn n lt (t.bind f) Q
 | .ret a,h=>h
 | .ask i j k,h=>⟨h.1,h.2.1,Rn.bind (t:=k (lt i j)) h.2.2⟩
theorem Rn.wp{α:Type}{n:Nat}{lt:Nat->Nat->Bool}{cmp:Nat->Nat->(Bool->Shared->Prop)->Shared->Prop}{s:Shared}{Q:α->Prop}{R:α->Shared->Prop}(hc:∀i j C,i<n->j<n->C (lt i j) s->cmp i j C s)(hr:∀a,Q a->R a s):∀{t:KasT α},Rn n lt t Q->t.kasWp cmp R s
 | .ret a,h=>hr a h
 | .ask i j k,h=>hc i j _ h.1 h.2.1 (Rn.wp hc hr (t:=k (lt i j)) h.2.2)
structure SOrd (n:Nat) (lt:Nat->Nat->Bool):Prop where
 neg:∀i j,i<n->j<n->i≠j->lt j i= !lt i j
 tr:∀i j k,i<n->j<n->k<n->lt i j=true->lt j k=true->lt i k=true
variable {n m:Nat}{p:Array Nat}
section
variable {lt:Nat->Nat->Bool}
def Pm(n:Nat)(p:Array Nat):Prop:=p.toList.Perm (List.range n)
theorem Pm.size(h:Pm n p):p.size=n:=by have:=h.length_eq;simpa using this
theorem Pm.bd(h:Pm n p)(hn:0<n)(i:Nat):p.getD i 0<n:=by
 by_cases c:i<p.size
 .have e:p.getD i 0=p[i]:=by simp[Array.getD,c]
  rw[e];have:p[i]∈List.range n:=h.mem_iff.mp (by simp)
  exact lKc.mp this
 .have e:p.getD i 0=0:=by simp[Array.getD,c]
  rw[e];exact hn
theorem Pm.ne(h:Pm n p){i j:Nat}(hi:i<n)(hj:j<n)(hij:i≠j):p.getD i 0≠p.getD j 0:=by
 have hs:=h.size;have nd:p.toList.Nodup:=h.nodup_iff.mpr lV8;have e1:p.getD i 0=p[i]:=by simp[Array.getD,hs,hi]
 have e2:p.getD j 0=p[j]:=by simp[Array.getD,hs,hj]
 rw[e1,e2];intro z;have:=(lZr (xs:=p.toList) (h₀:=by simpa[hs] using hi) (h₁:=by simpa[hs] using hj) nd).mp (by simpa using z)
 exact hij this
theorem Pm.rev(h:Pm n p)(i j:Nat):Pm n (kas_rev p i j):=(lY6.mp (mirror_perm p i j _)).trans h
theorem Pm.bub(h:Pm n p)(i j:Nat):Pm n (bubble p i j):=(lY6.mp (bubble_perm p i j)).trans h
def Srt(lt:Nat->Nat->Bool)(p:Array Nat)(m:Nat):Prop:=∀a b,a<b->b<m->lt (p.getD a 0) (p.getD b 0)=true
theorem qVt(O:SOrd n lt){p:Array Nat}(hp:Pm n p)(hn:0<n):∀(f a:Nat),1<=a->a+f<=n->Srt lt p a->Rn n lt (kas_asc p f a) (λm=>a<=m/\m<=a+f/\Srt lt p m/\(m<a+f->lt (p.getD m 0) (p.getD (m-1) 0)=true))
 | 0,a,_,_,hs=>⟨lJh _,lJh _,hs,λz=>absurd z (by omega)⟩
 | f+1,a,h1,hf,hs=>by
  refine⟨hp.bd hn _,hp.bd hn _,?_⟩;cases c:lt (p.getD a 0) (p.getD (a-1) 0) with
  | true=>dsimp only;rw[if_pos rfl];exact⟨Nat.le_refl _,by omega,hs,λ_=>c⟩
  | false=>
   dsimp only
   rw[lJb (by decide)]
   have up:lt (p.getD (a-1) 0) (p.getD a 0)=true:=by
    have:=O.neg _ _ (hp.bd hn a) (hp.bd hn (a-1)) (hp.ne (by omega) (by omega) (by omega))
    rw[c] at this;exact this
   have hs':Srt lt p (a+1):=by
    intro x y hxy hy
    by_cases e:y=a
    .subst e
     by_cases e2:x=y-1
     .subst e2;exact up
     .exact O.tr _ _ _ (hp.bd hn _) (hp.bd hn _) (hp.bd hn _) (hs x (y-1) (by omega) (by omega)) up
    .exact hs x y hxy (by omega)
   refine (qVt O hp hn f (a+1) (by omega) (by omega) hs').mono λm hm=>⟨by omega,by omega,hm.2.2.1,λz=>hm.2.2.2 (by omega)⟩
def Dsc(lt:Nat->Nat->Bool)(p:Array Nat)(m:Nat):Prop:=∀a b,a<b->b<m->lt (p.getD b 0) (p.getD a 0)=true
theorem qU7(O:SOrd n lt){p:Array Nat}(hp:Pm n p)(hn:0<n):∀(f a:Nat),1<=a->a+f<=n->Dsc lt p a->Rn n lt (kas_desc f p a 0) (λr=>r.1=p/\a<=r.2.1/\r.2.1<=a+f/\r.2.2=0/\Dsc lt p r.2.1)
 | 0,a,_,_,hs=>⟨rfl,lJh _,lJh _,rfl,hs⟩
 | f+1,a,h1,hf,hs=>by
  refine⟨hp.bd hn _,hp.bd hn _,?_⟩;cases c:lt (p.getD a 0) (p.getD (a-1) 0) with
  | true=>
   dsimp only
   rw[lJc rfl,lJb (by omega)]
   have hs':Dsc lt p (a+1):=by
    intro x y hxy hy
    by_cases e:y=a
    .subst e
     by_cases e2:x=y-1
     .subst e2;exact c
     .exact O.tr _ _ _ (hp.bd hn _) (hp.bd hn _) (hp.bd hn _) c (hs x (y-1) (by omega) (by omega))
    .exact hs x y hxy (by omega)
   exact (qU7 O hp hn f (a+1) (by omega) (by omega) hs').mono λr hr=>⟨hr.1,by omega,by omega,hr.2.2.2⟩
  | false=>
   dsimp only
   rw[lJb (by decide)]
   have up:lt (p.getD (a-1) 0) (p.getD a 0)=true:=by
    have:=O.neg _ _ (hp.bd hn a) (hp.bd hn (a-1)) (hp.ne (by omega) (by omega) (by omega))
    rw[c] at this;exact this
   refine⟨hp.bd hn _,hp.bd hn _,?_⟩;rw[up]
   dsimp only
   rw[lJc rfl];exact⟨rfl,lJh _,lYh _ _,rfl,hs⟩
theorem qKy{k:Nat}(hm:m<=p.size)(hk:k<m):(kas_rev p 0 m).getD k 0=p.getD (m-1-k) 0:=by
 have:=mJw (xs:=p) (i:=0) (j:=m) hm k;rw[lJc ⟨lJn _,hk⟩,lQ3] at this;unfold kas_rev;rw[lVp,lVp,this]
theorem uJw(hm:m<=p.size)(h:Dsc lt p m):Srt lt (kas_rev p 0 m) m:=by
 intro a b hab hb;rw[qKy hm (by omega),qKy hm hb]
 exact h _ _ (by omega) (by omega)
theorem uJj(O:SOrd n lt)(hp:Pm n p)(hn:0<n)(h1:1<=m)(hm:m<=n)(h:Dsc lt p m):Rn n lt (kas_tail3 m n p) (λr=>Pm n r.2/\1<=r.1/\r.1<=n/\Srt lt r.2 r.1):=by
 unfold kas_tail3;refine Rn.bind ((qVt O (hp.rev 0 m) hn (n-m) m h1 (by omega) (uJw (by rw[hp.size];exact hm) h)).mono λx hx=> ?_)
 exact⟨hp.rev 0 m,by omega,by omega,hx.2.2.1⟩
theorem qY5(O:SOrd n lt)(hp:Pm n p)(hn:0<n):Rn n lt (kas_count n p) (λr=>Pm n r.2/\1<=r.1/\r.1<=n/\Srt lt r.2 r.1):=by
 unfold kas_count;refine Rn.bind ((qVt O hp hn (n-1) 1 (lJh _) (by omega) (λa b h1 h2=>by omega)).mono λm hm=> ?_)
 by_cases e:m=n
 .rw[lJc (by simpa using e)]
  exact⟨hp,by omega,by omega,hm.2.2.1⟩
 .rw[lJb (by simpa using e)]
  have dn:=hm.2.2.2 (by omega)
  by_cases c:m>1
  .rw[lJc c];refine⟨hp.bd hn _,hp.bd hn _,?_⟩;rw[hm.2.2.1 0 (m-1) (by omega) (by omega)]
   dsimp only
   rw[lJc rfl];exact⟨hp,by omega,by omega,hm.2.2.1⟩
  .rw[lJb c];have m1:m=1:=by omega
   subst m1;unfold kas_descPart;refine Rn.bind ((qU7 O hp hn (n-(1+1)) (1+1) (by omega) (by omega) ?_).mono λr hr=> ?_)
   .intro a b h1 h2;have:a=0:=by omega
    have:b=1:=by omega
    subst a;subst b;exact dn
   .obtain⟨q,a,z⟩:=r;obtain⟨r1,r2,r3,r4,r5⟩:=hr;simp only at r1 r2 r3 r4 r5;subst r1;subst r4;rw[lJb (by simp)]
    exact uJj O hp hn (m:=a) (by omega) (by omega) r5
theorem kQa(O:SOrd n lt){p:Array Nat}(hp:Pm n p)(hn:0<n){k:Nat}(hk:k<n)(hs:Srt lt p k):∀(f l r:Nat),l<=r->r<=k->r-l<=f->(∀i,i<l->lt (p.getD i 0) (p.getD k 0)=true)->(∀i,r<=i->i<k->lt (p.getD k 0) (p.getD i 0)=true)->
  Rn n lt (kas_place p k f l r) (λm=>m<=k/\(∀i,i<m->lt (p.getD i 0) (p.getD k 0)=true)/\(∀i,m<=i->i<k->lt (p.getD k 0) (p.getD i 0)=true))
 | 0,l,r,h1,h2,h3,h4,h5=>by
  have e:r=l:=by omega
  subst e;exact⟨h2,h4,h5⟩
 | f+1,l,r,h1,h2,h3,h4,h5=>by
  unfold kas_place
  by_cases c:l>=r
  .rw[lJc c];have e:r=l:=by omega
   subst e;exact⟨h2,h4,h5⟩
  .rw[lJb c];refine⟨hp.bd hn _,hp.bd hn _,?_⟩;cases q:lt (p.getD k 0) (p.getD ((l+r) / 2) 0) with
   | true=>
    dsimp only
    rw[lJc rfl];refine kQa O hp hn hk hs f l _ (by omega) (by omega) (by omega) h4 λi hi1 hi2=> ?_
    by_cases e:i=(l+r) / 2
    .subst e;exact q
    .exact O.tr _ _ _ (hp.bd hn _) (hp.bd hn _) (hp.bd hn _) q (hs _ _ (by omega) hi2)
   | false=>
    dsimp only
    rw[lJb (by decide)]
    have up:lt (p.getD ((l+r) / 2) 0) (p.getD k 0)=true:=by
     have:=O.neg _ _ (hp.bd hn k) (hp.bd hn ((l+r) / 2)) (hp.ne hk (by omega) (by omega))
     rw[q] at this;exact this
    refine kQa O hp hn hk hs f _ r (by omega) h2 (by omega) (λi hi=> ?_) h5
    by_cases e:i=(l+r) / 2
    .subst e;exact up
    .exact O.tr _ _ _ (hp.bd hn _) (hp.bd hn _) (hp.bd hn _) (hs _ _ (by omega) (by omega)) up
theorem qVk{k l x:Nat}(hk:k<p.size)(hl:l<=k):(bubble p k (k-l)).getD x 0=if x=l then p.getD k 0 else if l<x/\x<=k then p.getD (x-1) 0 else p.getD x 0:=by
 have:=mJx hk (k-l) (by omega) x
 rw[show k-(k-l)=l by omega] at this
 simp only[lVp];rw[this];split
 .rfl
 .split<;>rfl
theorem qZ7(O:SOrd n lt)(hn:0<n):∀(f:Nat)(p:Array Nat)(k:Nat),Pm n p->k+f=n->Srt lt p k->Rn n lt (kas_bin f p k) (λq=>Pm n q/\Srt lt q n)
 | 0,p,k,hp,hf,hs=>by
  have:k=n:=by omega
  subst this;exact⟨hp,hs⟩
 | f+1,p,k,hp,hf,hs=>by
  unfold kas_bin;refine Rn.bind ((kQa O hp hn (by omega) hs k 0 k (lJn _) (lJh _) (by omega) (λi hi=>by omega) (λi h1 h2=>by omega)).mono λl hl=> ?_)
  refine qZ7 O hn f _ (k+1) (hp.bub k (k-l)) (by omega) ?_
  obtain⟨l1,l2,l3⟩:=hl;have hk:k<p.size:=by rw[hp.size];omega
  intro a b hab hb;rw[qVk hk l1,qVk hk l1]
  by_cases ea:a=l
  .rw[lJc ea,lJb (by omega),lJc (by omega)]
   exact l3 _ (by omega) (by omega)
  .rw[lJb ea]
   by_cases eb:b=l
   .rw[lJb (by omega),lJc eb]
    exact l2 a (by omega)
   .rw[lJb eb]
    by_cases ca:l<a/\a<=k
    .rw[lJc ca,lJc (by omega)]
     (exact hs _ _ (by omega) (by omega))
    .rw[lJb ca]
     by_cases cb:l<b/\b<=k
     .rw[lJc cb]
      (exact hs _ _ (by omega) (by omega))
     .rw[lJb cb]
      (exact hs _ _ (by omega) (by omega))
theorem uJp(O:SOrd n lt)(hn:0<n):Rn n lt (kas_sort n) (λp=>Pm n p/\Srt lt p n):=by
 unfold kas_sort;have hp:Pm n (List.toArray (List.range n)):= .refl _;refine Rn.bind ((qY5 O hp hn).mono λr hr=> ?_)
 obtain⟨m,q⟩:=r;obtain⟨h1,h2,h3,h4⟩:=hr;simp only at h1 h2 h3 h4 ⊢
 by_cases c:m<n
 .rw[lJc c,show max m 1=m by omega]
  exact qZ7 O hn (n-m) q m h1 (by omega) h4
 .rw[lJb c];have:m=n:=by omega
  subst this;exact⟨h1,h4⟩
end
structure KOrd {K:Type} (lt:K->K->Option Bool):Prop where
 neg:∀ {a b},a≠b->∀ {c},lt a b=some c->lt b a=some !c
 tr:∀ {a b c},a≠b->b≠c->lt a b=some true->lt b c=some true->lt a c=some true
 ir:∀ {a b},a≠b->lt a b=some true->lt b a=some true->False
theorem kord_I:KOrd ltI:=by
 refine⟨?_,?_,?_⟩
 .rintro (a | a) (b | b) h c e
  .have hab:a≠b:=λz=>h (by rw[z])
   simp only[ltI,lYi] at e ⊢;rw[<-e]
   by_cases q:a<b
   .rw[lJ9 q,lJv (by omega)];rfl
   .rw[lJv q,lJ9 (by omega)];rfl
  .cases e
  .cases e
  .cases e
 .rintro (a | a) (b | b) (c | c) _ _ e1 e2<;>first | cases e1;done | cases e2;done | skip
  simp only[ltI,lYi,lK1] at e1 e2 ⊢;omega
 .rintro (a | a) (b | b) _ e1 e2<;>first | cases e1;done | skip
  simp only[ltI,lYi,lK1] at e1 e2;omega
section
variable {K:Type}[DecidableEq K]{lt:K->K->Option Bool}
theorem kXf(o:KOrd lt):∀{a b:List K},a≠b->∀ {c},lexLt lt a b=some c->lexLt lt b a=some !c
 | [],[],h,_,_=>absurd rfl h
 | [],_::_,_,c,e=>by cases e;rfl
 | _::_,[],_,c,e=>by cases e;rfl
 | x::xs,y::ys,h,c,e=>by
  unfold lexLt at e ⊢
  by_cases q:x=y
  .rw[lJc q] at e;rw[lJc q.symm];exact kXf o (λz=>h (by rw[q,z])) e
  .rw[lJb q] at e;rw[lJb (λz=>q z.symm)]
   exact o.neg q e
theorem kYy:∀(a:List K),lexLt lt a a=some false
 | []=>rfl
 | x::xs=>by unfold lexLt;rw[lJc rfl];exact kYy xs
theorem kYx(o:KOrd lt):∀{a b c:List K},lexLt lt a b=some true->lexLt lt b c=some true->lexLt lt a c=some true
 | [],[],_,e,_=>by cases e
 | _::_,[],_,e,_=>by cases e
 | [],_::_,[],_,e=>by cases e
 | [],_::_,_::_,_,_=>(rfl)
 | _::_,_::_,[],_,e=>by cases e
 | x::xs,y::ys,z::zs,e1,e2=>by
  unfold lexLt at e1 e2 ⊢
  by_cases q1:x=y
  .subst q1;rw[lJc rfl] at e1
   by_cases q2:x=z
   .rw[lJc q2] at e2 ⊢;exact kYx o e1 e2
   .rw[lJb q2] at e2 ⊢;exact e2
  .rw[lJb q1] at e1
   by_cases q2:y=z
   .subst q2;rw[lJb q1];exact e1
   .rw[lJb q2] at e2
    by_cases q3:x=z
    .subst q3;exact (o.ir q1 e1 e2).elim
    .rw[lJb q3];exact o.tr q1 q2 e1 e2
theorem kQf(o:KOrd lt):KOrd (lexLt lt):=by
 refine⟨?_,?_,?_⟩
 .intro a b h c e;exact kXf o h e
 .intro a b c _ _ e1 e2;exact kYx o e1 e2
 .intro a b h e1 e2;have:=kXf o h e1;rw[e2] at this;cases this
theorem kY1(o:KOrd lt):KOrd (ltS lt):=by
 refine⟨?_,?_,?_⟩
 .rintro (a | a) (b | b) h c e
  .exact kord_I.neg (λz=>h (by rw[z])) e
  .cases e
  .cases e
  .exact (kQf o).neg (λz=>h (by rw[z])) e
 .rintro (a | a) (b | b) (c | c) h1 h2 e1 e2<;>first | cases e1;done | cases e2;done | skip
  .exact kord_I.tr (λz=>h1 (by rw[z])) (λz=>h2 (by rw[z])) e1 e2
  .exact kYx o e1 e2
 .rintro (a | a) (b | b) h e1 e2<;>first | cases e1;done | skip
  .exact kord_I.ir (λz=>h (by rw[z])) e1 e2
  .exact (kQf o).ir (λz=>h (by rw[z])) e1 e2
end
theorem kord:KOrd ltK:=kQf (kY1 (kY1 kord_I))
theorem kXh{a b c:TKey}(h1:ltK a b=some true)(h2:ltK b c=some true):ltK a c=some true:=kYx (kY1 (kY1 kord_I)) h1 h2
def kJa:TKey->Bool->Prop
 | .inl _::_,b=>b=true
 | .inr _::_,b=>b=false
 | [],_=>False
variable {prog:Program}{w:World}{A:Around}{E:Value->Shared->Prop}{s:Shared}{b:Bool}{es:List (TKey×Addr)}
theorem kUp{Q:Bool->Shared->Prop}{b:Bool}{n1 n2:Nat}{c:Bool}(hu:A.units+6<cLine)(hq:Q c s):∀(i:Nat)(x y:TKey)(vs ws:List Value),ItemsV (vk2 prog w) s.heap x vs->ItemsV (vk2 prog w) s.heap y ws->x.length+n2=y.length+n1->lexLt (ltS (ltS ltI)) x y=some c->((b&&i == 0)=true->(∀k,k∈x->i=0->x.head? =some k->∃z,k= .inl z)/\(∀k,k∈y->i=0->y.head? =some k->∃z,k= .inl z))->
  KatLex prog w A b (decide (n1<n2)) Q (vs.zip ws) i s
 | i,_,_,_,_,.nil,.nil,hn,hl,_=>by
  simp only[lQl] at hn;cases hl;refine kat_nil ?_;rw[lJv (by omega)];exact hq
 | i,_,_,_,_,.nil,.cons _ _,hn,hl,_=>by
  simp only[lQl,lKk] at hn;cases hl;refine kat_nil ?_;rw[lJ9 (by omega)];exact hq
 | i,_,_,_,_,.cons _ _,.nil,hn,hl,_=>by
  simp only[lQl,lKk] at hn;cases hl;refine kat_nil ?_;rw[lJv (by omega)];exact hq
 | i,_,_,_,_,@ItemsV.cons _ _ _ _ _ _ _ k1 v1 ks1 vs1 h1 t1,@ItemsV.cons _ _ _ _ _ _ _ k2 v2 ks2 vs2 h2 t2,hn,hl,hb=>by
  simp only[lKk] at hn;rw[lXs];refine kat_cons (((vk2 prog w).eqAt (by omega) h1 h2) prog w _ _ ?_)
  unfold lexLt at hl
  by_cases e:k1=k2
  .rw[lJc e] at hl;rw[lJ9 e];refine kat_yes (kUp hu hq (i+1) _ _ _ _ t1 t2 (by omega) hl λz=> ?_)
   simp at z
  .rw[lJb e] at hl;rw[lJv e];refine kat_no ?_;cases q:(b&&i == 0) with
   | false=>exact kat_one _ _ (kYu (kYu kXb) (by omega) h1 h2 hl hq)
   | true=>
    have hi:i=0:=by simp at q;exact q.2
    obtain⟨z1,z2⟩:=hb q;obtain⟨a,rfl⟩:=z1 k1 (lJ6 ..) hi rfl;obtain⟨a',rfl⟩:=z2 k2 (lJ6 ..) hi rfl
    rcases jJs (show jXa a v1=true from h1) with ⟨p,t,rfl,rfl⟩ | ⟨p,t,rfl,rfl⟩
    .rcases jJs (show jXa a' v2=true from h2) with ⟨p',t',rfl,rfl⟩ | ⟨p',t',rfl,rfl⟩
     .cases hl;exact oneLt_int hq
     .cases hl
    .cases hl
theorem qZ9{x y:TKey}{a1 a2:Addr}{c:Bool}{Q:Bool->Shared->Prop}(hu:A.units+6<cLine)(h1:(jJg prog w).is s.heap x a1)(h2:(jJg prog w).is s.heap y a2)(hl:ltK x y=some c)(hx:kJa x b)(hy:kJa y b)(hq:Q c s):wpAny (model prog w) A (keyLt' (tuples' b) (.ref a1) (.ref a2)) Q E s:=by
 obtain⟨p1,o1,its1,n1,e1,ho1,hc1,hd1,hi1⟩:=(show kJm _ _ _ _ from h1)
 obtain⟨p2,o2,its2,n2,e2,ho2,hc2,hd2,hi2⟩:=(show kJm _ _ _ _ from h2)
 cases e1;cases e2;refine kat_lt ho1 hd1 ho2 hd2 (kUp hu hq 0 x y _ _ hi1 hi2 ?_ hl λz=> ?_)
 .have l1:=hi1.length;have l2:=hi2.length;simp at l1 l2;omega
 .have hb:b=true:=by simpa using z
  subst hb;refine⟨λk _ _ hk=> ?_,λk _ _ hk=> ?_⟩
  .match x,hx,hk with
   | .inl u::_,_,e=>cases e;exact⟨u,rfl⟩
  .match y,hy,hk with
   | .inl u::_,_,e=>cases e;exact⟨u,rfl⟩
noncomputable def tyOf(b:Bool):Value:=if b=true then .type "int" else .type "tuple"
theorem kUo{b:Bool}:∀(es:List (TKey×Addr)),(∀e,e∈es->(jJg prog w).is s.heap e.1 e.2/\kJa e.1 b/\intT e.1=true)->∃fs,KatTups s.heap (es.map λe=> .ref e.2) fs/\fs.length=es.length/\∀v,v∈fs->Looks (model prog w) s.heap (typeOf v) (tyOf b)
 | [],_=>⟨[],.nil,rfl,λv hv=>absurd hv (lKr)⟩
 | (k,a)::es,h=>by
  obtain⟨fs,t,l,hf⟩:=kUo es λe he=>h e (lKd _ he)
  obtain⟨h1,h2,h3⟩:=h (k,a) (lJ6 ..);obtain⟨p1,o1,its1,n1,e1,ho1,hc1,hd1,hi1⟩:=(show kJm _ _ _ _ from h1)
  cases e1
  match k,h2,h3,hi1 with
  | .inl u::ks,hb,h3,hi=>
   cases (show b=true from hb)
   generalize hits:its1.toList=its at hi
   cases hi with
   | @cons _ v _ vs hv ht=>
    refine⟨v::fs,.cons ho1 hc1 hd1 (by rw[<-lJ5,hits];rfl) t,by simp[l],λx hx=> ?_⟩
    (rcases lJp.mp hx with rfl | hx)
    .rcases jJs (show jXa u x=true from hv) with ⟨i,tk,_,rfl⟩ | ⟨i,tk,rfl,rfl⟩
     .exact Looks.of_pure rfl
     .simp[intT,intS,intK] at h3
    .exact hf x hx
  | .inr u::ks,hb,h3,hi=>
   cases (show b=false from hb)
   generalize hits:its1.toList=its at hi
   cases hi with
   | @cons _ v _ vs hv ht=>
    obtain⟨p2,o2,its2,n2,e2,ho2,hc2,hd2,hi2⟩:=(show kJm _ _ u v from hv)
    subst e2;refine⟨.ref p2::fs,.cons ho1 hc1 hd1 (by rw[<-lJ5,hits];rfl) t,by simp[l],λx hx=> ?_⟩
    (rcases lJp.mp hx with rfl | hx)
    .have:=(Looks.ld (M:=model prog w) (part:=none) ho2).andThen (f:=λo=>pure o.cls) .now
     rw[hc2] at this;exact this
    .exact hf x hx
theorem qQ6(h:∀e,e∈es->(jJg prog w).is s.heap e.1 e.2/\kJa e.1 b/\intT e.1=true)(hne:0<es.length){Q:SortKind->Shared->Prop}(hq:Q (tuples' b) s):wpAny (model prog w) A (keyKind' (List.toArray (es.map λe=>Value.ref e.2))) Q E s:=by
 obtain⟨fs,t,l,hf⟩:=kUo es h;refine kat_kind (T:=tyOf b) t (by omega) hf (by cases b<;>decide) ?_
 rw[show (tyOf b != Value.type "tuple")=b by cases b<;>decide]
 exact hq
theorem qKq{a:Nat}(ho:s.heap.get? a=some (seqObj "list" (List.toArray (es.map λe=>Value.ref e.2)) n))(hu:A.units+6<cLine)(h:∀e,e∈es->(jJg prog w).is s.heap e.1 e.2/\kJa e.1 b/\intT e.1=true)(hlt:∀e,e∈es->∀e',e'∈es->(ltK e.1 e'.1).isSome=true)(hnd:(es.map (·.1)).Nodup)(h64:es.length<64){P:PySem.Fin->Shared->Prop}(k:∀(es':List (TKey×Addr))(h':Heap)(c:Nat),es'.Perm es->es'.Pairwise (λx y=>ltK x.1 y.1=some true)->h'.get? a=some (seqObj "list" (List.toArray (es'.map λe=>Value.ref e.2)) c)->(∀p o,p≠a->s.heap.get? p=some o->h'.get? p=some o)->P (.done (.ret .none)) {s with heap:=h'}):wpAny (model prog w) A (Builtin.«list.sort» ⟨[.ref a],[]⟩) P E s:=by
 (have ha:a<s.heap.objs.size:=lJk ho)
 have hlen:(es.map λe=>Value.ref e.2).length=es.length:=lJe ..
 rw[list_sort_plain]
 (refine lJa (listItems_at ho rfl ?_))
 refine lJa (lZn ho rfl ?_ (by rw[lJr,hlen,lKe];omega) (lJn _))
 (obtain⟨e1,ho1⟩:∃e1,(s.heap.update a (Obj.mapSeq λ_=>(#[]:Array Value))).get? a=some (seqObj "list" #[] e1):=⟨_,lZo ho λ_=> #[]⟩)
 (refine lJa (lZp ho1 rfl ?_))
 refine lJa (wpAny_newTuple ?_ (by show (es.map λe=>Value.ref e.2).length<=_;rw[hlen,lKe];omega))
 (refine lJa (lZq ?_ (lJn _)))
 refine lKj ?_
 generalize hg:((s.heap.update a (Obj.mapSeq λ_=>(#[]:Array Value))).push (seqObj "tuple" (List.toArray (es.map λe=>Value.ref e.2)) 0)).push (seqObj "list" #[] 0)=h1
 refine (show wpAny (model prog w) A _ P E {s with heap:=h1} from ?_)
 have oth:∀p o,p≠a->s.heap.get? p=some o->h1.get? p=some o:=by
  intro p o hp e;rw[<-hg];exact lJm _ (lJm _ ((lYj _ _ _ _ hp).trans e))
 have ho6:h1.get? a=some (seqObj "list" #[] e1):=by
  rw[<-hg];exact lJm _ (lJm _ ho1)
 have tk:TupKept s.heap h1:=by
  intro p o e hc;refine oth p o ?_ e;rintro rfl;rw[ho] at e;cases e;exact absurd hc (show ¬ Value.type "list"=Value.type "tuple" by decide)
 have hk1:∀e,e∈es->(jJg prog w).is h1 e.1 e.2/\kJa e.1 b/\intT e.1=true:=λe he=>⟨jKs tk (h e he).1,(h e he).2⟩
 have fin:∀(out:List (TKey×Addr)),out.Perm es->out.Pairwise (λx y=>ltK x.1 y.1=some true)->∀st':SortSt,(arrOf st').map (·.2)=List.toArray (out.map λe=>Value.ref e.2)->failedOf st'=none->
   wpAny (model prog w) A (do
    let touched:=(<-seqEpoch a) != e1
    Builtin.List.listUpdate (.ref a) λ_=>(arrOf st').map (·.2)
    if let some e:=failedOf st' then rule "list.sort.comparison-raised"; throw e
    if (touched) then rule "list.sort.modified"; raiseError "ValueError" "list modified during sort"
    ret .none) P E {s with heap:=h1}:=by
  intro out hp hs st' hout hf;rw[hout,hf];have hol:out.length=es.length:=hp.length_eq;refine lJa (lZp (s:={s with heap:=h1}) ho6 rfl ?_)
  refine lJa (lZn (s:={s with heap:=h1}) ho6 rfl ?_ (lJn _) (by rw[lJr,lJe,hol,lKe];omega))
  (simp only[mJv,lKg,lKa])
  refine lJd (k out _ _ hp hs (lZo ho6 λ_=>List.toArray (out.map λe=>Value.ref e.2)) λp o hpa e=>(lYj _ _ _ _ hpa).trans (oth p o hpa e))
 dsimp only
 by_cases h2:(List.toArray (es.map λe=>Value.ref e.2)).size<2
 .rw[lJc h2,lJc h2];refine lJa (lJd ?_);rw[StateT.run_pure];refine lJa (lJd ?_);refine fin es (.refl _) ?_ _ ?_ rfl
  .rw[lJr,hlen] at h2
   match es,h2 with
   | [],_=>exact .nil
   | [_],_=>exact List.pairwise_singleton _ _
  .apply lZ8.mp;show (((List.toArray (es.map λe=>Value.ref e.2)).zip (List.toArray (es.map λe=>Value.ref e.2))).map (·.2)).toList=_
   rw[lY3,ksk_zip,List.map_snd_zip (lJh _)]
 .rw[lJb h2,lJb h2];rw[lJr,hlen] at h2;refine lJa (qQ6 (s:={s with heap:=h1}) hk1 (by omega) ?_)
  have at_:∀i,i<es.length->∃e,e∈es/\es[i]? =some e/\(es.map λe=>Value.ref e.2).getD i Value.none= .ref e.2:=by
   intro i hi;refine⟨es[i],lYf hi,lJj hi,?_⟩;simp[hi]
  let lt:Nat->Nat->Bool:=λi j=>match es[i]?,es[j]? with
   | some x,some y=>ltK x.1 y.1 == some true
   | _,_=>false
  have lt_eq:∀(i j:Nat)(x y:TKey×Addr),es[i]? =some x->es[j]? =some y->lt i j=(ltK x.1 y.1 == some true):=by
   intro i j x y h1 h2;show (match es[i]?,es[j]? with | some x,some y=>ltK x.1 y.1 == some true | _,_=>false)=_
   rw[h1,h2]
  have key_ne:∀(i j:Nat)(x y:TKey×Addr),i≠j->es[i]? =some x->es[j]? =some y->x.1≠y.1:=by
   intro i j x y hij h1 h2 z;have e1:(es.map (·.1))[i]? =some x.1:=by rw[lJ4,h1];rfl
   have e2:(es.map (·.1))[j]? =some x.1:=by rw[lJ4,h2,z];rfl
   exact hij ((lQ5 (lJg.mp e1).1 hnd).mp (e1.trans e2.symm))
  have O:SOrd es.length lt:=by
   refine⟨λi j hi hj hij=> ?_,λi j q hi hj hq h1 h2=> ?_⟩
   .obtain⟨x,mx,ex,_⟩:=at_ i hi
    obtain⟨y,my,ey,_⟩:=at_ j hj
    obtain⟨c,hc⟩:=lXn.mp (hlt x mx y my);rw[lt_eq _ _ _ _ ey ex,lt_eq _ _ _ _ ex ey,hc,kord.neg (key_ne i j x y hij ex ey) hc];cases c<;>rfl
   .obtain⟨x,mx,ex,_⟩:=at_ i hi
    obtain⟨y,my,ey,_⟩:=at_ j hj
    obtain⟨z,mz,ez,_⟩:=at_ q hq
    rw[lt_eq _ _ _ _ ex ey] at h1;rw[lt_eq _ _ _ _ ey ez] at h2;rw[lt_eq _ _ _ _ ex ez];have:=kXh (eq_of_beq h1) (eq_of_beq h2);rw[this];rfl
  refine lJa (lQp (kat_run (prog:=prog) (w:=w) (A:=A) (κ:=tuples' b) (vs:=es.map λe=>Value.ref e.2) (ks:=es.map λe=>Value.ref e.2) (s:={s with heap:=h1}) (Q:=λst' s'=>s'={s with heap:=h1}/\∃p:Array Nat,Pm es.length p/\Srt lt p es.length/\arrOf st'=p.map (kas_item ((List.toArray (es.map λe=>Value.ref e.2)).zip (List.toArray (es.map λe=>Value.ref e.2))))/\failedOf st'=none) (G:=λp s'=>s'={s with heap:=h1}/\Pm es.length p/\Srt lt p es.length)
   rfl (by rw[hlen];omega) (by rw[hlen];exact h64) (λp st' s' a1 a2 a3 a4=>⟨a4.1,p,a4.2.1,a4.2.2,a2,a3⟩) ?_) ?_ λ_ _ x=>x)
  .rw[hlen];refine Rn.wp (n:=es.length) (lt:=lt) (Q:=λp=>Pm es.length p/\Srt lt p es.length) (λi j C hi hj hC=> ?_) (λp hp=>⟨rfl,hp⟩) (uJp O (by omega))
   obtain⟨x,mx,ex,vx⟩:=at_ i hi
   obtain⟨y,my,ey,vy⟩:=at_ j hj
   obtain⟨c,hc⟩:=lXn.mp (hlt x mx y my);unfold kas_ask;rw[vx,vy];refine qZ9 (s:={s with heap:=h1}) hu (hk1 x mx).1 (hk1 y my).1 hc (hk1 x mx).2.1 (hk1 y my).2.1 ?_
   rw[lt_eq _ _ _ _ ex ey,hc] at hC;cases c<;>exact hC
  .rintro⟨⟨⟩,st'⟩ s' ⟨rfl,p,hp,hs,har,hf⟩;have hout:=kat_snds (ks:=es.map λe=>Value.ref e.2) (vs:=es.map λe=>Value.ref e.2) rfl har
   have pe:(p.toList.filterMap (es[·]?)).Perm es:=kKa hp
   have ge:∀l:List Nat,(∀i,i∈l->i<es.length)->l.map (λi=>(es.map λe=>Value.ref e.2).getD i Value.none)=(l.filterMap (es[·]?)).map λe=>Value.ref e.2:=by
    intro l hl
    induction l with
    | nil=>rfl
    | cons i l ih=>
     obtain⟨x,mx,ex,vx⟩:=at_ i (hl i (lJ6 ..))
     rw[lXx ex,lJw,lJw,vx,ih λj hj=>hl j (lKd _ hj)]
   refine fin (p.toList.filterMap (es[·]?)) pe ?_ st' ?_ hf
   .rw[lZ5];refine lYe.mpr λi j hi hj hij x hx y hy=> ?_
    have hi':i<p.size:=by simpa using hi
    have hj':j<p.size:=by simpa using hj
    have:=hs i j hij (by rw[<-hp.size];exact hj')
    rw[lt_eq _ _ x y (by rw[St.getD_at hi'];simpa using hx) (by rw[St.getD_at hj'];simpa using hy)] at this
    exact eq_of_beq this
   .rw[hout,ge p.toList λi hi=>lKc.mp (hp.mem_iff.mp hi)]
theorem jV6{α β:Type}{f:α->β}{l l':List β}(h:l.Perm l'):∀es:List α,l'=es.map f->∃es':List α,es'.Perm es/\l=es'.map f:=by
 induction h with
 | nil=>intro es e;cases es with | nil=>exact⟨[],.refl _,rfl⟩ | cons _ _=>cases e
 | cons x _ ih=>
  intro es e;cases es with
  | nil=>cases e
  | cons a es=>
   rw[lJw,lYk] at e;obtain⟨es',h1,h2⟩:=ih es e.2;exact⟨a::es',h1.cons a,by rw[lJw,e.1,h2]⟩
 | swap x y l=>
  intro es e
  match es,e with
  | a::b::es,e=>
   rw[lJw,lJw,lYk,lYk] at e;exact⟨b::a::es,.swap _ _ _,by rw[lJw,lJw,e.1,e.2.1,e.2.2]⟩
 | trans _ _ ih1 ih2=>
  intro es e;obtain⟨es',h1,h2⟩:=ih2 es e;obtain⟨es'',h3,h4⟩:=ih1 es' h2;exact⟨es'',h3.trans h1,h4⟩
theorem kZ7{S:Addr}{kb:List (TKey×Addr)}(hS:SetIs prog w s.heap S kb)(hh:A.handled=none)(hu:A.units+20<cLine)(h:∀e,e∈kb->kJa e.1 b/\intT e.1=true)(hlt:∀e,e∈kb->∀e',e'∈kb->(ltK e.1 e'.1).isSome=true){us:List TKey}(hus:us.length<64)(hkus:∀e,e∈kb->e.1∈us){Q:Value->Shared->Prop}(k:∀(es:List (TKey×Addr))(h':Heap)(tk:Nat)(D c:Nat),Put es kb->es.Pairwise (λx y=>ltK x.1 y.1=some true)->s.heap.objs.size<=D->h'.get? D=some (seqObj "list" (List.toArray (es.map λe=>Value.ref e.2)) c)->(∀p o,s.heap.get? p=some o->h'.get? p=some o)->Q (.ref D) {s with heap:=h',toks:=tk}):
  wpAny (model prog w) A (call (.builtin "sorted") [.ref S]) Q E s:=by
 obtain⟨o,arr,ep,t,es,d,p,l⟩:=hS;have el:es.length<64:=Nat.lt_of_le_of_lt (p.few hkus) hus
 (refine Calls.call_function_entry kind_sorted plain_sorted entry_sorted (args_sorted1 _) ?_)
 unfold Builtin.«sorted»
 (refine lJa (m:=checkCount "sorted" 1 1 _) (lJd ?_))
 refine lJa (kXr (A:=A.in1) d l (by simpa using hh) λg tk acc kp big pe=> ?_)
 obtain⟨es2,pe2,rfl⟩:=jV6 pe es rfl;have l2:es2.length=es.length:=pe2.length_eq;refine lJa (lZq ?_ (by rw[lJe,lKe];omega))
 have hoL:(g.push (seqObj "list" (List.toArray (es2.map λe=>Value.ref e.2)) 0)).get? g.objs.size=some (seqObj "list" (List.toArray (es2.map λe=>Value.ref e.2)) 0):=lJ8 _ rfl
 refine lJa (lKj (lQh slot_list_sort ⟨_,hoL,rfl⟩ entry_list_sort ?_ (args_list_sort _)));have hsub:∀e,e∈es2->e∈kb:=λe he=>p.sub e (pe2.mem_iff.mp he)
 refine qKq (s:={s with heap:=g.push (seqObj "list" (List.toArray (es2.map λe=>Value.ref e.2)) 0),toks:=tk}) (b:=b) hoL (by rw[lQk,lQk];omega) (λe he=> ?_) (λe he e' he'=>hlt e (hsub e he) e' (hsub e' he')) ((pe2.map _).nodup_iff.mpr p.nod) (by omega) λes' h' c pe' so hD oth=> ?_
 .exact⟨jKs (λb ob e _=>lJm _ (kp b ob e)) (d.are e (pe2.mem_iff.mp he)),h e (hsub e he)⟩
 .refine⟨_,rfl,lJd ⟨_,rfl,k es' h' tk _ c ?_ so (lV4 big) hD λq ob e=>oth q ob ?_ (lJm _ (kp q ob e))⟩⟩
  .have pp:=pe'.trans pe2;exact⟨λe he=>p.sub e (pp.mem_iff.mp he),λe he=>(pp.map (·.1)).mem_iff.mpr (p.all e he),(pp.map _).nodup_iff.mpr p.nod⟩
  .exact lJt (lKi (lJk e) (lV4 big))
theorem jZ5{x y:T}{k:Key}(h1:jUs x=some k)(h2:jUs y=some k):x=y:=by
 cases x<;>cases h1<;>(cases y<;>cases h2;rfl)
theorem jZd{κ:Type}{f:T->Option κ}(hf:∀x y k,f x=some k->f y=some k->x=y):∀{xs ys:List T}{ks:List κ},allK f xs=some ks->allK f ys=some ks->xs=ys
 | [],[],_,_,_=>rfl
 | [],y::ys,_,h1,h2=>by
  cases h1;unfold allK at h2;cases e1:f y<;>cases e2:allK f ys<;>rw[e1,e2] at h2<;>cases h2
 | x::xs,[],_,h1,h2=>by
  cases h2;unfold allK at h1;cases e1:f x<;>cases e2:allK f xs<;>rw[e1,e2] at h1<;>cases h1
 | x::xs,y::ys,ks,h1,h2=>by
  unfold allK at h1 h2;cases e1:f x with
  | none=>rw[e1] at h1;cases h1
  | some k1=>
   cases e2:allK f xs with
   | none=>rw[e1,e2] at h1;cases h1
   | some k2=>
    rw[e1,e2] at h1;cases h1;cases e3:f y with
    | none=>rw[e3] at h2;cases h2
    | some k3=>
     cases e4:allK f ys with
     | none=>rw[e3,e4] at h2;cases h2
     | some k4=>
      rw[e3,e4] at h2;cases h2;rw[hf _ _ _ e1 e3,jZd hf e2 e4]
theorem qYf(x y:T)(k:K1)(h1:key1 x=some k)(h2:key1 y=some k):x=y:=by
 cases k with
 | inl k=>
  have f:∀z:T,key1 z=some (.inl k)->jUs z=some k:=by
   intro z hz;cases z with
   | tup ts=>
    obtain⟨_,_,e⟩:=lQn.mp (show (allK jUs ts).map Sum.inr=some (Sum.inl k) from hz)
    cases e
   | int i=>cases hz;rfl
   | str i=>cases hz;rfl
   | _=>cases hz
  exact jZ5 (f x h1) (f y h2)
 | inr ks=>
  have f:∀z:T,key1 z=some (.inr ks)->∃ts,z= .tup ts/\allK jUs ts=some ks:=by
   intro z hz;cases z with
   | tup ts=>
    obtain⟨k',h,e⟩:=lQn.mp (show (allK jUs ts).map Sum.inr=some (Sum.inr ks) from hz)
    cases e;exact⟨ts,rfl,h⟩
   | _=>cases hz
  obtain⟨t1,rfl,e1⟩:=f x h1;obtain⟨t2,rfl,e2⟩:=f y h2;rw[jZd (λ_ _ _=>jZ5) e1 e2]
theorem qYd(x y:T)(k:K2)(h1:key2 x=some k)(h2:key2 y=some k):x=y:=by
 cases k with
 | inl k=>
  have f:∀z:T,key2 z=some (.inl k)->jUs z=some k:=by
   intro z hz;cases z with
   | tup ts=>
    obtain⟨_,_,e⟩:=lQn.mp (show (allK key1 ts).map Sum.inr=some (Sum.inl k) from hz)
    cases e
   | int i=>cases hz;rfl
   | str i=>cases hz;rfl
   | _=>cases hz
  exact jZ5 (f x h1) (f y h2)
 | inr ks=>
  have f:∀z:T,key2 z=some (.inr ks)->∃ts,z= .tup ts/\allK key1 ts=some ks:=by
   intro z hz;cases z with
   | tup ts=>
    obtain⟨k',h,e⟩:=lQn.mp (show (allK key1 ts).map Sum.inr=some (Sum.inr ks) from hz)
    cases e;exact⟨ts,rfl,h⟩
   | _=>cases hz
  obtain⟨t1,rfl,e1⟩:=f x h1;obtain⟨t2,rfl,e2⟩:=f y h2;rw[jZd qYf e1 e2]
theorem qJo{xs ys:List T}{k:TKey}(h1:jQr xs=some k)(h2:jQr ys=some k):xs=ys:=jZd qYd h1 h2
def SKey(b:Bool)(ts:List T)(k:TKey):Prop:=jQr ts=some k/\kJa k b/\intT k=true
theorem kVd{K:PySem.W.Frag}{H:Hp}{b:Bool}:∀{tks:List (List T×TKey)}{vs:List V}{its:List Value},(∀e,e∈tks->SKey b e.1 e.2)->Reps K H (tks.map λe=> .tup e.1) vs->Vals vs its->
  ∃tb:List ((List T×TKey)×Addr),tb.map (·.1)=tks/\vs=tb.map (λe=> .ref e.2)/\its=tb.map (λe=>Value.ref e.2)/\∀e,e∈tb->TKeyAt H e.1.2 e.2/\Rep K H (.tup e.1.1) (.ref e.2)
 | [],_,_,_,r,v=>by
  cases (show _=[] from r)
  cases v;exact⟨[],rfl,rfl,rfl,λe he=>absurd he (lKr)⟩
 | (ts,k)::tks,_,its,hk,⟨v,ws,e,r1,r2⟩,vv=>by
  subst e;cases vv with
  | @cons _ u _ us hr hrs=>
  obtain⟨tb,h1,h2,h3,h4⟩:=kVd (λe he=>hk e (lKd _ he)) r2 hrs
  obtain⟨a,vs',e,ha,hrep⟩:=(show ∃a vs',v= .ref a/\H a=some (.tup vs')/\Reps K H ts vs' from r1)
  subst e;cases (show u=Value.ref a from hr)
  refine⟨((ts,k),a)::tb,by rw[lJw,h1],by rw[lJw,h2],by rw[lJw,h3],λe he=> ?_⟩
  (rcases lJp.mp he with rfl | he)
  .exact⟨jQw (hk _ (lJ6 ..)).1 ha hrep,r1⟩
  .exact h4 e he
theorem qQj{tb:List ((List T×TKey)×Addr)}:∀(es:List (TKey×Addr)),(∀e,e∈es->e∈tb.map λx=>(x.1.2,x.2))->∃tb':List ((List T×TKey)×Addr),tb'.map (λx=>(x.1.2,x.2))=es/\∀e,e∈tb'->e∈tb
 | [],_=>⟨[],rfl,λe he=>absurd he (lKr)⟩
 | e::es,h=>by
  obtain⟨tb',h1,h2⟩:=qQj es λx hx=>h x (lKd _ hx)
  obtain⟨x,hx,ex⟩:=lJl.mp (h e (lJ6 ..));refine⟨x::tb',by rw[lJw,h1,ex],λy hy=> ?_⟩
  (rcases lJp.mp hy with rfl | hy)
  .exact hx
  .exact h2 y hy
theorem kVq{K:PySem.W.Frag}{H:Hp}:∀(tb:List ((List T×TKey)×Addr)),(∀e,e∈tb->Rep K H (.tup e.1.1) (.ref e.2))->Reps K H (tb.map λe=> .tup e.1.1) (tb.map λe=>V.ref e.2)
 | [],_=>rfl
 | e::tb,h=>⟨_,_,rfl,h e (lJ6 ..),kVq tb λx hx=>h x (lKd _ hx)⟩
theorem jX4:∀(bs:List ((List T×TKey)×Addr)),Vals (bs.map λe=>V.ref e.2) (bs.map λe=>Value.ref e.2)
 | []=> .nil
 | e::bs=> .cons rfl (jX4 bs)
section
variable {X:Cx}
structure Rising (xs ys:List T) (kys:List (List T×TKey)):Prop where
 eq:ys=kys.map λe=> .tup e.1
 keys:∀e,e∈kys->jQr e.1=some e.2
 mem:∀t,t∈ys↔t∈xs
 up:kys.Pairwise λx y=>ltK x.2 y.2=some true
end
end L3
namespace L3
open PySem PySem.Spec PyProof.Rows L2
variable {X:Cx}
noncomputable def kK8:T->List T->Gp->VK3->Prop:=λx as G Q=>∃p q xs ys,x= .ref p/\as=[.ref q]/\G p=some (.lst xs)/\G q=some (.lst ys)/\xs.length+ys.length<=sizeLine/\Q .non (gup G p (.lst (xs++ys)))
theorem kQe:Mt3 X "list.extend" kK8:=by
 rintro pins s τ G H x as v us Q ⟨σ,I,hs,hg⟩ ⟨a,ra,rv⟩ ⟨bs,rbs,rus⟩ ⟨p,q,xs,ys,ex,ea,hp,hq,hz,k⟩;subst ex;subst ea;cases (show a= .ref p from ra);cases rv
 obtain⟨b1,rfl,r1⟩:=jUn rbs;cases (show b1= .ref q from r1)
 obtain⟨u1,rfl,ru1⟩:=rus.one;cases ru1;obtain⟨vs,h1,h2⟩:=hg.lst hp;obtain⟨ws,h3,h4⟩:=hg.lst hq;obtain⟨z,its,n,r,hl,e⟩:=I.lstM h1;obtain⟨z',its',n',r',hl',e'⟩:=I.lstM h3;have hlen:=h2.length;have hlen':=h4.length;have q1:=r.length;have q2:=r'.length
 have hc:¬(!its.toArray.isEmpty&&Builtin.List.listTooLong (its.toArray.size+its'.toArray.size))=true:=by
  have:Builtin.List.listTooLong (its.toArray.size+its'.toArray.size)=false:=by
   unfold Builtin.List.listTooLong
   (rw[lJr,lJr])
   exact lJv (by omega)
  rw[this,Bool.and_false];exact lJs
 refine lXf F.slot_list_extend ⟨_,e,rfl⟩ F.entry_list_extend (F.args_list_extend_2 _ _) (AutoSeq1.list_extend_list_list_0 p its.toArray n q its'.toArray n' hc (by rw[lJr];omega) (by rw[lJr,lJr];omega)) ⟨e,e',?_⟩
 have e2:Ext H (upd H p (.lst (vs++ws))):= .upd (.lst h1);refine⟨.non,_,_,e2,⟨σ,I.lset (its':=its++its') h1 e ?_ (r.append r') ?_,hs.mono e2,hg.lstNew (xs:=xs++ys) (h2.append h4) (.lst h1)⟩,⟨.non,rfl,rfl⟩,k⟩
 .simp
 .rw[lJ7];omega
section
variable {P:Program}{w:World}{d:Addr}
end
end L3
namespace PySem
open Sem (wp)
set_option maxRecDepth 100000
end PySem
namespace L3
open PySem PySem.Spec PyProof.Rows L2
section
variable {prog:Program}{w:World}{A:Around}{E:Value->Shared->Prop}{s:Shared}
end
section
variable {X:Cx}
end
end L3
namespace L3
open PySem PyProof.Rows
noncomputable def uKv:Bool->Keyed->Array Keyed->Nat->Nat->Nat->StateT SortSt Sem (Option Nat):=sortPriv%PySem.Builtin.gallop
noncomputable def qX6:Array Keyed->Array Keyed->StateT SortSt Sem (Array Keyed):=sortPriv%PySem.Builtin.mergeLo
noncomputable def qX7:Array Keyed->Array Keyed->StateT SortSt Sem (Array Keyed):=sortPriv%PySem.Builtin.mergeHi
variable {A:Around}{E:Value->Shared->Prop}{s:Shared}{M:Model}{κ:SortKind}{le:Keyed->Keyed->Prop}{x y key:Keyed}{st:SortSt}{Q:Option Bool->SortSt->Prop}{arr:Array Keyed}{i n:Nat}{left:Bool}
section
structure Asks (M:Model) (A:Around) (s:Shared) (κ:SortKind) (mem:Keyed->Prop) (le:Keyed->Keyed->Prop) [∀x y,Decidable (le x y)]:Prop where
 ask:∀x y,mem x->mem y->∀(E:Value->Shared->Prop)(Q:Bool->Shared->Prop),Q (!decide (le y x)) s->wpAny M A (keyLt' κ x.1 y.1) Q E s
 tot:∀x y,mem x->mem y->le x y\/le y x
 tr:∀x y z,mem x->mem y->mem z->le x y->le y z->le x z
variable {mem:Keyed->Prop}[∀x y,Decidable (le x y)]
theorem qQ2(H:Asks M A s κ mem le)(hx:mem x)(hy:mem y)(hk:kindOf st=κ)(h:Q (some (!decide (le y x))) st):wpS M A E s (lt' x y) Q st:=by
 rw[lt'_eq];refine lJf (lQi ?_);rw[hk];refine lJf (lV3 (lXh (H.ask x y hx hy _ _ ?_)));exact⟨rfl,lJi h⟩
theorem jJ9{Q:Keyed->SortSt->Prop}(hi:arr[i]? =some x)(h:Q x st):wpS M A E s (elem' arr i) Q st:=by
 rw[elem'_eq,hi];exact lJi h
noncomputable def bey(le:Keyed->Keyed->Prop)[∀x y,Decidable (le x y)](left:Bool)(key x:Keyed):Bool:=if left=true then !decide (le key x) else decide (le x key)
theorem qVp(H:Asks M A s κ mem le){b:Nat}(hk:kindOf st=κ)(hkey:mem key)(hx:arr[b]? =some x)(hm:mem x)(h:Q (some (bey le left key x)) st):
  wpS M A E s (do let y <-elem' arr b;if left=true then lt' y key else do let r <-lt' key y;pure (r.map λz=> !z)) Q st:=by
 refine lJf (jJ9 hx ?_);cases left with
 | true=>rw[lJc rfl];exact qQ2 H hm hkey hk h
 | false=>
  rw[lJb (by decide)]
  refine lJf (qQ2 H hkey hm hk (lJi ?_))
  simpa[bey] using h
theorem jUg{base hint:Nat}{Q:Option Nat->SortSt->Prop}(H:Asks M A s κ mem le)(hk:kindOf st=κ)(hkey:mem key){f:Nat->Keyed}(hf:∀i,i<n->arr[base+i]? =some (f i))(hm:∀i,i<n->mem (f i))(hs:∀i j,i<=j->j<n->le (f i) (f j))(hh:hint<n)(h:∀k,k<=n->(∀i,i<k->bey le left key (f i)=true)->(∀i,k<=i->i<n->bey le left key (f i)=false)->Q (some k) st):
  wpS M A E s (uKv left key arr base n hint) Q st:=by
 have ask:∀(i:Nat){Q:Option Bool->SortSt->Prop},i<n->Q (some (bey le left key (f i))) st->wpS M A E s (do let y <-elem' arr (base+i);if left=true then lt' y key else do let r <-lt' key y;pure (r.map λz=> !z)) Q st:=λi {Q} hi q=>qVp H hk hkey (hf i hi) (hm i hi) q
 have mono:∀i j,i<=j->j<n->bey le left key (f j)=true->bey le left key (f i)=true:=by
  intro i j hij hj hb;unfold bey at hb ⊢;cases left with
  | true=>
   rw[lJc rfl] at hb ⊢;simp only[lY7,lXj] at hb ⊢;exact λz=>hb (H.tr _ _ _ hkey (hm i (by omega)) (hm j hj) z (hs i j hij hj))
  | false=>
   rw[lJb (by decide)] at hb ⊢
   rw[lK1] at hb ⊢;exact H.tr _ _ _ (hm i (by omega)) (hm j hj) hkey (hs i j hij hj) hb
 refine lJf (ask hint hh ?_);cases hbh:bey le left key (f hint) with
 | true=>
  dsimp only
  rw[lJc rfl]
  refine lJf (lKo (lKp (I:=λi (c:Option (Option Nat)×Nat×Nat) st'=>st=st'/\c.1=none/\c.2.1<c.2.2/\i+1<=c.2.2/\hint+c.2.1<n/\bey le left key (f (hint+c.2.1))=true)
   (Q:=λ(c:Option (Option Nat)×Nat×Nat) st'=>st=st'/\c.1=none/\c.2.1<c.2.2/\hint+c.2.1<n/\bey le left key (f (hint+c.2.1))=true/\(c.2.2<n-hint->bey le left key (f (hint+c.2.2))=false)) ?_ ?_ ⟨rfl,rfl,by decide,by decide,hh,hbh⟩) ?_)
  .rintro x ⟨r,la,of⟩ st' _ hx ⟨rfl,rfl,i1,i2,i3,i4⟩
   dsimp only at i1 i2 i3 i4 ⊢
   by_cases c:of>=n-hint
   .rw[lJc c];exact wpS_pure ⟨rfl,rfl,i1,i3,i4,λz=>absurd c (by dsimp only at z;omega)⟩
   .rw[lJb c];refine lJf (ask _ (by omega) ?_)
    cases hbo:bey le left key (f (hint+of)) with
    | false=>
     dsimp only
     (rw[lJc (show (!false)=true from rfl)])
     exact lJi ⟨rfl,rfl,i1,i3,i4,λ_=>hbo⟩
    | true=>
     dsimp only
     rw[lJb (by decide)]
     exact wpS_pure ⟨rfl,rfl,by dsimp only;omega,by dsimp only;omega,by dsimp only;omega,hbo⟩
  .rintro⟨r,la,of⟩ st' ⟨rfl,rfl,i1,i2,i3,i4⟩
   dsimp only at i1 i2 i3 i4 ⊢
   exact⟨rfl,rfl,i1,i3,i4,λz=>absurd z (by omega)⟩
  .rintro⟨r,la,of⟩ st' ⟨rfl,rfl,i1,i3,i4,i5⟩
   dsimp only at i1 i3 i4 i5 ⊢
   have PL:∀i,i<hint+la+1->bey le left key (f i)=true:=λi hi=>mono i _ (by omega) i3 i4
   have PH:∀i,hint+min of (n-hint)<=i->i<n->bey le left key (f i)=false:=λi hi hin=>by
    have hon:=i5 (by omega)
    cases hbi:bey le left key (f i) with
    | false=>rfl
    | true=>rw[mono (hint+of) i (by omega) hin hbi] at hon;cases hon
   have LO:hint+la+1<=hint+min of (n-hint):=by omega
   have HI:hint+min of (n-hint)<=n:=by omega
   refine lJf (lKo (lKp (I:=λi (c:Option (Option Nat)×Nat×Nat) st'=>st=st'/\c.1=none/\c.2.1<=c.2.2/\c.2.2<=n/\c.2.2-c.2.1<=n-i/\(∀i,i<c.2.1->bey le left key (f i)=true)/\(∀i,c.2.2<=i->i<n->bey le left key (f i)=false))
    (Q:=λ(c:Option (Option Nat)×Nat×Nat) st'=>st=st'/\c.1=none/\c.2.2<=n/\(∀i,i<c.2.2->bey le left key (f i)=true)/\(∀i,c.2.2<=i->i<n->bey le left key (f i)=false)) ?_ ?_ ⟨rfl,rfl,LO,HI,by dsimp only;omega,PL,PH⟩) ?_)
   .rintro x ⟨r,lo,hi⟩ st' _ hx ⟨rfl,rfl,i1,i2,i3,i4,i5⟩
    dsimp only at i1 i2 i3 i4 i5 ⊢
    by_cases c:lo>=hi
    .rw[lJc c];exact wpS_pure ⟨rfl,rfl,i2,λi hi'=>i4 i (by dsimp only at hi';omega),i5⟩
    .rw[lJb c];have hmm:lo+(hi-lo) / 2<hi:=by omega
     refine lJf (ask _ (by omega) ?_)
     cases hbm:bey le left key (f (lo+(hi-lo) / 2)) with
     | true=>
      dsimp only
      rw[lJc rfl];exact wpS_pure ⟨rfl,rfl,by dsimp only;omega,i2,by dsimp only;omega,λi hi'=>mono i _ (by dsimp only at hi';omega) (by omega) hbm,i5⟩
     | false=>
      dsimp only
      rw[lJb (by decide)]
      refine wpS_pure ⟨rfl,rfl,by dsimp only;omega,by dsimp only;omega,by dsimp only;omega,i4,λi hi' hin=> ?_⟩
      dsimp only at hi'
      cases hbi:bey le left key (f i) with
      | false=>rfl
      | true=>rw[mono _ i hi' hin hbi] at hbm;cases hbm
   .rintro⟨r,lo,hi⟩ st' ⟨rfl,rfl,i1,i2,i3,i4,i5⟩
    dsimp only at i1 i2 i3 i4 i5 ⊢
    exact⟨rfl,rfl,i2,λi hi'=>i4 i (by omega),i5⟩
   .rintro⟨r,lo,hi⟩ st' ⟨rfl,rfl,i1,i2,i3⟩
    dsimp only at i1 i2 i3 ⊢
    exact lJi (h hi i1 i2 i3)
 | false=>
  dsimp only
  rw[lJb (by decide)]
  refine lJf (lKo (lKp (I:=λi (c:Option (Option Nat)×Nat×Nat) st'=>st=st'/\c.1=none/\c.2.1<c.2.2/\i+1<=c.2.2/\c.2.1<=hint/\bey le left key (f (hint-c.2.1))=false)
   (Q:=λ(c:Option (Option Nat)×Nat×Nat) st'=>st=st'/\c.1=none/\c.2.1<c.2.2/\c.2.1<=hint/\bey le left key (f (hint-c.2.1))=false/\(c.2.2<hint+1->bey le left key (f (hint-c.2.2))=true)) ?_ ?_ ⟨rfl,rfl,by decide,by decide,lJn _,hbh⟩) ?_)
  .rintro x ⟨r,la,of⟩ st' _ hx ⟨rfl,rfl,i1,i2,i3,i4⟩
   dsimp only at i1 i2 i3 i4 ⊢
   by_cases c:of>=hint+1
   .rw[lJc c];exact wpS_pure ⟨rfl,rfl,i1,i3,i4,λz=>absurd c (by dsimp only at z;omega)⟩
   .rw[lJb c];refine lJf (ask _ (by omega) ?_)
    cases hbo:bey le left key (f (hint-of)) with
    | true=>
     dsimp only
     rw[lJc rfl];exact lJi ⟨rfl,rfl,i1,i3,i4,λ_=>hbo⟩
    | false=>
     dsimp only
     rw[lJb (by decide)]
     exact wpS_pure ⟨rfl,rfl,by dsimp only;omega,by dsimp only;omega,by dsimp only;omega,hbo⟩
  .rintro⟨r,la,of⟩ st' ⟨rfl,rfl,i1,i2,i3,i4⟩
   dsimp only at i1 i2 i3 i4 ⊢
   exact⟨rfl,rfl,i1,i3,i4,λz=>absurd z (by omega)⟩
  .rintro⟨r,la,of⟩ st' ⟨rfl,rfl,i1,i3,i4,i5⟩
   dsimp only at i1 i3 i4 i5 ⊢
   have PL:∀i,i<hint+1-min of (hint+1)->bey le left key (f i)=true:=λi hi=>mono i (hint-of) (by omega) (by omega) (i5 (by omega))
   have PH:∀i,hint-la<=i->i<n->bey le left key (f i)=false:=λi hi hin=>by
    cases hbi:bey le left key (f i) with
    | false=>rfl
    | true=>rw[mono (hint-la) i hi hin hbi] at i4;cases i4
   have LO:hint+1-min of (hint+1)<=hint-la:=by omega
   have HI:hint-la<=n:=by omega
   refine lJf (lKo (lKp (I:=λi (c:Option (Option Nat)×Nat×Nat) st'=>st=st'/\c.1=none/\c.2.1<=c.2.2/\c.2.2<=n/\c.2.2-c.2.1<=n-i/\(∀i,i<c.2.1->bey le left key (f i)=true)/\(∀i,c.2.2<=i->i<n->bey le left key (f i)=false))
    (Q:=λ(c:Option (Option Nat)×Nat×Nat) st'=>st=st'/\c.1=none/\c.2.2<=n/\(∀i,i<c.2.2->bey le left key (f i)=true)/\(∀i,c.2.2<=i->i<n->bey le left key (f i)=false)) ?_ ?_ ⟨rfl,rfl,LO,HI,by dsimp only;omega,PL,PH⟩) ?_)
   .rintro x ⟨r,lo,hi⟩ st' _ hx ⟨rfl,rfl,i1,i2,i3,i4,i5⟩
    dsimp only at i1 i2 i3 i4 i5 ⊢
    by_cases c:lo>=hi
    .rw[lJc c];exact wpS_pure ⟨rfl,rfl,i2,λi hi'=>i4 i (by dsimp only at hi';omega),i5⟩
    .rw[lJb c];have hmm:lo+(hi-lo) / 2<hi:=by omega
     refine lJf (ask _ (by omega) ?_)
     cases hbm:bey le left key (f (lo+(hi-lo) / 2)) with
     | true=>
      dsimp only
      rw[lJc rfl];exact wpS_pure ⟨rfl,rfl,by dsimp only;omega,i2,by dsimp only;omega,λi hi'=>mono i _ (by dsimp only at hi';omega) (by omega) hbm,i5⟩
     | false=>
      dsimp only
      rw[lJb (by decide)]
      refine wpS_pure ⟨rfl,rfl,by dsimp only;omega,by dsimp only;omega,by dsimp only;omega,i4,λi hi' hin=> ?_⟩
      dsimp only at hi'
      cases hbi:bey le left key (f i) with
      | false=>rfl
      | true=>rw[mono _ i hi' hin hbi] at hbm;cases hbm
   .rintro⟨r,lo,hi⟩ st' ⟨rfl,rfl,i1,i2,i3,i4,i5⟩
    dsimp only at i1 i2 i3 i4 i5 ⊢
    exact⟨rfl,rfl,i2,λi hi'=>i4 i (by omega),i5⟩
   .rintro⟨r,lo,hi⟩ st' ⟨rfl,rfl,i1,i2,i3⟩
    dsimp only at i1 i2 i3 ⊢
    exact lJi (h hi i1 i2 i3)
end
variable {a b out o:Array Keyed}{j:Nat}
section
variable {ia ib k:Nat}
def Fin2(le:Keyed->Keyed->Prop)(a b r:Array Keyed):Prop:=r.toList.Perm (a.toList++b.toList)/\r.toList.Pairwise le
structure Lw (le:Keyed->Keyed->Prop) (a b out:Array Keyed) (ia ib:Nat):Prop where
 perm:(out.toList++(a.toList.drop ia++b.toList.drop ib)).Perm (a.toList++b.toList)
 srt:out.toList.Pairwise le
 up:∀x,x∈out.toList->∀y,y∈a.toList.drop ia++b.toList.drop ib->le x y
theorem Lw.size(h:Lw le a b out ia ib):out.size+((a.size-ia)+(b.size-ib))=a.size+b.size:=by
 have:=h.perm.length_eq
 simpa using this
theorem jVq:(arr.extract i j).toList=(arr.toList.drop i).take (j-i):=by simp[List.extract]
theorem qZ4(h:k<=a.size):(a.extract ia (ia+k)).toList=(a.toList.drop ia).take k:=by rw[jVq];congr 1;omega
theorem kQj:(a.extract ia).toList=a.toList.drop ia:=by
 rw[jVq]
 (exact lVw (by simp))
theorem Lw.takeA(h:Lw le a b out ia ib)(sa:a.toList.Pairwise le)(ho:o.toList=out.toList++(a.toList.drop ia).take k)(hx:∀x,x∈(a.toList.drop ia).take k->∀y,y∈b.toList.drop ib->le x y):Lw le a b o (ia+k) ib:=by
 have e:a.toList.drop ia=(a.toList.drop ia).take k++a.toList.drop (ia+k):=by rw[<-List.drop_drop];exact (lK8 k _).symm
 have sd:(a.toList.drop ia).Pairwise le:=sa.sublist (lVo ..);have up:=h.up;have perm:=h.perm;rw[e] at sd up perm;obtain⟨s1,s2,s3⟩:=lKh.mp sd;refine⟨?_,?_,?_⟩
 .rw[ho,lJq,<-lJq _ _ (b.toList.drop ib)];exact perm
 .rw[ho];exact lKh.mpr ⟨h.srt,s1,λx hx' y hy=>up x hx' y (lKf _ (lKf _ hy))⟩
 .intro x hx' y hy;rw[ho] at hx'
  rcases (lJx.mp hx') with z | z
  .refine up x z y ?_
   rcases (lJx.mp hy) with w | w
   .exact lKf _ (lKb _ w)
   .exact lKb _ w
  .rcases (lJx.mp hy) with w | w
   .exact s3 x z y w
   .exact hx x z y w
theorem Lw.takeB(h:Lw le a b out ia ib)(sb:b.toList.Pairwise le)(ho:o.toList=out.toList++(b.toList.drop ib).take k)(hx:∀x,x∈(b.toList.drop ib).take k->∀y,y∈a.toList.drop ia->le x y):Lw le a b o ia (ib+k):=by
 have e:b.toList.drop ib=(b.toList.drop ib).take k++b.toList.drop (ib+k):=by rw[<-List.drop_drop];exact (lK8 k _).symm
 have sd:(b.toList.drop ib).Pairwise le:=sb.sublist (lVo ..);have up:=h.up;have perm:=h.perm;rw[e] at sd up perm;obtain⟨s1,s2,s3⟩:=lKh.mp sd;refine⟨?_,?_,?_⟩
 .rw[ho,lJq];refine List.Perm.trans (lXz _ ?_) perm
  (rw[<-lJq,<-lJq])
  (exact lYl _ lYm)
 .rw[ho];exact lKh.mpr ⟨h.srt,s1,λx hx' y hy=>up x hx' y (lKb _ (lKf _ hy))⟩
 .intro x hx' y hy;rw[ho] at hx'
  rcases (lJx.mp hx') with z | z
  .refine up x z y ?_
   rcases (lJx.mp hy) with w | w
   .exact lKf _ w
   .exact lKb _ (lKb _ w)
  .rcases (lJx.mp hy) with w | w
   .exact hx x z y w
   .exact s3 x z y w
theorem jUx(h:arr[i]? =some x):arr.toList.drop i=x::arr.toList.drop (i+1):=by
 have hl:arr.toList[i]? =some x:=by rw[lJ5];exact h
 obtain⟨h1,h2⟩:=lJg.mp hl;rw[lZ9 h1,h2]
theorem Lw.pushA(h:Lw le a b out ia ib)(sa:a.toList.Pairwise le)(hi:a[ia]? =some x)(hx:∀y,y∈b.toList.drop ib->le x y):Lw le a b (out.push x) (ia+1) ib:=by
 have e:(a.toList.drop ia).take 1=[x]:=by rw[jUx hi];rfl
 refine h.takeA sa (k:=1) (by rw[e];simp) λz hz y hy=> ?_
 rw[e,lJ1] at hz;rw[hz];exact hx y hy
theorem Lw.pushB(h:Lw le a b out ia ib)(sb:b.toList.Pairwise le)(hi:b[ib]? =some x)(hx:∀y,y∈a.toList.drop ia->le x y):Lw le a b (out.push x) ia (ib+1):=by
 have e:(b.toList.drop ib).take 1=[x]:=by rw[jUx hi];rfl
 refine h.takeB sb (k:=1) (by rw[e];simp) λz hz y hy=> ?_
 rw[e,lJ1] at hz;rw[hz];exact hx y hy
theorem Lw.done(h:Lw le a b out ia ib)(sa:a.toList.Pairwise le)(sb:b.toList.Pairwise le)(hi:ib=b.size\/ia=a.size):Fin2 le a b (out++a.extract ia++b.extract ib):=by
 have e:(out++a.extract ia++b.extract ib).toList=out.toList++(a.toList.drop ia++b.toList.drop ib):=by rw[lQw,lQw,kQj,kQj,lJq]
 unfold Fin2;rw[e];refine⟨h.perm,lKh.mpr ⟨h.srt,?_,h.up⟩⟩;refine lKh.mpr ⟨sa.sublist (lVo ..),sb.sublist (lVo ..),λx hx y hy=> ?_⟩
 rcases hi with z | z
 .rw[z,lVz (by simp)] at hy;cases hy
 .rw[z,lVz (by simp)] at hx;cases hx
theorem Lw.lastA(h:Lw le a b out ia ib)(sa:a.toList.Pairwise le)(sb:b.toList.Pairwise le)(hi:ia+1=a.size)(hl:∀x,a[ia]? =some x->∀y,y∈b.toList->le y x):Fin2 le a b (out++b.extract ib++a.extract ia):=by
 have e:(out++b.extract ib++a.extract ia).toList=out.toList++(b.toList.drop ib++a.toList.drop ia):=by rw[lQw,lQw,kQj,kQj,lJq]
 unfold Fin2;rw[e];have hx:a[ia]? =some a[ia]:=lK4 (by omega)
 have ed:a.toList.drop ia=[a[ia]]:=by rw[jUx hx,lVz (by simp;omega)]
 refine⟨(lXz _ lYm).trans h.perm,lKh.mpr ⟨h.srt,?_,λx hx' y hy=>h.up x hx' y ?_⟩⟩
 .refine lKh.mpr ⟨sb.sublist (lVo ..),sa.sublist (lVo ..),λx hx' y hy=> ?_⟩
  rw[ed,lJ1] at hy;rw[hy];exact hl _ hx x (lVn hx')
 .rcases (lJx.mp hy) with w | w
  .exact lKb _ w
  .exact lKf _ w
end
variable {l:List Keyed}{m ja jb:Nat}{c:Prop}
section
variable {mem:Keyed->Prop}[∀x y,Decidable (le x y)]
noncomputable abbrev jKx(st:SortSt)(g:Nat):SortSt:=SortSt.mk' (kindOf st) (arrOf st) (pendingOf st) g (failedOf st)
theorem kK9(h:l.Pairwise le)(hi:l[i]? =some x)(hij:i<j)(hj:l[j]? =some y):le x y:=by
 obtain⟨a1,a2⟩:=lJg.mp hi;obtain⟨b1,b2⟩:=lJg.mp hj;have:=lYe.mp h i j a1 b1 hij
 rwa [a2,b2] at this
theorem jYh(H:Asks M A s κ mem le)(hs:arr.toList.Pairwise le)(hm:∀x,x∈arr.toList->mem x)(hx:arr[i]? =some x)(hy:mem y)(h:le y x):∀z,z∈arr.toList.drop i->le y z:=by
 intro z hz;rw[jUx hx] at hz
 rcases (lJp.mp hz) with rfl | hz
 .exact h
 .have hxl:x∈arr.toList:=by rw[lY1];exact Array.mem_of_getElem? hx
  have hzl:z∈arr.toList:=lVn hz;have hd:(arr.toList.drop i).Pairwise le:=hs.sublist (lVo ..);rw[jUx hx] at hd;exact H.tr _ _ _ hy (hm x hxl) (hm z hzl) h (List.rel_of_pairwise_cons hd hz)
theorem jKg(hx:arr[i]? =some x):x∈arr.toList:=by rw[lY1];exact Array.mem_of_getElem? hx
theorem jVz(h:i<arr.size):∃x,arr[i]? =some x:=⟨arr[i],lK4 h⟩
theorem kX9{k:Nat}(h:x∈(arr.toList.drop i).take k):∃j,j<k/\arr[i+j]? =some x:=by
 obtain⟨j,hj⟩:=lJ2 h;rw[lQx] at hj;split at hj
 .rename_i hl
  rw[lX0,lJ5] at hj;exact⟨j,hl,hj⟩
 .cases hj
theorem jJ3{α:Type}{p q:StateT SortSt Sem α}{Q:α->SortSt->Prop}(h1:m=n->wpS M A E s p Q st)(h2:¬ m=n->wpS M A E s q Q st):wpS M A E s (if (m == n)=true then p else q) Q st:=by
 by_cases c:m=n
 .rw[lJc (by simpa using c)];exact h1 c
 .rw[lJb (by simpa using c)];exact h2 c
theorem uKn{α:Type}[Decidable c]{F:Nat->StateT SortSt Sem α}{x y:Nat}{p q:StateT SortSt Sem α}{Q:α->SortSt->Prop}(h2:q=F y)(h1:p=F x)(h:∀z,wpS M A E s (F z) Q st):wpS M A E s (if c then p else q) Q st:=by
 split
 .rw[h1];exact h x
 .rw[h2];exact h y
theorem qZx{α γ δ:Type}[Decidable c]{F:γ->δ->StateT SortSt Sem α}{p q:StateT SortSt Sem α}{Q:α->SortSt->Prop}(y1:γ)(y2:δ)(h2:q=F y1 y2)(R:γ->δ->Prop)(hn:¬ c->R y1 y2)(hp:c->(∀z1 z2,R z1 z2->wpS M A E s (F z1 z2) Q st)->wpS M A E s p Q st)(key:∀z1 z2,R z1 z2->wpS M A E s (F z1 z2) Q st):wpS M A E s (if c then p else q) Q st:=by
 by_cases h:c
 .rw[lJc h];exact hp h key
 .rw[lJb h,h2];exact key y1 y2 (hn h)
noncomputable abbrev kd:Keyed:=(Value.none,Value.none)
theorem at_d(i:Nat)(hi:i<a.size-ja):a[ja+i]? =some (a.getD (ja+i) kd):=by simp[Array.getD,show ja+i<a.size by omega]
theorem uQ3(H:Asks M A s κ mem le)(sa:a.toList.Pairwise le)(ma:∀x,x∈a.toList->mem x)(i j:Nat)(hij:i<=j)(hj:j<a.size-ja):le (a.getD (ja+i) kd) (a.getD (ja+j) kd):=by
 have h1:=at_d (a:=a) (ja:=ja) i (by omega)
 have h2:=at_d (a:=a) (ja:=ja) j hj
 rcases lK9 hij with q | rfl
 .exact kK9 sa (i:=ja+i) (j:=ja+j) (by rw[lJ5];exact h1) (by omega) (by rw[lJ5];exact h2)
 .exact (H.tot _ _ (ma _ (jKg h1)) (ma _ (jKg h1))).elim id id
theorem galA(H:Asks M A s κ mem le){k:Nat}(sa:a.toList.Pairwise le)(ma:∀x,x∈a.toList->mem x)(sb:b.toList.Pairwise le)(mb:∀x,x∈b.toList->mem x)(hy:b[jb]? =some y)(hk1:k<=a.size-ja)(hk2:∀i,i<k->bey le false y (a.getD (ja+i) kd)=true)(hk3:∀i,k<=i->i<a.size-ja->bey le false y (a.getD (ja+i) kd)=false):
  (∀x,x∈(a.toList.drop ja).take k->∀z,z∈b.toList.drop jb->le x z)/\(ja+k<a.size->∀z,z∈a.toList.drop (ja+k)->le y z):=by
 have my:=mb y (jKg hy);simp only[bey,lKg,lKa,lK1,lXj] at hk2 hk3;refine⟨λx hx z hz=> ?_,λhlt=> ?_⟩
 .obtain⟨j,hj,hxj⟩:=kX9 hx;have e:=at_d (a:=a) (ja:=ja) j (by omega)
  rw[hxj] at e;have hle:=hk2 j hj;rw[<-lJ0 e] at hle;exact jYh H sb mb hy (ma x (jKg hxj)) hle z hz
 .have e:=at_d (a:=a) (ja:=ja) k (by omega)
  have hm:=ma _ (jKg e);exact jYh H sa ma e my ((H.tot _ _ hm my).resolve_left (hk3 k (lJh _) (by omega)))
theorem galB(H:Asks M A s κ mem le){k:Nat}(sa:a.toList.Pairwise le)(ma:∀x,x∈a.toList->mem x)(sb:b.toList.Pairwise le)(mb:∀x,x∈b.toList->mem x)(hx:a[ja]? =some x)(hk1:k<=b.size-jb)(hk2:∀i,i<k->bey le true x (b.getD (jb+i) kd)=true)(hk3:∀i,k<=i->i<b.size-jb->bey le true x (b.getD (jb+i) kd)=false):
  (∀y,y∈(b.toList.drop jb).take k->∀z,z∈a.toList.drop ja->le y z)/\(jb+k<b.size->∀z,z∈b.toList.drop (jb+k)->le x z):=by
 have mx:=ma x (jKg hx);simp only[bey,lKt,lY7,lXj,mJa,lK1] at hk2 hk3;refine⟨λy hy z hz=> ?_,λhlt=> ?_⟩
 .obtain⟨j,hj,hyj⟩:=kX9 hy;have e:=at_d (a:=b) (ja:=jb) j (by omega)
  rw[hyj] at e;have hle:=hk2 j hj;rw[<-lJ0 e] at hle;have my:=mb y (jKg hyj);exact jYh H sa ma hx my ((H.tot _ _ mx my).resolve_left hle) z hz
 .have e:=at_d (a:=b) (ja:=jb) k (by omega)
  exact jYh H sb mb e mx (hk3 k (lJh _) (by omega))
theorem qJj{Q:Array Keyed->SortSt->Prop}(H:Asks M A s κ mem le)(hk:kindOf st=κ)(hA:1<=a.size)(hB:1<=b.size)(sa:a.toList.Pairwise le)(sb:b.toList.Pairwise le)(ma:∀x,x∈a.toList->mem x)(mb:∀x,x∈b.toList->mem x)(hf:∀x,b[0]? =some x->∀y,y∈a.toList->le x y)(hl:∀x,a[a.size-1]? =some x->∀y,y∈b.toList->le y x)(h:∀r g,Fin2 le a b r->Q r (jKx st g)):
  wpS M A E s (qX6 a b) Q st:=by
 obtain⟨x0,hb0⟩:=jVz (arr:=b) (i:=0) (by omega)
 have hl':∀i,i+1=a.size->∀x,a[i]? =some x->∀y,y∈b.toList->le y x:=λi hi x hx=>hl x (by rw[show a.size-1=i by omega];exact hx)
 have L0:Lw le a b #[x0] 0 1:=by
  refine⟨?_,by simp,?_⟩
  .rw[lYn];have:b.toList=x0::b.toList.drop 1:=by have:=jUx hb0;rwa [lYn] at this
   conv=>rhs;rw[this]
   show (x0::(a.toList++List.drop 1 b.toList)).Perm _
   exact lZ7.symm
  .intro x hx y hy;simp at hx;subst hx
   rcases (lJx.mp hy) with z | z
   .exact hf x hb0 y (lVn z)
   .have hd:=sb;have e:b.toList=x::b.toList.drop 1:=by have:=jUx hb0;rwa [lYn] at this
    rw[e] at hd;exact List.rel_of_pairwise_cons hd z
 have fin0:∀r,Fin2 le a b r->Q r st:=λr hr=>h r (gallopOf st) hr
 (refine lJf (lV3 (lQq ⟨rfl,?_⟩)))
 refine lJf (jJ9 hb0 ?_)
 dsimp only
 by_cases c1:1=b.size
 .rw[lJc (by simpa using c1)]
  exact lJi (fin0 _ (L0.done sa sb (.inl c1)))
 rw[lJb (by simpa using c1)]
 by_cases c2:0+1=a.size
 .rw[lJc (by simpa using c2)]
  exact lJi (fin0 _ (L0.lastA sa sb c2 (hl' 0 c2)))
 rw[lJb (by simpa using c2)]
 refine lJf (lQi ?_)
 refine lJf (lKo (lKp (I:=λi (c:Option (Array Keyed)×Array Keyed×Nat×Nat×Nat) st'=>(∃g,jKx st g=st')/\c.1=none/\Lw le a b c.2.1 c.2.2.1 c.2.2.2.1/\c.2.2.1+1<a.size/\c.2.2.2.1<b.size/\i+1<=c.2.1.size)
  (Q:=λ(c:Option (Array Keyed)×Array Keyed×Nat×Nat×Nat) st'=>(∃g,jKx st g=st')/\∃r,c.1=some r/\Fin2 le a b r) ?_ ?_ ⟨⟨_,rfl⟩,rfl,L0,by dsimp only;omega,by dsimp only;omega,by simp⟩) ?_)
 .rintro i ⟨r,out,ia,ib,mg⟩ st' _ hi ⟨⟨g,rfl⟩,rfl,L,ha,hb,hsz⟩
  dsimp only at L ha hb hsz ⊢
  refine lJf (lKo (lKp (I:=λi1 (c:Option (Array Keyed)×Array Keyed×Nat×Nat×Nat×Nat) st'=>jKx st g=st'/\c.1=none/\Lw le a b c.2.1 c.2.2.1 c.2.2.2.1/\c.2.2.1+1<a.size/\c.2.2.2.1<b.size/\out.size+i1<=c.2.1.size)
   (Q:=λ(c:Option (Array Keyed)×Array Keyed×Nat×Nat×Nat×Nat) st'=>jKx st g=st'/\((∃r,c.1=some r/\Fin2 le a b r)\/(c.1=none/\Lw le a b c.2.1 c.2.2.1 c.2.2.2.1/\c.2.2.1+1<a.size/\c.2.2.2.1<b.size/\out.size+1<=c.2.1.size))) ?_ ?_ ⟨rfl,rfl,L,ha,hb,lJh _⟩) ?_)
  .rintro i1 ⟨r,out1,ia1,ib1,ac,bc⟩ st' _ hi1 ⟨rfl,rfl,L1,ha1,hb1,hsz1⟩
   dsimp only at L1 ha1 hb1 hsz1 ⊢
   obtain⟨y,hy⟩:=jVz hb1;obtain⟨x,hx⟩:=jVz (arr:=a) (i:=ia1) (by omega)
   have my:=mb y (jKg hy);have mx:=ma x (jKg hx);refine lJf (jJ9 hy (lJf (jJ9 hx (lJf (qQ2 (st:=jKx st g) H my mx hk ?_)))))
   by_cases w:le x y
   .rw[lJ9 w]
    dsimp only
    rw[lJb (by decide)]
    refine lJf (jJ9 hx ?_);have L2:=L1.pushA sa hx (jYh H sb mb hy mx w)
    by_cases c3:ia1+1+1=a.size
    .rw[lJc (by simpa using c3)]
     exact lJi ⟨rfl,.inl ⟨_,rfl,L2.lastA sa sb c3 (hl' _ c3)⟩⟩
    .rw[lJb (by simpa using c3)]
     by_cases c4:ac+1>=mg
     .rw[lJc c4];exact wpS_pure ⟨rfl,.inr ⟨rfl,L2,by dsimp only;omega,hb1,by simp;omega⟩⟩
     .rw[lJb c4];exact wpS_pure ⟨rfl,rfl,L2,by dsimp only;omega,hb1,by simp;omega⟩
   .rw[lJv w]
    dsimp only
    (rw[lJc (show (!false)=true from rfl)])
    refine lJf (jJ9 hy ?_);have w':le y x:=(H.tot x y mx my).resolve_left w;have L2:=L1.pushB sb hy (jYh H sa ma hx my w')
    by_cases c3:ib1+1=b.size
    .rw[lJc (by simpa using c3)]
     exact lJi ⟨rfl,.inl ⟨_,rfl,L2.done sa sb (.inl c3)⟩⟩
    .rw[lJb (by simpa using c3)]
     by_cases c4:bc+1>=mg
     .rw[lJc c4];exact wpS_pure ⟨rfl,.inr ⟨rfl,L2,ha1,by dsimp only;omega,by simp;omega⟩⟩
     .rw[lJb c4];exact wpS_pure ⟨rfl,rfl,L2,ha1,by dsimp only;omega,by simp;omega⟩
  .rintro⟨r,out1,ia1,ib1,ac,bc⟩ st' ⟨rfl,rfl,L1,ha1,hb1,hsz1⟩
   dsimp only at L1 ha1 hb1 hsz1 ⊢
   exact⟨rfl,.inr ⟨rfl,L1,ha1,hb1,by omega⟩⟩
  .rintro⟨r,out1,ia1,ib1,ac,bc⟩ st' ⟨rfl,⟨r',rfl,fr⟩ | ⟨rfl,L1,ha1,hb1,hsz1⟩⟩
   .dsimp only
    exact lJi ⟨⟨g,rfl⟩,r',rfl,fr⟩
   dsimp only at L1 ha1 hb1 hsz1 ⊢
   (refine lJf (lV3 (lQq ⟨rfl,?_⟩)))
   refine lJf (lKo (lKp (I:=λ_ (c:Option (Array Keyed)×Array Keyed×Nat×Nat×Nat×Nat×Nat) st'=>(∃g,jKx st g=st')/\c.1=none/\Lw le a b c.2.1 c.2.2.1 c.2.2.2.1/\c.2.2.1+1<a.size/\c.2.2.2.1<b.size/\out.size+1<=c.2.1.size)
    (Q:=λ(c:Option (Array Keyed)×Array Keyed×Nat×Nat×Nat×Nat×Nat) st'=>(∃g,jKx st g=st')/\((∃r,c.1=some r/\Fin2 le a b r)\/(c.1=none/\Lw le a b c.2.1 c.2.2.1 c.2.2.2.1/\c.2.2.1+1<a.size/\c.2.2.2.1<b.size/\out.size+1<=c.2.1.size))) ?_ ?_ ⟨⟨g,rfl⟩,rfl,L1,ha1,hb1,hsz1⟩) ?_)
   .clear L1 ha1 hb1 hsz1;rintro i1 ⟨r,o,ja,jb,mg1,ac1,bc1⟩ st' _ hi1 ⟨⟨g1,rfl⟩,rfl,L1,ha1,hb1,hsz1⟩
    dsimp only at L1 ha1 hb1 hsz1 ⊢
    obtain⟨y,hy⟩:=jVz hb1;have my:=mb y (jKg hy);apply uKn (x:=mg1-1) (y:=mg1)
    case h2=>rfl
    case h1=>rfl
    intro mg2;refine lJf (lKm ?_);refine lJf (jJ9 hy ?_);refine lJf (jUg (st:=jKx st _) (f:=λi=>a.getD (ja+i) kd) H hk my at_d (λi hi=>ma _ (jKg (at_d i hi))) (uQ3 H sa ma) (by omega) λk hk1 hk2 hk3=> ?_)
    obtain⟨takeK,beyK⟩:=galA H sa ma sb mb hy hk1 hk2 hk3;clear hk2 hk3
    dsimp only
    apply qZx o ja (R:=λo2 ja2=>Lw le a b o2 ja2 jb/\ja2+1<a.size/\out.size+1<=o2.size/\∀z,z∈a.toList.drop ja2->le y z)
    case h2=>rfl
    .intro ck;obtain rfl:k=0:=by omega
     have bk:=beyK (by omega)
     rw[lXv] at bk;exact⟨L1,ha1,hsz1,bk⟩
    .intro ck key;have L2:Lw le a b (o++a.extract ja (ja+k)) (ja+k) jb:=L1.takeA sa (by rw[lQw,qZ4 (by omega)]) takeK
     refine jJ3 (λd1=> ?_) λd1=> ?_
     .exact lJi ⟨⟨_,rfl⟩,.inl ⟨_,rfl,L2.lastA sa sb d1 (hl' _ d1)⟩⟩
     refine jJ3 (λd2=> ?_) λd2=> ?_
     .exact lJi ⟨⟨_,rfl⟩,.inl ⟨_,rfl,L2.done sa sb (.inr d2)⟩⟩
     exact key _ _ ⟨L2,by omega,by rw[mJb];omega,beyK (by omega)⟩
    intro o2 ja2 hR;obtain⟨L2,hja,hos,bk⟩:=hR;clear L1 takeK beyK hk1 ha1 hsz1;refine lJf (jJ9 hy ?_);have L3:=L2.pushB sb hy bk;refine jJ3 (λd3=> ?_) λd3=> ?_
    .exact lJi ⟨⟨_,rfl⟩,.inl ⟨_,rfl,L3.done sa sb (.inl d3)⟩⟩
    obtain⟨x,hx⟩:=jVz (Nat.lt_of_succ_lt hja);have mx:=ma x (jKg hx);have hps:out.size+1<=(o2.push y).size:=by rw[Array.size_push];omega
    have hjb:jb+1<b.size:=by omega
    clear L2 bk hos d3 hb1;refine lJf (jJ9 hx ?_)
    generalize o2.push y=o3 at *
    generalize jb+1=jb1 at *
    refine lJf (jUg (st:=jKx st _) (f:=λi=>b.getD (jb1+i) kd) H hk mx at_d (λi hi=>mb _ (jKg (at_d i hi))) (uQ3 H sb mb) (by omega) λk2 e1 e2 e3=> ?_)
    obtain⟨takeK,beyK⟩:=galB H sa ma sb mb hx e1 e2 e3;clear e2 e3
    dsimp only
    apply qZx o3 jb1 (R:=λo4 jb2=>Lw le a b o4 ja2 jb2/\jb2<b.size/\out.size+1<=o4.size/\∀z,z∈b.toList.drop jb2->le x z)
    case h2=>rfl
    .intro ck;obtain rfl:k2=0:=by omega
     have bk:=beyK (by omega)
     rw[lXv] at bk;exact⟨L3,hjb,hps,bk⟩
    .intro ck key;have L4:=L3.takeB sb (k:=k2) (lQw.trans (lKl _ (qZ4 (ia:=jb1) (a:=b) (by omega)))) takeK
     refine jJ3 (λd4=> ?_) λd4=> ?_
     .exact lJi ⟨⟨_,rfl⟩,.inl ⟨_,rfl,L4.done sa sb (.inl d4)⟩⟩
     exact key _ _ ⟨L4,by omega,by rw[mJb];omega,beyK (by omega)⟩
    intro o4 jb2 hR;obtain⟨L4,hjb2,hos,bk⟩:=hR;clear L3 takeK beyK e1 hjb hps;have L5:=L4.pushA sa hx bk;refine lJf (jJ9 hx ?_);refine jJ3 (λd5=> ?_) λd5=> ?_
    .exact lJi ⟨⟨_,rfl⟩,.inl ⟨_,rfl,L5.lastA sa sb d5 (hl' _ d5)⟩⟩
    have g5:ja2+1+1<a.size:=by omega
    have g6:out.size+1<=(o4.push x).size:=by rw[Array.size_push];omega
    split
    .exact lJi ⟨⟨_,rfl⟩,.inr ⟨rfl,L5,g5,hjb2,g6⟩⟩
    .exact lJi ⟨⟨_,rfl⟩,rfl,L5,g5,hjb2,g6⟩
   .rintro⟨r,o,ja,jb,mg1,ac1,bc1⟩ st' ⟨⟨g1,rfl⟩,rfl,L1,ha1,hb1,hsz1⟩
    dsimp only at L1 ha1 hb1 hsz1 ⊢
    exact⟨⟨g1,rfl⟩,.inr ⟨rfl,L1,ha1,hb1,hsz1⟩⟩
   .rintro⟨r,o,ja,jb,mg1,ac1,bc1⟩ st' ⟨⟨g1,rfl⟩,⟨r',rfl,fr⟩ | ⟨rfl,L1,ha1,hb1,hsz1⟩⟩
    .dsimp only
     exact lJi ⟨⟨g1,rfl⟩,r',rfl,fr⟩
    .dsimp only at L1 ha1 hb1 hsz1 ⊢
     refine lJf (lKm ?_);exact wpS_pure ⟨⟨_,rfl⟩,rfl,L1,ha1,hb1,by dsimp only;omega⟩
 .rintro⟨r,out,ia,ib,mg⟩ st' ⟨⟨g,rfl⟩,rfl,L,ha,hb,hsz⟩;have:=L.size
  dsimp only at this hsz ha hb
  exfalso
  rw[Nat.zero_max] at hsz;omega
 .rintro⟨r,out,ia,ib,mg⟩ st' ⟨⟨g,rfl⟩,r',rfl,fr⟩
  dsimp only
  exact lJi (h _ _ fr)
end
variable {na nb:Nat}
section
variable {k:Nat}
structure Hw (le:Keyed->Keyed->Prop) (a b out:Array Keyed) (na nb:Nat):Prop where
 perm:((a.toList.take na++b.toList.take nb)++out.toList.reverse).Perm (a.toList++b.toList)
 srt:out.toList.reverse.Pairwise le
 up:∀x,x∈a.toList.take na++b.toList.take nb->∀y,y∈out.toList->le x y
theorem Hw.size(h:Hw le a b out na nb)(h1:na<=a.size)(h2:nb<=b.size):na+nb+out.size=a.size+b.size:=by
 have:=h.perm.length_eq;simp at this;omega
theorem kJ0(h:k<=na):l.take na=l.take k++(l.take na).drop k:=by
 conv=>lhs;rw[<-lK8 k (l.take na)]
 rw[List.take_take,Nat.min_eq_left h]
theorem Hw.takeA(h:Hw le a b out na nb)(sa:a.toList.Pairwise le)(hk:k<=na)(ho:o.toList.reverse=(a.toList.take na).drop k++out.toList.reverse)(hx:∀x,x∈b.toList.take nb->∀y,y∈(a.toList.take na).drop k->le x y):Hw le a b o k nb:=by
 have sd:(a.toList.take na).Pairwise le:=sa.sublist (lVg ..);have up:=h.up;have perm:=h.perm;have e:=kJ0 (l:=a.toList) hk
 generalize hd:(a.toList.take na).drop k=d at *
 rw[e] at sd up perm;obtain⟨s1,s2,s3⟩:=lKh.mp sd
 have mo:∀y,y∈o.toList->y∈d\/y∈out.toList:=λy hy=>by
  have:y∈o.toList.reverse:=lV0.mpr hy;rw[ho] at this;exact (lJx.mp this).imp id lV0.mp
 refine⟨?_,?_,?_⟩
 .rw[ho];refine List.Perm.trans ?_ perm;rw[<-lJq,lJq,lJq,lJq,lJq]
  (refine lXz _ ?_)
  (rw[<-lJq,<-lJq])
  (exact lYl _ lYm)
 .rw[ho];exact lKh.mpr ⟨s2,h.srt,λx hx' y hy=>up x (lKf _ (lKb _ hx')) y (lV0.mp hy)⟩
 .intro x hx' y hy
  rcases mo y hy with z | z
  .rcases (lJx.mp hx') with w | w
   .exact s3 x w y z
   .exact hx x w y z
  .refine up x ?_ y z
   rcases (lJx.mp hx') with w | w
   .exact lKf _ (lKf _ w)
   .exact lKb _ w
theorem Hw.takeB(h:Hw le a b out na nb)(sb:b.toList.Pairwise le)(hk:k<=nb)(ho:o.toList.reverse=(b.toList.take nb).drop k++out.toList.reverse)(hx:∀x,x∈a.toList.take na->∀y,y∈(b.toList.take nb).drop k->le x y):Hw le a b o na k:=by
 have sd:(b.toList.take nb).Pairwise le:=sb.sublist (lVg ..);have up:=h.up;have perm:=h.perm;have e:=kJ0 (l:=b.toList) hk
 generalize hd:(b.toList.take nb).drop k=d at *
 rw[e] at sd up perm;obtain⟨s1,s2,s3⟩:=lKh.mp sd
 have mo:∀y,y∈o.toList->y∈d\/y∈out.toList:=λy hy=>by
  have:y∈o.toList.reverse:=lV0.mpr hy;rw[ho] at this;exact (lJx.mp this).imp id lV0.mp
 refine⟨?_,?_,?_⟩
 .rw[ho];refine List.Perm.trans ?_ perm;rw[<-lJq,lJq,lJq,lJq,lJq]
 .rw[ho];exact lKh.mpr ⟨s2,h.srt,λx hx' y hy=>up x (lKb _ (lKb _ hx')) y (lV0.mp hy)⟩
 .intro x hx' y hy
  rcases mo y hy with z | z
  .rcases (lJx.mp hx') with w | w
   .exact hx x w y z
   .exact s3 x w y z
  .refine up x ?_ y z
   rcases (lJx.mp hx') with w | w
   .exact lKf _ w
   .exact lKb _ (lKf _ w)
theorem jY3(h:arr[i]? =some x):(arr.toList.take (i+1)).drop i=[x]:=by
 have hl:arr.toList[i]? =some x:=by rw[lJ5];exact h
 obtain⟨h1,h2⟩:=lJg.mp hl;have hs:i<arr.size:=by simpa using h1
 rw[lQe,hl,lY8 (by simp;omega),lVz (by simp;omega)]
 rfl
theorem Hw.pushA(h:Hw le a b out (na+1) nb)(sa:a.toList.Pairwise le)(hi:a[na]? =some x)(hx:∀y,y∈b.toList.take nb->le y x):Hw le a b (out.push x) na nb:=by
 refine h.takeA sa (k:=na) (by omega) (by rw[jY3 hi];simp) λz hz y hy=> ?_
 rw[jY3 hi,lJ1] at hy;rw[hy];exact hx z hz
theorem Hw.pushB(h:Hw le a b out na (nb+1))(sb:b.toList.Pairwise le)(hi:b[nb]? =some x)(hx:∀y,y∈a.toList.take na->le y x):Hw le a b (out.push x) na nb:=by
 refine h.takeB sb (k:=nb) (by omega) (by rw[jY3 hi];simp) λz hz y hy=> ?_
 rw[jY3 hi,lJ1] at hy;rw[hy];exact hx z hz
theorem jY7:(a.extract 0 na).toList=a.toList.take na:=by rw[jVq];simp
theorem Hw.done(h:Hw le a b out na nb)(sa:a.toList.Pairwise le)(sb:b.toList.Pairwise le)(hi:na=0\/nb=0):Fin2 le a b (a.extract 0 na++b.extract 0 nb++out.reverse):=by
 have e:(a.extract 0 na++b.extract 0 nb++out.reverse).toList=(a.toList.take na++b.toList.take nb)++out.toList.reverse:=by rw[lQw,lQw,jY7,jY7,mJc]
 unfold Fin2;rw[e];refine⟨h.perm,lKh.mpr ⟨?_,h.srt,λx hx y hy=>h.up x hx y (lV0.mp hy)⟩⟩
 refine lKh.mpr ⟨sa.sublist (lVg ..),sb.sublist (lVg ..),λx hx y hy=> ?_⟩
 rcases hi with z | z
 .rw[z] at hx;cases hx
 .rw[z] at hy;cases hy
theorem Hw.firstB(h:Hw le a b out na nb)(sa:a.toList.Pairwise le)(sb:b.toList.Pairwise le)(hi:nb=1)(hl:∀x,b[0]? =some x->∀y,y∈a.toList->le x y):Fin2 le a b (b.extract 0 nb++a.extract 0 na++out.reverse):=by
 have e:(b.extract 0 nb++a.extract 0 na++out.reverse).toList=(b.toList.take nb++a.toList.take na)++out.toList.reverse:=by rw[lQw,lQw,jY7,jY7,mJc]
 unfold Fin2;rw[e];refine⟨(lYl _ lYm).trans h.perm,lKh.mpr ⟨?_,h.srt,λx hx y hy=>h.up x ?_ y (lV0.mp hy)⟩⟩
 .refine lKh.mpr ⟨sb.sublist (lVg ..),sa.sublist (lVg ..),λx hx y hy=> ?_⟩
  rw[hi] at hx
  (obtain⟨j,hj⟩:=lJ2 hx)
  rw[lQx] at hj;split at hj
  .rename_i hlt
   obtain rfl:j=0:=by omega
   rw[lJ5] at hj;exact hl x hj y (lQg hy)
  .cases hj
 .rcases (lJx.mp hx) with w | w
  .exact lKb _ w
  .exact lKf _ w
end
section
variable {mem:Keyed->Prop}[∀x y,Decidable (le x y)]
theorem kKv(H:Asks M A s κ mem le)(hs:arr.toList.Pairwise le)(hm:∀x,x∈arr.toList->mem x)(hx:arr[i]? =some x)(hy:mem y)(h:le x y):∀z,z∈arr.toList.take (i+1)->le z y:=by
 intro z hz;have hzl:z∈arr.toList:=lQg hz;obtain⟨j,hj⟩:=lJ2 hz;rw[lQx] at hj;split at hj
 .rename_i hlt
  rcases lK9 (lQf hlt) with q | rfl
  .exact H.tr _ _ _ (hm z hzl) (hm x (jKg hx)) hy (kK9 hs hj q (by rw[lJ5];exact hx)) h
  .rw[lJ5,hx] at hj;cases hj;exact h
 .cases hj
theorem qZ5{k:Nat}(h:x∈(arr.toList.take n).drop k):∃j,k<=j/\j<n/\arr[j]? =some x:=by
 obtain⟨j,hj⟩:=lJ2 h;rw[lX0,lQx] at hj;split at hj
 .rename_i hl
  rw[lJ5] at hj;exact⟨k+j,by omega,hl,hj⟩
 .cases hj
theorem qZj(h:x∈arr.toList.take n):∃j,j<n/\arr[j]? =some x:=by
 obtain⟨j,hj⟩:=lJ2 h;rw[lQx] at hj;split at hj
 .rename_i hl
  rw[lJ5] at hj;exact⟨j,hl,hj⟩
 .cases hj
theorem at_e(hn:n<=a.size)(i:Nat)(hi:i<n):a[0+i]? =some (a.getD i kd):=by rw[lQ3];simp[Array.getD,show i<a.size by omega]
theorem uQ2(H:Asks M A s κ mem le)(hn:n<=a.size)(sa:a.toList.Pairwise le)(ma:∀x,x∈a.toList->mem x)(i j:Nat)(hij:i<=j)(hj:j<n):le (a.getD i kd) (a.getD j kd):=by
 have h1:=at_e hn i (by omega)
 have h2:=at_e hn j hj;rw[lQ3] at h1 h2
 rcases lK9 hij with q | rfl
 .exact kK9 sa (i:=i) (j:=j) (by rw[lJ5];exact h1) q (by rw[lJ5];exact h2)
 .exact (H.tot _ _ (ma _ (jKg h1)) (ma _ (jKg h1))).elim id id
theorem uXu(H:Asks M A s κ mem le){k:Nat}(ma:∀x,x∈a.toList->mem x)(sb:b.toList.Pairwise le)(mb:∀x,x∈b.toList->mem x)(hna:na<=a.size)(hy:b[nb]? =some y)(hk1:k<=na)(hk2:∀i,i<k->bey le false y (a.getD i kd)=true)(hk3:∀i,k<=i->i<na->bey le false y (a.getD i kd)=false):
  (∀z,z∈b.toList.take (nb+1)->∀x,x∈(a.toList.take na).drop k->le z x)/\(∀z,z∈a.toList.take k->le z y):=by
 have my:=mb y (jKg hy);simp only[bey,lKg,lKa,lK1,lXj] at hk2 hk3;refine⟨λz hz x hx=> ?_,λz hz=> ?_⟩
 .obtain⟨j,h1,h2,h3⟩:=qZ5 hx;have e:=at_e hna j h2;rw[lQ3,h3] at e;have hle:=hk3 j h1 h2;rw[<-lJ0 e] at hle;have mx:=ma x (jKg h3);exact kKv H sb mb hy mx ((H.tot _ _ mx my).resolve_left hle) z hz
 .obtain⟨j,h1,h2⟩:=qZj hz;have e:=at_e hna j (by omega)
  rw[lQ3,h2] at e;have hle:=hk2 j h1
  rwa [<-lJ0 e] at hle
theorem uXt(H:Asks M A s κ mem le){k:Nat}(sa:a.toList.Pairwise le)(ma:∀x,x∈a.toList->mem x)(mb:∀x,x∈b.toList->mem x)(hnb:nb<=b.size)(hx:a[na]? =some x)(hk1:k<=nb)(hk2:∀i,i<k->bey le true x (b.getD i kd)=true)(hk3:∀i,k<=i->i<nb->bey le true x (b.getD i kd)=false):
  (∀z,z∈a.toList.take (na+1)->∀y,y∈(b.toList.take nb).drop k->le z y)/\(∀z,z∈b.toList.take k->le z x):=by
 have mx:=ma x (jKg hx);simp only[bey,lKt,lY7,lXj,mJa,lK1] at hk2 hk3;refine⟨λz hz y hy=> ?_,λz hz=> ?_⟩
 .obtain⟨j,h1,h2,h3⟩:=qZ5 hy;have e:=at_e hnb j h2;rw[lQ3,h3] at e;have hle:=hk3 j h1 h2;rw[<-lJ0 e] at hle;exact kKv H sa ma hx (mb y (jKg h3)) hle z hz
 .obtain⟨j,h1,h2⟩:=qZj hz;have e:=at_e hnb j (by omega)
  rw[lQ3,h2] at e;have hle:=hk2 j h1;rw[<-lJ0 e] at hle;exact (H.tot _ _ mx (mb z (jKg h2))).resolve_left hle
theorem qKz{k:Nat}:(o++(arr.extract k n).reverse).toList.reverse=(arr.toList.take n).drop k++o.toList.reverse:=by
 rw[lQw,List.reverse_append,mJc,List.reverse_reverse,jVq,List.drop_take]
theorem qJk{Q:Array Keyed->SortSt->Prop}(H:Asks M A s κ mem le)(hk:kindOf st=κ)(hA:1<=a.size)(hB:1<=b.size)(sa:a.toList.Pairwise le)(sb:b.toList.Pairwise le)(ma:∀x,x∈a.toList->mem x)(mb:∀x,x∈b.toList->mem x)(hf:∀x,b[0]? =some x->∀y,y∈a.toList->le x y)(hl:∀x,a[a.size-1]? =some x->∀y,y∈b.toList->le y x)(h:∀r g,Fin2 le a b r->Q r (jKx st g)):
  wpS M A E s (qX7 a b) Q st:=by
 obtain⟨x0,hb0⟩:=jVz (arr:=a) (i:=a.size-1) (by omega)
 have La:Hw le a b #[] (a.size-1+1) b.size:=by
  refine⟨?_,by simp,λx _ y hy=> ?_⟩
  .rw[lVw (by simp;omega),lVw (by simp)];simp
  .simp at hy
 have L0:Hw le a b #[x0] (a.size-1) b.size:=La.pushA sa hb0 λy hy=>hl x0 hb0 y (lQg hy)
 have fin0:∀r,Fin2 le a b r->Q r st:=λr hr=>h r (gallopOf st) hr
 (refine lJf (lV3 (lQq ⟨rfl,?_⟩)))
 refine lJf (jJ9 hb0 ?_)
 dsimp only
 refine jJ3 (λc1=> ?_) λc1=> ?_
 .exact lJi (fin0 _ (L0.done sa sb (.inl c1)))
 refine jJ3 (λc2=> ?_) λc2=> ?_
 .exact lJi (fin0 _ (L0.firstB sa sb c2 hf))
 refine lJf (lQi ?_)
 refine lJf (lKo (lKp (I:=λi (c:Option (Array Keyed)×Nat×Nat×Array Keyed×Nat) st'=>(∃g,jKx st g=st')/\c.1=none/\Hw le a b c.2.2.2.1 c.2.1 c.2.2.1/\1<=c.2.1/\c.2.1<=a.size/\2<=c.2.2.1/\c.2.2.1<=b.size/\i+1<=c.2.2.2.1.size)
  (Q:=λ(c:Option (Array Keyed)×Nat×Nat×Array Keyed×Nat) st'=>(∃g,jKx st g=st')/\∃r,c.1=some r/\Fin2 le a b r) ?_ ?_ ⟨⟨_,rfl⟩,rfl,L0,by dsimp only;omega,by dsimp only;omega,by dsimp only;omega,by dsimp only;omega,by simp⟩) ?_)
 .rintro i ⟨r,na,nb,out,mg⟩ st' _ hi ⟨⟨g,rfl⟩,rfl,L,ha,ha',hb,hb',hsz⟩
  dsimp only at L ha ha' hb hb' hsz ⊢
  refine lJf (lKo (lKp (I:=λi1 (c:Option (Array Keyed)×Nat×Nat×Array Keyed×Nat×Nat) st'=>jKx st g=st'/\c.1=none/\Hw le a b c.2.2.2.1 c.2.1 c.2.2.1/\1<=c.2.1/\c.2.1<=a.size/\2<=c.2.2.1/\c.2.2.1<=b.size/\out.size+i1<=c.2.2.2.1.size)
   (Q:=λ(c:Option (Array Keyed)×Nat×Nat×Array Keyed×Nat×Nat) st'=>jKx st g=st'/\((∃r,c.1=some r/\Fin2 le a b r)\/(c.1=none/\Hw le a b c.2.2.2.1 c.2.1 c.2.2.1/\1<=c.2.1/\c.2.1<=a.size/\2<=c.2.2.1/\c.2.2.1<=b.size/\out.size+1<=c.2.2.2.1.size))) ?_ ?_ ⟨rfl,rfl,L,ha,ha',hb,hb',lJh _⟩) ?_)
  .rintro i1 ⟨r,n1,m1,out1,ac,bc⟩ st' _ hi1 ⟨rfl,rfl,L1,p1,p2,p3,p4,hsz1⟩
   dsimp only at L1 p1 p2 p3 p4 hsz1 ⊢
   obtain⟨n1,rfl⟩:∃k,n1=k+1:=⟨n1-1,by omega⟩
   obtain⟨m1,rfl⟩:∃k,m1=k+1:=⟨m1-1,by omega⟩
   simp only[lY5];obtain⟨y,hy⟩:=jVz (arr:=b) (i:=m1) (by omega)
   obtain⟨x,hx⟩:=jVz (arr:=a) (i:=n1) (by omega)
   have my:=mb y (jKg hy);have mx:=ma x (jKg hx);refine lJf (jJ9 hy (lJf (jJ9 hx (lJf (qQ2 (st:=jKx st g) H my mx hk ?_)))))
   by_cases w:le x y
   .rw[lJ9 w]
    dsimp only
    rw[lJb (by decide)]
    refine lJf (jJ9 hy ?_);have L2:=L1.pushB sb hy (kKv H sa ma hx my w);refine jJ3 (λc3=> ?_) λc3=> ?_
    .exact lJi ⟨rfl,.inl ⟨_,rfl,L2.firstB sa sb c3 hf⟩⟩
    .split
     .exact wpS_pure ⟨rfl,.inr ⟨rfl,L2,p1,p2,by dsimp only;omega,by dsimp only;omega,by simp;omega⟩⟩
     .exact wpS_pure ⟨rfl,rfl,L2,p1,p2,by dsimp only;omega,by dsimp only;omega,by simp;omega⟩
   .rw[lJv w]
    dsimp only
    (rw[lJc (show (!false)=true from rfl)])
    refine lJf (jJ9 hx ?_);have L2:=L1.pushA sa hx (kKv H sb mb hy mx ((H.tot x y mx my).resolve_left w));refine jJ3 (λc3=> ?_) λc3=> ?_
    .exact lJi ⟨rfl,.inl ⟨_,rfl,L2.done sa sb (.inl c3)⟩⟩
    .split
     .exact wpS_pure ⟨rfl,.inr ⟨rfl,L2,by dsimp only;omega,by dsimp only;omega,p3,p4,by simp;omega⟩⟩
     .exact wpS_pure ⟨rfl,rfl,L2,by dsimp only;omega,by dsimp only;omega,p3,p4,by simp;omega⟩
  .rintro⟨r,n1,m1,out1,ac,bc⟩ st' ⟨rfl,rfl,L1,p1,p2,p3,p4,hsz1⟩
   dsimp only at L1 p1 p2 p3 p4 hsz1 ⊢
   exact⟨rfl,.inr ⟨rfl,L1,p1,p2,p3,p4,by omega⟩⟩
  .rintro⟨r,n1,m1,out1,ac,bc⟩ st' ⟨rfl,⟨r',rfl,fr⟩ | ⟨rfl,L1,p1,p2,p3,p4,hsz1⟩⟩
   .dsimp only
    exact lJi ⟨⟨g,rfl⟩,r',rfl,fr⟩
   dsimp only at L1 p1 p2 p3 p4 hsz1 ⊢
   (refine lJf (lV3 (lQq ⟨rfl,?_⟩)))
   refine lJf (lKo (lKp (I:=λ_ (c:Option (Array Keyed)×Nat×Nat×Array Keyed×Nat×Nat×Nat) st'=>(∃g,jKx st g=st')/\c.1=none/\Hw le a b c.2.2.2.1 c.2.1 c.2.2.1/\1<=c.2.1/\c.2.1<=a.size/\2<=c.2.2.1/\c.2.2.1<=b.size/\out.size+1<=c.2.2.2.1.size)
    (Q:=λ(c:Option (Array Keyed)×Nat×Nat×Array Keyed×Nat×Nat×Nat) st'=>(∃g,jKx st g=st')/\((∃r,c.1=some r/\Fin2 le a b r)\/(c.1=none/\Hw le a b c.2.2.2.1 c.2.1 c.2.2.1/\1<=c.2.1/\c.2.1<=a.size/\2<=c.2.2.1/\c.2.2.1<=b.size/\out.size+1<=c.2.2.2.1.size))) ?_ ?_ ⟨⟨g,rfl⟩,rfl,L1,p1,p2,p3,p4,hsz1⟩) ?_)
   .clear L1 p1 p2 p3 p4 hsz1;rintro i1 ⟨r,ja,jb,o,mg1,ac1,bc1⟩ st' _ hi1 ⟨⟨g1,rfl⟩,rfl,L1,p1,p2,p3,p4,hsz1⟩
    dsimp only at L1 p1 p2 p3 p4 hsz1 ⊢
    obtain⟨jb,rfl⟩:∃k,jb=k+1:=⟨jb-1,by omega⟩
    simp only[lY5];obtain⟨y,hy⟩:=jVz (arr:=b) (i:=jb) (by omega)
    have my:=mb y (jKg hy)
    by_cases cg:mg1>1
    all_goals first | rw[lJc cg] | rw[lJb cg]
    all_goals refine lJf (lKm ?_)
    all_goals refine lJf (jJ9 hy ?_)
    all_goals refine lJf (jUg (st:=jKx st _) (f:=λi=>a.getD i kd) H hk my (at_e p2) (λi hi=>ma _ (jKg (at_e p2 i hi))) (uQ2 H p2 sa ma) (by omega) λk hk1 hk2 hk3=> ?_)
    all_goals obtain⟨takeK,beyK⟩:=uXu H ma sb mb p2 hy hk1 hk2 hk3
    all_goals dsimp only
    all_goals by_cases ck:ja-k>0
    all_goals first | rw[lJc ck] | rw[lJb ck]
    all_goals first
     | (have L2:Hw le a b (o++(a.extract k ja).reverse) k (jb+1):=L1.takeA sa hk1 qKz takeK
        refine jJ3 (λd1=> ?_) λd1=> ?_
        .exact lJi ⟨⟨_,rfl⟩,.inl ⟨_,rfl,L2.done sa sb (.inl d1)⟩⟩
        have q1:1<=k:=by omega
        have q2:k<=a.size:=by omega
        have hos:out.size+1<=(o++(a.extract k ja).reverse).size:=by rw[mJb];omega
        have bk:=beyK;clear L1 hk1 hk2 hk3 takeK beyK
        generalize ja-k=kk at *
        generalize o++(a.extract k ja).reverse=o2 at *
        skip)
     | (obtain rfl:k=ja:=by omega
        have L2:=L1;have q1:=p1;have q2:=p2;have hos:=hsz1;have bk:=beyK;clear L1 hk1 hk2 hk3 takeK beyK
        skip)
    all_goals refine lJf (jJ9 hy ?_)
    all_goals have L3:=L2.pushB sb hy bk
    all_goals refine jJ3 (λd3=> ?_) λd3=> ?_
    all_goals first
     | exact lJi ⟨⟨_,rfl⟩,.inl ⟨_,rfl,L3.firstB sa sb d3 hf⟩⟩
     | skip
    all_goals obtain⟨k',rfl⟩:∃n,k=n+1:=⟨k-1,by omega⟩
    all_goals obtain⟨x,hx⟩:=jVz (arr:=a) (i:=k') (by omega)
    all_goals have mx:=ma x (jKg hx)
    all_goals have r4:jb<=b.size:=by omega
    all_goals simp only[lY5]
    all_goals refine lJf (jJ9 hx ?_)
    all_goals refine lJf (jUg (st:=jKx st _) (f:=λi=>b.getD i kd) H hk mx (at_e r4) (λi hi=>mb _ (jKg (at_e r4 i hi))) (uQ2 H r4 sb mb) (by omega) λk2 e1 e2 e3=> ?_)
    all_goals obtain⟨takeK,beyK⟩:=uXt H sa ma mb r4 hx e1 e2 e3
    all_goals dsimp only
    all_goals by_cases ck2:jb-k2>0
    all_goals first | rw[lJc ck2] | rw[lJb ck2]
    all_goals first
     | (have L4:=L3.takeB sb e1 qKz takeK
        refine jJ3 (λd4=> ?_) λd4=> ?_
        .exact lJi ⟨⟨_,rfl⟩,.inl ⟨_,rfl,L4.firstB sa sb d4 hf⟩⟩
        refine jJ3 (λd5=> ?_) λd5=> ?_
        .exact lJi ⟨⟨_,rfl⟩,.inl ⟨_,rfl,L4.done sa sb (.inr d5)⟩⟩
        have L5:=L4.pushA sa hx beyK;have r1:2<=k2:=by omega
        have r2:k2<=b.size:=by omega
        skip)
     | (obtain rfl:k2=jb:=by omega
        have L5:=L3.pushA sa hx beyK;have r1:2<=k2:=by omega
        have r2:k2<=b.size:=by omega
        skip)
    all_goals refine lJf (jJ9 hx ?_)
    all_goals clear takeK beyK e1 e2 e3
    all_goals first
     | (refine jJ3 (λd5=> ?_) λd5=> ?_
        .exact lJi ⟨⟨_,rfl⟩,.inl ⟨_,rfl,L5.done sa sb (.inl d5)⟩⟩
        .split
         .exact wpS_pure ⟨⟨_,rfl⟩,.inr ⟨rfl,L5,by dsimp only;omega,by dsimp only;omega,r1,r2,by simp;omega⟩⟩
         .exact wpS_pure ⟨⟨_,rfl⟩,rfl,L5,by dsimp only;omega,by dsimp only;omega,r1,r2,by simp;omega⟩)
     | trace_state
   .rintro⟨r,ja,jb,o,mg1,ac1,bc1⟩ st' ⟨⟨g1,rfl⟩,rfl,L1,p1,p2,p3,p4,hsz1⟩
    dsimp only at L1 p1 p2 p3 p4 hsz1 ⊢
    exact⟨⟨g1,rfl⟩,.inr ⟨rfl,L1,p1,p2,p3,p4,hsz1⟩⟩
   .rintro⟨r,ja,jb,o,mg1,ac1,bc1⟩ st' ⟨⟨g1,rfl⟩,⟨r',rfl,fr⟩ | ⟨rfl,L1,p1,p2,p3,p4,hsz1⟩⟩
    .dsimp only
     exact lJi ⟨⟨g1,rfl⟩,r',rfl,fr⟩
    .dsimp only at L1 p1 p2 p3 p4 hsz1 ⊢
     refine lJf (lKm ?_);exact wpS_pure ⟨⟨_,rfl⟩,rfl,L1,p1,p2,p3,p4,by dsimp only;omega⟩
 .rintro⟨r,na,nb,out,mg⟩ st' ⟨⟨g,rfl⟩,rfl,L,ha,ha',hb,hb',hsz⟩
  dsimp only at L ha ha' hb hb' hsz
  have:=L.size ha' hb'
  exfalso
  rw[Nat.zero_max] at hsz;omega
 .rintro⟨r,na,nb,out,mg⟩ st' ⟨⟨g,rfl⟩,r',rfl,fr⟩
  dsimp only
  exact lJi (h _ _ fr)
end
theorem jZl{α:Type}:∀(m:List α)(base:Nat)(arr:Array α)(k:Nat),base+k+m.length<=arr.size->
  ((m.zipIdx k).foldl (λ(a:Array α)(x:α×Nat)=>a.setIfInBounds (base+x.2) x.1) arr).toList=arr.toList.take (base+k)++m++arr.toList.drop (base+k+m.length)
 | [],base,arr,k,h=>by simp
 | p::m,base,arr,k,h=>by
  rw[List.zipIdx_cons,lZx];have hl:base+k<arr.size:=by simp at h;omega
  rw[jZl m base _ (k+1) (by rw[lZ4];simp at h;omega)]
  rw[Array.toList_setIfInBounds,show base+(k+1)=(base+k)+1 by omega]
  have h1:(arr.toList.set (base+k) p).take (base+k+1)=arr.toList.take (base+k)++[p]:=by
   rw[lQe,List.take_set_of_le (lJh _),lKy (by simpa using hl)];rfl
  have h2:(arr.toList.set (base+k) p).drop (base+k+1+m.length)=arr.toList.drop (base+k+1+m.length):=List.drop_set_of_lt (by omega)
  rw[h1,h2];simp only[lKk,lJq,List.singleton_append,List.cons_append];rw[show base+k+(m.length+1)=base+k+1+m.length by omega]
  rfl
section
variable {mem:Keyed->Prop}[∀x y,Decidable (le x y)]
theorem uJb{σ:Type}{Q:PUnit->σ->Prop}{st st':σ}(h:Q ⟨⟩ st'):wpS M A E s (set st':StateT σ Sem PUnit) Q st:=by
 unfold wpS;rw[StateT.run_set];exact lJd ⟨rfl,h⟩
theorem jKe(h:i<l.length):l[i]? =some (l.getD i kd):=by simp[List.getD,h]
theorem jYz(H:Asks M A s κ mem le)(hs:l.Pairwise le)(hm:∀x,x∈l->mem x)(i j:Nat)(hij:i<=j)(hj:j<l.length):le (l.getD i kd) (l.getD j kd):=by
 have h1:=jKe (l:=l) (i:=i) (by omega)
 have h2:=jKe hj
 rcases lK9 hij with q | rfl
 .exact kK9 hs h1 q h2
 .exact (H.tot _ _ (hm _ (lJo h1)) (hm _ (lJo h1))).elim id id
theorem qJl{Q:Bool->SortSt->Prop}{sa sb pw pw2:Nat}{P X Y S:List Keyed}(H:Asks M A s κ mem le)(hk:kindOf st=κ)(hfl:failedOf st=none)(hp1:(pendingOf st)[i]? =some (sa,na,pw))(hp2:(pendingOf st)[i+1]? =some (sb,nb,pw2))(harr:(arrOf st).toList=P++(X++Y)++S)(h1:P.length=sa)(h2:X.length=na)(h3:sb=sa+na)(h4:Y.length=nb)(hX:1<=na)(hY:1<=nb)(sX:X.Pairwise le)(sY:Y.Pairwise le)(mX:∀x,x∈X->mem x)(mY:∀x,x∈Y->mem x)(h:∀Z st',Z.Perm (X++Y)->Z.Pairwise le->(arrOf st').toList=P++Z++S->kindOf st'=κ->failedOf st'=none->pendingOf st'=((pendingOf st).setIfInBounds i (sa,na+nb,pw)).eraseIdxIfInBounds (i+1)->Q true st'):wpS M A E s (mergeAt' i) Q st:=by
 have fX:∀j,j<na->(arrOf st)[sa+j]? =some (X.getD j kd):=λj hj=>by
  rw[<-lJ5,harr,lJq,lK2 (by omega),h1,lY9,lJq,lKq (by omega)]
  exact jKe (by omega)
 have fY:∀j,j<nb->(arrOf st)[sb+j]? =some (Y.getD j kd):=λj hj=>by
  rw[<-lJ5,harr,lJq,lK2 (by omega),h1,lJq,lK2 (by omega),h2,lKq (by omega),show sb+j-sa-na=j by omega]
  exact jKe (by omega)
 have mX':∀j,j<na->mem (X.getD j kd):=λj hj=>mX _ (lJo (jKe (by omega)))
 have mY':∀j,j<nb->mem (Y.getD j kd):=λj hj=>mY _ (lJo (jKe (by omega)))
 refine lJf (lQi ?_);simp only[hp1,hp2];refine lJf (uJb ?_);have hy0:=fY 0 (by omega)
 rw[lXv] at hy0;refine lJf (jJ9 hy0 ?_);refine lJf (jUg (f:=λj=>X.getD j kd) H (by exact hk) (mY' 0 (by omega)) fX mX' (λp q hpq hq=>jYz H sX mX p q hpq (by omega)) (by omega) λk hk1 hk2 hk3=> ?_)
 dsimp only
 simp only[bey,lKg,lKa,lK1,lXj] at hk2 hk3
 have inX:∀x,x∈X->∃j,j<na/\x=X.getD j kd:=λx hx=>by
  (obtain⟨j,hj⟩:=lJ2 hx)
  have hl:=(lJg.mp hj).1;exact⟨j,by omega,by rw[jKe hl] at hj;exact (lJ0 hj).symm⟩
 have inY:∀x,x∈Y->∃j,j<nb/\x=Y.getD j kd:=λx hx=>by
  (obtain⟨j,hj⟩:=lJ2 hx)
  have hl:=(lJg.mp hj).1;exact⟨j,by omega,by rw[jKe hl] at hj;exact (lJ0 hj).symm⟩
 have y0:∀y,y∈Y->le (Y.getD 0 kd) y:=λy hy=>by
  obtain⟨j,hj,rfl⟩:=inY y hy;exact jYz H sY mY 0 j (lJn _) (by omega)
 have xl:∀x,x∈X->le x (X.getD (na-1) kd):=λx hx=>by
  obtain⟨j,hj,rfl⟩:=inX x hx;exact jYz H sX mX j (na-1) (by omega) (by omega)
 have lowX:∀x,x∈X.take k->∀y,y∈Y->le x y:=λx hx y hy=>by
  (obtain⟨j,hj⟩:=lJ2 hx)
  rw[lQx] at hj;split at hj
  .rename_i hjk
   rw[jKe (by omega)] at hj
   have:=hk2 j hjk;rw[lJ0 hj] at this;exact H.tr _ _ _ (mX _ (lQg hx)) (mY' 0 (by omega)) (mY _ hy) this (y0 y hy)
  .cases hj
 refine jJ3 (λd1=> ?_) λd1=> ?_
 .refine lJi (h (X++Y) _ (.refl _) (lKh.mpr ⟨sX,sY,λx hx y hy=>lowX x ?_ y hy⟩) harr hk hfl rfl)
  rw[lVw (by omega)];exact hx
 refine lJf (jJ9 (x:=X.getD (na-1) kd) (by rw[show sa+k+(na-k)-1=sa+(na-1) by omega];exact fX _ (by omega)) ?_)
 have mk:=mX' (na-1) (by omega)
 refine lJf (jUg (f:=λj=>Y.getD j kd) H (by exact hk) mk fY mY' (λp q hpq hq=>jYz H sY mY p q hpq (by omega)) (by omega) λk2 e1 e2 e3=> ?_)
 dsimp only
 simp only[bey,lKt,lY7,lXj,mJa,lK1] at e2 e3
 have highY:∀y,y∈Y.drop k2->∀x,x∈X->le x y:=λy hy x hx=>by
  obtain⟨j,hj⟩:=lJ2 hy;rw[lX0] at hj;have hl:=(lJg.mp hj).1;rw[jKe hl] at hj;have:=e3 (k2+j) (by omega) (by omega)
  rw[lJ0 hj] at this;exact H.tr _ _ _ (mX _ hx) mk (mY _ (lVn hy)) (xl x hx) this
 refine jJ3 (λd2=> ?_) λd2=> ?_
 .refine lJi (h (X++Y) _ (.refl _) (lKh.mpr ⟨sX,sY,λx hx y hy=>highY y ?_ x hx⟩) harr hk hfl rfl)
  rw[d2];exact hy
 have exX:((arrOf st).extract (sa+k) sb).toList=X.drop k:=by
  rw[jVq,harr,lJq,lJq,<-h1,mJd,lVz (by omega),lYv,lY9,lY8 (by omega),lXa (by simp;omega),lVw (by simp;omega)]
 have exY:((arrOf st).extract sb (sb+k2)).toList=Y.take k2:=by
  rw[jVq,harr,lJq,lJq,<-lJq P,mJd,lVz (by simp;omega),lYv,show sb-(P++X).length=0 by simp;omega,lYn,lXa (by omega),lY9]
 have szX:((arrOf st).extract (sa+k) sb).size=na-k:=by rw[<-lKn,exX,lXp,h2]
 have szY:((arrOf st).extract sb (sb+k2)).size=k2:=by rw[<-lKn,exY,lQc,h4];omega
 have fin:∀(r:Array Keyed) g,Fin2 le ((arrOf st).extract (sa+k) sb) ((arrOf st).extract sb (sb+k2)) r->Q (failedOf (jKx st g)).isNone (SortSt.mk' (kindOf st) (r.toList.zipIdx.foldl (λa x=>a.setIfInBounds (sa+k+x.snd) x.fst) (arrOf st)) (((pendingOf st).setIfInBounds i (sa,na+nb,pw)).eraseIdxIfInBounds (i+1)) g (failedOf st)):=by
  rintro r g ⟨fp,fs⟩;rw[exX,exY] at fp;have hrl:r.toList.length=(na-k)+k2:=by rw[fp.length_eq,lJ7,lXp,lQc];omega
  have hal:(arrOf st).size=sa+(na+nb)+S.length:=by rw[<-lKn,harr];simp;omega
  have e:=jZl r.toList (sa+k) (arrOf st) 0 (by omega)
  have e2':(failedOf (jKx st g)).isNone=true:=by show (failedOf st).isNone=true;rw[hfl];rfl
  rw[e2'];have inr:∀z,z∈r.toList->z∈X.drop k\/z∈Y.take k2:=λz hz=>lJx.mp (fp.mem_iff.mp hz)
  refine h (X.take k++r.toList++Y.drop k2) _ ?_ ?_ ?_ hk hfl rfl
  .have:(X.take k++r.toList++Y.drop k2).Perm (X.take k++(X.drop k++Y.take k2)++Y.drop k2):=lYl _ (lXz _ fp);refine this.trans (List.Perm.of_eq ?_);rw[<-lJq,lK8,lJq,lK8]
  .have sX':(X.take k++X.drop k).Pairwise le:=by rw[lK8];exact sX
   have sY':(Y.take k2++Y.drop k2).Pairwise le:=by rw[lK8];exact sY
   obtain⟨a1,a2,a3⟩:=lKh.mp sX';obtain⟨b1,b2,b3⟩:=lKh.mp sY';refine lKh.mpr ⟨lKh.mpr ⟨a1,fs,λx hx z hz=> ?_⟩,b2,λx hx y hy=> ?_⟩
   .rcases inr z hz with w | w
    .exact a3 x hx z w
    .exact lowX x hx z (lQg w)
   .rcases (lJx.mp hx) with w | w
    .exact highY y hy x (lQg w)
    .rcases inr x w with w | w
     .exact highY y hy x (lVn w)
     .exact b3 x w y hy
  .show (List.foldl _ _ _:Array Keyed).toList=_
   rw[e,lXv,hrl,show sa+k+(na-k+k2)=sb+k2 by omega]
   have t1:(arrOf st).toList.take (sa+k)=P++X.take k:=by
    rw[harr,lJq,lJq,<-h1,List.take_append,lVw (by omega),lY9,lXa (by omega)]
   have t2:(arrOf st).toList.drop (sb+k2)=Y.drop k2++S:=by
    rw[harr,lJq,lJq,<-lJq P,mJd,lVz (by simp;omega),lYv,show sb+k2-(P++X).length=k2 by simp;omega,lY8 (by omega)]
   rw[t1,t2];simp only[lJq]
 have pa:((arrOf st).extract (sa+k) sb).toList.Pairwise le:=by rw[exX];exact sX.sublist (lVo ..)
 have pb:((arrOf st).extract sb (sb+k2)).toList.Pairwise le:=by rw[exY];exact sY.sublist (lVg ..)
 have pma:∀x,x∈((arrOf st).extract (sa+k) sb).toList->mem x:=λx hx=>by rw[exX] at hx;exact mX x (lVn hx)
 have pmb:∀x,x∈((arrOf st).extract sb (sb+k2)).toList->mem x:=λx hx=>by rw[exY] at hx;exact mY x (lQg hx)
 have pf:∀x,((arrOf st).extract sb (sb+k2))[0]? =some x->∀y,y∈((arrOf st).extract (sa+k) sb).toList->le x y:=λx hx y hy=>by
  rw[<-lJ5,exY,lQx,lJc (by omega),jKe (by omega)] at hx
  rw[<-lJ0 hx];rw[exX] at hy;obtain⟨j,hj⟩:=lJ2 hy;rw[lX0] at hj;have hl:=(lJg.mp hj).1;rw[jKe hl] at hj;have:=hk3 (k+j) (by omega) (by omega)
  rw[lJ0 hj] at this;exact (H.tot _ _ (mX _ (lVn hy)) (mY' 0 (by omega))).resolve_left this
 have pl:∀x,((arrOf st).extract (sa+k) sb)[((arrOf st).extract (sa+k) sb).size-1]? =some x->∀y,y∈((arrOf st).extract sb (sb+k2)).toList->le y x:=λx hx y hy=>by
  rw[szX,<-lJ5,exX,lX0,show k+(na-k-1)=na-1 by omega,jKe (by omega)] at hx
  rw[<-lJ0 hx];rw[exY] at hy;obtain⟨j,hj⟩:=lJ2 hy;rw[lQx] at hj;split at hj
  .rename_i hjk
   rw[jKe (by omega)] at hj
   have:=e2 j hjk;rw[lJ0 hj] at this;exact (H.tot _ _ mk (mY _ (lQg hy))).resolve_left this
  .cases hj
 have qa:1<=((arrOf st).extract (sa+k) sb).size:=by rw[szX];omega
 have qb:1<=((arrOf st).extract sb (sb+k2)).size:=by rw[szY];omega
 split
 .refine lJf (qJj H (by exact hk) qa qb pa pb pma pmb pf pl λr g fr=> ?_)
  refine lJf (lKm (lJf (lQi (lJi ?_))));exact fin r g fr
 .refine lJf (qJk H (by exact hk) qa qb pa pb pma pmb pf pl λr g fr=> ?_)
  refine lJf (lKm (lJf (lQi (lJi ?_))));exact fin r g fr
end
variable {a0 xs:Array Keyed}{lo hi p:Nat}{pe:Array (Nat×Nat×Nat)}
section
variable {mem:Keyed->Prop}[∀x y,Decidable (le x y)]
structure SB (κ:SortKind) (a0:Array Keyed) (lo hi:Nat) (pe:Array (Nat×Nat×Nat)) (st:SortSt):Prop where
 kind:kindOf st=κ
 fail:failedOf st=none
 pend:pendingOf st=pe
 perm:(arrOf st).Perm a0
 out:∀p,(p<lo\/hi<=p)->(arrOf st)[p]? =a0[p]?
noncomputable abbrev Vl(st:SortSt)(p:Nat):Keyed:=(arrOf st).getD p kd
def SrtA(le:Keyed->Keyed->Prop)(st:SortSt)(lo n:Nat):Prop:=∀p q,p<q->q<n->le (Vl st (lo+p)) (Vl st (lo+q))
theorem SB.size(h:SB κ a0 lo hi pe st):(arrOf st).size=a0.size:=h.perm.size_eq
theorem SB.at(h:SB κ a0 lo hi pe st)(hp:p<a0.size):(arrOf st)[p]? =some (Vl st p):=by
 have:p<(arrOf st).size:=by rw[h.size];exact hp
 simp[Array.getD,this]
theorem SB.inn(h:SB κ a0 lo hi pe st)(hm:∀x,x∈a0.toList->mem x)(hp:p<a0.size):mem (Vl st p):=by
 have:=jKg (h.at hp);exact hm _ ((lY6.mp h.perm).mem_iff.mp this)
theorem jX1(H:Asks M A s κ mem le)(hm:∀x,x∈a0.toList->mem x)(h:SB κ a0 lo hi pe st)(hi:i<a0.size)(hj:j<a0.size)(q:Q (some (!decide (le (Vl st j) (Vl st i)))) st):wpS M A E s (ltAt' i j) Q st:=by
 rw[ltAt'_eq];refine lJf (lQi ?_);exact lJf (jJ9 (h.at hi) (lJf (jJ9 (h.at hj) (qQ2 H (h.inn hm hi) (h.inn hm hj) h.kind q))))
theorem SB.set(h:SB κ a0 lo hi pe st)(hp:xs.Perm (arrOf st))(ho:∀p,(p<lo\/hi<=p)->xs[p]? =(arrOf st)[p]?):SB κ a0 lo hi pe (setArr st xs):=
 ⟨h.kind,h.fail,h.pend,hp.trans h.perm,λp hp=>(ho p hp).trans (h.out p hp)⟩
theorem kJb{ys:Array Keyed}(h:xs[i]? =ys[j]?):xs.getD i kd=ys.getD j kd:=by
 rw[lVp,lVp,h]
theorem uVv{k l:Nat}(hs:lo+k<(arrOf st).size)(hl:l<=k):Vl (setArr st (bubble (arrOf st) (lo+k) (lo+k-(lo+l)))) (lo+p)=if p=l then Vl st (lo+k) else if l<p/\p<=k then Vl st (lo+(p-1)) else Vl st (lo+p):=by
 have e:=mJx hs (lo+k-(lo+l)) (by omega) (lo+p)
 by_cases h1:p=l
 .rw[lJc (by omega)] at e
  rw[lJc h1];exact kJb e
 .rw[lJb (by omega)] at e
  rw[lJb h1]
  by_cases h2:l<p/\p<=k
  .rw[lJc (by omega)] at e
   rw[lJc h2];exact kJb (e.trans (by rw[show lo+p-1=lo+(p-1) by omega]))
  .rw[lJb (by omega)] at e
   rw[lJb h2];exact kJb e
theorem kQt(H:Asks M A s κ mem le)(hm:∀x,x∈a0.toList->mem x)(h:SB κ a0 lo hi pe st){ok:Nat}(hok:1<=ok)(hn:ok<=n)(hl:lo+n<=hi)(hh:hi<=a0.size)(hs:SrtA le st lo ok){Q:Bool->SortSt->Prop}(q:∀st',SB κ a0 lo hi pe st'->SrtA le st' lo n->Q true st'):wpS M A E s (binarySort' lo n ok) Q st:=by
 rw[binarySort'_eq];refine lJf (lKo (lKp (I:=λk (c:Option Bool×Unit) st'=>c=(none,())/\SB κ a0 lo hi pe st'/\SrtA le st' lo k) (Q:=λ(c:Option Bool×Unit) st'=>c=(none,())/\SB κ a0 lo hi pe st'/\SrtA le st' lo n) ?_ ?_ ⟨rfl,h,by rw[Nat.max_eq_left hok];exact hs⟩) ?_)
 .rintro k c st1 hk hkn ⟨rfl,B,S⟩;have hks:lo+k<a0.size:=by omega
  dsimp only
  have mV:∀p,p<=k->mem (Vl st1 (lo+p)):=λp hp=>B.inn hm (by omega)
  have S':∀p q,p<=q->q<k->le (Vl st1 (lo+p)) (Vl st1 (lo+q)):=λp q hpq hq=>by
   rcases lK9 hpq with z | rfl
   .exact S p q z hq
   .exact (H.tot _ _ (mV p (by omega)) (mV p (by omega))).elim id id
  refine lJf (lKo (lKp (I:=λi (c:Option Bool×Nat×Nat) st'=>st1=st'/\c.1=none/\c.2.1<=c.2.2/\c.2.2<=k/\c.2.2-c.2.1<=k-i/\(∀p,p<c.2.1->le (Vl st1 (lo+p)) (Vl st1 (lo+k)))/\(∀p,c.2.2<=p->p<k->le (Vl st1 (lo+k)) (Vl st1 (lo+p))))
   (Q:=λ(c:Option Bool×Nat×Nat) st'=>st1=st'/\c.1=none/\c.2.1<=k/\(∀p,p<c.2.1->le (Vl st1 (lo+p)) (Vl st1 (lo+k)))/\(∀p,c.2.1<=p->p<k->le (Vl st1 (lo+k)) (Vl st1 (lo+p)))) ?_ ?_ ⟨rfl,rfl,Nat.zero_le _,Nat.le_refl _,by dsimp only;omega,λp hp=>absurd hp (Nat.not_lt_zero _),λp h1 h2=>absurd h2 (by dsimp only at h1;omega)⟩) ?_)
  .rintro i ⟨r0,l,r⟩ st2 _ hi2 ⟨rfl,rfl,i1,i2,i3,i4,i5⟩
   dsimp only at i1 i2 i3 i4 i5 ⊢
   by_cases c:l>=r
   .rw[lJc c];exact wpS_pure ⟨rfl,rfl,by dsimp only;omega,i4,λp h1 h2=>i5 p (by dsimp only at h1;omega) h2⟩
   .rw[lJb c];have hmm:(l+r) / 2<k:=by omega
    refine lJf (jX1 H hm B (by omega) (by omega) ?_)
    by_cases w:le (Vl st1 (lo+(l+r) / 2)) (Vl st1 (lo+k))
    .rw[lJ9 w]
     dsimp only
     rw[lJb (by decide)]
     exact wpS_pure ⟨rfl,rfl,by dsimp only;omega,i2,by dsimp only;omega,λp hp=>H.tr _ _ _ (mV p (by dsimp only at hp;omega)) (mV _ (by omega)) (mV k (Nat.le_refl _)) (S' p _ (by dsimp only at hp;omega) hmm) w,i5⟩
    .rw[lJv w]
     dsimp only
     (rw[lJc (show (!false)=true from rfl)])
     have w':=(H.tot _ _ (mV _ (by omega)) (mV k (lJh _))).resolve_left w
     exact wpS_pure ⟨rfl,rfl,by dsimp only;omega,by dsimp only;omega,by dsimp only;omega,i4,λp h1 h2=>H.tr _ _ _ (mV k (Nat.le_refl _)) (mV _ (by omega)) (mV p (by omega)) w' (S' _ p h1 h2)⟩
  .rintro⟨r0,l,r⟩ st2 ⟨rfl,rfl,i1,i2,i3,i4,i5⟩
   dsimp only at i1 i2 i3 i4 i5 ⊢
   exact⟨rfl,rfl,by omega,i4,λp h1 h2=>i5 p (by omega) h2⟩
  .rintro⟨r0,l,r⟩ st2 ⟨rfl,rfl,i1,i2,i3⟩
   dsimp only at i1 i2 i3 ⊢
   rw[moveDown'_eq];have hsz:lo+k<(arrOf st1).size:=by rw[B.size];exact hks
   refine lJf (lKm (lJi ⟨rfl,B.set (bubble_perm ..) (λp hp=> ?_),λp q' hpq hq=> ?_⟩))
   .rw[mJx hsz _ (by omega),lJb (by omega),lJb (by omega)]
   .rw[uVv hsz i1,uVv hsz i1]
    by_cases e1:p=l
    .rw[lJc e1,lJb (by omega),lJc ⟨by omega,by omega⟩]
     exact i3 _ (by omega) (by omega)
    .rw[lJb e1]
     by_cases e2:q'=l
     .rw[lJc e2,lJb (by omega)]
      exact i2 p (by omega)
     .rw[lJb e2]
      by_cases e3:l<p/\p<=k
      .rw[lJc e3,lJc ⟨by omega,by omega⟩]
       exact S _ _ (by omega) (by omega)
      .rw[lJb e3]
       by_cases e4:l<q'/\q'<=k
       .rw[lJc e4];exact S' _ _ (by omega) (by omega)
       .rw[lJb e4];exact S _ _ hpq (by omega)
 .rintro c st1 ⟨rfl,B,S⟩;refine⟨rfl,B,?_⟩
  rwa [show max (max ok 1) n=n by omega] at S
 .rintro c st1 ⟨rfl,B,S⟩
  dsimp only
  exact lJi (q _ B S)
end
section
variable {mem:Keyed->Prop}[∀x y,Decidable (le x y)]
def NInc(le:Keyed->Keyed->Prop)(st:SortSt)(lo n:Nat):Prop:=∀p q,p<q->q<n->le (Vl st (lo+q)) (Vl st (lo+p))
noncomputable abbrev revS(st:SortSt)(i j:Nat):SortSt:=setArr st (mirror (arrOf st) i j ((j-i) / 2))
theorem jYv(hj:lo+j<=(arrOf st).size):Vl (revS st (lo+i) (lo+j)) (lo+p)=if i<=p/\p<j then Vl st (lo+(i+j-1-p)) else Vl st (lo+p):=by
 have e:=mJw (i:=lo+i) hj (lo+p)
 by_cases h:i<=p/\p<j
 .rw[lJc (by omega)] at e
  rw[lJc h];exact kJb (e.trans (by rw[show lo+i+(lo+j)-1-(lo+p)=lo+(i+j-1-p) by omega]))
 .rw[lJb (by omega)] at e
  rw[lJb h];exact kJb e
theorem SB.rev(h:SB κ a0 lo hi pe st)(hj:lo+j<=hi)(hh:hi<=a0.size):SB κ a0 lo hi pe (revS st (lo+i) (lo+j)):=
 h.set (mirror_perm ..) λp hp=>by rw[mJw (by rw[h.size];omega),lJb (by omega)]
theorem NInc.flip(h:NInc le st lo n)(hn:lo+n<=(arrOf st).size):SrtA le (revS st (lo+0) (lo+n)) lo n:=λp q hpq hq=>by
 rw[jYv hn,jYv hn,lJc ⟨lJn _,by omega⟩,lJc ⟨lJn _,hq⟩]
 exact h _ _ (by omega) (by omega)
theorem SrtA.flip(h:SrtA le st lo n)(hn:lo+n<=(arrOf st).size):NInc le (revS st (lo+0) (lo+n)) lo n:=λp q hpq hq=>by
 rw[jYv hn,jYv hn,lJc ⟨lJn _,hq⟩,lJc ⟨lJn _,by omega⟩]
 exact h _ _ (by omega) (by omega)
theorem NInc.part(h:NInc le st lo n)(hn:lo+n<=(arrOf st).size)(hm:m<=n)(he:∀p q,m<=p->p<n->m<=q->q<n->le (Vl st (lo+p)) (Vl st (lo+q))):NInc le (revS st (lo+m) (lo+n)) lo n:=λp q hpq hq=>by
 rw[jYv hn,jYv hn]
 by_cases h1:m<=p
 .rw[lJc ⟨by omega,hq⟩,lJc ⟨h1,by omega⟩]
  exact he _ _ (by omega) (by omega) (by omega) (by omega)
 .rw[lJb (by omega:¬ (m<=p/\p<n))]
  by_cases h2:m<=q
  .rw[lJc ⟨h2,hq⟩];exact h _ _ (by omega) (by omega)
  .rw[lJb (by omega)]
   exact h _ _ hpq hq
def Seg(le:Keyed->Keyed->Prop)(st:SortSt)(lo i e:Nat):Prop:=∀p q,i-(e+1)<=p->p<i->i-(e+1)<=q->q<i->le (Vl st (lo+p)) (Vl st (lo+q))
theorem NInc.up(H:Asks M A s κ mem le)(hm:∀x,x∈a0.toList->mem x)(B:SB κ a0 lo hi pe st)(hn1:1<=n)(hn:lo+n<a0.size)(h:NInc le st lo n)(w:le (Vl st (lo+n)) (Vl st (lo+(n-1)))):NInc le st lo (n+1):=λp q hpq hq=>by
 rcases lK9 (lQf hq) with z | rfl
 .exact h p q hpq z
 .rcases lK9 (show p<=q-1 by omega) with y | rfl
  .exact H.tr _ _ _ (B.inn hm hn) (B.inn hm (by omega)) (B.inn hm (by omega)) w (h p (q-1) y (by omega))
  .exact w
theorem Seg.part{e:Nat}(h:Seg le st lo n e)(N:NInc le st lo n){hn:lo+n<=(arrOf st).size}:NInc le (revS st (lo+(n-(e+1))) (lo+n)) lo n:=N.part hn (by omega) h
theorem kXq(H:Asks M A s κ mem le)(hm:∀x,x∈a0.toList->mem x)(h:SB κ a0 lo hi pe st){nrem:Nat}(h1:1<=nrem)(hl:lo+nrem<=hi)(hh:hi<=a0.size){Q:Option Nat->SortSt->Prop}(q:∀n st',SB κ a0 lo hi pe st'->1<=n->n<=nrem->SrtA le st' lo n->Q (some n) st'):wpS M A E s (countRun' lo nrem) Q st:=by
 rw[countRun'_eq]
 have up:∀(st':SortSt) n,SB κ a0 lo hi pe st'->1<=n->n<nrem->SrtA le st' lo n->le (Vl st' (lo+n-1)) (Vl st' (lo+n))->SrtA le st' lo (n+1):=λst' n B hn hnr S w p q hpq hq=>by
  rcases lK9 (lQf hq) with z | rfl
  .exact S p q hpq z
  .rw[show lo+q-1=lo+(q-1) by omega] at w
   rcases lK9 (show p<=q-1 by omega) with y | rfl
   .exact H.tr _ _ _ (B.inn hm (by omega)) (B.inn hm (by omega)) (B.inn hm (by omega)) (S p (q-1) y (by omega)) w
   .exact w
 refine lJf (lKo (lKp (I:=λi (c:Option (Option Nat)×Nat) st'=>st=st'/\c=(none,i)/\SrtA le st lo i) (Q:=λ(c:Option (Option Nat)×Nat) st'=>st=st'/\c.1=none/\1<=c.2/\c.2<=nrem/\SrtA le st lo c.2/\(c.2<nrem->¬ le (Vl st (lo+c.2-1)) (Vl st (lo+c.2)))) ?_ ?_ ⟨rfl,rfl,λp q hpq hq=>absurd hq (by omega)⟩) ?_)
 .rintro i c st1 hi1 hi2 ⟨rfl,rfl,S⟩
  dsimp only
  refine lJf (jX1 H hm h (by omega) (by omega) ?_)
  by_cases w:le (Vl st (lo+i-1)) (Vl st (lo+i))
  .rw[lJ9 w]
   dsimp only
   rw[lJb (by decide)]
   exact lJi ⟨rfl,rfl,up st i h hi1 hi2 S w⟩
  .rw[lJv w]
   dsimp only
   (rw[lJc (show (!false)=true from rfl)])
   exact wpS_pure ⟨rfl,rfl,hi1,by dsimp only;omega,S,λ_=>w⟩
 .rintro c st1 ⟨rfl,rfl,S⟩;rw[show max 1 nrem=nrem by omega] at S ⊢
  exact⟨rfl,rfl,h1,lJh _,S,λz=>absurd z (lVt _)⟩
 .rintro⟨r,n⟩ st1 ⟨rfl,rfl,n1,n2,S,W⟩
  dsimp only at n1 n2 S W ⊢
  refine jJ3 (λd=> ?_) λd=> ?_
  .exact lJi (q n st h n1 n2 S)
  have nlt:n<nrem:=by omega
  have en:lo+n-1=lo+(n-1):=by omega
  rw[en] at W;have W':=(H.tot _ _ (h.inn hm (by omega)) (h.inn hm (by omega))).resolve_left (W nlt)
  by_cases cn:n>1
  .rw[lJc cn];refine lJf (jX1 H hm h (by omega) (by omega) ?_)
   rw[en]
   by_cases w:le (Vl st (lo+(n-1))) (Vl st lo)
   .rw[lJ9 w]
    dsimp only
    rw[lJb (by decide),lVs]
    have hsz:lo+n<=(arrOf st).size:=by rw[h.size];omega
    have B2:=h.rev (i:=0) (j:=n) (by omega) hh
    have N2:NInc le (revS st (lo+0) (lo+n)) lo (n+1):=by
     refine (S.flip hsz).up H hm B2 n1 (by omega) ?_
     rw[jYv hsz,jYv hsz,lJb (by omega),lJc (by omega),show 0+n-1-(n-1)=0 by omega,lXv]
     exact H.tr _ _ _ (h.inn hm (by omega)) (h.inn hm (by omega)) (h.inn hm (by omega)) W' w
    refine lJf (lKm ?_)
    (refine lJf (lV3 (lQq ⟨rfl,?_⟩)))
    refine lJf (lKo (lKp (I:=λi (c:Option (Option Nat)×Nat×Nat) st'=>SB κ a0 lo hi pe st'/\c.1=none/\c.2.1=i/\NInc le st' lo i/\c.2.2+1<=i/\Seg le st' lo i c.2.2)
     (Q:=λ(c:Option (Option Nat)×Nat×Nat) st'=>SB κ a0 lo hi pe st'/\c.1=none/\1<=c.2.1/\c.2.1<=nrem/\NInc le st' lo c.2.1/\c.2.2+1<=c.2.1/\Seg le st' lo c.2.1 c.2.2) ?_ ?_ ⟨B2,rfl,rfl,N2,by dsimp only;omega,λp q a1 a2 a3 a4=>by
      obtain rfl:p=q:=by dsimp only at a1 a3;omega
      exact (H.tot _ _ (B2.inn hm (by omega)) (B2.inn hm (by omega))).elim id id⟩) ?_)
    .rintro i ⟨r,i',e⟩ st3 hi1 hi2 ⟨B,rfl,rfl,N,he,sg⟩
     dsimp only at N he sg hi1 hi2 ⊢
     have ei:lo+i'-1=lo+(i'-1):=by omega
     refine lJf (jX1 H hm B (by omega) (by omega) ?_)
     rw[ei]
     by_cases w:le (Vl st3 (lo+(i'-1))) (Vl st3 (lo+i'))
     .rw[lJ9 w]
      dsimp only
      rw[lJb (by decide)]
      refine lJf (jX1 H hm B (by omega) (by omega) ?_)
      by_cases w2:le (Vl st3 (lo+i')) (Vl st3 (lo+(i'-1)))
      .rw[lJ9 w2]
       dsimp only
       rw[lJb (by decide)]
       refine wpS_pure ⟨B,rfl,rfl,N.up H hm B (by omega) (by omega) w2,by dsimp only;omega,λp q a1 a2 a3 a4=> ?_⟩
       dsimp only at a1 a3
       have to:∀p,i'-(e+1)<=p->p<i'->le (Vl st3 (lo+p)) (Vl st3 (lo+i'))/\le (Vl st3 (lo+i')) (Vl st3 (lo+p)):=λp b1 b2=>
        ⟨H.tr _ _ _ (B.inn hm (by omega)) (B.inn hm (by omega)) (B.inn hm (by omega)) (sg p (i'-1) b1 b2 (by omega) (by omega)) w,H.tr _ _ _ (B.inn hm (by omega)) (B.inn hm (by omega)) (B.inn hm (by omega)) w2 (sg (i'-1) p (by omega) (by omega) b1 b2)⟩
       by_cases ep:p=i'
       .by_cases eq:q=i'
        .rw[ep,eq];exact (H.tot _ _ (B.inn hm (by omega)) (B.inn hm (by omega))).elim id id
        .rw[ep];exact (to q (by omega) (by omega)).2
       .by_cases eq:q=i'
        .rw[eq];exact (to p (by omega) (by omega)).1
        .exact sg p q (by omega) (by omega) (by omega) (by omega)
      .rw[lJv w2]
       dsimp only
       (rw[lJc (show (!false)=true from rfl)])
       exact wpS_pure ⟨B,rfl,by dsimp only;omega,by dsimp only;omega,N,he,sg⟩
     .rw[lJv w]
      dsimp only
      (rw[lJc (show (!false)=true from rfl)])
      have w':=(H.tot _ _ (B.inn hm (by omega)) (B.inn hm (by omega))).resolve_left w
      have one:∀st4,SB κ a0 lo hi pe st4->Seg le st4 lo (i'+1) 0:=λst4 B4 p q a1 a2 a3 a4=>by
       obtain rfl:p=q:=by omega
       exact (H.tot _ _ (B4.inn hm (by omega)) (B4.inn hm (by omega))).elim id id
      by_cases ce:e>0
      .rw[lJc ce,lVs,show lo+i'-(e+1)=lo+(i'-(e+1)) by omega]
       have hsz:lo+i'<=(arrOf st3).size:=by rw[B.size];omega
       have B4:=B.rev (i:=i'-(e+1)) (j:=i') (by omega) hh
       have N4:=sg.part N (hn:=hsz);refine wpS_bind (wpS_modify (wpS_pure ⟨B4,rfl,rfl,N4.up H hm B4 (by omega) (by omega) ?_,by dsimp only;omega,one _ B4⟩))
       rw[jYv hsz,jYv hsz,lJb (by omega),lJc (by omega)]
       exact H.tr _ _ _ (B.inn hm (by omega)) (B.inn hm (by omega)) (B.inn hm (by omega)) w' (sg _ _ (by omega) (by omega) (by omega) (by omega))
      .rw[lJb ce];exact wpS_pure ⟨B,rfl,rfl,N.up H hm B (by omega) (by omega) w',by dsimp only;omega,one _ B⟩
    .rintro⟨r,i',e⟩ st3 ⟨B,rfl,rfl,N,he,sg⟩
     dsimp only at N he sg ⊢
     exact⟨B,rfl,by omega,by omega,N,he,sg⟩
    .rintro⟨r,i',e⟩ st3 ⟨B,rfl,b1,b2,N,he,sg⟩
     dsimp only at b1 b2 N he sg ⊢
     have hsz:lo+i'<=(arrOf st3).size:=by rw[B.size];omega
     by_cases ce:e>0
     all_goals first | rw[lJc ce,lVs,lVs,show lo+i'-(e+1)=lo+(i'-(e+1)) by omega] | rw[lJb ce,lVs]
     all_goals first
      | (have N4:=sg.part N (hn:=hsz)
         have B4:=B.rev (i:=i'-(e+1)) (j:=i') (by omega) hh
         have S5:=N4.flip (by rw[B4.size];omega)
         have B5:=B4.rev (i:=0) (j:=i') (by omega) hh
         refine lJf (lKm (lJf (lKm ?_)))
         skip)
      | (have S5:=N.flip hsz
         have B5:=B.rev (i:=0) (j:=i') (by omega) hh
         refine lJf (lKm ?_)
         skip)
     all_goals refine lJf (lKo (lKp (I:=λi (c:Option (Option Nat)×Nat) st'=>SB κ a0 lo hi pe st'/\c=(none,i)/\SrtA le st' lo i) (Q:=λ(c:Option (Option Nat)×Nat) st'=>SB κ a0 lo hi pe st'/\c.1=none/\1<=c.2/\c.2<=nrem/\SrtA le st' lo c.2) ?_ ?_ ⟨B5,rfl,S5⟩) ?_)
     all_goals first
      | (rintro i c st6 hi1 hi2 ⟨B6,rfl,S6⟩
         dsimp only
         refine lJf (jX1 H hm B6 (by omega) (by omega) ?_)
         by_cases w:le (Vl st6 (lo+i-1)) (Vl st6 (lo+i))
         .rw[lJ9 w]
          dsimp only
          rw[lJb (by decide)]
          exact lJi ⟨B6,rfl,up st6 i B6 (by omega) hi2 S6 w⟩
         .rw[lJv w]
          dsimp only
          (rw[lJc (show (!false)=true from rfl)])
          exact wpS_pure ⟨B6,rfl,by dsimp only;omega,by dsimp only;omega,S6⟩)
      | (rintro c st6 ⟨B6,rfl,S6⟩
         rw[show max i' nrem=nrem by omega] at S6 ⊢
         exact⟨B6,rfl,h1,lJh _,S6⟩)
      | (rintro⟨r,k⟩ st6 ⟨B6,rfl,k1,k2,S6⟩
         dsimp only at k1 k2 S6 ⊢
         exact lJi (q k st6 B6 k1 k2 S6))
   .rw[lJv w]
    dsimp only
    (rw[lJc (show (!false)=true from rfl)])
    exact lJi (q n st h n1 n2 S)
  .rw[lJb cn];obtain rfl:n=1:=by omega
   have B2:=h
   have N2:NInc le st lo (1+1):=λp q hpq hq=>by
    obtain rfl:p=0:=by omega
    obtain rfl:q=1:=by omega
    exact W'
   (refine lJf (lV3 (lQq ⟨rfl,?_⟩)))
   refine lJf (lKo (lKp (I:=λi (c:Option (Option Nat)×Nat×Nat) st'=>SB κ a0 lo hi pe st'/\c.1=none/\c.2.1=i/\NInc le st' lo i/\c.2.2+1<=i/\Seg le st' lo i c.2.2)
    (Q:=λ(c:Option (Option Nat)×Nat×Nat) st'=>SB κ a0 lo hi pe st'/\c.1=none/\1<=c.2.1/\c.2.1<=nrem/\NInc le st' lo c.2.1/\c.2.2+1<=c.2.1/\Seg le st' lo c.2.1 c.2.2) ?_ ?_ ⟨B2,rfl,rfl,N2,by dsimp only;omega,λp q a1 a2 a3 a4=>by
     obtain rfl:p=q:=by dsimp only at a1 a3;omega
     exact (H.tot _ _ (B2.inn hm (by omega)) (B2.inn hm (by omega))).elim id id⟩) ?_)
   .rintro i ⟨r,i',e⟩ st3 hi1 hi2 ⟨B,rfl,rfl,N,he,sg⟩
    dsimp only at N he sg hi1 hi2 ⊢
    have ei:lo+i'-1=lo+(i'-1):=by omega
    refine lJf (jX1 H hm B (by omega) (by omega) ?_)
    rw[ei]
    by_cases w:le (Vl st3 (lo+(i'-1))) (Vl st3 (lo+i'))
    .rw[lJ9 w]
     dsimp only
     rw[lJb (by decide)]
     refine lJf (jX1 H hm B (by omega) (by omega) ?_)
     by_cases w2:le (Vl st3 (lo+i')) (Vl st3 (lo+(i'-1)))
     .rw[lJ9 w2]
      dsimp only
      rw[lJb (by decide)]
      refine wpS_pure ⟨B,rfl,rfl,N.up H hm B (by omega) (by omega) w2,by dsimp only;omega,λp q a1 a2 a3 a4=> ?_⟩
      dsimp only at a1 a3
      have to:∀p,i'-(e+1)<=p->p<i'->le (Vl st3 (lo+p)) (Vl st3 (lo+i'))/\le (Vl st3 (lo+i')) (Vl st3 (lo+p)):=λp b1 b2=>
       ⟨H.tr _ _ _ (B.inn hm (by omega)) (B.inn hm (by omega)) (B.inn hm (by omega)) (sg p (i'-1) b1 b2 (by omega) (by omega)) w,H.tr _ _ _ (B.inn hm (by omega)) (B.inn hm (by omega)) (B.inn hm (by omega)) w2 (sg (i'-1) p (by omega) (by omega) b1 b2)⟩
      by_cases ep:p=i'
      .by_cases eq:q=i'
       .rw[ep,eq];exact (H.tot _ _ (B.inn hm (by omega)) (B.inn hm (by omega))).elim id id
       .rw[ep];exact (to q (by omega) (by omega)).2
      .by_cases eq:q=i'
       .rw[eq];exact (to p (by omega) (by omega)).1
       .exact sg p q (by omega) (by omega) (by omega) (by omega)
     .rw[lJv w2]
      dsimp only
      (rw[lJc (show (!false)=true from rfl)])
      exact wpS_pure ⟨B,rfl,by dsimp only;omega,by dsimp only;omega,N,he,sg⟩
    .rw[lJv w]
     dsimp only
     (rw[lJc (show (!false)=true from rfl)])
     have w':=(H.tot _ _ (B.inn hm (by omega)) (B.inn hm (by omega))).resolve_left w
     have one:∀st4,SB κ a0 lo hi pe st4->Seg le st4 lo (i'+1) 0:=λst4 B4 p q a1 a2 a3 a4=>by
      obtain rfl:p=q:=by omega
      exact (H.tot _ _ (B4.inn hm (by omega)) (B4.inn hm (by omega))).elim id id
     by_cases ce:e>0
     .rw[lJc ce,lVs,show lo+i'-(e+1)=lo+(i'-(e+1)) by omega]
      have hsz:lo+i'<=(arrOf st3).size:=by rw[B.size];omega
      have B4:=B.rev (i:=i'-(e+1)) (j:=i') (by omega) hh
      have N4:=sg.part N (hn:=hsz);refine wpS_bind (wpS_modify (wpS_pure ⟨B4,rfl,rfl,N4.up H hm B4 (by omega) (by omega) ?_,by dsimp only;omega,one _ B4⟩))
      rw[jYv hsz,jYv hsz,lJb (by omega),lJc (by omega)]
      exact H.tr _ _ _ (B.inn hm (by omega)) (B.inn hm (by omega)) (B.inn hm (by omega)) w' (sg _ _ (by omega) (by omega) (by omega) (by omega))
     .rw[lJb ce];exact wpS_pure ⟨B,rfl,rfl,N.up H hm B (by omega) (by omega) w',by dsimp only;omega,one _ B⟩
   .rintro⟨r,i',e⟩ st3 ⟨B,rfl,rfl,N,he,sg⟩
    dsimp only at N he sg ⊢
    exact⟨B,rfl,by omega,by omega,N,he,sg⟩
   .rintro⟨r,i',e⟩ st3 ⟨B,rfl,b1,b2,N,he,sg⟩
    dsimp only at b1 b2 N he sg ⊢
    have hsz:lo+i'<=(arrOf st3).size:=by rw[B.size];omega
    by_cases ce:e>0
    all_goals first | rw[lJc ce,lVs,lVs,show lo+i'-(e+1)=lo+(i'-(e+1)) by omega] | rw[lJb ce,lVs]
    all_goals first
     | (have N4:=sg.part N (hn:=hsz)
        have B4:=B.rev (i:=i'-(e+1)) (j:=i') (by omega) hh
        have S5:=N4.flip (by rw[B4.size];omega)
        have B5:=B4.rev (i:=0) (j:=i') (by omega) hh
        refine lJf (lKm (lJf (lKm ?_)))
        skip)
     | (have S5:=N.flip hsz
        have B5:=B.rev (i:=0) (j:=i') (by omega) hh
        refine lJf (lKm ?_)
        skip)
    all_goals refine lJf (lKo (lKp (I:=λi (c:Option (Option Nat)×Nat) st'=>SB κ a0 lo hi pe st'/\c=(none,i)/\SrtA le st' lo i) (Q:=λ(c:Option (Option Nat)×Nat) st'=>SB κ a0 lo hi pe st'/\c.1=none/\1<=c.2/\c.2<=nrem/\SrtA le st' lo c.2) ?_ ?_ ⟨B5,rfl,S5⟩) ?_)
    all_goals first
     | (rintro i c st6 hi1 hi2 ⟨B6,rfl,S6⟩
        dsimp only
        refine lJf (jX1 H hm B6 (by omega) (by omega) ?_)
        by_cases w:le (Vl st6 (lo+i-1)) (Vl st6 (lo+i))
        .rw[lJ9 w]
         dsimp only
         rw[lJb (by decide)]
         exact lJi ⟨B6,rfl,up st6 i B6 (by omega) hi2 S6 w⟩
        .rw[lJv w]
         dsimp only
         (rw[lJc (show (!false)=true from rfl)])
         exact wpS_pure ⟨B6,rfl,by dsimp only;omega,by dsimp only;omega,S6⟩)
     | (rintro c st6 ⟨B6,rfl,S6⟩
        rw[show max i' nrem=nrem by omega] at S6 ⊢
        exact⟨B6,rfl,h1,lJh _,S6⟩)
     | (rintro⟨r,k⟩ st6 ⟨B6,rfl,k1,k2,S6⟩
        dsimp only at k1 k2 S6 ⊢
        exact lJi (q k st6 B6 k1 k2 S6))
end
variable {Rs:List (List Keyed)}
section
variable {mem:Keyed->Prop}[∀x y,Decidable (le x y)]
structure Runs (κ:SortKind) (le:Keyed->Keyed->Prop) (a0:Array Keyed) (Rs:List (List Keyed)) (rest:List Keyed) (st:SortSt):Prop where
 kind:kindOf st=κ
 fail:failedOf st=none
 arr:(arrOf st).toList=Rs.flatten++rest
 perm:(arrOf st).toList.Perm a0.toList
 srt:∀R,R∈Rs->R.Pairwise le/\1<=R.length
 pend:∀i,(pendingOf st)[i]?.map (λx=>(x.1,x.2.1))=(Rs[i]?).map (λR=>(((Rs.take i).flatten).length,R.length))
theorem Runs.size{rest:List Keyed}(h:Runs κ le a0 Rs rest st):(pendingOf st).size=Rs.length:=by
 rcases lXw (pendingOf st).size Rs.length with z | z | z
 .have:=h.pend (pendingOf st).size;rw[lVm (lJh _),lJj z] at this;cases this
 .exact z
 .have:=h.pend Rs.length;rw[lK4 z,lJ3 (lJh _)] at this;cases this
theorem uQ4(h:i+1<Rs.length):∃A X Y B,Rs=A++X::Y::B/\A.length=i:=by
 refine⟨Rs.take i,Rs[i],Rs[i+1],Rs.drop (i+2),?_,by simp;omega⟩
 conv=>lhs;rw[<-lK8 i Rs]
 rw[lZ9 (by omega),lZ9 (by omega)]
theorem qQm{o:Option (Nat×Nat×Nat)}{a b:Nat}(h:o.map (λx=>(x.1,x.2.1))=some (a,b)):∃p,o=some (a,b,p):=by
 cases o with
 | none=>cases h
 | some x=>
  obtain⟨u,v,w⟩:=x;simp only[lQ1,lYi,Prod.mk.injEq] at h;obtain⟨rfl,rfl⟩:=h;exact⟨w,rfl⟩
theorem Runs.merge{rest:List Keyed}{Q:Bool->SortSt->Prop}(H:Asks M A s κ mem le)(hm:∀x,x∈a0.toList->mem x)(h:Runs κ le a0 Rs rest st)(hi:i+1<Rs.length)(q:∀Rs' st',Runs κ le a0 Rs' rest st'->Rs'.length+1=Rs.length->Rs'.flatten.length=Rs.flatten.length->Q true st'):wpS M A E s (mergeAt' i) Q st:=by
 obtain⟨As,X,Y,B,rfl,hA⟩:=uQ4 hi;have hsz:=h.size;have p1:=h.pend i;have p2:=h.pend (i+1);have e1:(As++X::Y::B)[i]? =some X:=by rw[lK2 (by omega),hA,Nat.sub_self];rfl
 have e2:(As++X::Y::B)[i+1]? =some Y:=by rw[lK2 (by omega),hA,show i+1-i=1 by omega];rfl
 have t1:(As++X::Y::B).take i=As:=by rw[<-hA];exact List.take_left
 have t2:(As++X::Y::B).take (i+1)=As++[X]:=by rw[<-hA,mJe];rfl
 rw[e1,t1,lQ1] at p1;rw[e2,t2,lQ1] at p2;obtain⟨w1,p1⟩:=qQm p1;obtain⟨w2,p2⟩:=qQm p2;have inM:∀x,x∈(arrOf st).toList->mem x:=λx hx=>hm x (h.perm.mem_iff.mp hx)
 have harr:(arrOf st).toList=As.flatten++(X++Y)++(B.flatten++rest):=by rw[h.arr];simp
 obtain⟨sX,lX⟩:=h.srt X (by simp)
 obtain⟨sY,lY⟩:=h.srt Y (by simp)
 refine qJl H h.kind h.fail p1 p2 harr rfl rfl (by simp) rfl lX lY sX sY (λx hx=>inM x (by rw[harr];simp[hx])) (λx hx=>inM x (by rw[harr];simp[hx])) λZ st' zp zs za zk zf zpe=> ?_
 have zl:Z.length=X.length+Y.length:=by rw[zp.length_eq,lJ7]
 refine q (As++Z::B) st' ⟨zk,zf,by rw[za];simp,?_,λR hR=> ?_,λj=> ?_⟩ (by simp;omega) (by simp;omega)
 .refine List.Perm.trans ?_ h.perm;rw[za,harr];exact lYl _ (lXz _ zp)
 .rcases (lJx.mp hR) with z | z
  .exact h.srt R (by simp[z])
  .rcases (lJp.mp z) with rfl | z
   .exact⟨zs,by omega⟩
   .exact h.srt R (by simp[z])
 .have hin:i+1<((pendingOf st).setIfInBounds i (As.flatten.length,X.length+Y.length,w1)).size:=by rw[lZ4,hsz];exact hi
  have er:(pendingOf st')[j]? =if j<i+1 then ((pendingOf st).setIfInBounds i (As.flatten.length,X.length+Y.length,w1))[j]? else ((pendingOf st).setIfInBounds i (As.flatten.length,X.length+Y.length,w1))[j+1]? :=by
   rw[zpe,Array.eraseIdxIfInBounds,dif_pos hin,Array.getElem?_eraseIdx]
  rw[er]
  rcases lXw j i with z | z | z
  .rw[lJc (by omega),lY0,lJb (by omega),h.pend j,lKq (by omega),lKq (by omega),lXa (by omega),lXa (by omega)]
  .subst z;have e3:(As++Z::B)[j]? =some Z:=by rw[lK2 (by omega),hA,Nat.sub_self];rfl
   have t3:(As++Z::B).take j=As:=by rw[<-hA];exact List.take_left
   rw[lJc (by omega),lY0,lJc rfl,lJc (by rw[hsz];omega),e3,t3,lQ1,lQ1,zl]
  .obtain⟨d,rfl⟩:∃d,j=i+1+d:=⟨j-i-1,by omega⟩
   rw[lJb (by omega),lY0,lJb (by omega),h.pend]
   have g1:(As++X::Y::B)[i+1+d+1]? =B[d]? :=by rw[lK2 (by omega),hA,show i+1+d+1-i=d+2 by omega];rfl
   have g2:(As++Z::B)[i+1+d]? =B[d]? :=by rw[lK2 (by omega),hA,show i+1+d-i=d+1 by omega];rfl
   have g3:(As++X::Y::B).take (i+1+d+1)=As++X::Y::B.take d:=by rw[show i+1+d+1=As.length+(d+2) by omega,mJe];rfl
   have g4:(As++Z::B).take (i+1+d)=As++Z::B.take d:=by rw[show i+1+d=As.length+(d+1) by omega,mJe];rfl
   rw[g1,g2,g3,g4]
   congr 1
   funext R
   have:(As++X::Y::B.take d).flatten.length=(As++Z::B.take d).flatten.length:=by simp;omega
   rw[this]
end
section
variable {mem:Keyed->Prop}[∀x y,Decidable (le x y)]{rest:List Keyed}{st3:SortSt}
theorem Runs.add(h:Runs κ le a0 Rs rest st)(hlo:lo=Rs.flatten.length)(B:SB κ (arrOf st) lo (arrOf st).size (pendingOf st) st3)(hn:lo+n<=(arrOf st).size)(S:SrtA le st3 lo n):∃R r3,R.length=n/\R.Pairwise le/\Runs κ le a0 Rs (R++r3) st3:=by
 have hsz:=B.size
 have hd:(arrOf st3).toList.take lo=Rs.flatten:=by
  have:(arrOf st).toList.take lo=Rs.flatten:=by rw[h.arr,hlo];exact List.take_left
  rw[<-this];apply lQj;intro p;rw[lQx,lQx]
  by_cases c:p<lo
  .rw[lJc c,lJc c,lJ5,lJ5];exact B.out p (.inl c)
  .rw[lJb c,lJb c]
 refine⟨((arrOf st3).toList.drop lo).take n,((arrOf st3).toList.drop lo).drop n,by simp;omega,?_,B.kind,B.fail,?_,?_,h.srt,λi=> ?_⟩
 .rw[lYe];intro p q hp hq hpq;have hq':q<n:=by simp at hq;omega
  have:=S p q hpq hq';rw[lYy,lYy,lZ2,lZ2];simp only[Vl,Array.getD,show lo+p<(arrOf st3).size by omega,show lo+q<(arrOf st3).size by omega,dif_pos] at this
  simpa using this
 .rw[lK8,<-hd,lK8]
 .exact (lY6.mp B.perm).trans h.perm
 .rw[B.pend];exact h.pend i
theorem Runs.push{R r3:List Keyed}(h:Runs κ le a0 Rs (R++r3) st)(hs:R.Pairwise le)(hl:1<=R.length):Runs κ le a0 (Rs++[R]) r3 (setPending st ((pendingOf st).push (Rs.flatten.length,R.length,0))):=by
 have hsz:=h.size;refine⟨h.kind,h.fail,by show (arrOf st).toList=_;rw[h.arr];simp,h.perm,λX hX=> ?_,λi=> ?_⟩
 .rcases (lJx.mp hX) with z | z
  .exact h.srt X z
  .rw[lJ1] at z;rw[z];exact⟨hs,hl⟩
 .show ((pendingOf st).push _)[i]?.map _=_
  rw[Array.getElem?_push]
  by_cases c:i=(pendingOf st).size
  .rw[lJc c,lK2 (by omega),show i-Rs.length=0 by omega,lXa (by omega),lVw (by omega)]
   rfl
  .rw[lJb c,h.pend i]
   by_cases d:i<Rs.length
   .rw[lKq d,lXa (by omega)]
   .rw[lJ3 (by omega),lJ3 (by simp;omega)];rfl
theorem Runs.pw{k:Nat}{f:Nat×Nat×Nat->Nat×Nat×Nat}(h:Runs κ le a0 Rs rest st)(hf:∀x,((f x).1,(f x).2.1)=(x.1,x.2.1)):Runs κ le a0 Rs rest (setPending st ((pendingOf st).modify k f)):=by
 refine⟨h.kind,h.fail,h.arr,h.perm,h.srt,λi=> ?_⟩
 show ((pendingOf st).modify k f)[i]?.map _=_
 rw[<-h.pend i,Array.getElem?_modify];split
 .rw[Option.map_map]
  congr 1
  funext x
  exact hf x
 .rfl
theorem uVb[Decidable c]{a b:Nat}(ha:a+1<n)(hb:b+1<n):(if c then a else b)+1<n:=by
 split<;>assumption
theorem kYi:∀{Rs:List (List Keyed)},(∀R,R∈Rs->1<=R.length)->Rs.length<=Rs.flatten.length
 | [],_=>lJh _
 | R::Rs,h=>by
  have:=kYi (Rs:=Rs) λX hX=>h X (lKd _ hX)
  have:=h R (lJ6 ..);rw[lVv,lJ7,lKk];omega
theorem Runs.len(h:Runs κ le a0 Rs rest st):Rs.flatten.length+rest.length=a0.size:=by
 have:=h.perm.length_eq;rw[h.arr] at this
 simpa using this
theorem kVl(H:Asks M A s κ mem le)(hm:∀x,x∈(arrOf st).toList->mem x)(hk:kindOf st=κ)(hf:failedOf st=none)(hp:pendingOf st= #[])(h1:1<=(arrOf st).size){Q:Unit->SortSt->Prop}(q:∀st',(arrOf st').toList.Perm (arrOf st).toList->(arrOf st').toList.Pairwise le->failedOf st'=none->Q () st'):wpS M A E s sortRuns' Q st:=by
 rw[sortRuns'_eq];refine lJf (lQi ?_)
 dsimp only
 have R0:Runs κ le (arrOf st) [] (arrOf st).toList st:=⟨hk,hf,by simp,.refl _,λR hR=>(nomatch hR),λi=>by rw[hp];simp⟩
 refine lJf (lKo (lKp (I:=λi (c:Option Unit×Nat) st'=>c.1=none/\∃Rs rest,Runs κ le (arrOf st) Rs rest st'/\c.2=Rs.flatten.length/\(i<=c.2\/(arrOf st).size<=c.2)) (Q:=λ(c:Option Unit×Nat) st'=>c.1=none/\∃Rs rest,Runs κ le (arrOf st) Rs rest st'/\c.2=Rs.flatten.length/\(arrOf st).size<=c.2) ?_ ?_ ⟨rfl,[],_,R0,rfl,.inl (lJn _)⟩) ?_)
 .rintro i ⟨r,lo⟩ st1 _ hi ⟨rfl,Rs,rest,R1,rfl,hl⟩
  dsimp only at hl ⊢
  by_cases c:Rs.flatten.length>=(arrOf st).size
  .rw[lJc c];exact lJi ⟨rfl,Rs,rest,R1,rfl,c⟩
  rw[lJb c];have hs1:(arrOf st1).size=(arrOf st).size:=by have:=R1.perm.length_eq;simpa using this
  have hm1:∀x,x∈(arrOf st1).toList->mem x:=λx hx=>hm x (R1.perm.mem_iff.mp hx)
  have B0:SB κ (arrOf st1) Rs.flatten.length (arrOf st1).size (pendingOf st1) st1:=⟨R1.kind,R1.fail,rfl,Array.Perm.refl _,λ_ _=>rfl⟩
  refine lJf (kXq H hm1 B0 (by omega) (by omega) (lJh _) λn st2 B2 n1 n2 S2=> ?_)
  dsimp only
  by_cases cm:n<minRun' (arrOf st).size (arrOf st).size 0
  .rw[lJc cm]
   (refine lJf (lV3 (lQq ⟨rfl,?_⟩)))
   have hq1:n<=min ((arrOf st).size-Rs.flatten.length) (minRun' (arrOf st).size (arrOf st).size 0):=by omega
   have hq2:min ((arrOf st).size-Rs.flatten.length) (minRun' (arrOf st).size (arrOf st).size 0)<=(arrOf st).size-Rs.flatten.length:=Nat.min_le_left ..
   generalize min ((arrOf st).size-Rs.flatten.length) (minRun' (arrOf st).size (arrOf st).size 0)=n3 at hq1 hq2 ⊢
   refine lJf (kQt H hm1 B2 n1 hq1 (by omega) (lJh _) S2 λst3 B3 S3=> ?_)
   rw[lJb (by decide)]
   obtain⟨R,r3,hRl,hRs,R3⟩:=R1.add rfl B3 (by omega) S3
   have hR1:1<=R.length:=by omega
   refine lJf (lQi ?_);cases hb:(pendingOf st3).back? with
   | none=>
    rw[<-hRl];exact wpS_bind (wpS_modify (wpS_pure ⟨rfl,_,_,R3.push hRs hR1,by simp,by dsimp only;omega⟩))
   | some x=>
    obtain⟨x1,x2,x3⟩:=x
    dsimp only
    refine lJf (lKo (lKp (I:=λ_ (c:Option Unit×Unit) st'=>c=(none,())/\∃Rs',Runs κ le (arrOf st) Rs' (R++r3) st'/\Rs'.flatten.length=Rs.flatten.length) (Q:=λ(c:Option Unit×Unit) st'=>c=(none,())/\∃Rs',Runs κ le (arrOf st) Rs' (R++r3) st'/\Rs'.flatten.length=Rs.flatten.length) ?_ (λ_ _ z=>z) ⟨rfl,Rs,R3,rfl⟩) ?_)
    .rintro i' c st4 _ hi' ⟨rfl,Rs4,R4,hl4⟩;refine lJf (lQi ?_);have hsz:=R4.size
     by_cases c:(pendingOf st4).size>1
     .rw[lJc c,lK4 (by omega)]
      dsimp only
      split
      .exact lJi ⟨rfl,Rs4,R4,hl4⟩
      .refine lJf (R4.merge H hm (by omega) λRs' st' R' e1 e2=> ?_)
       rw[lJb (by decide)]
       exact lJi ⟨rfl,Rs',R',by omega⟩
     .rw[lJb c];exact lJi ⟨rfl,Rs4,R4,hl4⟩
    .rintro c st4 ⟨rfl,Rs4,R4,hl4⟩
     dsimp only
     have R5:=λpw:Nat=>R4.pw (k:=(pendingOf st4).size-1) (f:=λx=>(x.1,x.2.1,pw)) λ_=>rfl
     refine lJf (lKm (lJf (lKm ?_)));rw[<-hl4,<-hRl];exact wpS_pure ⟨rfl,_,_,(R5 _).push hRs hR1,by simp,by dsimp only;omega⟩
  .rw[lJb cm];obtain⟨st3,rfl⟩:∃x,x=st2:=⟨_,rfl⟩
   have B3:=B2;have S3:=S2;obtain⟨R,r3,hRl,hRs,R3⟩:=R1.add rfl B3 (by omega) S3
   have hR1:1<=R.length:=by omega
   refine lJf (lQi ?_);cases hb:(pendingOf st3).back? with
   | none=>
    rw[<-hRl];exact wpS_bind (wpS_modify (wpS_pure ⟨rfl,_,_,R3.push hRs hR1,by simp,by dsimp only;omega⟩))
   | some x=>
    obtain⟨x1,x2,x3⟩:=x
    dsimp only
    refine lJf (lKo (lKp (I:=λ_ (c:Option Unit×Unit) st'=>c=(none,())/\∃Rs',Runs κ le (arrOf st) Rs' (R++r3) st'/\Rs'.flatten.length=Rs.flatten.length) (Q:=λ(c:Option Unit×Unit) st'=>c=(none,())/\∃Rs',Runs κ le (arrOf st) Rs' (R++r3) st'/\Rs'.flatten.length=Rs.flatten.length) ?_ (λ_ _ z=>z) ⟨rfl,Rs,R3,rfl⟩) ?_)
    .rintro i' c st4 _ hi' ⟨rfl,Rs4,R4,hl4⟩;refine lJf (lQi ?_);have hsz:=R4.size
     by_cases c:(pendingOf st4).size>1
     .rw[lJc c,lK4 (by omega)]
      dsimp only
      split
      .exact lJi ⟨rfl,Rs4,R4,hl4⟩
      .refine lJf (R4.merge H hm (by omega) λRs' st' R' e1 e2=> ?_)
       rw[lJb (by decide)]
       exact lJi ⟨rfl,Rs',R',by omega⟩
     .rw[lJb c];exact lJi ⟨rfl,Rs4,R4,hl4⟩
    .rintro c st4 ⟨rfl,Rs4,R4,hl4⟩
     dsimp only
     have R5:=λpw:Nat=>R4.pw (k:=(pendingOf st4).size-1) (f:=λx=>(x.1,x.2.1,pw)) λ_=>rfl
     refine lJf (lKm (lJf (lKm ?_)));rw[<-hl4,<-hRl];exact wpS_pure ⟨rfl,_,_,(R5 _).push hRs hR1,by simp,by dsimp only;omega⟩
 .rintro⟨r,lo⟩ st1 ⟨rfl,Rs,rest,R1,hlo,hl⟩;refine⟨rfl,Rs,rest,R1,hlo,?_⟩;rw[Nat.zero_max] at hl;omega
 .rintro⟨r,lo⟩ st1 ⟨rfl,Rs,rest,R1,hlo,hl⟩
  dsimp only at hlo hl ⊢
  have hL:=R1.len;refine lJf (lKo (lKp (I:=λi (c:Option Unit×Unit) st'=>c=(none,())/\∃Rs,Runs κ le (arrOf st) Rs rest st'/\Rs.flatten.length=lo/\Rs.length<=max 1 ((arrOf st).size-i)) (Q:=λ(c:Option Unit×Unit) st'=>c=(none,())/\∃Rs,Runs κ le (arrOf st) Rs rest st'/\Rs.flatten.length=lo/\Rs.length<=1) ?_ ?_ ⟨rfl,Rs,R1,hlo.symm,by have:=kYi λR hR=>(R1.srt R hR).2;omega⟩) ?_)
  .rintro i c st2 _ hi ⟨rfl,Rs2,R2,hl2,hn2⟩;refine lJf (lQi ?_);have hsz:=R2.size
   by_cases c:(pendingOf st2).size<=1
   .rw[lJc c];exact lJi ⟨rfl,Rs2,R2,hl2,by omega⟩
   .rw[lJb c];refine lJf (R2.merge H hm (uVb (by omega) (by omega)) λRs' st' R' e1 e2=> ?_)
    rw[lJb (by decide)]
    exact lJi ⟨rfl,Rs',R',by omega,by omega⟩
  .rintro c st2 ⟨rfl,Rs2,R2,hl2,hn2⟩;exact⟨rfl,Rs2,R2,hl2,by omega⟩
  .rintro c st2 ⟨rfl,Rs2,R2,hl2,hn2⟩
   dsimp only
   have hr:rest=[]:=lVk.mp (by omega)
   refine lJi (q st2 R2.perm ?_ R2.fail);rw[R2.arr,hr,lVe];cases Rs2 with
   | nil=>simp at hl2;omega
   | cons R Rs3=>
    obtain rfl:Rs3=[]:=by simpa using hn2
    simp;exact (R2.srt R (by simp)).1
end
end L3
namespace L3
open PySem PySem.Spec PyProof.Rows L2 PySem.W
variable {prog:Program}{w:World}{A:Around}{E:Value->Shared->Prop}{s:Shared}{n:Nat}{b:Bool}{es:List (TKey×Addr)}
theorem kZ8{a:Nat}(ho:s.heap.get? a=some (seqObj "list" (List.toArray (es.map λe=>Value.ref e.2)) n))(hu:A.units+6<cLine)(h:∀e,e∈es->(jJg prog w).is s.heap e.1 e.2/\kJa e.1 b/\intT e.1=true)(hlt:∀e,e∈es->∀e',e'∈es->(ltK e.1 e'.1).isSome=true)(h64:es.length<=16000000){P:PySem.Fin->Shared->Prop}(k:∀(es':List (TKey×Addr))(h':Heap)(c:Nat),es'.Perm es->es'.Pairwise (λx y=>ltK y.1 x.1≠some true)->h'.get? a=some (seqObj "list" (List.toArray (es'.map λe=>Value.ref e.2)) c)->(∀p o,p≠a->s.heap.get? p=some o->h'.get? p=some o)->P (.done (.ret .none)) {s with heap:=h'}):wpAny (model prog w) A (Builtin.«list.sort» ⟨[.ref a],[]⟩) P E s:=by
 (have ha:a<s.heap.objs.size:=lJk ho)
 have hlen:(es.map λe=>Value.ref e.2).length=es.length:=lJe ..
 rw[list_sort_plain]
 (refine lJa (listItems_at ho rfl ?_))
 refine lJa (lZn ho rfl ?_ (by rw[lJr,hlen,lKe];omega) (lJn _))
 (obtain⟨e1,ho1⟩:∃e1,(s.heap.update a (Obj.mapSeq λ_=>(#[]:Array Value))).get? a=some (seqObj "list" #[] e1):=⟨_,lZo ho λ_=> #[]⟩)
 (refine lJa (lZp ho1 rfl ?_))
 refine lJa (wpAny_newTuple ?_ (by show (es.map λe=>Value.ref e.2).length<=_;rw[hlen,lKe];omega))
 (refine lJa (lZq ?_ (lJn _)))
 refine lKj ?_
 generalize hg:((s.heap.update a (Obj.mapSeq λ_=>(#[]:Array Value))).push (seqObj "tuple" (List.toArray (es.map λe=>Value.ref e.2)) 0)).push (seqObj "list" #[] 0)=h1
 refine (show wpAny (model prog w) A _ P E {s with heap:=h1} from ?_)
 have oth:∀p o,p≠a->s.heap.get? p=some o->h1.get? p=some o:=by
  intro p o hp e;rw[<-hg];exact lJm _ (lJm _ ((lYj _ _ _ _ hp).trans e))
 have ho6:h1.get? a=some (seqObj "list" #[] e1):=by
  rw[<-hg];exact lJm _ (lJm _ ho1)
 have tk:TupKept s.heap h1:=by
  intro p o e hc;refine oth p o ?_ e;rintro rfl;rw[ho] at e;cases e;exact absurd hc (show ¬ Value.type "list"=Value.type "tuple" by decide)
 have hk1:∀e,e∈es->(jJg prog w).is h1 e.1 e.2/\kJa e.1 b/\intT e.1=true:=λe he=>⟨jKs tk (h e he).1,(h e he).2⟩
 have fin:∀(out:List (TKey×Addr)),out.Perm es->out.Pairwise (λx y=>ltK y.1 x.1≠some true)->∀st':SortSt,(arrOf st').map (·.2)=List.toArray (out.map λe=>Value.ref e.2)->failedOf st'=none->
   wpAny (model prog w) A (do
    let touched:=(<-seqEpoch a) != e1
    Builtin.List.listUpdate (.ref a) λ_=>(arrOf st').map (·.2)
    if let some e:=failedOf st' then rule "list.sort.comparison-raised"; throw e
    if (touched) then rule "list.sort.modified"; raiseError "ValueError" "list modified during sort"
    ret .none) P E {s with heap:=h1}:=by
  intro out hp hs st' hout hf;rw[hout,hf];have hol:out.length=es.length:=hp.length_eq;refine lJa (lZp (s:={s with heap:=h1}) ho6 rfl ?_)
  refine lJa (lZn (s:={s with heap:=h1}) ho6 rfl ?_ (lJn _) (by rw[lJr,lJe,hol,lKe];omega))
  (simp only[mJv,lKg,lKa])
  refine lJd (k out _ _ hp hs (lZo ho6 λ_=>List.toArray (out.map λe=>Value.ref e.2)) λp o hpa e=>(lYj _ _ _ _ hpa).trans (oth p o hpa e))
 dsimp only
 by_cases h2:(List.toArray (es.map λe=>Value.ref e.2)).size<2
 .rw[lJc h2,lJc h2];refine lJa (lJd ?_);rw[StateT.run_pure];refine lJa (lJd ?_);refine fin es (.refl _) ?_ _ ?_ rfl
  .rw[lJr,hlen] at h2
   match es,h2 with
   | [],_=>exact .nil
   | [_],_=>exact List.pairwise_singleton _ _
  .apply lZ8.mp;show (((List.toArray (es.map λe=>Value.ref e.2)).zip (List.toArray (es.map λe=>Value.ref e.2))).map (·.2)).toList=_
   rw[lY3,ksk_zip,List.map_snd_zip (lJh _)]
 .rw[lJb h2,lJb h2];rw[lJr,hlen] at h2;refine lJa (qQ6 (s:={s with heap:=h1}) hk1 (by omega) ?_)
  let f:TKey×Addr->Keyed:=λe=>(Value.ref e.2,Value.ref e.2)
  let mem:Keyed->Prop:=λx=>∃e,e∈es/\x=f e
  let le:Keyed->Keyed->Prop:=λx y=>∀e e',e∈es->e'∈es->x=f e->y=f e'->ltK e'.1 e.1≠some true
  have one:∀e e',e∈es->e'∈es->f e=f e'->e.1=e'.1:=λe e' he he' z=>by
   have z1:Value.ref e.2=Value.ref e'.2:=lKl Prod.fst z;have z2:e.2=e'.2:=by cases e;cases e';cases z1;rfl
   have a1:=(hk1 e he).1;rw[z2] at a1;exact (jJg prog w).inj a1 (hk1 e' he').1
  have le_iff:∀e e',e∈es->e'∈es->(le (f e) (f e')↔ltK e'.1 e.1≠some true):=λe e' he he'=>
   ⟨λz=>z e e' he he' rfl rfl,λz d d' hd hd' q q'=>by rw[<-one e d he hd q,<-one e' d' he' hd' q'];exact z⟩
  haveI:∀x y,Decidable (le x y):=λx y=>Classical.propDecidable _
  have HA:Asks (model prog w) A {s with heap:=h1} (tuples' b) mem le:=by
   refine⟨?_,?_,?_⟩
   .rintro x y ⟨e,he,rfl⟩ ⟨e',he',rfl⟩ E' Q hQ;obtain⟨c,hc⟩:=lXn.mp (hlt e he e' he');refine qZ9 (s:={s with heap:=h1}) hu (hk1 e he).1 (hk1 e' he').1 hc (hk1 e he).2.1 (hk1 e' he').2.1 ?_
    have:(!decide (le (f e') (f e)))=c:=by
     by_cases z:le (f e') (f e)
     .rw[lJ9 z];have:=(le_iff e' e he' he).mp z;rw[hc] at this;cases c with
      | false=>rfl
      | true=>exact absurd rfl this
     .rw[lJv z];cases c with
      | true=>rfl
      | false=>exact absurd ((le_iff e' e he' he).mpr (by rw[hc];simp)) z
    rw[this] at hQ;exact hQ
   .rintro x y ⟨e,he,rfl⟩ ⟨e',he',rfl⟩;rw[le_iff e e' he he',le_iff e' e he' he]
    by_cases z:ltK e'.1 e.1=some true
    .right
     intro z2;have:=kXh z z2;rw[show ltK e'.1 e'.1=some false from kYy _] at this
     cases this
    .exact .inl z
   .rintro x y z ⟨e,he,rfl⟩ ⟨e',he',rfl⟩ ⟨d,hd,rfl⟩ h1' h2';rw[le_iff e e' he he'] at h1';rw[le_iff e' d he' hd] at h2';rw[le_iff e d he hd];intro q
    by_cases eqk:d.1=e'.1
    .rw[eqk] at q;exact h1' q
    .obtain⟨c,hc⟩:=lXn.mp (hlt d hd e' he');cases c with
     | true=>exact h2' hc
     | false=>
      have:=kord.neg eqk hc;exact h1' (kXh this q)
  have hz:((List.toArray (es.map λe=>Value.ref e.2)).zip (List.toArray (es.map λe=>Value.ref e.2))).toList=es.map f:=by
   rw[ksk_zip,List.zip_map']
  have key:wpS (model prog w) A E {s with heap:=h1} sortRuns' (λ_ st'=>∃es':List (TKey×Addr),es'.Perm es/\es'.Pairwise (λx y=>ltK y.1 x.1≠some true)/\(arrOf st').map (·.2)=List.toArray (es'.map λe=>Value.ref e.2)/\failedOf st'=none) (SortSt.mk' (tuples' b) ((List.toArray (es.map λe=>Value.ref e.2)).zip (List.toArray (es.map λe=>Value.ref e.2))) #[] 7 none):=by
   refine kVl HA (λx hx=> ?_) rfl rfl rfl ?_ λst' p1 p2 p3=> ?_
   .have hx':x∈es.map f:=by rw[<-hz];exact hx
    obtain⟨e,he,rfl⟩:=lJl.mp hx';exact⟨e,he,rfl⟩
   .show 1<=((List.toArray (es.map λe=>Value.ref e.2)).zip (List.toArray (es.map λe=>Value.ref e.2))).size
    rw[<-lKn,hz,lJe];omega
   .obtain⟨es',hp,he⟩:=jV6 p1 es hz;refine⟨es',hp,?_,?_,p3⟩
    .rw[he,lQo] at p2;exact p2.imp_of_mem λha hb z=>(le_iff _ _ (hp.mem_iff.mp ha) (hp.mem_iff.mp hb)).mp z
    .apply lZ8.mp;rw[lY3,he,lJz];rfl
  unfold wpS at key;refine lJa (lQp key ?_ λ_ _ x=>x)
  rintro⟨⟨⟩,st'⟩ s' ⟨rfl,es',hp,hs,har,hf⟩;exact fin es' hp hs st' har hf
theorem kQ2{l:Addr}{Q:Value->Shared->Prop}(hl:s.heap.IsList l (List.toArray (es.map λe=>Value.ref e.2)))(hu:A.units+20<cLine)(h:∀e,e∈es->(jJg prog w).is s.heap e.1 e.2/\kJa e.1 b/\intT e.1=true)(hlt:∀e,e∈es->∀e',e'∈es->(ltK e.1 e'.1).isSome=true)(hn:es.length<=1000000)(k:∀(es':List (TKey×Addr))(h':Heap)(D c:Nat),es'.Perm es->es'.Pairwise (λx y=>ltK y.1 x.1≠some true)->s.heap.objs.size<=D->h'.get? D=some (seqObj "list" (List.toArray (es'.map λe=>Value.ref e.2)) c)->(∀p o,s.heap.get? p=some o->h'.get? p=some o)->Q (.ref D) {s with heap:=h'}):wpAny (model prog w) A (call (.builtin "sorted") [.ref l]) Q E s:=by
 (refine Calls.call_function_entry kind_sorted plain_sorted entry_sorted (args_sorted1 _) ?_)
 unfold Builtin.«sorted»
 (refine lJa (m:=checkCount "sorted" 1 1 _) (lJd ?_))
 refine lJa (collect_list hl ?_ (by rw[lJe,lKe];omega))
 have kp:∀p o,s.heap.get? p=some o->((s.heap.push (seqObj "list" #[] 0)).update s.heap.objs.size (Obj.mapSeq (· ++(es.map λe=>Value.ref e.2).toArray))).get? p=some o:=λp o e=>
  (lYj _ _ _ _ (lJt (lJk e))).trans (lJm _ e)
 have big:s.heap.objs.size<=((s.heap.push (seqObj "list" #[] 0)).update s.heap.objs.size (Obj.mapSeq (· ++(es.map λe=>Value.ref e.2).toArray))).objs.size:=by
  rw[Heap.size_update,size_push'];omega
 generalize (s.heap.push (seqObj "list" #[] 0)).update s.heap.objs.size (Obj.mapSeq (· ++(es.map λe=>Value.ref e.2).toArray))=g at kp big ⊢
 refine lJa (lZq ?_ (by rw[lJe,lKe];omega))
 have hoL:(g.push (seqObj "list" (List.toArray (es.map λe=>Value.ref e.2)) 0)).get? g.objs.size=some (seqObj "list" (List.toArray (es.map λe=>Value.ref e.2)) 0):=lJ8 _ rfl
 refine lJa (lKj (lQh slot_list_sort ⟨_,hoL,rfl⟩ entry_list_sort ?_ (args_list_sort _)));refine kZ8 (s:={s with heap:=g.push (seqObj "list" (List.toArray (es.map λe=>Value.ref e.2)) 0)}) (b:=b) hoL (by rw[lQk,lQk];omega) (λe he=> ?_) hlt (by omega) λes' h' c pe' so hD oth=> ?_
 .exact⟨jKs (λb ob e _=>lJm _ (kp b ob e)) (h e he).1,(h e he).2⟩
 .refine⟨_,rfl,lJd ⟨_,rfl,k es' h' _ c pe' so big hD λq ob e=>oth q ob ?_ (lJm _ (kp q ob e))⟩⟩
  exact lJt (lKi (lJk e) big)
variable {X:Cx}
noncomputable def qQa:List T->Gp->VK3->Prop:=λxs G Q=>∃(x:T)(b:Bool)(tks:List (List T×TKey)),xs=[x]/\jQf G x=some (tks.map λe:List T×TKey=> .tup e.1)/\tks.length<=1000000/\(∀e,e∈tks->SKey b e.1 e.2)/\(∀e,e∈tks->∀e',e'∈tks->(ltK e.2 e'.2).isSome=true)/\
 ∀(p:Addr)(kys:List (List T×TKey)),G p=none->kys.Perm tks->kys.Pairwise (λx y=>ltK y.2 x.2≠some true)->Q (.ref p) (gup G p (.lst (kys.map λe=> .tup e.1)))
theorem uQc(hu:X.A.units+20<cLine):Call3 X (.builtin "sorted") qQa:=by
 rintro pins s τ G H xs us Q ⟨σ,I,hs,hg⟩ ⟨as,ras,rvs⟩ ⟨x,b,tks,ex,hx,hn,hk,hlt,q⟩;subst ex;obtain⟨v,rfl,rv⟩:=jUn ras;obtain⟨u,rfl,ru⟩:=rvs.one;obtain⟨pa,vs,rfl,hq,r⟩:=jQs hg rv hx;cases ru;obtain⟨its,rvv,pl,hz⟩:=I.list hq;obtain⟨tb,t1,t2,t3,t4⟩:=kVd hk r rvv;have tl:tb.length=tks.length:=by rw[<-t1,lJe]
 have hmem:∀e,e∈tb->e.1∈tks:=λe he=>by rw[<-t1];exact lJl.mpr ⟨e,he,rfl⟩
 have hl:s.heap.IsList pa (List.toArray ((tb.map λe=>(e.1.2,e.2)).map λe=>Value.ref e.2)):=by
  have:=pl.isList;rw[t3] at this;rw[lJz];exact this
 refine kQ2 (b:=b) hl hu (λe he=> ?_) (λe he e' he'=> ?_) (by rw[lJe];omega) λes h3 D c hp so hD hoD kp=> ?_
 .obtain⟨y,hy,rfl⟩:=lJl.mp he;exact⟨jYn I.hok (t4 y hy).1,(hk _ (hmem y hy)).2⟩
 .obtain⟨y,hy,rfl⟩:=lJl.mp he;obtain⟨y',hy',rfl⟩:=lJl.mp he';exact hlt _ (hmem y hy) _ (hmem y' hy')
 obtain⟨tb',p1,p2⟩:=jV6 hp tb rfl;have fr:=I.hok.fresh hD;have I3:=I.laid (a:=D) (o:= .lst (tb'.map λe=>V.ref e.2)) (h':=h3) (t':=s.toks) kp hD ⟨by rw[lJe,lKe,p1.length_eq];omega,tb'.map λe=>Value.ref e.2,c,jX4 tb',by rw[p2,lJz] at hoD;exact hoD⟩
 have ext:Ext H (upd H D (.lst (tb'.map λe=>V.ref e.2))):= .upd (.none fr)
 refine⟨.ref D,_,_,ext,⟨σ,I3,hs.mono ext,hg.lstNew (kVq tb' λe he=>(t4 e (p1.mem_iff.mp he)).2) (.none fr)⟩,⟨.ref D,rfl,rfl⟩,?_⟩
 have:=q D (tb'.map (·.1)) (hg.fresh fr) (by rw[<-t1];exact p1.map _) (by rw[p2,lQo] at so;rw[lQo];exact so)
 rw[lJz] at this;exact this
section
variable {d:Addr}{o:Obj}{es:Array DictEntry}{ep:Nat}
end
section
section
variable {R:Result->Shared->Prop}{I:Addr}{fp:List Addr}{G:Array GenState->Array GenState->Prop}{P:Nat->Value->Prop}{St:Nat->Shared->Prop}
end
end
end L3
namespace PySem
open Sem (wp)
set_option maxRecDepth 100000
namespace F
theorem dz_entry_ga:entryFor table "zip.__getattribute__"=some Builtin.«object.__getattribute__» :=
 entryFor_alias (id':="object.__getattribute__") (by kernel_rfl) (by first | rfl | decide +kernel) (by decide +kernel) (by kernel_rfl)
theorem dz_keys:typeLookup (.type "zip") "keys"=pure none:=by rw[lX4,lX5];kernel_rfl
theorem dz_getattr:typeLookup (.type "zip") "__getattr__"=pure none:=by rw[lX4,lX5];kernel_rfl
end F
theorem uK2(a:Addr)(vs:Array Value)(u:Tok):
  Meets (Builtin.«object.__getattribute__» ⟨[.ref a,.str "keys" u],[]⟩) (λA R s=>s.heap.get? a=some {cls:= .type "zip",dict:=none,data:= .fields vs,slots:= #[]}/\raisesAttr (.ref a) "keys" A R s):=
 Meets.of_wp λprog w A R s hs=>by
  (obtain⟨hp,g,d,tk,os⟩:=s)
  obtain⟨hx,hs⟩:=hs;have hT:(⟨hp,g,d,tk,os⟩:Shared).TypeIs (.ref a) "zip":=⟨_,hx,rfl⟩;have f4:=F.dz_keys
  (repeat (any_goals (first | assumption | wp_step)))
  exact wpAny_raiseAttrError hs.1 hs.2 (attrMsg_fits (by decide +kernel) (by show 4+100<=sizeLine;rw[lKe];decide))
theorem qU5{prog:Program}{w:World}{A:Around}{E:Value->Shared->Prop}{s:Shared}{a:Addr}{vs:Array Value}{Q:Option Value->Shared->Prop}(hA:A.handled=none)(hx:s.heap.get? a=some {cls:= .type "zip",dict:=none,data:= .fields vs,slots:= #[]})
  (h:∀h' tk,(∀b o,s.heap.get? b=some o->h'.get? b=some o)->Q none {s with heap:=h',toks:=tk}):wpAny (model prog w) A (getAttr? (.ref a) "keys") Q E s:=by
 (obtain⟨hp,g,d,tk,os⟩:=s)
 have hT:∀tk',(⟨hp,g,d,tk',os⟩:Shared).TypeIs (.ref a) "zip":=λ_=>⟨_,hx,rfl⟩
 have f1:=sub_AttributeError;have f3:=mJf.lookup;have f4:=mJf.bind (.ref a);have f5:=F.dz_getattr;unfold getAttr? getAttrBy?
 (refine lJa (wpAny_mkText ?_))
 (refine lJa (lXh ?_))
 unfold getAttrBy
 repeat (any_goals (first | assumption | exact hT _ | ((with_reducible show wpAny _ _ (call (Value.builtin "zip.__getattribute__") _ _) _ _ _);refine lXf mJf (hT _) F.dz_entry_ga (F.args_zip_getattribute_2 _ _) (uK2 a vs _) ⟨hx,hA,λh' tk' e hx'=> ?_⟩) | wp_step))
 (obtain⟨t',u',he⟩:=hx'.there)
 refine (show wpAny _ _ (getattributeRaised _ _ _ _ _ _ _) _ _ _ from ?_)
 unfold getattributeRaised
 (repeat (any_goals (first | assumption | wp_step)))
 exact h _ _ hx'.keeps
end PySem
namespace L3
open PySem PySem.Spec PyProof.Rows L2 PySem.W
variable {s:Shared}{z i1 i2 l1 l2 d:Addr}{bb:Bool}{oT:Obj}{k1 k2:Nat}{xs ys:Array Value}{x y:Value}{Q:Value->Shared->Prop}{ps:List (Int×Tok)}{vs:List Value}
section
variable {prog:Program}{w:World}{A:Around}{E:Value->Shared->Prop}
theorem kZv{M:Model}{a:Addr}{o:Obj}{Q:Option Obj->Shared->Prop}(ho:s.heap.get? a=some o)(h:Q (some o) s):wpAny M A (loadIfAlive a) Q E s:=by
 intro Γ p _;unfold loadIfAlive;rw[Sem.wp_loadIfAlive,ho];exact h
def ZipM(h:Heap)(z TI TO T:Addr)(b:Bool):Prop:=h.get? z=some {cls:= .type "zip",dict:=none,data:= .fields #[rawInt T,.bool b,.bool false,.ref TI,.ref TO],slots:= #[]}
theorem kQy{TI TO T:Addr}{K:Bool->Shared->Prop}(hz:ZipM s.heap z TI TO T bb)(k:∀h0,ZipM h0 z TI TO T true->Heap.SameBut z s.heap h0->K false {s with heap:=h0}):
  wpAny (model prog w) A (if (Value.bool bb != Value.bool true)=true then do setField (.ref z) 1 (.bool true);pure false else pure false) K E s:=by
 cases bb with
 | true=>exact lJd (k s.heap hz (.refl _ _))
 | false=>exact lJa (lZm hz (by simp) λh0 hz0 sb=>lJd (k h0 hz0 sb))
theorem kKp{TI TO T:Addr}(D:ZipApart z TI TO i1 i2 l1 l2)(hz:ZipM s.heap z TI TO T bb)(hT:s.heap.get? T=some oT)(hTI:IsPair s.heap TI (.ref i1) (.ref i2))(h1:s.heap.IsListIter i1 l1 k1)(h2:s.heap.IsListIter i2 l2 k2)(hl1:s.heap.IsList l1 xs)(hl2:s.heap.IsList l2 ys)(hx:xs[k1]? =some x)(hy:ys[k2]? =some y)(hQ:∀h',ZipM h' z TI TO T true->h'.IsListIter i1 l1 (k1+1)->h'.IsListIter i2 l2 (k2+1)->IsPair h' s.heap.objs.size x y->h'.objs.size=s.heap.objs.size+1->
   (∀c o,c≠z->c≠i1->c≠i2->s.heap.get? c=some o->h'.get? c=some o)->Q (.ref s.heap.objs.size) {s with heap:=h'}):wpAny (model prog w) A (Builtin.«zip.__next__» ⟨[.ref z],[]⟩) (λfin s'=>∃v,fin= .done (.ret v)/\Q v s') E s:=by
 refine (show wpAny _ _ (field (.ref z) 2 >>= _) _ _ _ from ?_)
 (refine lJa (lQa hz rfl (x:= .bool false) rfl ?_))
 refine (show wpAny _ _ (field (.ref z) 3 >>= _) _ _ _ from ?_)
 (refine lJa (lQa hz rfl (x:= .ref TI) rfl ?_))
 (refine lJa (lXd hTI rfl ?_))
 refine (show wpAny _ _ (Builtin.SmallTypes.ownedTupleIsFree (.ref z) >>= _) _ _ _ from ?_)
 refine lJa ?_
 (unfold Builtin.SmallTypes.ownedTupleIsFree)
 refine lJa (lQa hz rfl (x:=rawInt T) rfl ?_);refine (show wpAny _ _ (loadIfAlive T >>= _) _ _ _ from ?_)
 refine lJa (kZv hT ?_)
 (simp only[Option.isNone_some,lKg,lKa])
 refine lJa (lQa hz rfl (x:= .bool bb) rfl ?_);refine kQy hz λh0 hz0 sb=> ?_
 (simp only[lKg,lKa])
 refine lJa ?_;rw[<-lXk]
 (simp only[lZ0,List.forIn_nil])
 refine lJa (lJa (lKj ?_));refine (show wpAny _ _ (Builtin.SmallTypes.nextOf (.ref i1) >>= _) _ _ _ from ?_)
 refine lJa (wpAny_nextOf_list_item (s:={s with heap:=h0}) (h1.extBut sb.extBut D.i1z) (hl1.extBut sb.extBut D.l1z) hx λh₂ h1₂ hs₂=>lJd (lJd ?_))
 dsimp only
 refine lJa (lJa (lKj ?_));refine (show wpAny _ _ (Builtin.SmallTypes.nextOf (.ref i2) >>= _) _ _ _ from ?_)
 refine lJa (wpAny_nextOf_list_item (s:={s with heap:=h₂ }) ((h2.extBut sb.extBut D.i2z).extBut hs₂.extBut D.i12.symm) ((hl2.extBut sb.extBut D.l2z).extBut hs₂.extBut D.l2i1) hy λh₄ h2₄ hs₄=>lJd (lJd ?_))
 dsimp only
 refine lJd ?_
 dsimp only
 refine lJa (wpAny_newTuple ?_ (by show 2<=sizeLine;decide))
 have sz:h₄.objs.size=s.heap.objs.size:=by rw[hs₄.1,hs₂.1,sb.1]
 have kp:∀c o,c≠z->c≠i1->c≠i2->s.heap.get? c=some o->h₄.get? c=some o:=λc o c1 c2 c3 e=>hs₄.extBut _ _ c3 (hs₂.extBut _ _ c2 (sb.extBut _ _ c1 e))
 (refine lJd ⟨_,rfl,?_⟩)
 show Q (.ref h₄.objs.size) _
 rw[sz];refine hQ _ (lJm _ (hs₄.extBut _ _ D.i2z.symm (hs₂.extBut _ _ D.i1z.symm hz0))) ((h1₂.extBut hs₄.extBut D.i12).at λo e=>lJm _ e) (h2₄.at λo e=>lJm _ e) (by rw[<-sz];exact lJ8 _ rfl) (by rw[lXt,sz]) λc o c1 c2 c3 e=>lJm _ (kp c o c1 c2 c3 e)
theorem kQx{TI TO T:Addr}{Q:PySem.Fin->Shared->Prop}(hh:A.handled=none)(D:ZipApart z TI TO i1 i2 l1 l2)(hz:ZipM s.heap z TI TO T bb)(hT:s.heap.get? T=some oT)(hTI:IsPair s.heap TI (.ref i1) (.ref i2))(h1:s.heap.IsListIter i1 l1 k1)(hl1:s.heap.IsList l1 xs)(hx:xs[k1]? =none)(hE:∀h' e,(∀c o,c≠z->c≠i1->s.heap.get? c=some o->h'.get? c=some o)->(∃o,h'.get? e=some o/\o.cls= .type "StopIteration")->E (.ref e) {s with heap:=h'}):wpAny (model prog w) A (Builtin.«zip.__next__» ⟨[.ref z],[]⟩) Q E s:=by
 refine (show wpAny _ _ (field (.ref z) 2 >>= _) _ _ _ from ?_)
 (refine lJa (lQa hz rfl (x:= .bool false) rfl ?_))
 refine (show wpAny _ _ (field (.ref z) 3 >>= _) _ _ _ from ?_)
 (refine lJa (lQa hz rfl (x:= .ref TI) rfl ?_))
 (refine lJa (lXd hTI rfl ?_))
 refine (show wpAny _ _ (Builtin.SmallTypes.ownedTupleIsFree (.ref z) >>= _) _ _ _ from ?_)
 refine lJa ?_
 (unfold Builtin.SmallTypes.ownedTupleIsFree)
 refine lJa (lQa hz rfl (x:=rawInt T) rfl ?_);refine (show wpAny _ _ (loadIfAlive T >>= _) _ _ _ from ?_)
 refine lJa (kZv hT ?_)
 (simp only[Option.isNone_some,lKg,lKa])
 refine lJa (lQa hz rfl (x:= .bool bb) rfl ?_);refine kQy hz λh0 hz0 sb=> ?_
 (simp only[lKg,lKa])
 refine lJa ?_;rw[<-lXk]
 (simp only[lZ0,List.forIn_nil])
 refine lJa (lJa (lKj ?_));refine (show wpAny _ _ (Builtin.SmallTypes.nextOf (.ref i1) >>= _) _ _ _ from ?_)
 refine lJa (wpAny_nextOf_list_end (s:={s with heap:=h0}) hh (h1.extBut sb.extBut D.i1z) (hl1.extBut sb.extBut D.l1z) hx λh₂ e hs₂ he=> ?_)
 exact hE h₂ e (λc o c1 c2 q=>hs₂ _ _ c2 (sb.extBut _ _ c1 q)) he
theorem jYt{TI TO T:Addr}{Q:Option Value->Shared->Prop}(D:ZipApart z TI TO i1 i2 l1 l2)(hz:ZipM s.heap z TI TO T bb)(hT:s.heap.get? T=some oT)(hTI:IsPair s.heap TI (.ref i1) (.ref i2))(h1:s.heap.IsListIter i1 l1 k1)(h2:s.heap.IsListIter i2 l2 k2)(hl1:s.heap.IsList l1 xs)(hl2:s.heap.IsList l2 ys)(hx:xs[k1]? =some x)(hy:ys[k2]? =some y)(hQ:∀h',ZipM h' z TI TO T true->h'.IsListIter i1 l1 (k1+1)->h'.IsListIter i2 l2 (k2+1)->IsPair h' s.heap.objs.size x y->
   (∀c o,c≠z->c≠i1->c≠i2->s.heap.get? c=some o->h'.get? c=some o)->Q (some (.ref s.heap.objs.size)) {s with heap:=h'}):wpAny (model prog w) A (pyNext (.ref z)) Q E s:=by
 have hTy:s.TypeIs (.ref z) "zip":=⟨_,hz,rfl⟩;unfold pyNext
 exact lJa (lXh (lVr (name:=Str.ofString "__next__") hTy lZa
  (lQh lZa hTy PySem.F.entry_zip_next
   (kKp D hz hT hTI h1 h2 hl1 hl2 hx hy λh' a1 a2 a3 a4 _ a5=>lJd (hQ h' a1 a2 a3 a4 a5)) (PySem.F.args_zip_next_1 _))))
theorem jZx{TI TO T:Addr}{Q:Option Value->Shared->Prop}(hh:A.handled=none)(D:ZipApart z TI TO i1 i2 l1 l2)(hz:ZipM s.heap z TI TO T bb)(hT:s.heap.get? T=some oT)(hTI:IsPair s.heap TI (.ref i1) (.ref i2))(h1:s.heap.IsListIter i1 l1 k1)(hl1:s.heap.IsList l1 xs)(hx:xs[k1]? =none)(hQ:∀h',(∀c o,c≠z->c≠i1->s.heap.get? c=some o->h'.get? c=some o)->Q none {s with heap:=h'}):wpAny (model prog w) A (pyNext (.ref z)) Q E s:=by
 have hTy:s.TypeIs (.ref z) "zip":=⟨_,hz,rfl⟩;unfold pyNext
 refine lJa (lXh (lVr (name:=Str.ofString "__next__") hTy lZa
  (lQh lZa hTy PySem.F.entry_zip_next (kQx hh D hz hT hTI h1 hl1 hx λh' e hk he=> ?_) (PySem.F.args_zip_next_1 _))))
 obtain⟨o,ho,hc⟩:=he
 (refine lJa (lX3 (T:="StopIteration") (b:=true) ⟨o,ho,hc⟩ isSubtype_stop ?_))
 exact lJd (hQ _ hk)
theorem kQo:entryFor table "dict.update.loop"=some Builtin.«dict.update.loop» :=entryFor_of_tree (by kernel_rfl)
theorem jVr:plainId "dict.update.loop"=true:=by decide +kernel
theorem qU4{p:Addr}{Q:List Value->Shared->Prop}(hp:IsPair s.heap p x y)(k:Q [x,y] s):wpAny (model prog w) A (Builtin.Dict.pairItems (.ref p)) Q E s:=by
 have hT:s.TypeIs (.ref p) "tuple":=⟨_,hp,rfl⟩;unfold Builtin.Dict.pairItems
 (refine lJa (lVc hT ?_))
 rw[lJc (by decide)]
 exact lJa (lXd hp rfl (lJd k))
theorem kJ1{kvs:List (Key×Value)}{i:Int}(h:(Sum.inl i:Key)∉kvs.map (·.1)):stored kvs (.inl i) y=kvs++[(.inl i,y)]:=by
 unfold stored;rw[lJb];intro z;obtain⟨x,hx,e⟩:=lZb.mp z;exact h (lJl.mpr ⟨x,hx,mJt e⟩)
structure DzAt (s:Shared) (z TI TO i1 i2 l1 l2 T d:Addr) (xs ys:Array Value) (i:Nat):Prop where
 zip:∃bb,ZipM s.heap z TI TO T bb
 own:∃o,s.heap.get? T=some o/\o.cls= .type "tuple"
 TI_:IsPair s.heap TI (.ref i1) (.ref i2)
 it1:s.heap.IsListIter i1 l1 i
 it2:s.heap.IsListIter i2 l2 i
 li1:s.heap.IsList l1 xs
 li2:s.heap.IsList l2 ys
theorem DzAt.moved{TI TO T:Addr}{i:Nat}{h':Heap}{t':Nat}(a:DzAt s z TI TO i1 i2 l1 l2 T d xs ys i)(kp:∀b o,b≠d->s.heap.get? b=some o->h'.get? b=some o)(dz:d≠z)(dT:d≠TI)(d1:d≠i1)(d2:d≠i2)(e1:d≠l1)(e2:d≠l2)(hd:s.TypeIs (.ref d) "dict"):
  DzAt {s with heap:=h',toks:=t'} z TI TO i1 i2 l1 l2 T d xs ys i:=by
 obtain⟨⟨bb,hz⟩,⟨o,ho,hc⟩,a1,a2,a3,a4,a5⟩:=a
 have dt:T≠d:=by
  rintro rfl;obtain⟨o',ho',hc'⟩:=hd;rw[ho] at ho';cases ho';rw[hc] at hc';exact absurd hc' (by decide)
 exact⟨⟨bb,kp _ _ dz.symm hz⟩,⟨o,kp _ _ dt ho,hc⟩,kp _ _ dT.symm a1,a2.at λo e=>kp _ o d1.symm e,a3.at λo e=>kp _ o d2.symm e,a4.at λo e=>kp _ o e1.symm e,a5.at λo e=>kp _ o e2.symm e⟩
theorem uK3{R:Result->Shared->Prop}{TI TO T:Addr}(hh:A.handled=none)(D:ZipApart z TI TO i1 i2 l1 l2)(dz:d≠z)(dT:d≠TI)(d1:d≠i1)(d2:d≠i2)(e1:d≠l1)(e2:d≠l2)(hx:xs.toList=ps.map λp=> .int p.1 p.2)(hy:ys.toList=vs)(hl:ps.length=vs.length)(hn:(ps.map (·.1)).Nodup)(hs:ps.length<=sizeLine):
  ∀(k i:Nat)(s:Shared)(j:Int)(jt:Tok),ps.length-i=k->i<=ps.length->DzAt s z TI TO i1 i2 l1 l2 T d xs ys i->s.heap.DictOf (jJ2 prog w) d (((ps.map λp=>(Sum.inl p.1:Key)).zip vs).take i)->
   (∀h' t',h'.DictOf (jJ2 prog w) d ((ps.map λp=>(Sum.inl p.1:Key)).zip vs)->(∀b o,b≠d->b≠z->b≠i1->b≠i2->s.heap.get? b=some o->h'.get? b=some o)->R (.ok (.ret .none)) {s with heap:=h',toks:=t'})->
   codeAny (model prog w) A (.builtin "dict.update.loop" ⟨[.ref d,.ref z,.int j jt,.none],[]⟩) R s:=by
 have zl:((ps.map λp=>(Sum.inl p.1:Key)).zip vs).length=ps.length:=by simp[hl]
 intro k
 induction k with
 | zero=>
  intro i s j jt hk hi a hd hR;have hin:i=ps.length:=by omega
  subst hin;obtain⟨⟨bb,hz⟩,⟨o,ho,hc⟩,a1,a2,a3,a4,a5⟩:=a;refine lQs kQo ?_;rw[lQu jVr _];refine (show wpAny _ A.in1 (pyNext (.ref z) >>= _) _ _ s from ?_)
  refine lJa (jZx (A:=A.in1) (by simpa using hh) D hz ho a1 a2 a4 (by rw[<-lJ5,hx];simp) λh' kp=> ?_)
  refine (show wpAny _ A.in1 (Builtin.Dict.addKeywords d [] >>= _) _ _ _ from lJa (lJd (lJd ?_)))
  rw[<-zl,lQt] at hd
  have hd':h'.DictOf (jJ2 prog w) d ((ps.map λp=>(Sum.inl p.1:Key)).zip vs):=by
   obtain⟨o',es,ep,ho',r⟩:=hd;exact⟨o',es,ep,kp d o' dz d1 ho',r⟩
  exact hR h' s.toks hd' λb o _ c1 c2 _ e=>kp b o c1 c2 e
 | succ k ih=>
  intro i s j jt hk hi a hd hR;have hlt:i<ps.length:=by omega
  have a0:=a;obtain⟨⟨bb,hz⟩,⟨o,ho,hc⟩,a1,a2,a3,a4,a5⟩:=a;have gx:xs[i]? =some (.int ps[i].1 ps[i].2):=by rw[<-lJ5,hx,lJ4,lJj hlt];rfl
  have gy:ys[i]? =some (vs[i]'(by omega)):=by rw[<-lJ5,hy,lJj (by omega)]
  refine lQs kQo ?_;rw[lQu jVr _];refine (show wpAny _ A.in1 (pyNext (.ref z) >>= _) _ _ s from ?_)
  refine lJa (jYt (A:=A.in1) D hz ho a1 a2 a3 a4 a5 gx gy λh' hz' b1 b2 hp kp=> ?_)
  have hd':h'.DictOf (jJ2 prog w) d (((ps.map λp=>(Sum.inl p.1:Key)).zip vs).take i):=by
   obtain⟨o',es,ep,ho',r⟩:=hd;exact⟨o',es,ep,kp d o' dz d1 d2 ho',r⟩
  have a':DzAt {s with heap:=h'} z TI TO i1 i2 l1 l2 T d xs ys (i+1):=⟨⟨_,hz'⟩,⟨o,kp _ _ ?_ ?_ ?_ ho,hc⟩,kp _ _ D.TIz D.TIi1 D.TIi2 a1,b1,b2,a4.at λo e=>kp _ o D.l1z D.l1i1 D.l1i2 e,a5.at λo e=>kp _ o D.l2z D.l2i1 D.l2i2 e⟩
  rotate_left
  .rintro rfl;rw[show s.heap.get? T=_ from hz] at ho;cases ho;exact absurd (show Value.type "zip"=Value.type "tuple" from hc) (by decide)
  .rintro rfl;obtain⟨q,e,c,_⟩:=a2;rw[ho] at e;cases e;rw[hc] at c;exact absurd c (by decide)
  .rintro rfl;obtain⟨q,e,c,_⟩:=a3;rw[ho] at e;cases e;rw[hc] at c;exact absurd c (by decide)
  have nk:(Sum.inl ps[i].1:Key)∉(((ps.map λp=>(Sum.inl p.1:Key)).zip vs).take i).map (·.1):=by
   rw[lV9,List.map_fst_zip (by simp[hl])]
   intro z;obtain⟨m,hm,e⟩:=lVy z;rw[lQc] at hm;have hm':m<ps.length:=by simp at hm;omega
   rw[lYy,mJg] at e;have e':ps[m].1=ps[i].1:=Sum.inl.inj e;have:=(lZr (i:=m) (j:=i) (h₀:=by simpa using hm') (h₁:=by simpa using hlt) hn).mp (by simpa using e')
   simp at hm;omega
  have tk1:((ps.map λp=>(Sum.inl p.1:Key)).zip vs).take i++[(.inl ps[i].1,vs[i]'(by omega))]=((ps.map λp=>(Sum.inl p.1:Key)).zip vs).take (i+1):=by
   rw[lQe,lJj (by rw[zl];exact hlt),lZ6,mJg];rfl
  refine lJa (lKj (lJa (wpAny_tryCatch (qU4 (s:={s with heap:=h'}) hp (lKj (wpAny_dictSet_pairs (s:={s with heap:=h'}) (jV9 prog w _ _) hd' (λh2 hd2 sb=> ?_) (by rw[lQc];omega)))))))
  rw[kJ1 nk,tk1] at hd2;refine lJd ⟨lQy jVr _,ih (i+1) _ _ _ (by omega) hlt (a'.moved (h':=h2) (λb o hb e=>(sb.2 b hb).trans e) dz dT d1 d2 e1 e2 hd'.typeIs) hd2 λh3 t3 hd3 kp3=>hR h3 t3 hd3 λb o c1 c2 c3 c4 e=>kp3 b o c1 c2 c3 c4 ((sb.2 b c1).trans (kp b o c2 c3 c4 e))⟩
theorem uK4{TI TO:Addr}{a0 b0:Value}(hh:A.handled=none)(D:ZipApart z TI TO i1 i2 l1 l2)(hz:IsZip s.heap z TI TO .none)(hTI:IsPair s.heap TI (.ref i1) (.ref i2))(hTO:IsPair s.heap TO a0 b0)(h1:s.heap.IsListIter i1 l1 0)(h2:s.heap.IsListIter i2 l2 0)(hl1:s.heap.IsList l1 xs)(hl2:s.heap.IsList l2 ys)(hx:xs.toList=ps.map λp=> .int p.1 p.2)(hy:ys.toList=vs)(hl:ps.length=vs.length)(hn:(ps.map (·.1)).Nodup)(hs:ps.length<=sizeLine)(hp:1<=ps.length)(k:∀h' t',h'.DictOf (jJ2 prog w) s.heap.objs.size ((ps.map λp=>(Sum.inl p.1:Key)).zip vs)->(∀b o,b≠z->b≠TO->b≠i1->b≠i2->s.heap.get? b=some o->h'.get? b=some o)->Q (.ref s.heap.objs.size) {s with heap:=h',toks:=t'}):
  wpAny (model prog w) A (call (.type "dict") [.ref z]) Q E s:=by
 refine callType_codes (Q₁:=λobj s₁=>obj= .ref s.heap.objs.size/\s₁={s with heap:=s.heap.push {cls:= .type "dict",data:= .dict #[]} }) PySem.F.kt_called_dict (PySem.F.kt_typeCall_dict_1 _) PySem.F.entry_dict_init (kt_code_dict_new _ ⟨rfl,rfl⟩) ?_
 rintro obj s₁ ⟨rfl,rfl⟩;have hnew:(s.heap.push {cls:= .type "dict",data:= .dict #[]}).DictOf (jJ2 prog w) s.heap.objs.size []:=Heap.DictOf.new s.heap;refine⟨hnew.typeIs,PySem.F.args_dict_init_2 _ _,?_⟩
 (unfold Builtin.«dict.__init__»)
 refine lJa ?_
 (unfold Builtin.Dict.selfAndRest)
 (refine lJa (wpAny_notOrdered_dict hnew.typeIs ?_))
 refine (show wpAny _ _ (pure (s.heap.objs.size,[Value.ref z])) _ _ _ from ?_)
 refine lJd ?_;refine (show wpAny _ _ (Builtin.Dict.updateFrom "dict.__init__" s.heap.objs.size (.ref z) [] .none) _ _ _ from ?_)
 (unfold Builtin.Dict.updateFrom)
 have up:∀b o,s.heap.get? b=some o->(s.heap.push {cls:= .type "dict",data:= .dict #[]}).get? b=some o:=λb o e=>lJm _ e
 have hz0:=up _ _ hz;have hTz:Shared.TypeIs {s with heap:=s.heap.push {cls:= .type "dict",data:= .dict #[]} } (.ref z) "zip":=⟨_,hz0,rfl⟩
 refine lJa (lVc hTz ?_);rw[lJc (by decide)]
 refine lJa (qU5 (s:={s with heap:=s.heap.push {cls:= .type "dict",data:= .dict #[]} }) (by simpa using hh) hz0 λg tk kp=> ?_)
 simp only[Option.isNone_none,lKt];refine lJa (lQq ?_);have kp':∀b o,s.heap.get? b=some o->g.get? b=some o:=λb o e=>kp b o (up b o e)
 refine lJa (wpAny_pyIter_zip (s:={s with heap:=g,toks:=tk}) (kp' _ _ hz) ?_)
 have hd0:g.DictOf (jJ2 prog w) s.heap.objs.size []:=by
  obtain⟨o',es,ep,ho',r⟩:=hnew;exact⟨o',es,ep,kp _ o' ho',r⟩
 have lt:∀{b:Addr}{o:Obj},s.heap.get? b=some o->s.heap.objs.size≠b:=λe=>lVf (lJk e)
 have n1:s.heap.objs.size≠i1:=by obtain⟨o,e,_⟩:=h1;exact lt e
 have n2:s.heap.objs.size≠i2:=by obtain⟨o,e,_⟩:=h2;exact lt e
 have m1:s.heap.objs.size≠l1:=by obtain⟨o,e,_⟩:=hl1;exact lt e
 have m2:s.heap.objs.size≠l2:=by obtain⟨o,e,_⟩:=hl2;exact lt e
 have hlt:0<ps.length:=hp;have gx:xs[0]? =some (.int ps[0].1 ps[0].2):=by rw[<-lJ5,hx,lJ4,lJj hlt];rfl
 have gy:ys[0]? =some (vs[0]'(by omega)):=by rw[<-lJ5,hy,lJj (by omega)]
 refine lJd ⟨lQy jVr _,lQs kQo ?_⟩;rw[lQu jVr _];refine (show wpAny _ A.in1.in1 (pyNext (.ref z) >>= _) _ _ {s with heap:=g,toks:=tk} from ?_)
 refine lJa (wpAny_pyNext_zip_item (s:={s with heap:=g,toks:=tk}) D (kp' _ _ hz) (kp' _ _ hTI) (kp' _ _ hTO) (h1.at λo e=>kp' _ o e) (h2.at λo e=>kp' _ o e) (hl1.at λo e=>kp' _ o e) (hl2.at λo e=>kp' _ o e) gx gy λh' hz' _ b1 b2 hpr hsz kp2=> ?_)
 have hd':h'.DictOf (jJ2 prog w) s.heap.objs.size []:=by
  obtain⟨o',es,ep,ho',r⟩:=hd0;exact⟨o',es,ep,kp2 _ o' (lt hz) (lt hTO) n1 n2 ho',r⟩
 refine lJa (lKj (lJa (wpAny_tryCatch (qU4 (s:={s with heap:=h',toks:=tk}) hpr (lKj (wpAny_dictSet_pairs (s:={s with heap:=h',toks:=tk}) (jV9 prog w _ _) hd' (λh3 hd3 sb=> ?_) (by simp)))))))
 have a':DzAt {s with heap:=h',toks:=tk} z TI TO i1 i2 l1 l2 g.objs.size s.heap.objs.size xs ys 1:=⟨⟨_,hz'⟩,⟨_,hpr,rfl⟩,kp2 _ _ D.TIz D.TITO D.TIi1 D.TIi2 (kp' _ _ hTI),b1,b2,hl1.at λo e=>kp2 _ o D.l1z D.l1TO D.l1i1 D.l1i2 (kp' _ o e),hl2.at λo e=>kp2 _ o D.l2z D.l2TO D.l2i1 D.l2i2 (kp' _ o e)⟩
 have tk1:stored ([]:List (Key×Value)) (.inl ps[0].1) (vs[0]'(by omega))=((ps.map λp=>(Sum.inl p.1:Key)).zip vs).take 1:=by
  rw[kJ1 (by simp)]
  have zl:((ps.map λp=>(Sum.inl p.1:Key)).zip vs).length=ps.length:=by simp[hl]
  rw[lQe,lJj (by rw[zl];exact hlt),lZ6,mJg];rfl
 rw[tk1] at hd3;refine lJd ⟨lQy jVr _,uK3 (A:=A.in1) (by simpa using hh) D (lt hz) (lt hTI) n1 n2 m1 m2 hx hy hl hn hs (ps.length-1) 1 _ _ _ rfl hp (a'.moved (h':=h3) (λb o hb e=>(sb.2 b hb).trans e) (lt hz) (lt hTI) n1 n2 m1 m2 hd'.typeIs) hd3 λh4 t4 hd4 kp4=>⟨rfl,k h4 t4 hd4 λb o c1 c2 c3 c4 e=>kp4 b o (lt e).symm c1 c3 c4 ((sb.2 b (lt e).symm).trans (kp2 b o c1 c2 c3 c4 (kp' b o e)))⟩⟩
end
theorem qQi{K:PySem.W.Frag}{H:Hp}:∀{ks:List Key}{ws:List T}{vs:List V},ks.length=ws.length->Reps K H ws vs->PKV K H (ks.zip ws) (ks.zip vs)
 | [],_,_,_,_=> .nil
 | k::ks,[],_,h,_=>by simp at h
 | k::ks,w::ws,_,h,⟨v,vs,e,r,rs⟩=>by subst e;exact .cons ⟨rfl,r⟩ (qQi (by simpa using h) rs)
theorem qZw:∀{ks:List Key}{vs:List V}{us:List Value},ks.length=vs.length->Vals vs us->KV (ks.zip vs) (ks.zip us)
 | [],_,_,_,_=> .nil
 | k::ks,[],_,h,_=>by simp at h
 | k::ks,v::vs,_,h,.cons r rs=> .cons ⟨rfl,r⟩ (qZw (by simpa using h) rs)
section
variable {X:Cx}
noncomputable def uJn(ta:TA3):TE3:=λτ G Q=>ta τ G λvs G1=>∃(x y:T)(is:List Int)(ws:List T),vs=[x,y]/\jQf G1 x=some (is.map T.int)/\jQf G1 y=some ws/\is.length=ws.length/\is.Nodup/\1<=is.length/\is.length<=1000/\∀p,G1 p=none->Q (.ref p) (gup G1 p (.dck ((is.map λi=>(Sum.inl i:Key)).zip ws)))
theorem uVp{pos pos' p p':Pos}{a b:Expr}{ta:TA3}(hc:X.calm=true)(hl:Gl X "dict")(hlm:X.mg "dict"=none)(hlv:bootBuiltins "dict"=some (.type "dict"))(hg:Gl X "zip")(hm:X.mg "zip"=none)(hv:bootBuiltins "zip"=some (.type "zip"))(ha:PA3 X [a,b] ta)(hs:starEach [a,b] X.env=[(false,eval a X.env),(false,eval b X.env)]:=by rfl)(hs2:starEach [b] X.env=[(false,eval b X.env)]:=by rfl)(hs':starEach [Expr.Call (.Name "zip" p) [a,b] [] pos] X.env=[(false,eval (.Call (.Name "zip" p) [a,b] [] pos) X.env)]:=by rfl):
  PE3 X (.Call (.Name "dict" p') [.Call (.Name "zip" p) [a,b] [] pos] [] pos') (uJn ta):=by
 intro pins s τ G H Q I h;obtain⟨σ0,I0,_,_⟩:=id I;refine Call_ (jQj I0 hl hlm hlv (lK6 ?_ hs' rfl));rw[hs'];refine Calls.spliced_cons (Call_ (jQj I0 hg hm hv (lK6 (thn (ha pos pins s τ G H _ I h) λus s1 w_=>w_.el λxs' G1 H1 e1 i_ r_ q1=>i_.el λσ I1 hs1 hg1=>r_.el λas ras rvs=> ?_) (by rw[hs,hs2]) (by rw[hs2];rfl))))
 obtain⟨x,y,is,ws,e,hx,hy,hle,hnd,h1,h2,q⟩:=q1;subst e;obtain⟨v,w,rfl,rv,rw'⟩:=kQ8 ras;obtain⟨u,u',rfl,ru,ru'⟩:=rvs.two;obtain⟨pa,vs,rfl,hq1,r1⟩:=jQs hg1 rv hx;obtain⟨pb,us,rfl,hq2,r2⟩:=jQs hg1 rw' hy;cases ru;cases ru';cases jQ0 r1;obtain⟨its1,rv1,p1,hz1⟩:=I1.list hq1;obtain⟨its2,rv2,p2,hz2⟩:=I1.list hq2;obtain⟨ps,rfl,rfl⟩:=jU5 rv1;have lu:us.length=ws.length:=r2.length.symm;have li:its2.length=us.length:=rv2.length.symm;rw[lJe] at hle h1 h2;have hal:pa<s1.heap.objs.size:=by obtain⟨o,ho,_⟩:=p1.isList;exact lJk ho
 have hbl:pb<s1.heap.objs.size:=by obtain⟨o,ho,_⟩:=p2.isList;exact lJk ho
 refine call_zip_2 p1.isList p2.isList λg hz hTI hTO hi1 hi2 hsz hk=> ?_
 have D:ZipApart (s1.heap.objs.size+4) (s1.heap.objs.size+2) (s1.heap.objs.size+3) s1.heap.objs.size (s1.heap.objs.size+1) pa pb:=uQo hal hbl;refine Calls.spliced_nil ?_;refine uK4 (s:={s1 with heap:=g}) (ps:=ps) (I1.ok.hd hc) D hz hTI hTO hi1 hi2 (p1.isList.at λo e=>hk _ o e) (p2.isList.at λo e=>hk _ o e) (by rw[mJh]) (by rw[mJh]) (by omega) hnd (by rw[lKe];omega) h1 λh' t' dd kp=> ?_
 have kp1:∀b o,s1.heap.get? b=some o->h'.get? b=some o:=λb o e=>by
  have lt:=lJk e;exact kp b o (lJt (mJi 4 lt)) (lJt (mJi 3 lt)) (lJt lt) (lJt (mJi 1 lt)) (hk b o e)
 have hD:s1.heap.objs.size<=g.objs.size:=by rw[hsz];omega
 have fr:=I1.hok.fresh hD;have big:=I1.big;have I3:=I1.laid (a:=g.objs.size) (o:= .dK (((ps.map (·.1)).map λi=>(Sum.inl i:Key)).zip us)) (h':=h') (t':=t') kp1 hD ⟨by rw[List.length_zip,lJe,lJe,lKe];omega,beq_eq_false_iff_ne.mpr (Ne.symm (lJt (lKi big hD))),((ps.map λp=>(Sum.inl p.1:Key)).zip its2),by rw[lJz];exact qZw (by rw[lJe];omega) rv2,dd⟩
 have ext:Ext H1 (upd H1 g.objs.size (.dK (((ps.map (·.1)).map λi=>(Sum.inl i:Key)).zip us))):= .upd (.none fr)
 exact⟨.ref _,_,_,e1.trans ext,⟨σ,I3,hs1.mono ext,hg1.upd (.none fr) (go:= .dck (((ps.map (·.1)).map λi=>(Sum.inl i:Key)).zip ws)) ⟨_,jK2,qQi (by rw[lJe,lJe];omega) (Reps.mono ext _ r2)⟩⟩,⟨.ref _,rfl,rfl⟩,q _ (hg1.fresh fr)⟩
end
end L3
namespace L3
open PySem PySem.Spec PyProof.Rows L2
section
variable {w:World}{prog:Program}{A:Around}{E:Value->Shared->Prop}{s:Shared}
set_option maxHeartbeats 3201000 in
theorem uJs{l:Addr}{items:Array Value}{kb:List (TKey×Addr)}{Q:Value->Shared->Prop}(hh:A.handled=none)(hu:A.units+20<cLine)(hl:s.heap.IsTuple l items)(hi:items.toList=kb.map λe=> .ref e.2)(hk:∀e,e∈kb->intT e.1=true/\(jJg prog w).is s.heap e.1 e.2){us:List TKey}(hus:us.length<400)(hkus:∀e,e∈kb->e.1∈us)(h:∀(h':Heap)(tk:Nat),SetIs prog w h' s.heap.objs.size kb->(∀b o,s.heap.get? b=some o->h'.get? b=some o)->Q (.ref s.heap.objs.size) {s with heap:=h',toks:=tk}):wpAny (model prog w) A (call (.type "set") [.ref l]) Q E s:=by
 (obtain⟨c,tl,hmro⟩:=lV1.mro)
 (have hmade:=lV1.made)
 have hsub:=lV1.sub;have hsz:items.size=kb.length:=by rw[<-lKn,hi,lJe]
 (refine wpAny_call (mJs ?_))
 refine (show wpAny _ _ (callAny (.type "set") _) _ _ _ from ?_)
 (refine lJd ⟨Code.quiet_builtin _ (by decide +kernel),lQs F.entry_type_call ?_⟩)
 (rw[Around.under_plain (weight_type_call_type "set" [.ref l] []) rfl])
 (have h1:=lV1.notType)
 (have h2:=lV1.canCreate)
 (have hct:=F.typeCall_set_1 (.ref l))
 (repeat (any_goals (first | assumption | wp_step)))
 refine lYr (qV7 (.ref l) (E:=E) (Q₁:=λobj s₁=>obj= .ref s.heap.objs.size/\s₁={s with heap:=s.heap.push (jVx w)}) ⟨rfl,rfl⟩) λr s₁ hr=> ?_
 cases r with
 | error e=>exact hr
 | ok fl=>
  cases fl with
  | ret obj=>
   obtain⟨rfl,rfl⟩:=hr;have hS:(s.heap.push (jVx w)).get? s.heap.objs.size=some (jVx w):=lJ8 _ rfl;have hT:Shared.TypeIs {s with heap:=s.heap.push (jVx w)} (.ref s.heap.objs.size) "set":=⟨_,hS,rfl⟩
   (have hli:=lV1.init.lookup)
   (have hbi:=lV1.init.bind (.ref s.heap.objs.size))
   (repeat (any_goals (first | assumption | wp_step)))
   refine lYr (codeAny_call_builtin (R:=wants (λr s₂=>r= .none/\∃h' tk,s₂={s with heap:=h',toks:=tk}/\SetIs prog w h' s.heap.objs.size kb/\(∀b o,s.heap.get? b=some o->h'.get? b=some o)) E) lV1.init.plain F.entry_set_init (check_set_init_1 hT ?_)) λr₂ s₂ hr₂=> ?_
   ·(obtain⟨ol,hol,hcl,nl,hdl⟩:=hl)
    (obtain⟨ocls,odict,odata,oslots⟩:=ol)
    simp only at hcl hdl;subst hcl;subst hdl;have hol':(s.heap.push (jVx w)).get? l=some {cls:= .type "tuple",dict:=odict,data:= .seq items nl,slots:=oslots}:=lJm _ hol;have hsls:=F.sub_tuple_set
    (have hslf:=F.sub_tuple_frozenset)
    (have hne:(Value.type "tuple" == Value.type "dict")=false:=by decide)
    have hl1:(s.heap.push (jVx w)).IsTuple l items:=⟨_,hol',rfl,nl,rfl⟩
    (unfold Builtin.«set.__init__» noKeywords Builtin.Frozenset.updateFrom)
    generalize hPI:pyIter=PI
    unfold jVx at hS hol' hl1 ⊢
    wp_walk
    subst hPI
    (refine lZi hl1 ?_)
    (refine lJa (wpAny_runValue ?_))
    (have hlS:l<s.heap.objs.size:=lJk hol)
    (have hh3:A.in1.in1.in1.handled=none:=by simp[hh])
    have hneI:l≠(s.heap.push (jVx w)).objs.size:=by
     (rw[lXt];exact lJt (Nat.lt_succ_of_lt hlS))
    have hSf:s.heap.objs.size∉[(s.heap.push (jVx w)).objs.size,l]:=by
     rw[lXt];simp only[lJp,lKr,lQr,not_or]
     (exact⟨lJt (Nat.lt_succ_self _),lVf hlS⟩)
    have hval:∀(i:Nat)(v:Value),items[i]? =some v->∃e,kb[i]? =some e/\v= .ref e.2:=by
     intro i v hv;rw[<-lJ5,hi,lJ4] at hv;obtain⟨e,e1,e2⟩:=lQn.mp hv;exact⟨e,e1,e2.symm⟩
    have up:∀b o,s.heap.get? b=some o->((s.heap.push (jVx w)).push {cls:= .type "tuple_iterator",data:= .fields #[.ref l,.int 0 0]}).get? b=some o:=λb o e=>lJm _ (lJm _ e)
    refine qV8 (A:=A.in1.in1) ((Walks.tuple hh3 _ l hneI items).toS) s.heap.objs.size hSf ?hIt kb ?hu (λe he=>(hk e he).1) hval hsz hus hkus (items.size-0) 0 _ (by omega) (lJn _) ⟨⟨_,lJ8 _ rfl,rfl,rfl⟩,(hl1.push _)⟩ ?hks ?hS0 ?hR
    case hIt=>
     rintro i s2 o2 ⟨⟨o3,e3,c3,_⟩,_⟩ e2;rw[e3] at e2;cases e2;rw[c3];decide
    case hu=>
     show A.in1.in1.in1.units+6<cLine
     rw[lQk,lQk,lQk];omega
    case hks=>
     exact λe he=>jKs (λb o e _=>up b o e) (hk e he).2
    case hS0=>
     exact (qKs (prog:=prog) (w:=w) rfl (h:=s.heap)).move (λo e=>lJm _ e) λb o e _=>lJm _ e
    case hR=>
     intro s' hm hS'
     (obtain⟨h',g',d',tk',os'⟩:=s')
     cases (show g'=s.gens from hm.gens)
     cases (show d'=s.drawn from hm.drawn)
     cases (show os'=s.os from hm.os)
     refine (show wpAny _ _ _ _ _ _ from lJd ?_)
     refine (show wpAny _ _ (ret Value.none) _ _ _ from lJd ⟨rfl,h',tk',rfl,hS',λb o e=> ?_⟩)
     have hb:=lJk e;refine hm.heap b o ?_ (up b o e);simp only[lJp,lKr,lQr,not_or];exact⟨lJt hb,by rw[lXt];exact lJt (Nat.lt_succ_of_lt hb)⟩
   .cases r₂ with
    | error e=>exact hr₂
    | ok fl₂=>
     cases fl₂ with
     | ret r=>
      (obtain⟨rfl,h',tk,rfl,hS',hk'⟩:=hr₂)
      (repeat (any_goals (first | assumption | wp_step)))
      exact h _ _ hS' hk'
     | _=>exact hr₂.elim
  | _=>exact hr.elim
end
variable {X:Cx}
noncomputable def qKj(ta:TA3):TE3:=λτ G Q=>ta τ G λvs G1=>∃(x:T)(b:Bool)(tks:List (List T×TKey)),vs=[x]/\x= .tup (tks.map λe:List T×TKey=> .tup e.1)/\(∃us:List TKey,us.length<64/\∀e,e∈tks->e.2∈us)/\(∀e,e∈tks->SKey b e.1 e.2)/\(∀e,e∈tks->∀e',e'∈tks->(ltK e.2 e'.2).isSome=true)/\
 ∀(p:Addr)(ys:List T)(kys:List (List T×TKey)),G1 p=none->Rising (tks.map λe=> .tup e.1) ys kys->Q (.ref p) (gup G1 p (.lst ys))
theorem uKz{pos pos' p p':Pos}{a:Expr}{ta:TA3}(hc:X.calm=true)(hu:X.A.units+20<cLine)(hl:Gl X "sorted")(hlm:X.mg "sorted"=none)(hlv:bootBuiltins "sorted"=some (.builtin "sorted"))(hg:Gl X "set")(hm:X.mg "set"=none)(hv:bootBuiltins "set"=some (.type "set"))(ha:PA3 X [a] ta)(hs:starEach [a] X.env=[(false,eval a X.env)]:=by rfl)(hs':starEach [Expr.Call (.Name "set" p) [a] [] pos] X.env=[(false,eval (.Call (.Name "set" p) [a] [] pos) X.env)]:=by rfl):
  PE3 X (.Call (.Name "sorted" p') [.Call (.Name "set" p) [a] [] pos] [] pos') (qKj ta):=by
 intro pins s τ G H Q I h;obtain⟨σ,I0,_,_⟩:=id I;refine Call_ (jQj I0 hl hlm hlv (mJ0 ?_ hs' rfl));rw[hs'];refine Calls.spliced_cons (Call_ (jQj I0 hg hm hv (lK6 (thn (ha pos pins s τ G H _ I h) λus s1 w_=>w_.el λys G1 H1 e1 i_ r_ q1=>i_.el λσ1 I1 hs1 hg1=>r_.el λas ras rvs=> ?_) hs rfl)))
 obtain⟨x,b,tks,e,hx,⟨us,hus,hkus⟩,hk,hlt,q⟩:=q1;subst e;obtain⟨v,rfl,rv⟩:=jUn ras;obtain⟨u,rfl,ru⟩:=rvs.one;subst hx;obtain⟨pa,vs,rfl,hq,r⟩:=(show ∃a vs,v= .ref a/\H1 a=some (.tup vs)/\Reps X.K H1 _ vs from rv)
 cases ru;obtain⟨its,rvv,pl,hz⟩:=I1.tuple (.of hq);obtain⟨tb,t1,t2,t3,t4⟩:=kVd hk r rvv;have tl:tb.length=tks.length:=by rw[<-t1,lJe]
 have hmem:∀e,e∈tb->e.1∈tks:=λe he=>by rw[<-t1];exact lJl.mpr ⟨e,he,rfl⟩
 have hkb:∀e,e∈(tb.map λe=>(e.1.2,e.2))->e.1∈us:=by
  intro e he;obtain⟨y,hy,rfl⟩:=lJl.mp he;exact hkus _ (hmem y hy)
 refine uJs (kb:=tb.map λe=>(e.1.2,e.2)) (I1.ok.hd hc) hu pl (by rw[mJh,t3,lJz];rfl) (λe he=> ?_) (by omega) hkb λh2 tk2 hS kp2=> ?_
 .obtain⟨y,hy,rfl⟩:=lJl.mp he;exact⟨(hk _ (hmem y hy)).2.2,jYn I1.hok (t4 y hy).1⟩
 refine Calls.spliced_nil ?_;refine kZ7 (s:={s1 with heap:=h2,toks:=tk2}) (b:=b) hS (I1.ok.hd hc) hu (λe he=> ?_) (λe he e' he'=> ?_) hus hkb λes h3 tk3 D c hp so hD hoD kp3=> ?_
 .obtain⟨y,hy,rfl⟩:=lJl.mp he;exact (hk _ (hmem y hy)).2
 .obtain⟨y,hy,rfl⟩:=lJl.mp he;obtain⟨y',hy',rfl⟩:=lJl.mp he';exact hlt _ (hmem y hy) _ (hmem y' hy')
 obtain⟨tb',p1,p2⟩:=qQj es λe he=>hp.sub e he
 have kp:∀b o,s1.heap.get? b=some o->h3.get? b=some o:=λb o e=>kp3 b o (kp2 b o e)
 have hD1:s1.heap.objs.size<=D:=by
  obtain⟨o,_,_,_,_,d,_⟩:=hS;exact lKx (lV4 (lJk d.get)) hD
 have fr:=I1.hok.fresh hD1
 have es_len:tb'.length<=us.length:=by
  have:=hp.few hkb;rw[<-p1,lJe] at this;exact this
 have I3:=I1.laid (a:=D) (o:= .lst (tb'.map λe=>V.ref e.2)) (h':=h3) (t':=tk3) kp hD1 ⟨by rw[lJe,lKe];omega,tb'.map λe=>Value.ref e.2,c,jX4 tb',by rw[<-p1,lJz] at hoD;exact hoD⟩
 have ext:Ext H1 (upd H1 D (.lst (tb'.map λe=>V.ref e.2))):= .upd (.none fr)
 refine⟨.ref D,_,_,e1.trans ext,⟨σ1,I3,hs1.mono ext,hg1.lstNew (kVq tb' λe he=>(t4 e (p2 e he)).2) (.none fr)⟩,⟨.ref D,rfl,rfl⟩,?_⟩
 refine q D _ (tb'.map (·.1)) (hg1.fresh fr) ⟨by rw[lJz];rfl,λe he=> ?_,λt=>⟨λht=> ?_,λht=> ?_⟩,?_⟩
 .obtain⟨y,hy,rfl⟩:=lJl.mp he;exact (hk _ (hmem y (p2 y hy))).1
 .obtain⟨y,hy,rfl⟩:=lJl.mp ht;exact lJl.mpr ⟨y.1,hmem y (p2 y hy),rfl⟩
 .obtain⟨y,hy,rfl⟩:=lJl.mp ht;rw[<-t1] at hy;obtain⟨z,hz',rfl⟩:=lJl.mp hy;have:=hp.all (z.1.2,z.2) (lJl.mpr ⟨z,hz',rfl⟩);rw[<-p1,lJz] at this;obtain⟨z',hz'',ez⟩:=lJl.mp this;have ek:z'.1.2=z.1.2:=ez;refine lJl.mpr ⟨z',hz'',?_⟩;have k1:=(hk _ (hmem z' (p2 z' hz''))).1;have k2:=(hk _ (hmem z hz')).1;rw[ek] at k1;rw[qJo k1 k2]
 .rw[<-p1,lQo] at so;rw[lQo];exact so
def rLtK:R3:=λx y G Q=>∃(xs ys:List T)(k l:TKey)(b:Bool),x= .tup xs/\y= .tup ys/\jQr xs=some k/\jQr ys=some l/\ltK k l=some b/\Q (.bl b) G
theorem uXl(hu:X.A.units+20<cLine):Op3 X (compareOp .Lt) rLtK:=by
 rintro pins s τ G H x y v u Q ⟨σ,I,hs,hg⟩ ⟨a,ra,rv⟩ ⟨b,rb,ru⟩ ⟨xs,ys,k,l,c,e1,e2,h1,h2,h3,q⟩;subst e1;subst e2;obtain⟨pa,vs,ea,hqa,r1⟩:=(show ∃a' vs,a= .ref a'/\H a'=some (.tup vs)/\Reps X.K H xs vs from ra)
 obtain⟨pb,ws,eb,hqb,r2⟩:=(show ∃a' vs,b= .ref a'/\H a'=some (.tup vs)/\Reps X.K H ys vs from rb)
 subst ea;subst eb;cases rv;cases ru;refine qZv (kYu (kYu kXb)) (show X.A.units+_<cLine from ?_) (jYn I.hok (jQw h1 hqa r1)) (jYn I.hok (jQw h2 hqb r2)) h3 ⟨.bl c,G,H,.refl H,⟨σ,I,hs,hg⟩,⟨.bl c,rfl,rfl⟩,q⟩
 omega
def rLtT:R3:=λx y G Q=>rLt x y G Q\/rLtK x y G Q
theorem uUx(hu:X.A.units+20<cLine):Op3 X (compareOp .Lt) rLtT:=o_lt.or (uXl hu)
end L3
namespace W
open PySem L3
abbrev C0:TE3:=tVar 0
abbrev C1:TE3:=tVar 1
abbrev C2:TE3:=tVar 2
abbrev C3:TE3:=tVar 3
abbrev C4:TE3:=tVar 4
abbrev C5:TE3:=tVar 5
abbrev C6:TE3:=tVar 6
abbrev C7:TE3:=tVar 7
abbrev C8:TE3:=tVar 8
abbrev C9:TE3:=tVar 9
abbrev C10:TE3:=tVar 10
abbrev C11:TE3:=tVar 11
abbrev D0:TA3:=jJb C0 tNil
abbrev D1:TA3:=jJb C1 tNil
abbrev D2:TA3:=jJb C2 tNil
abbrev D3:TA3:=jJb C3 tNil
abbrev D4:TA3:=jJb C4 tNil
abbrev D5:TA3:=jJb C5 tNil
abbrev D6:TA3:=jJb C6 tNil
abbrev D7:TA3:=jJb C7 tNil
abbrev D8:TA3:=jJb C8 tNil
abbrev D9:TA3:=jJb C9 tNil
abbrev D10:TA3:=jJb C10 tNil
abbrev D11:TA3:=jJb C11 tNil
abbrev tI0:TE3:=tC (.int 0)
abbrev tI1:TE3:=tC (.int 1)
abbrev tI2:TE3:=tC (.int 2)
abbrev M1:TG3:=jJj 1
abbrev M2:TG3:=jJj 2
abbrev M3:TG3:=jJj 3
abbrev M4:TG3:=jJj 4
abbrev M5:TG3:=jJj 5
abbrev M6:TG3:=jJj 6
abbrev M7:TG3:=jJj 7
abbrev M8:TG3:=jJj 8
abbrev M9:TG3:=jJj 9
abbrev M10:TG3:=jJj 10
abbrev M11:TG3:=jJj 11
noncomputable abbrev fF:=false
noncomputable abbrev tT:=true
local macro_rules
 | `(tactic| exists $ts,*) => do
  let ls ← ts.getElems.mapM fun t => `(Lean.Parser.Tactic.simpLemma| $t:term)
  let ns ← ("D0 D1 D2 D3 D4 D5 D6 D7 D8 D9 D10 D11 tI0 tI1 tI2 M1 M2 M3 M4 M5 M6 M7 M8 M9 M10 M11 fF tT C0 C1 C2 C3 C4 C5 C6 C7 C8 C9 C10 C11 tSeq tIfS jJx tOp rGt rLt rGe rSub L3.rI0 L3.rI rIxF tVar tC tAsg tCB jJb tNil kV2 rLen rAbs rMax qQd gTup jKc gNil gSub jJj jU3 tRet uQz jKj jU1 jJm tLst tTup tIf tNot tAnd tOr kKw tOrV uJm tPar jKm jVi rMod uUe rPow rIsN uJz kJx tTru rTru truT tUn rNeg qZa qX2 qX4 qX3 uKw kXl uKj uKk at0 at1 at2 ix30 ix31 ix32 qXd qXa uKl kYg Option.map_some and_assoc T.int.injEq T.bl.injEq T.tup.injEq T.ref.injEq List.cons.injEq and_true true_and exists_eq_left exists_eq_left' exists_and_left exists_eq_right List.getElem?_cons_zero List.getElem?_cons_succ List.set_cons_zero List.set_cons_succ List.length_cons List.length_nil Nat.reduceAdd Option.some.injEq jJh qUg reduceCtorEq false_and exists_false exists_const Bool.true_eq Bool.not_eq_true' Bool.not_true Bool.not_false if_true if_false decide_eq_true_eq tBM jQa jZw jKi qV2 jU6 GO.lst.injEq msk List.zipWith_cons_cons List.zipWith_nil_left List.zipWith_nil_right Bool.false_eq_true uJe".splitOn " ").toArray.mapM fun n => `(Lean.Parser.Tactic.simpLemma| $(Lean.mkIdent n.toName):term)
  let al:=ns++ls
  `(tactic| ((try dsimp only [$al,*]); (try simp only [$al,*])))
local macro_rules
 | `(tactic| omega) => `(tactic| first | exact szle rfl | lia)
def BoxAt(G:Gp)(b:Addr)(n:Nat):Prop:=∃x y z:Int,G b=some (.lst [.int x,.int y,.int z])/\0<=x/\0<=y/\y<2147483648/\0<=z/\z<=n
def Keep(b:Addr)(G G':Gp):Prop:=∀c o,c≠b->G c=some o->G' c=some o
theorem Keep.refl(b:Addr)(G:Gp):Keep b G G:=λ_ _ _ h=>h
variable {b:Addr}{G G2:Gp}
theorem Keep.trans{G1:Gp}(h:Keep b G G1)(h':Keep b G1 G2):Keep b G G2:=λc o hc e=>h' c o hc (h c o hc e)
variable {o:GO}
theorem Keep.gup:Keep b G (gup G b o):=λc u hc e=>by rw[jJq hc];exact e
variable {p:Addr}
theorem Keep.new(hp:G p=none):Keep b G (L3.gup G p o):=λc u _ e=>by rw[jJq];exact e;rintro rfl;rw[hp] at e;cases e
abbrev RdOk(sp:Sp3)(rd:TS3)(N:List Str):Prop:=∀xs G Q,sp xs G Q->rd {nx:=λ_ G'=>Q .non G',rt:=Q} (jZh N xs) G
noncomputable def jJw:Sp3:=λxs G Q=>∃(b:Addr)(m:Int)(n:Nat),xs=[.ref b,.int m]/\BoxAt G b n/\n<2^40/\1<=m/\m<2^29/\∀(r:Int) G',0<=r->r<m->BoxAt G' b (n+1)->Keep b G G'->Q (.int r) G'
noncomputable def qZd:List Str:=["_law_box_here","_law_many","_law_found","_law_once"]
noncomputable def jZr:TS3:=
 (tSeq (tIfS (jJx (tOp rGt (tOp rIxF C0 tI0) tI0)) (tSeq (tAsg (tCB kV2 (jJb (tOp rIxF C0 tI0) D1)) (gTup 2 (jKc (gSub C0 tI0 jU3) (jKc M2 gNil))))
 (tRet C2)) jKj)
 (tSeq (tAsg (tOp jKm (tOp rIxF C0 tI2) tI1) (gSub C0 tI2 jU3))
 (tSeq (tAsg (tOp rMod (tOp jVi (tOp jKm (tOp rIxF C0 tI1) (tOp jVi (tC (.int 39373)) (tOp rIxF C0 tI2))) (tOp jKm (tC (.int 48271)) (tOp rIxF C0 tI2))) (tC (.int 2147483647))) M3)
 (tSeq (tAsg (tOp rMod (tOp jKm (tOp jVi C3 (tOp jKm (tOp rMod C3 (tC (.int 40009))) (tC (.int 7)))) (tOp rIxF C0 tI2)) (tC (.int 2147483629))) (gSub C0 tI1 jU3))
 (tRet (tOp rMod (tOp uUe (tOp rMod (tOp jVi (tOp rIxF C0 tI1) (tOp jKm (tOp rMod (tOp rIxF C0 tI1) (tC (.int 1009))) (tC (.int 3)))) (tC (.int 998244353))) (tC (.int 7))) C1))))))
theorem kVu:RdOk jJw jZr qZd:=by
 intro xs G Q h_;apply xe3 h_;clear h_;intro b m n;refine ae5 ?_;intro q0_ hn hm1 hm2 k;obtain⟨x,y,z,hb,hx,hy0,hy1,hz0,hz1⟩:=q0_;show jZr _ [some (.ref b),some (.int m),none,none] G
 exists jZr,jK6 hb,kYf hb
 have box:∀x' y' z':Int,0<=x'->0<=y'->y'<2147483648->0<=z'->z'<=n+1->BoxAt (gup G b (.lst [.int x',.int y',.int z'])) b (n+1):=λx' y' z' h1 h2 h3 h4 h5=>⟨x',y',z',jJh,h1,h2,h3,h4,by omega⟩
 split
 .refine⟨⟨by omega,by omega⟩,k _ _ (lV6 _ (by omega)) (lV7 _ (by omega)) (box _ _ _ (Int.ediv_nonneg hx (by omega)) hy0 hy1 hz0 (by omega)) .gup⟩
 .have a0:=lV6 ((y+39373*(z+1))*(48271+(z+1))) (b:=2147483647) (by decide)
  have a1:=lV7 ((y+39373*(z+1))*(48271+(z+1))) (b:=2147483647) (by decide)
  refine⟨.inl (by decide),.inr ⟨by omega,by omega⟩,by decide,by decide,?_⟩
  generalize (y+39373*(z+1))*(48271+(z+1))%2147483647=u at a0 a1 ⊢
  have b0:=lV6 (u*(u%40009+7)+(z+1)) (b:=2147483629) (by decide)
  have b1:=lV7 (u*(u%40009+7)+(z+1)) (b:=2147483629) (by decide)
  refine⟨.inl ⟨by omega,by omega⟩,by decide,by decide,?_⟩
  generalize (u*(u%40009+7)+(z+1))%2147483629=v at b0 b1 ⊢
  refine⟨.inl ⟨by omega,by omega⟩,by decide,⟨by decide,by decide⟩,by omega,?_⟩
  exact k _ _ (lV6 _ (by omega)) (lV7 _ (by omega)) (box _ _ _ hx b0 (by omega) (by omega) (by omega)) .gup
noncomputable abbrev jQk(ns:List Int):List T:=ns.map T.int
theorem sz:sizeLine=16777216:=PySem.sizeLine_eq
noncomputable def kKx:Sp3:=λxs G Q=>∃(c:Addr)(ns:List Int)(k:Int),xs=[.ref c,.int k]/\G c=some (.lst (jQk ns))/\ns.length<=63/\0<=k/\k<100/\∀p G',G p=none->BoxAt G' p 0->Sub G G'->Q (.ref p) G'
noncomputable def uQk:List Str:=["_law_script","_law_k","_law_cell"]
noncomputable def kK6:TS3:=
 (tSeq (tAsg (tOp rIxF (tOp jKm C0 (tOp jVi (tLst (jJb tI0 tNil)) (tOp jKm C1 tI1))) C1) M2)
 (tRet (tLst (jJb (tOp jVi (tCB rAbs D2) (tCB qQd (jJb (tOp rGe (tCB rAbs D2) (tOp rPow (tC (.int 10)) (tC (.int 18)))) tNil))) (jJb (tOp rMod (tOp jVi (tOp jKm (tOp jKm (tOp rMod C2 (tC (.int 2147483647))) (tOp jVi (tC (.int 7919)) C1)) (tC (.int 11))) (tC (.int 48271))) (tC (.int 2147483629))) (jJb tI0 tNil))))))
theorem qJd:RdOk kKx kK6 uQk:=by
 intro xs G Q h_;apply xe3 h_;clear h_;intro c ns k;refine ae5 ?_;intro hc hl hk0 hk1 kk;show kK6 _ [some (.ref c),some (.int k),none] G
 have hs:=sz
 exists kK6
 refine⟨by omega,λp hp=> ?_⟩
 have e1:mulR (gup G p (GO.lst [T.int 0])) (.ref p) (.int (k+1))=some (.newL (List.replicate (k+1).toNat [T.int 0]).flatten):=by
  simp only[mulR,jJh];rw[lJc];refine⟨?_,?_,?_⟩<;>simp<;>omega
 exists e1
 intro q hq;obtain⟨hqp,hq0⟩:=jKw hq;have hcp:=jJf hc hp;have hcq:=jJf hc hq0;have hc2:gup (gup G p (GO.lst [T.int 0])) q (GO.lst (List.replicate (k+1).toNat [T.int 0]).flatten) c=some (.lst (jQk ns)):=by rw[jJq hcq,jJq hcp];exact hc
 have hfl:(List.replicate (k+1).toNat [T.int 0]).flatten=List.replicate (k+1).toNat (T.int 0):=by
  induction (k+1).toNat with
  | zero=>rfl
  | succ n ih=>rw[lVi,lVv,ih];rfl
 have e2:=kZw (q:=q) hc2 jJh (by rw[hfl];simp;omega)
 exists e2
 intro r hr;obtain⟨hrq,hr1⟩:=jKw hr;obtain⟨hrp,hr0⟩:=jKw hr1
 obtain⟨v,hv⟩:∃v:Int,L2.atI (jQk ns++(List.replicate (k+1).toNat [T.int 0]).flatten) k=some (.int v):=by
  rw[atZ hk0,hfl]
  by_cases h:k.toNat<ns.length
  .rw[lKq (by simpa using h)]
   exact⟨ns[k.toNat],by simp[h]⟩
  .rw[lK2 (by simpa using h),lYt]
   exact⟨0,by rw[lJc];simp;omega⟩
 exists hv
 refine⟨⟨by decide,by decide,by decide⟩,.inr (by split<;>split<;>decide),by decide,.inl (by decide),.inr (by decide),by decide,by omega,λb hbn=> ?_⟩
 obtain⟨hbr,hb1⟩:=jKw hbn;obtain⟨hbq,hb2⟩:=jKw hb1;obtain⟨hbp,hb0⟩:=jKw hb2;refine kk b _ hb0 ⟨_,_,_,jJh,Int.mul_nonneg (by split<;>omega) (by split<;>split<;>decide),lV6 _ (by decide),?_,Int.le_refl _,by simp⟩ ((((Sub.new hp).over hq0).over hr0).over hb0)
 have:=lV7 ((v%2147483647+7919*k+11)*48271) (b:=2147483629) (by decide)
 omega
noncomputable def jV1:Sp3:=λxs G Q=>∃(ns:List Int)(m:Int),xs=[.scr (jQk ns),.int m]/\ns.length<=63/\1<=m/\m<=63/\∀p G' (ms:List Int),G p=none->G' p=some (.lst (jQk ms))->ms.length<=m.toNat->ms.length<=63->Sub G G'->Q (.ref p) G'
noncomputable def qJ6:List Str:=["_law_script","_law_many","_law_cells","_law_k","_law_cell"]
noncomputable def jV4:TS3:=
 (tSeq (tAsg (tCB kUc (jJb (tSl rSlF C0 kVg (qKk C1)) tNil)) M2)
 (tSeq (tFor (jZ7 (jJb (tSl rSlF C0 (qKk C1) (qKk (tC (.int 63)))) tNil)) (gTup 2 (jKc M3 (jKc M4 gNil))) (tAsg (tOp jKm (tOp rIxF C2 (tOp rMod C3 C1)) (tOp jVi C4 (tOp jKm C3 tI2))) (gSub C2 (tOp rMod C3 C1) jU3)))
 (tRet C2)))
theorem kK2:RdOk jV1 jV4 qJ6:=by
 intro xs G Q h_;apply xe2 h_;clear h_;intro ns m;refine ae4 ?_;intro hl hm1 hm2 kk;show jV4 _ [some (.scr (jQk ns)),some (.int m),none,none,none] G
 have hs:=sz
 exists jV4,tSl,rSlF,slR,kVg,qKk,kUc,kK7,jJv,jZ7
 intro p hp p1 hp1;obtain⟨hpp,hp10⟩:=jKw hp1;intro q hq;obtain⟨hq1,hq2⟩:=jKw hq;obtain⟨hqp,hq0⟩:=jKw hq2
 obtain⟨cs,hcs,lcs⟩:∃cs:List Int,cutT (jQk ns) none (some m)=jQk cs/\cs.length=min m.toNat ns.length:=by
  refine⟨ns.take (min m.toNat ns.length),?_,by simp⟩
  simp only[cutT,HT.sIx,lJe,lYn,Nat.sub_zero];rw[lJb (by omega)]
  simp[lV9]
 obtain⟨rs,hrs,lrs⟩:∃rs:List Int,cutT (jQk ns) (some m) (some 63)=jQk rs/\(rs.length<=63/\(0<rs.length->m.toNat<=ns.length)):=by
  refine⟨(ns.drop (min m.toNat ns.length)).take (min 63 ns.length-min m.toNat ns.length),?_,?_,?_⟩
  .simp only[cutT,HT.sIx,lJe];simp only[show ¬ m<0 by omega,show ¬ (63:Int)<0 by decide,lKa]
   simp[lV9,lYg]
  .simp;omega
  .simp;omega
 rw[hcs,hrs];refine⟨jQk rs,by simp only[jQf,jJh,asL],?_⟩
 refine⟨λi τ G'=>∃(v3 v4:Option T)(ms:List Int),τ=[some (.scr (jQk ns)),some (.int m),some (.ref p1),v3,v4]/\G' p1=some (.lst (jQk ms))/\ms.length=cs.length/\G' q=some (.lst (jQk rs))/\Sub G G',?_,?_,?_,?_⟩
 .refine⟨none,none,cs,rfl,by rw[jJq hq1.symm,jJh],rfl,jJh,(((Sub.new hp).over hp10).over hq0)⟩
 .intro i τ G' hi h_;apply xe3 h_;clear h_;intro v3 v4 ms;refine ae4 ?_;intro h1 h2 h3 h4;simp only[jQf,h3,asL]
 .intro i x τ G' hx h_;apply xe3 h_;clear h_;intro v3 v4 ms;refine ae4 ?_;intro h1 h2 h3 h4;have hi:i<rs.length:=by have:=(lJg.mp hx).1;simpa[jJ0] using this
  have hri:(jQk rs)[i]? =some (.int rs[i]):=by simp[hi]
  rw[jUr hri] at hx;cases hx;have hml:=lrs.2 (by omega)
  have hk0:(0:Int)<=(i:Int)%m:=lV6 _ (by omega)
  have hk1:(i:Int)%m<m:=lV7 _ (by omega)
  have hk:((i:Int)%m).toNat<ms.length:=by omega
  have hat:L2.atI (jQk ms) ((i:Int)%m)=some (.int ms[((i:Int)%m).toNat]):=by rw[atZ hk0];simp[hk]
  have hix:L2.ixN (jQk ms).length ((i:Int)%m)=some ((i:Int)%m).toNat:=ixZ hk0 (by simp;omega)
  exists jK6 h1,hat,jXj h1 hix
  refine⟨by omega,.inr ⟨by omega,by omega⟩,by omega,?_⟩
  exact⟨ms.set ((i:Int)%m).toNat (ms[((i:Int)%m).toNat]+rs[i]*((i:Int)+2)),by simp[jQk,List.map_set],by simpa using h2,by rw[jJq hq1];exact h3,h4.over hp10⟩
 .intro τ G' h_;apply xe3 h_;clear h_;intro v3 v4 ms;refine ae4 ?_;intro h1 h2 h3 h4
  exists tSeq
  exact kk p1 G' ms hp10 h1 (by omega) (by omega) h4
abbrev Web:=List (List (Nat×Nat))
noncomputable def encE(e:Nat×Nat):T:= .tup [.int e.1,.int e.2]
noncomputable def encR(r:List (Nat×Nat)):T:= .tup (r.map encE)
noncomputable def encW(W:Web):T:= .tup (W.map encR)
noncomputable def en(W:Web)(r i:Nat):Option (Nat×Nat):=(W[r]?).bind λes=>es[i]?
def Sym(W:Web):Prop:=∀r i s j,en W r i=some (s,j)->en W s j=some (r,i)
noncomputable def sw:Nat->Nat
 | 0=>1
 | 1=>0
 | n=>n
variable {n:Nat}
theorem uV4(h:n<=2):sw (sw n)=n/\sw n<=2:=by
 have:n=0\/n=1\/n=2:=by omega
 rcases this with rfl | rfl | rfl<;>exact⟨rfl,by decide⟩
def RowsAt(G:Gp)(h:Addr)(Hs:Web)(rs:List Addr):Prop:=G h=some (.lst (rs.map T.ref))/\rs.length=Hs.length/\∀(i:Nat)(r:Addr),rs[i]? =some r->∃hs:List (Nat×Nat),Hs[i]? =some hs/\G r=some (.lst (hs.map encE))
variable {G':Gp}{h:Addr}{Hs:Web}{rs:List Addr}
theorem RowsAt.sub(s:Sub G G')(x:RowsAt G h Hs rs):RowsAt G' h Hs rs:=⟨s _ _ x.1,x.2.1,λi r e=>let ⟨hs,h1,h2⟩:=x.2.2 i r e;⟨hs,h1,s _ _ h2⟩⟩
structure JoinOk (Hs:Web):Prop where
 len:Hs.length<=1000
 row:∀(r:Nat)(hs:List (Nat×Nat)),Hs[r]? =some hs->hs.length<=1000
 inj:∀r i r' i' h,en Hs r i=some h->en Hs r' i'=some h->r=r'/\i=i'
 part:∀r i t s,en Hs r i=some (t,s)->s<=2/\∃r' i',en Hs r' i'=some (t,sw s)
noncomputable def keyE(e:Nat×Nat):L2.TKey:=[.inl (.inl (e.1:Int)),.inl (.inl (e.2:Int))]
theorem qYb{a b:Nat×Nat}(h:keyE a=keyE b):a=b:=by
 obtain⟨a1,a2⟩:=a;obtain⟨b1,b2⟩:=b;simp only[keyE,lYk,Sum.inl.injEq,and_true] at h;obtain⟨h1,h2⟩:=h;rw[Int.ofNat.inj h1,Int.ofNat.inj h2]
theorem kKe{a b:Int}:jQr [.int a,.int b]=some [.inl (.inl a),.inl (.inl b)]:=rfl
theorem qVx{κ:Type}[DecidableEq κ](kvs:List (κ×T))(k j:κ)(v:T):valT (putT kvs k v) j=if k=j then some v else valT kvs j:=by
 unfold putT valT
 by_cases h:(kvs.any λkv=>decide (kv.1=k))=true
 .rw[lJc h]
  induction kvs with
  | nil=>simp at h
  | cons p ps ih=>
   rw[lJw,lQm,lQm]
   by_cases hp:p.1=k
   .rw[lJc hp]
    by_cases hj:k=j
    .simp[hp,hj]
    .have h1:¬ p.1=j:=λz=>hj (hp.symm.trans z)
     simp only[h1,decide_false,hj,lKa]
     by_cases h2:(ps.any λkv=>decide (kv.1=k))=true
     .have:=ih h2;rw[lJb hj] at this;exact this
     .have hm:ps.map (λkv=>if kv.1=k then (kv.1,v) else kv)=ps:=by
       rw[lQ6 (g:=id)];· simp
       intro a ha;have:¬ a.1=k:=λz=>h2 (lZb.mpr ⟨a,ha,by simp[z]⟩)
       simp[this]
      rw[hm]
   .rw[lJb hp]
    have h2:(ps.any λkv=>decide (kv.1=k))=true:=by
     rw[lQ0,lJv hp,Bool.false_or] at h;exact h
    have:=ih h2
    by_cases hj:p.1=j
    .have:¬ k=j:=λz=>hp (hj.trans z.symm)
     simp[hj,this]
    .simp only[hj,decide_false];exact this
 .rw[lJb h,List.find?_append]
  have hn:(kvs.find? λkv=>decide (kv.1=j))=none\/∃p,(kvs.find? λkv=>decide (kv.1=j))=some p:=by
   cases kvs.find? λkv=>decide (kv.1=j) with
   | none=>exact .inl rfl
   | some p=>exact .inr ⟨p,rfl⟩
  by_cases hj:k=j
  .subst hj
   have:(kvs.find? λkv=>decide (kv.1=k))=none:=by
    rw[List.find?_eq_none];intro a ha z;exact h (lZb.mpr ⟨a,ha,z⟩)
   simp[this]
  .rcases hn with e | ⟨p,e⟩
   .simp[e,hj]
   .simp[e,hj]
theorem qXq{κ:Type}[DecidableEq κ](kvs:List (κ×T))(k:κ)(v:T):(putT kvs k v).length<=kvs.length+1:=by
 unfold putT;split<;>simp
variable {ys:List T}{ks:L2.TKey}
theorem uK9{kvs:List (L2.TKey×T)}(h:G p=some (.dct kvs))(hk:jQr ys=some ks):dAt G (.ref p) (.tup ys)=some (valT kvs ks):=by simp only[dAt,h,hk]
theorem uKm{kvs:List (L2.TKey×T)}{t:T}(h:G p=some (.dct kvs))(hk:jQr ys=some ks)(ht:valT kvs ks=some t):ixR G (.ref p) (.tup ys)=some t:=by
 simp only[ixR,seqT,h,asL,uK9 h hk,ht]
variable {v:T}
theorem qXb{kvs:List (L2.TKey×T)}(h:G p=some (.dct kvs))(hk:jQr ys=some ks)(hz:kvs.length<sizeLine):setR G (.ref p) (.tup ys) v=some (gup G p (.dct (putT kvs ks v))):=by
 simp only[setR,h,hk,hz,lKt]
variable {r i:Nat}{e:Nat×Nat}
theorem jK1{W:Web}(h:en W r i=some e):∃es,W[r]? =some es/\es[i]? =some e:=by
 unfold en at h;cases e1:W[r]? with
 | none=>rw[e1] at h;cases h
 | some es=>rw[e1] at h;exact⟨es,rfl,h⟩
variable {es:List (Nat×Nat)}
theorem jU4{W:Web}(h1:W[r]? =some es)(h2:es[i]? =some e):en W r i=some e:=by unfold en;rw[h1];exact h2
structure Joined (Hs W:Web):Prop where
 len:W.length=Hs.length
 row:∀(r:Nat)(hs:List (Nat×Nat)),Hs[r]? =some hs->∃es,W[r]? =some es/\es.length=hs.length
 to:∀r i t sd s j,en Hs r i=some (t,sd)->en Hs s j=some (t,sw sd)->en W r i=some (s,j)
theorem Joined.sym{W:Web}(J:Joined Hs W)(ok:JoinOk Hs):Sym W:=by
 intro r i s j h;obtain⟨es,h1,h2⟩:=jK1 h;have hr:r<Hs.length:=by rw[<-J.len];exact (lJg.mp h1).1
 obtain⟨es',h3,h4⟩:=J.row r _ (lJj hr);rw[h1] at h3;cases h3;have hi:i<Hs[r].length:=by rw[<-h4];exact (lJg.mp h2).1
 have e1:en Hs r i=some (Hs[r][i]):=jU4 (lJj hr) (lJj hi)
 generalize Hs[r][i]=e0 at e1
 obtain⟨t,sd⟩:=e0;obtain⟨hsd,r',i',e2⟩:=ok.part r i t sd e1;have e3:=J.to r i t sd r' i' e1 e2;rw[h] at e3;cases e3;refine J.to s j t (sw sd) r i e2 ?_;rw[(uV4 hsd).1];exact e1
open Classical in
def oth(Hs:Web)(e:Nat×Nat):Nat×Nat:=if h:∃p:Nat×Nat,en Hs p.1 p.2=some (e.1,sw e.2) then h.choose else (0,0)
theorem qZo(h:en Hs r i=some (e.1,sw e.2)):en Hs (oth Hs e).1 (oth Hs e).2=some (e.1,sw e.2):=by
 unfold oth;have:∃p:Nat×Nat,en Hs p.1 p.2=some (e.1,sw e.2):=⟨(r,i),h⟩
 rw[dif_pos this];exact this.choose_spec
theorem qJp(ok:JoinOk Hs):Joined Hs (Hs.map (List.map (oth Hs))) where
 len:=by simp
 row:=λr hs h=>⟨hs.map (oth Hs),by simp[h],by simp⟩
 to:=λr i t sd s j h1 h2=>by
  obtain⟨es,q1,q2⟩:=jK1 h1;have:en (Hs.map (List.map (oth Hs))) r i=some (oth Hs (t,sd)):=jU4 (es:=es.map (oth Hs)) (by simp[q1]) (by simp[q2])
  rw[this];have h3:=qZo (e:=(t,sd)) h2;obtain⟨z1,z2⟩:=ok.inj _ _ _ _ _ h3 h2;rw[<-z1,<-z2]
def jV0:Sp3:=λxs G Q=>∃(h:Addr)(Hs:Web)(rs:List Addr),xs=[.ref h]/\RowsAt G h Hs rs/\JoinOk Hs/\∀G' W,Sub G G'->Joined Hs W->Q (encW W) G'
noncomputable def qJ5:List Str:=["_law_halves","_law_at","_law_room","_law_door","_law_half","_law_web_here","_law_doors","_law_tie","_law_side"]
noncomputable def jV3:TS3:=
 (tSeq (tAsg kVh M1)
 (tSeq (tFor (jKl (jJb (tCB rLen D0) tNil)) M2 (tFor (jZ7 (jJb (tOp rIxF C0 C2) tNil)) (gTup 2 (jKc M3 (jKc M4 gNil))) (tAsg (tTup (jJb C2 D3)) (gSub C1 C4 jU3))))
 (tSeq (tAsg (tLst tNil) M5)
 (tSeq (tFor (iSeq C0) M6 (jU1 (tBM "list" jQa C5 (jJb (tCB jKi (jJb (jUc [fF,fF,fF,fF,fF,fF,fF,tT,tT] (iSeq C6) (gTup 2 (jKc M7 (jKc M8 gNil))) jU6 (tOp rIxF C1 (tTup (jJb C7 (jJb (tOp rIxF (tLst (jJb tI1 (jJb tI0 (jJb tI2 tNil)))) C8) tNil))))) tNil)) tNil))))
 (tRet (tCB jKi D5))))))
def Tab(Hs:Web)(kvs:List (L2.TKey×T))(done:Nat->Nat->Prop):Prop:=∀r i e,en Hs r i=some e->done r i->valT kvs (keyE e)=some (encE (r,i))
theorem jY0{x:T}(h:(rngT 0 n)[i]? =some x):i<n/\x= .int i:=by
 unfold rngT at h;rw[lJ4] at h
 have hi:i<n:=by
  rcases lKw i n with z | z
  .exact z
  .rw[lJ3 (by simpa using z)] at h;cases h
 simp[hi] at h;exact⟨hi,h.symm⟩
theorem jK3:(rngT 0 n).length=n:=by simp[rngT]
theorem kK1:RdOk jV0 jV3 qJ5:=by
 intro xs G Q h_;apply xe3 h_;clear h_;intro h Hs rs;refine ae3 ?_;intro q0_ ok kk;obtain⟨hh,hlen,hrow⟩:=q0_;show jV3 _ [some (.ref h),none,none,none,none,none,none,none,none] G
 have hs:=sz;have hL:=ok.len
 exists jV3,kVh,jJv,jKl
 refine .inl λd hd=> ?_
 have hhd:=jJf hh hd;have hrl:(rs.map T.ref).length=Hs.length:=by simp[hlen]
 refine⟨rs.map T.ref,by simp only[seqT,jJq hhd,hh,asL],by rw[hrl];omega,by rw[hrl];omega,?_⟩
 rw[hrl,show ((Hs.length:Int)).toNat=Hs.length by omega]
 refine⟨λr τ G'=>∃(v2 v3 v4:Option T)(kvs:List (L2.TKey×T)),τ=[some (.ref h),some (.ref d),v2,v3,v4,none,none,none,none]/\G' d=some (.dct kvs)/\kvs.length<=1000*r/\Tab Hs kvs (λr' _=>r'<r)/\Sub G G',?_,?_,?_,?_⟩
 .exact⟨none,none,none,[],rfl,jJh,lJn _,λr i e _ z=>absurd z (lKs _),.new hd⟩
 .intros;trivial
 .intro r x τ G1 hx h_;apply xe4 h_;clear h_;intro v2 v3 v4 kvs;refine ae4 ?_;intro hdk hkl tab sb;obtain⟨hr,rfl⟩:=jY0 hx;have hri:r<rs.length:=by omega
  obtain⟨hs',hH,hG⟩:=hrow r rs[r] (lJj hri);have hh1:=sb _ _ hh;have hG1:=sb _ _ hG;have hat:L2.atI (rs.map T.ref) (r:Int)=some (.ref rs[r]):=by rw[atN];simp[hri]
  have hrow1000:=ok.row r hs' hH
  exists jJv,jZ7,jK6 hh1,hat
  refine⟨hs'.map encE,by simp only[jQf,hG1,asL],?_⟩
  refine⟨λi τ G'=>∃(v3 v4:Option T)(kvs:List (L2.TKey×T)),τ=[some (.ref h),some (.ref d),some (.int r),v3,v4,none,none,none,none]/\G' d=some (.dct kvs)/\kvs.length<=1000*r+i/\Tab Hs kvs (λr' i'=>r'<r\/(r'=r/\i'<i))/\Sub G G',?_,?_,?_,?_⟩
  .exact⟨v3,v4,kvs,rfl,hdk,hkl,λr' i' e he hd'=>tab r' i' e he (by rcases hd' with z | ⟨_,z⟩;exact z;exact absurd z (lKs _)),sb⟩
  .intro i τ G' hi h_;apply xe3 h_;clear h_;intro v3 v4 kvs;refine ae4 ?_;intro h1 h2 h3 h4;simp only[jQf,h4 _ _ hG,asL]
  .intro i x τ G2 hx h_;apply xe3 h_;clear h_;intro v3 v4 kvs;refine ae4 ?_;intro h1 h2 h3 h4;have hi:i<hs'.length:=by have:=(lJg.mp hx).1;simpa[jJ0] using this
   have hri2:(hs'.map encE)[i]? =some (encE hs'[i]):=by simp[hi]
   rw[jUr hri2] at hx;cases hx;have hz:kvs.length<sizeLine:=by omega
   exists encE,qXb h1 kKe hz
   refine⟨by omega,?_⟩
   refine⟨putT kvs (keyE hs'[i]) (encE (r,i)),rfl,by have:=qXq kvs (keyE hs'[i]) (encE (r,i));omega,λr' i' e he hd'=> ?_,h4.over hd⟩
   show valT (putT kvs (keyE hs'[i]) _) (keyE e)=_
   rw[qVx];have eri:en Hs r i=some hs'[i]:=jU4 hH (lJj hi)
   by_cases hk:keyE hs'[i]=keyE e
   .rw[lJc hk];have:=qYb hk;subst this;obtain⟨z1,z2⟩:=ok.inj _ _ _ _ _ eri he;subst z1;subst z2;rfl
   .rw[lJb hk];refine h3 r' i' e he ?_
    rcases hd' with z | ⟨z1,z2⟩
    .exact .inl z
    .subst z1
     by_cases hii:i'=i
     .subst hii;rw[eri] at he;cases he;exact absurd rfl hk
     .exact .inr ⟨rfl,by omega⟩
  .intro τ G' h_;apply xe3 h_;clear h_;intro v3 v4 kvs;refine ae4 ?_;intro h1 h2 h3 h4;refine⟨some (.int r),v3,v4,rfl,kvs,h1,?_,λr' i' e he hd'=>h3 r' i' e he ?_,h4⟩
   .simp only[jJ0,lJe] at h2;omega
   .rcases lKw r' r with z | z
    .exact .inl z
    .have:r'=r:=by omega
     subst this;obtain⟨es,q1,q2⟩:=jK1 he;rw[hH] at q1;cases q1;exact .inr ⟨rfl,by simpa[jJ0] using (lJg.mp q2).1⟩
 .intro τ G1 h_;apply xe4 h_;clear h_;intro v2 v3 v4 kvs;refine ae4 ?_;intro hdk hkl tab sb;rw[jK3] at tab
  exists jJv,iSeq
  refine⟨lJn _,λw hw=> ?_⟩
  have hdw:=jJf hdk hw;have hhw:=jJf (sb _ _ hh) hw;refine⟨rs.map T.ref,by simp only[seqT,jJq hhw,sb _ _ hh,asL],?_⟩
  refine⟨λi τ G'=>∃(v6:Option T),τ=[some (.ref h),some (.ref d),v2,v3,v4,some (.ref w),v6,none,none]/\G' w=some (.lst ((Hs.take i).map λhs=>encR (hs.map (oth Hs))))/\Sub G1 G',?_,?_,?_,?_⟩
  .exact⟨none,rfl,by simp[jJh],.new hw⟩
  .intro i τ G' hi h_;apply xe1 h_;clear h_;intro v6;refine ae2 ?_;intro h1 h2;simp only[seqT,h2 _ _ (sb _ _ hh),asL]
  .intro i x τ G2 hx0 h_;apply xe1 h_;clear h_;intro v6;refine ae2 ?_;intro h1 h2;obtain⟨ra,hx,rfl⟩:=jJ7 hx0;obtain⟨hs',hH,hG⟩:=hrow i ra hx;have hG2:=h2 _ _ (sb _ _ hG);have hrow1000:=ok.row i hs' hH
   exists iSeq,jKq h1
   refine⟨hs'.map encE,jJn hG2,?_⟩;refine jK4 (λe=>encE (oth Hs e)) (by omega) (λG' s=>jJn (s _ _ hG2)) ?_ ?_
   .intro j e he G' K K0 s hk;obtain⟨t,sd⟩:=e;have hen:=jU4 hH he;obtain⟨hsd,r',i',e2⟩:=ok.part _ _ _ _ hen;have hv:=qZo (e:=(t,sd)) e2;have hr':(oth Hs (t,sd)).1<List.length Hs:=by obtain⟨es,q1,q2⟩:=jK1 hv;exact (lJg.mp q1).1
    have ht:=tab _ _ _ hv hr';have hd3:=s _ _ (h2 _ _ hdk)
    exists encE
    refine⟨by omega,λp hp=> ?_⟩
    have hdp:=jJf hd3 hp
    have hsw:L2.atI [T.int 1,T.int 0,T.int 2] (sd:Int)=some (.int (sw sd:Int)):=by
     have:sd=0\/sd=1\/sd=2:=by omega
     rcases this with rfl | rfl | rfl<;>rw[atN]<;>rfl
    refine⟨_,hsw,by omega,_,uKm (ks:=[.inl (.inl (t:Int)),.inl (.inl (sw sd:Int))]) (by rw[jJq hdp];exact hd3) kKe ht,hk _ (.new hp)⟩
   .intro D G3 hD h3 h4
    exists jJn h3,h4 _ _ h1
    refine⟨by simp;omega,?_,((h2.trans h4).over hw)⟩
    rw[lQe,hH];simp[encR]
  .intro τ G' h_;apply xe1 h_;clear h_;intro v6;refine ae2 ?_;intro h1 h2
   exists jJn h1
   have e1:(Hs.take (rs.map T.ref).length).map (λhs=>encR (hs.map (oth Hs)))=(Hs.map (List.map (oth Hs))).map encR:=by
    rw[hrl,lQt,lJz];rfl
   rw[e1];exact kk G' _ (sb.trans h2) (qJp ok)
variable {m:Nat}
theorem BoxAt.mono(h:BoxAt G b n)(hm:n<=m):BoxAt G b m:=by
 obtain⟨x,y,z,h1,h2,h3,h4,h5,h6⟩:=h;exact⟨x,y,z,h1,h2,h3,h4,h5,by omega⟩
theorem BoxAt.some(h:BoxAt G b n):∃o,G b=some o:=by
 obtain⟨x,y,z,h1,_⟩:=h;exact⟨_,h1⟩
theorem BoxAt.sub(h:BoxAt G b n)(s:Sub G G'):BoxAt G' b n:=by
 obtain⟨x,y,z,h1,h2,h3,h4,h5,h6⟩:=h;exact⟨x,y,z,s _ _ h1,h2,h3,h4,h5,h6⟩
theorem BoxAt.gup(h:BoxAt G b n)(hp:b≠p):BoxAt (gup G p o) b n:=by
 obtain⟨x,y,z,h1,h2,h3,h4,h5,h6⟩:=h;exact⟨x,y,z,by rw[jJq hp];exact h1,h2,h3,h4,h5,h6⟩
theorem Keep.sub(h:Sub G G'):Keep b G G':=λc o _ e=>h c o e
theorem Keep.over(h:Keep b G G')(hp:G p=none):Keep b G (L3.gup G' p o):=λc u hc e=>by rw[jJq];exact h c u hc e;rintro rfl;rw[hp] at e;cases e
theorem RowsAt.keep(s:Keep b G G')(hb:b∉h::rs)(x:RowsAt G h Hs rs):RowsAt G' h Hs rs:=by
 simp only[lJp,not_or] at hb;exact⟨s _ _ (Ne.symm hb.1) x.1,x.2.1,λi r e=>let ⟨hs,h1,h2⟩:=x.2.2 i r e;⟨hs,h1,s _ _ (by rintro rfl;exact hb.2 (lJo e)) h2⟩⟩
theorem RowsAt.set{a:Addr}{hs':List (Nat×Nat)}(x:RowsAt G h Hs rs)(hn:(h::rs).Nodup)(hr:rs[r]? =some a):RowsAt (gup G a (.lst (hs'.map encE))) h (Hs.set r hs') rs:=by
 rw[lKz] at hn;have hrl:r<rs.length:=(lJg.mp hr).1;refine⟨by rw[jJq];exact x.1;rintro rfl;exact hn.1 (lJo hr),by rw[lQz];exact x.2.1,λi c e=> ?_⟩
 by_cases hi:i=r
 .subst hi;rw[hr] at e;cases e;exact⟨hs',by rw[lKy];rw[<-x.2.1];exact hrl,jJh⟩
 .obtain⟨hs,h1,h2⟩:=x.2.2 i c e;refine⟨hs,by rw[lKu (Ne.symm hi)];exact h1,?_⟩
  rw[jJq];exact h2;rintro rfl;have hil:i<rs.length:=(lJg.mp e).1;exact hi ((lQ5 hil hn.2).mp (e.trans hr.symm))
noncomputable def hv(n t:Nat)(p:Nat×Nat):List (Nat×Nat×Nat):=if p.2=n then [(p.1,t,2)] else [(p.1,t,0),(p.2,t,1)]
noncomputable def hvs(P:List (Nat×Nat))(n k:Nat):List (Nat×Nat×Nat):=(List.range k).flatMap λt=>match P[t]? with
 | some p=>hv n t p
 | none=>[]
variable {P:List (Nat×Nat)}
theorem jUu{k:Nat}{p:Nat×Nat}(h:P[k]? =some p):hvs P n (k+1)=hvs P n k++hv n k p:=by
 unfold hvs;rw[lKv,lV2];simp[h]
variable {t' s:Nat}
theorem kKh{t:Nat}{p:Nat×Nat}(h:(r,t',s)∈hv n t p):t'=t/\s<=2/\((p.2=n/\s=2/\r=p.1)\/(p.2≠n/\s=0/\r=p.1)\/(p.2≠n/\s=1/\r=p.2)):=by
 unfold hv at h;split at h
 .rename_i hp;simp at h;obtain⟨rfl,rfl,rfl⟩:=h;exact⟨rfl,by omega,.inl ⟨hp,rfl,rfl⟩⟩
 .rename_i hp;simp at h
  rcases h with ⟨rfl,rfl,rfl⟩ | ⟨rfl,rfl,rfl⟩
  .exact⟨rfl,by omega,.inr (.inl ⟨hp,rfl,rfl⟩)⟩
  .exact⟨rfl,by omega,.inr (.inr ⟨hp,rfl,rfl⟩)⟩
theorem jZ9{k:Nat}{t:Nat}(h:(r,t,s)∈hvs P n k):∃p,P[t]? =some p/\t<k/\(r,t,s)∈hv n t p:=by
 unfold hvs at h;rw[lX1] at h;obtain⟨t',h1,h2⟩:=h;cases e:P[t']? with
 | none=>rw[e] at h2;cases h2
 | some p=>
  rw[e] at h2;have h2:(r,t,s)∈hv n t' p:=h2;have ht:=(kKh h2).1;subst ht;exact⟨p,e,lKc.mp h1,h2⟩
theorem kY8{k:Nat}{t:Nat}{p:Nat×Nat}(h:P[t]? =some p)(hk:t<k)(hm:(r,t,s)∈hv n t p):(r,t,s)∈hvs P n k:=by
 unfold hvs;rw[lX1];exact⟨t,lKc.mpr hk,by rw[h];exact hm⟩
theorem jZ8{P:List (Nat×Nat)}{n:Nat}:∀k,((hvs P n k).map λx=>x.2).Nodup
 | 0=>by simp[hvs]
 | k+1=>by
  cases e:P[k]? with
  | none=>
   have:hvs P n (k+1)=hvs P n k:=by unfold hvs;rw[lKv,lV2];simp[e]
   rw[this];exact jZ8 k
  | some p=>
   rw[jUu e,lQv,lVx];refine⟨jZ8 k,by unfold hv;split<;>simp,?_⟩
   intro a ha b hb;obtain⟨⟨r,t,s⟩,h1,rfl⟩:=lJl.mp ha;obtain⟨⟨r',t',s'⟩,h2,rfl⟩:=lJl.mp hb;obtain⟨_,_,h3,_⟩:=jZ9 h1;have h4:=(kKh h2).1;intro z;have:t=t':=lKl Prod.fst z;omega
theorem kQg{P:List (Nat×Nat)}{n:Nat}:∀k,(hvs P n k).length<=2*k
 | 0=>by simp[hvs]
 | k+1=>by
  have ih:=kQg (P:=P) (n:=n) k;cases e:P[k]? with
  | none=>
   have:hvs P n (k+1)=hvs P n k:=by unfold hvs;rw[lKv,lV2];simp[e]
   rw[this];omega
  | some p=>
   rw[jUu e,lJ7];have:(hv n k p).length<=2:=by unfold hv;split<;>simp
   omega
structure HalfL (L:List (Nat×Nat×Nat)) (n:Nat) (Hs:Web):Prop where
 len:Hs.length=n
 perm:∀(r:Nat)(hs:List (Nat×Nat)),Hs[r]? =some hs->hs.Perm ((L.filter λx=>x.1 == r).map λx=>x.2)
theorem ins_perm{α:Type}{xs:List α}{k:Nat}{y:α}:(xs.take k++y::xs.drop k).Perm (xs++[y]):=by
 have h1:(xs.take k++y::xs.drop k).Perm (y::(xs.take k++xs.drop k)):=lZ7;rw[lK8] at h1;exact h1.trans (lYm (l₁:=[y]) (l₂:=xs))
variable {L:List (Nat×Nat×Nat)}{hs:List (Nat×Nat)}
theorem HalfL.ins{k:Nat}(h:HalfL L n Hs)(hr:Hs[r]? =some hs):HalfL (L++[(r,e)]) n (Hs.set r (hs.take k++e::hs.drop k)) where
 len:=by rw[lQz];exact h.len
 perm:=λr' hs' h'=>by
  have hrl:r<Hs.length:=(lJg.mp hr).1;rw[List.filter_append,lQv]
  by_cases hi:r'=r
  .subst hi;rw[lKy hrl] at h';cases h';have:=h.perm r' hs hr;refine ins_perm.trans ?_;simp;exact this.append_right [e]
  .rw[lKu (Ne.symm hi)] at h';have:=h.perm r' hs' h';have hne:¬ r=r':=λz=>hi z.symm
   simp[hne];exact this
theorem HalfL.mem(h:HalfL L n Hs)(he:en Hs r i=some e):(r,e)∈L:=by
 obtain⟨es,h1,h2⟩:=jK1 he;have:=(h.perm r es h1).mem_iff.mp (lJo h2);obtain⟨⟨r',e'⟩,h3,rfl⟩:=lJl.mp this;obtain⟨h4,h5⟩:=lXm.mp h3;have:r'=r:=by simpa using h5
 subst this;exact h4
theorem HalfL.of(h:HalfL L n Hs)(hr:r<n)(he:(r,e)∈L):∃i,en Hs r i=some e:=by
 have hrl:r<Hs.length:=by rw[h.len];exact hr
 have h1:Hs[r]? =some Hs[r]:=lJj hrl;have:e∈Hs[r]:=(h.perm r _ h1).mem_iff.mpr (lJl.mpr ⟨(r,e),lXm.mpr ⟨he,by simp⟩,rfl⟩)
 obtain⟨i,hi⟩:=lJ2 this;exact⟨i,jU4 h1 hi⟩
def kQu(P:List (Nat×Nat))(n:Nat):Prop:=∀p,p∈P->p.1<n/\p.2<=n
theorem HalfL.ok(h:HalfL (hvs P n P.length) n Hs)(hp:kQu P n)(hn:n<=1000)(hl:P.length<=500):JoinOk Hs where
 len:=by rw[h.len];exact hn
 row:=λr hs hr=>by
  rw[(h.perm r hs hr).length_eq,lJe];have h1:=lZc (λx:Nat×Nat×Nat=>x.1 == r) (hvs P n P.length)
  have h2:=kQg (P:=P) (n:=n) P.length;omega
 inj:=λr i r' i' e h1 h2=>by
  obtain⟨t,s⟩:=e;obtain⟨p,q1,q2,q3⟩:=jZ9 (h.mem h1);obtain⟨p',q1',q2',q3'⟩:=jZ9 (h.mem h2);rw[q1] at q1';cases q1';have m1:=(kKh q3).2.2;have m2:=(kKh q3').2.2
  have hrr:r=r':=by
   rcases m1 with ⟨a,b,c⟩ | ⟨a,b,c⟩ | ⟨a,b,c⟩<;>rcases m2 with ⟨a',b',c'⟩ | ⟨a',b',c'⟩ | ⟨a',b',c'⟩<;>omega
  subst hrr;refine⟨rfl,?_⟩;obtain⟨es,z1,z2⟩:=jK1 h1;obtain⟨es',z3,z4⟩:=jK1 h2;rw[z1] at z3;cases z3
  have nd:es.Nodup:=by
   rw[(h.perm r es z1).nodup_iff];exact (List.filter_sublist.map _).nodup (jZ8 _)
  exact (lQ5 (lJg.mp z2).1 nd).mp (z2.trans z4.symm)
 part:=λr i t s h1=>by
  obtain⟨p,q1,q2,q3⟩:=jZ9 (h.mem h1);obtain⟨_,h2,m⟩:=kKh q3;refine⟨h2,?_⟩;have hpp:=hp p (lJo q1)
  rcases m with ⟨a,rfl,c⟩ | ⟨a,rfl,c⟩ | ⟨a,rfl,c⟩
  .exact⟨r,i,h1⟩
  .obtain⟨i',h3⟩:=h.of (r:=p.2) (e:=(t,1)) (by omega) (kY8 q1 q2 (by unfold hv;rw[lJb a];simp))
   exact⟨p.2,i',h3⟩
  .obtain⟨i',h3⟩:=h.of (r:=p.1) (e:=(t,0)) (by omega) (kY8 q1 q2 (by unfold hv;rw[lJb a];simp))
   exact⟨p.1,i',h3⟩
structure Made (P:List (Nat×Nat)) (n:Nat) (W:Web):Prop where
 len:W.length=n
 sym:Sym W
 deg:∀(r:Nat)(es:List (Nat×Nat)),W[r]? =some es->es.length=((hvs P n P.length).filter λx=>x.1 == r).length
 tie:∀p,p∈P->p.2<n->∃i j,en W p.1 i=some (p.2,j)
theorem uKa{W:Web}(h:HalfL (hvs P n P.length) n Hs)(hp:kQu P n)(ok:JoinOk Hs)(J:Joined Hs W):Made P n W where
 len:=by rw[J.len,h.len]
 sym:=J.sym ok
 deg:=λr es hr=>by
  have hrl:r<Hs.length:=by rw[<-J.len];exact (lJg.mp hr).1
  obtain⟨es',h1,h2⟩:=J.row r _ (lJj hrl);rw[hr] at h1;cases h1;rw[h2,(h.perm r _ (lJj hrl)).length_eq,lJe]
 tie:=λp hpm hpn=>by
  obtain⟨t,ht⟩:=lJ2 hpm;have htl:t<P.length:=(lJg.mp ht).1;have hne:¬ p.2=n:=by omega
  obtain⟨i,h1⟩:=h.of (r:=p.1) (e:=(t,0)) (hp p hpm).1 (kY8 ht htl (by unfold hv;rw[lJb hne];simp))
  obtain⟨j,h2⟩:=h.of (r:=p.2) (e:=(t,1)) hpn (kY8 ht htl (by unfold hv;rw[lJb hne];simp))
  exact⟨i,j,J.to _ _ _ _ _ _ h1 h2⟩
theorem Keep.none(h:Keep b G G')(hb:p≠b)(hp:G' p=none):G p=none:=by
 cases e:G p with
 | none=>rfl
 | some o=>rw[h p o hb e] at hp;cases hp
theorem qYh{xs:List (Nat×Nat)}{k:Nat}{y:Nat×Nat}:insT (xs.map encE) k (encE y)=(xs.take k++y::xs.drop k).map encE:=by simp[insT,lV9,lYg]
theorem HalfL.len_le(h:HalfL L n Hs)(hr:Hs[r]? =some hs):hs.length<=L.length:=by
 rw[(h.perm r hs hr).length_eq,lJe];exact lZc _ _
variable {w1 w2 w5 w6 w8 w9:Option T}
theorem kJf{E:Ends3}{D:Addr}{k m':Nat}{S:List (Nat×Nat)}(h1:HalfL L n Hs)(h2:RowsAt G2 D Hs rs)(h3:BoxAt G2 b m')(h4:Keep b G G2)(hnd:(D::rs).Nodup)(hbn:b∉D::rs)(hfr:∀r,r∈D::rs->G r=none)(hp:G2 p=some (.lst (S.map encE)))(hpn:p∉D::rs)(hpb:p≠b)(hS:∀x,x∈S->x.1<n)(hm:m'+S.length<2^40)(hL:L.length+S.length<10000)(kk:∀G' Hs' v8 v9,HalfL (L++S.map λx=>(x.1,k,x.2)) n Hs'->RowsAt G' D Hs' rs->BoxAt G' b (m'+S.length)->Keep b G G'->E.nx [some (.ref b),w1,w2,some (.ref D),some (.int k),w5,w6,some (.ref p),v8,v9] G'):
  uQm (gTup 2 (jKc M8 (jKc M9 gNil))) (jU1 (tBM "list" jZw (tOp rIxF C3 C8) (jJb (jJm jJw (jJb C0 (jJb (tOp jKm (tCB rLen (jJb (tOp rIxF C3 C8) tNil)) (tC (T.int 1))) tNil))) (jJb (tTup (jJb C4 D9)) tNil)))) E
   [some (.ref b),w1,w2,some (.ref D),some (.int k),w5,w6,some (.ref p),w8,w9] (S.map encE) (λG'=>seqT G' (.ref p)=some (S.map encE)) G2:=by
 have hs:=sz;refine⟨λj τ G'=>∃(v8 v9:Option T)(Hs:Web),τ=[some (.ref b),w1,w2,some (.ref D),some (.int k),w5,w6,some (.ref p),v8,v9]/\HalfL (L++(S.take j).map λx=>(x.1,k,x.2)) n Hs/\RowsAt G' D Hs rs/\BoxAt G' b (m'+j)/\Keep b G G'/\G' p=some (.lst (S.map encE)),?_,?_,?_,?_⟩
 .exact⟨w8,w9,Hs,rfl,by simpa using h1,h2,h3,h4,hp⟩
 .intro j τ G' hj h_;apply xe3 h_;clear h_;intro v8 v9 Hs;refine ae5 ?_;intro i1 i2 i3 i4 i5;exact jJn i5
 .intro j x τ G' hx0 h_;apply xe3 h_;clear h_;intro v8 v9 Hs;refine ae5 ?_;intro i1 i2 i3 i4 i5;obtain⟨⟨r,s⟩,hx,rfl⟩:=jJ7 hx0;have hj:j<S.length:=(lJg.mp hx).1;have hr:r<n:=hS _ (lJo hx);have hrl:r<rs.length:=by rw[i2.2.1,i1.len];exact hr
  have hra:rs[r]? =some rs[r]:=lJj hrl
  generalize rs[r]=a at hra
  obtain⟨hs',hh1,hh2⟩:=i2.2.2 r a hra;have hat:L2.atI (rs.map T.ref) (r:Int)=some (.ref a):=by rw[atN];simp[hra]
  have hle:=i1.len_le hh1;have hlt:(L++(S.take j).map λx=>(x.1,k,x.2)).length<10000:=by simp;omega
  exists encE,jK6 i2.1,hat,jKq hh2,jJn hh2,List.length_map
  refine⟨b,_,m'+j,rfl,i3,by omega,by omega,by omega,λc G3 c0 c1 bx kp=> ?_⟩
  have ham:a∈D::rs:=lKd _ (lJo hra);have hab:a≠b:=by rintro rfl;exact hbn ham
  have hap:a≠p:=by rintro rfl;exact hpn ham
  have i2':=i2.keep kp hbn;refine⟨by omega,hs'.map encE,c,rfl,kp _ _ hab hh2,c0,by simp;omega,by simp;omega,?_⟩
  rw[show T.tup [T.int (k:Int),T.int (s:Int)]=encE (k,s) from rfl,qYh]
  refine⟨Hs.set r (hs'.take c.toNat++(k,s)::hs'.drop c.toNat),?_,i2'.set hnd hra,?_,(i4.trans kp).over (hfr a ham),?_⟩
  .have:=i1.ins (k:=c.toNat) (e:=(k,s)) hh1;rw[lQe,hx,lQv,<-lJq];exact this
  .exact bx.gup hab.symm
  .rw[jJq hap.symm];exact kp _ _ hpb i5
 .intro τ G' h_;apply xe3 h_;clear h_;intro v8 v9 Hs;refine ae5 ?_;intro i1 i2 i3 i4 i5;rw[lJe] at i1 i3;rw[lQt] at i1;exact kk G' Hs v8 v9 i1 i2 i3 i4
variable {xs:List T}
theorem jVo:(numT xs).length=xs.length:=by simp[numT]
noncomputable def jQ9:Sp3:=λxs G Q=>∃(b pr:Addr)(P:List (Nat×Nat))(n m:Nat),xs=[.ref b,.ref pr,.int n]/\BoxAt G b m/\m+2*P.length<2^40/\pr≠b/\G pr=some (.lst (P.map encE))/\kQu P n/\n<=1000/\P.length<=500/\∀W G',Made P n W->BoxAt G' b (m+2*P.length)->Keep b G G'->Q (encW W) G'
noncomputable def kQw:List Str:=["_law_box_here","_law_pairs","_law_many","_law_halves","_law_tie","_law_one","_law_other","_law_sides","_law_room","_law_side"]
noncomputable def jUb:TS3:=
 (tSeq (tAsg (jUc [fF,fF,fF,fF,fF,fF,fF,fF,tT,fF] (jKl D2) M8 jU6 (tLst tNil)) M3)
 (tSeq (tFor (jZ7 D1) (gTup 2 (jKc M4 (jKc (gTup 2 (jKc M5 (jKc M6 gNil))) gNil))) (tSeq (tAsg (tIf (jJx (tOp rEqA C6 C2)) (tLst (jJb (tTup (jJb C5 (jJb tI2 tNil))) tNil)) (tLst (jJb (tTup (jJb C5 (jJb tI0 tNil))) (jJb (tTup (jJb C6 (jJb tI1 tNil))) tNil)))) M7)
 (tFor (iSeq C7) (gTup 2 (jKc M8 (jKc M9 gNil))) (jU1 (tBM "list" jZw (tOp rIxF C3 C8) (jJb (jJm jJw (jJb C0 (jJb (tOp jKm (tCB rLen (jJb (tOp rIxF C3 C8) tNil)) tI1) tNil))) (jJb (tTup (jJb C4 D9)) tNil)))))))
 (tRet (jJm jV0 D3))))
theorem jQ4:rngT 0 n=(List.range n).map λ(k:Nat)=>T.int k:=by simp[rngT]
theorem jYs:RdOk jQ9 jUb kQw:=by
 intro xs G Q h_;apply xe5 h_;clear h_;intro b pr P n m;refine ae8 ?_;intro hb hm hpb hpr hP hn hPl kk;show jUb _ [some (.ref b),some (.ref pr),some (.int n),none,none,none,none,none,none,none] G
 have hs:=sz
 exists jUb,jJv,jKl,jZ7
 refine⟨by omega,by omega,?_⟩
 rw[show ((n:Int)).toNat=n by omega,jQ4]
 refine kKj (λ_=>[]) (by simp;omega) (λ_ _=>trivial) ?_ ?_
 .intro i e he G' K K0 s hk
  exists tSeq
  exact⟨lJn _,λp hp=>hk p _ hp jJh (.new hp)⟩
 .intro D rs G1 hD hD1 s1 hrl hnd hrs;rw[lK7] at hrl;obtain⟨bo,hbo⟩:=hb.some
  have hbn:b∉D::rs:=by
   intro z;rw[lJp] at z
   rcases z with rfl | z
   .rw[hD] at hbo;cases hbo
   .obtain⟨j,hj⟩:=lJ2 z;have hjl:j<rs.length:=(lJg.mp hj).1;have:=(hrs j b j hj (by rw[lXy (by omega)])).1
    rw[this] at hbo;cases hbo
  have hfr:∀r,r∈D::rs->G r=none:=by
   intro r z;rw[lJp] at z
   rcases z with rfl | z
   .exact hD
   .obtain⟨j,hj⟩:=lJ2 z;have hjl:j<rs.length:=(lJg.mp hj).1;exact (hrs j r j hj (by rw[lXy (by omega)])).1
  refine⟨P.map encE,by simp only[jQf,s1 _ _ hpr,asL],?_⟩
  refine⟨λk τ G'=>∃(v4 v5 v6 v7 v8 v9:Option T)(Hs:Web),τ=[some (.ref b),some (.ref pr),some (.int n),some (.ref D),v4,v5,v6,v7,v8,v9]/\HalfL (hvs P n k) n Hs/\RowsAt G' D Hs rs/\BoxAt G' b (m+2*k)/\Keep b G G',?_,?_,?_,?_⟩
  .refine⟨none,none,none,none,none,none,List.replicate n [],rfl,⟨by simp,?_⟩,⟨hD1,by simp[hrl],?_⟩,hb.sub s1,.sub s1⟩
   .intro r hs' h;have:hs'=[]:=by rw[lYt] at h;split at h;cases h;rfl;cases h
    subst this;simp[hvs]
   .intro i r h;have hi:i<n:=by rw[<-hrl];exact (lJg.mp h).1
    exact⟨[],by simp[hi],(hrs i r i h (by simp[hi])).2⟩
  .intro k τ G' hk h_;apply xe7 h_;clear h_;intro v4 v5 v6 v7 v8 v9 Hs;refine ae4 ?_;intro h1 h2 h3 h4;simp only[jQf,h4 _ _ hpb hpr,asL]
  .intro k x τ G2 hx h_;apply xe7 h_;clear h_;intro v4 v5 v6 v7 v8 v9 Hs;refine ae4 ?_;intro h1 h2 h3 h4;have hk:k<P.length:=by have:=(lJg.mp hx).1;simpa[jVo] using this
   rw[jUr (x:=encE P[k]) (by simp[hk])] at hx
   cases hx
   generalize hpk:P[k]=p
   have hpe:P[k]? =some p:=by rw[lJj hk,hpk]
   obtain⟨a,c⟩:=p;obtain⟨ha,hc⟩:=hP _ (lJo hpe);have ha:a<n:=ha;have hc:c<=n:=hc
   exists encE,rEqA,iSeq,jJv
   rw[show eqG G2 (T.int (c:Int)) (T.int (n:Int))=some (decide ((c:Int)=n)) from rfl]
   have hL:=kQg (P:=P) (n:=n) k;refine⟨_,rfl,?_⟩
   have fresh:∀p,G2 p=none->p∉D::rs/\p≠b:=by
    intro p hp;refine⟨λz=> ?_,?_⟩
    .rw[lJp] at z
     rcases z with rfl | z
     .rw[h2.1] at hp;cases hp
     .obtain⟨j,hj⟩:=lJ2 z;obtain⟨_,_,q⟩:=h2.2.2 j p hj;rw[q] at hp;cases hp
    .rintro rfl;obtain⟨o,ho⟩:=h3.some;rw[ho] at hp;cases hp
   by_cases hcn:c=n
   .rw[lJc (by simp[hcn])]
    refine⟨by omega,by omega,λp hp=> ?_⟩
    obtain⟨f1,f2⟩:=fresh p hp;refine kJf (S:=[(a,2)]) h1 (h2.sub (.new hp)) (h3.gup f2.symm) (h4.over (h4.none f2 hp)) hnd hbn hfr jJh f1 f2 (by simp[ha]) (by simp;omega) (by simp;omega) ?_
    intro G' Hs' v8 v9 i1 i2 i3 i4;refine⟨_,_,_,_,_,_,rfl,Hs',?_,i2,i3.mono (by simp;omega),i4⟩
    rw[jUu hpe];unfold hv;rw[lJc hcn];exact i1
   .rw[lJb (by simp;omega)]
    refine⟨by omega,by omega,by omega,λp hp=> ?_⟩
    obtain⟨f1,f2⟩:=fresh p hp;refine kJf (S:=[(a,0),(c,1)]) h1 (h2.sub (.new hp)) (h3.gup f2.symm) (h4.over (h4.none f2 hp)) hnd hbn hfr jJh f1 f2 (by simp;omega) (by simp;omega) (by simp;omega) ?_
    intro G' Hs' v8 v9 i1 i2 i3 i4;refine⟨_,_,_,_,_,_,rfl,Hs',?_,i2,i3.mono (by simp;omega),i4⟩
    rw[jUu hpe];unfold hv;rw[lJb hcn];exact i1
  .intro τ G' h_;apply xe7 h_;clear h_;intro v4 v5 v6 v7 v8 v9 Hs;refine ae4 ?_;intro h1 h2 h3 h4;rw[jVo,lJe] at h1 h3
   exists tSeq
   have ok:=h1.ok hP hn hPl;refine⟨D,Hs,rs,rfl,h2,ok,λG3 W s3 J=> ?_⟩
   exact kk W G3 (uKa h1 hP ok J) (h3.sub s3) (h4.trans (.sub s3))
noncomputable def dgr(P:List (Nat×Nat))(n r:Nat):Nat:=((hvs P n P.length).filter λx=>x.1 == r).length
noncomputable def jQl(n:Nat)(p:Nat×Nat):List Nat:=if p.2=n then [p.1] else [p.1,p.2]
theorem qUd{P Q:List (Nat×Nat)}{n:Nat}:∀k,k<=P.length->hvs (P++Q) n k=hvs P n k
 | 0,_=>rfl
 | k+1,h=>by
  have e:P[k]? =some P[k]:=lJj (by omega)
  rw[jUu e,jUu (p:=P[k]) (by rw[lKq (by omega)];exact e),qUd k (by omega)]
theorem qYn{p:Nat×Nat}:hvs (P++[p]) n (P++[p]).length=hvs P n P.length++hv n P.length p:=by
 rw[lJ7,lZy,jUu (p:=p) (by simp),qUd _ (lJh _)]
theorem uVf{t:Nat}{p:Nat×Nat}:((hv n t p).filter λx=>x.1 == r).length=(jQl n p).count r:=by
 unfold hv jQl;split
 .by_cases h:p.1=r<;>simp[h]
 .by_cases h:p.1=r<;>by_cases h':p.2=r<;>simp[h,h',lYo]
theorem jY8{p:Nat×Nat}:dgr (P++[p]) n r=dgr P n r+(jQl n p).count r:=by
 unfold dgr;rw[qYn,List.filter_append,lJ7,uVf]
theorem qYu{k:Nat}:(L.filter λx=>decide (x.1<k+1)).length=(L.filter λx=>decide (x.1<k)).length+(L.filter λx=>x.1 == k).length:=by
 induction L with
 | nil=>rfl
 | cons a as ih=>
  rw[lYo,lYo,lYo]
  rcases lXw a.1 k with h | h | h
  .have h1:a.1<k+1:=by omega
   have h2:¬ a.1=k:=by omega
   simp[h,h1,h2,ih];omega
  .have h1:a.1<k+1:=by omega
   simp[h,ih];omega
  .have h1:¬ a.1<k+1:=by omega
   have h2:¬ a.1=k:=by omega
   have h3:¬ a.1<k:=by omega
   simp[h1,h2,h3,ih]
theorem qZn{L:List (Nat×Nat×Nat)}{d:Nat}:∀k,(∀r,r<k->d<=(L.filter λx=>x.1 == r).length)->k*d<=(L.filter λx=>decide (x.1<k)).length
 | 0,_=>by simp
 | k+1,h=>by
  rw[qYu,lVj];have h1:=qZn k λr hr=>h r (by omega)
  have h2:=h k (by omega)
  omega
variable {d:Nat}
theorem qUn{k:Nat}(hd:2<=d)(hk:P.length<k):∃r,r<k/\dgr P n r<d:=by
 apply lVd;intro h
 have h1:∀r,r<k->d<=((hvs P n P.length).filter λx=>x.1 == r).length:=λr hr=>by
  rcases lKw (dgr P n r) d with z | z
  .exact absurd ⟨r,hr,z⟩ h
  .exact z
 have h2:=qZn k h1;have h3:=lZc (λx:Nat×Nat×Nat=>decide (x.1<k)) (hvs P n P.length)
 have h4:=kQg (P:=P) (n:=n) P.length;have h5:k*2<=k*d:=Nat.mul_le_mul_left k hd;omega
theorem qY4{k:Nat}(h:∀p,p∈P->p.1<k/\p.2<k)(hr:k<=r):dgr P n r=0:=by
 unfold dgr;rw[lVk,List.filter_eq_nil_iff];rintro⟨a,t,s⟩ hx;obtain⟨p,h1,h2,h3⟩:=jZ9 hx;have h4:=h p (lJo h1);have h5:=(kKh h3).2.2;simp;omega
noncomputable def jQx(n:Nat)(f:Nat->Nat):List T:=(List.range n).map λr=>T.int (f r)
variable {f:Nat->Nat}
theorem kKq(h:r<n):L2.atI (jQx n f) (r:Int)=some (.int (f r)):=by rw[atN];simp[jQx,h]
theorem qKc:(jQx n f).length=n:=by simp[jQx]
theorem qKb{v:Nat}:(jQx n f).set r (.int v)=jQx n λx=>if x=r then v else f x:=by
 apply lQj;intro i
 by_cases hi:i=r
 .subst hi
  by_cases h:i<n
  .rw[lKy (by simpa[jQx] using h)];simp[jQx,h]
  .rw[lJ3 (by simp[jQx];omega),lJ3 (by simp[jQx];omega)]
 .rw[lKu (Ne.symm hi)]
  by_cases h:i<n
  .simp[jQx,h,hi]
  .rw[lJ3 (by simp[jQx];omega),lJ3 (by simp[jQx];omega)]
theorem bump{E:Ends3}{u:Addr}{es:List Nat}{stay:Gp->Prop}{w0 w4 w7 w10 w11:Option T}(hu:G2 u=some (.lst (jQx n f)))(hst:∀G',(∀c,c≠u->G' c=G2 c)->stay G')(hes:∀e,e∈es->e<n)(kk:∀G' v7,G' u=some (.lst (jQx n λr=>f r+es.count r))->(∀c,c≠u->G' c=G2 c)->E.nx [w0,w1,w2,some (.ref u),w4,w5,w6,v7,w8,w9,w10,w11] G'):
  uQm M7 (tAsg (tOp jKm (tOp rIxF C3 C7) tI1) (gSub C3 C7 jU3)) E [w0,w1,w2,some (.ref u),w4,w5,w6,w7,w8,w9,w10,w11] (es.map λe=>T.int (e:Nat)) stay G2:=by
 refine⟨λj τ G'=>∃v7,τ=[w0,w1,w2,some (.ref u),w4,w5,w6,v7,w8,w9,w10,w11]/\G' u=some (.lst (jQx n λr=>f r+(es.take j).count r))/\(∀c,c≠u->G' c=G2 c),?_,?_,?_,?_⟩
 .exact⟨w7,rfl,by simpa using hu,λ_ _=>rfl⟩
 .intro j τ G' hj h_;apply xe1 h_;clear h_;intro v7;refine ae2 ?_;intro h1 h2;exact hst G' h2
 .intro j x τ G' hx0 h_;apply xe1 h_;clear h_;intro v7;refine ae2 ?_;intro h1 h2;obtain⟨e,hx,rfl⟩:=jJ7 hx0;have he:=hes e (lJo hx);have hix:L2.ixN (jQx n λr=>f r+(es.take j).count r).length (e:Int)=some e:=kJw (by rw[qKc];exact he)
  exists jK6 h1,kKq he,jXj h1 hix
  refine⟨?_,λc hc=>by rw[jJq hc];exact h2 c hc⟩
  rw[show T.int (((f e+(es.take j).count e:Nat):Int)+1)=T.int ((f e+(es.take j).count e+1:Nat):Int) by simp,qKb]
  congr 1
  funext r
  rw[lQe,hx,Option.toList_some,List.count_append]
  by_cases hr:r=e
  .subst hr;simp;omega
  .have:¬ e=r:=λz=>hr z.symm
   simp[hr,this]
 .intro τ G' h_;apply xe1 h_;clear h_;intro v7;refine ae2 ?_;intro h1 h2;rw[lJe,lQt] at h1;exact kk G' v7 h1 h2
structure WebOk (n d:Nat) (W:Web):Prop where
 len:W.length=n
 sym:Sym W
 deg:∀(r:Nat)(es:List (Nat×Nat)),W[r]? =some es->es.length<=d
 low:∀r,1<=r->r<n->∃i a j,en W r i=some (a,j)/\a<r
structure POk (P:List (Nat×Nat)) (n d k:Nat):Prop where
 ok:kQu P n
 deg:∀r,r<n->dgr P n r<=d
 low:∀r,1<=r->r<k->∃p,p∈P/\p.2=r/\p.1<r
theorem POk.web{W:Web}(h:POk P n d n)(m:Made P n W):WebOk n d W where
 len:=m.len
 sym:=m.sym
 deg:=λr es hr=>by
  rw[m.deg r es hr];exact h.deg r (by rw[<-m.len];exact (lJg.mp hr).1)
 low:=λr h1 h2=>by
  obtain⟨p,q1,q2,q3⟩:=h.low r h1 h2;obtain⟨i,j,q4⟩:=m.tie p q1 (by omega)
  have:=m.sym _ _ _ _ q4;rw[q2] at this;exact⟨j,p.1,i,this,q3⟩
noncomputable def jXe:Sp3:=λxs G Q=>∃(b:Addr)(n d m:Nat),xs=[.ref b,.int n,.int d]/\BoxAt G b m/\m+300<2^40/\1<=n/\n<=24/\2<=d/\d<=100/\∀W G',WebOk n d W->BoxAt G' b (m+300)->Keep b G G'->Q (encW W) G'
noncomputable def uQi:List Str:=["_law_box_here","_law_many","_law_most","_law_used","_law_pairs","_law_room","_law_free","_law_end","_law_turn_here","_law_pair","_law_ends_here","_law_one"]
noncomputable def kK4:TS3:=
 (tSeq (tAsg (tOp jVi (tLst (jJb tI0 tNil)) C1) M3)
 (tSeq (tAsg (tLst tNil) M4)
 (tSeq (tFor (uKq (jJb tI1 D1)) M5 (tSeq (tAsg (jUc [fF,fF,fF,fF,fF,fF,fF,fF,fF,fF,fF,tT] (jKl D5) M11 (jJx (tOp rLt (tOp rIxF C3 C11) C2)) C11) M6)
 (tSeq (jU1 (tBM "list" jQa C4 (jJb (tTup (jJb (tOp rIxF C6 (jJm jJw (jJb C0 (jJb (tCB rLen D6) tNil)))) D5)) tNil)))
 (tFor (iSeq (tOp rIxF C4 (tUn rNeg tI1))) M7 (tAsg (tOp jKm (tOp rIxF C3 C7) tI1) (gSub C3 C7 jU3))))))
 (tSeq (tFor (jKl (jJb (jJm jJw (jJb C0 (jJb (tOp jKm C1 tI2) tNil))) tNil)) M8 (tSeq (tAsg (tTup (jJb (jJm jJw (jJb C0 D1)) (jJb (jJm jJw (jJb C0 (jJb (tOp jKm C1 tI1) tNil))) tNil))) M9)
 (tSeq (tAsg (jUc [fF,fF,fF,fF,fF,fF,fF,tT,fF,fF,fF,fF] (iSeq C9) M7 (jJx (tOp rLt C7 C1)) C7) M10)
 (tIfS (jJx (tCB rAll (jJb (jUc [fF,fF,fF,fF,fF,fF,fF,tT,fF,fF,fF,fF] (iSeq C10) M7 jU6 (tOp rLeF (tOp jKm (tOp rIxF C3 C7) (tBM "list" qQf C10 D7)) C2)) tNil))) (tSeq (jU1 (tBM "list" jQa C4 D9))
 (tFor (iSeq C10) M7 (tAsg (tOp jKm (tOp rIxF C3 C7) tI1) (gSub C3 C7 jU3)))) jKj))))
 (tRet (jJm jQ9 (jJb C0 (jJb C4 D1))))))))
theorem qXg:(List.replicate n [T.int 0]).flatten=jQx n λ_=>0:=by
 have:(List.replicate n [T.int 0]).flatten=List.replicate n (T.int 0):=by
  induction n with
  | zero=>rfl
  | succ n ih=>rw[lVi,lVv,ih];rfl
 rw[this];apply lQj;intro i
 by_cases h:i<n
 .simp[jQx,h]
 .rw[lJ3 (by simp;omega),lJ3 (by simp[jQx];omega)]
theorem qKx{lo:Nat}:rngT lo n=(List.range n).map λ(k:Nat)=>T.int ((lo+k:Nat):Int):=by simp[rngT]
theorem uQa{es:List Nat}:(es.map λe=>T.int (e:Nat)).countP (λz=>eqT z (.int r))=es.count r:=by
 rw[List.countP_map,List.count]
 congr 1
 funext e
 simp only[kQl,Function.comp]
 by_cases h:e=r
 .subst h;simp
 .have h2:¬ (e:Int)=r:=by omega
  rw[beq_eq_false_iff_ne.mpr h,beq_eq_false_iff_ne.mpr h2]
theorem kUt{es:List Nat}:(es.map λe=>T.int (e:Nat)).all jXx=true:=by
 rw[List.all_map,lVl];intros;rfl
theorem jX2{α:Type}{f:α->Bool}:∀{es:List α},kXy (es.map λe=>T.bl (f e))=some (es.all f)
 | []=>rfl
 | e::es=>by rw[lJw,kXy,jX2,lVh]
theorem qJb:RdOk jXe kK4 uQi:=by
 intro xs G Q h_;apply xe4 h_;clear h_;intro b n d m;refine ae7 ?_;intro hb hm hn1 hn2 hd1 hd2 kk;show kK4 _ [some (.ref b),some (.int n),some (.int d),none,none,none,none,none,none,none,none,none] G
 have hs:=sz
 exists kK4,jJv,jKl,uKq
 refine⟨by omega,λz hz=> ?_⟩
 have e1:mulR (gup G z (GO.lst [T.int 0])) (.ref z) (.int n)=some (.newL (jQx n λ_=>0)):=by
  rw[<-qXg];simp only[mulR,jJh];rw[lJc];congr;refine⟨?_,?_,?_⟩<;>simp<;>omega
 exists e1
 intro u hu;obtain⟨huz,hu0⟩:=jKw hu;refine⟨lJn _,λpr hpr=> ?_⟩
 obtain⟨hpu,hpr1⟩:=jKw hpr;obtain⟨hpz,hpr0⟩:=jKw hpr1;obtain⟨bo,hbo⟩:=hb.some;have hbu:=jJf hbo hu0;have hbp:=jJf hbo hpr0;have hbz:=jJf hbo hz;refine⟨by omega,by omega,by omega,by omega,?_⟩
 rw[show ((n:Int)-1).toNat=n-1 by omega,show rngT 1 (n-1)=rngT ((1:Nat):Int) (n-1) from rfl,qKx]
 let J1:Nat->St3->Gp->Prop:=λk τ G'=>∃(v5 v6 v7:Option T)(P:List (Nat×Nat)),τ=[some (.ref b),some (.int n),some (.int d),some (.ref u),some (.ref pr),v5,v6,v7,none,none,none,none]/\P.length=k/\POk P n d (k+1)/\(∀p,p∈P->p.1<k+1/\p.2<k+1)/\G' u=some (.lst (jQx n (dgr P n)))/\G' pr=some (.lst (P.map encE))/\BoxAt G' b (m+k)/\Keep b G G'
 refine⟨J1,?_,?_,?_,?_⟩
 .refine xi4 none none none [] rfl ⟨rfl,⟨by intro p h;simp at h,λr _=>by simp[dgr,hvs],λr h1 h2=>by omega⟩,by intro p h;simp at h,by rw[jJq hpu.symm,jJh];rfl,jJh,((hb.gup hbz).gup hbu).gup hbp,(((Keep.new hz).over hu0).over hpr0)⟩
 .intros;trivial
 .intro k x τ G1 hx0 h_;apply xe4 h_;clear h_;intro v5 v6 v7 P;refine ae7 ?_;intro hPl hP hlt hgu hgp hbx hkp;obtain⟨e,hx,rfl⟩:=jJ7 hx0
  obtain⟨hk,rfl⟩:k<n-1/\k=e:=by
   rw[lJg] at hx;obtain⟨q1,q2⟩:=hx;simp at q1 q2;exact⟨q1,q2⟩
  exists iSeq,jKl,jJv
  refine⟨by omega,by omega,?_⟩
  rw[show (((1+k:Nat)):Int).toNat=1+k by omega,jQ4]
  refine kQq (λr=>if dgr P n r<d then some (T.int (r:Nat)) else none) (by simp;omega) (λ_ _=>trivial) ?_ ?_
  .intro i r hr G2 K K0 s2 hK hK0
   obtain⟨hr1,rfl⟩:i<1+k/\i=r:=by
    rw[lJg] at hr;obtain⟨q1,q2⟩:=hr;simp at q1 q2;exact⟨q1,q2⟩
   exists jK6 (s2 _ _ hgu),kKq (show i<n by omega)
   by_cases hdg:dgr P n i<d
   .rw[lJc (by omega)]
    exact hK _ _ (by rw[lJc hdg]) (.refl _)
   .rw[lJb (by omega)]
    exact hK0 (by rw[lJb hdg]) _ (.refl _)
  .intro fr G2 hfr hfr2 s2
   obtain⟨F,hF1,hF2⟩:∃F:List Nat,(List.range (1+k)).filterMap (λr=>if dgr P n r<d then some (T.int (r:Nat)) else none)=F.map (λr=>T.int (r:Nat))/\F=(List.range (1+k)).filter λr=>decide (dgr P n r<d):=by
    refine⟨_,?_,rfl⟩
    generalize List.range (1+k)=l
    induction l with
    | nil=>rfl
    | cons a as ih=>
     rw[lVu,lYo]
     by_cases h:dgr P n a<d<;>simp[h,ih]
   rw[hF1] at hfr2;have hFl:F.length<=1+k:=by rw[hF2];have:=lZc (λr=>decide (dgr P n r<d)) (List.range (1+k));rw[lK7] at this;exact this
   have hF0:1<=F.length:=by
    obtain⟨r,q1,q2⟩:=qUn (P:=P) (n:=n) (d:=d) (k:=1+k) hd1 (by omega)
    have:r∈F:=by rw[hF2,lXm];exact⟨lKc.mpr q1,by simpa using q2⟩
    exact List.length_pos_of_mem this
   have hgp2:=s2 _ _ hgp
   exists jKq hgp2,jJn hfr2,List.length_map
   refine⟨b,_,m+k,rfl,hbx.sub s2,by omega,by omega,by omega,λc G3 c0 c1 bx kp=> ?_⟩
   have hfb:fr≠b:=by rintro rfl;obtain⟨o,ho⟩:=hbx.some;rw[ho] at hfr;cases hfr
   have hcF:c.toNat<F.length:=by omega
   have hca:L2.atI (F.map λr=>T.int (r:Nat)) c=some (.int (F[c.toNat]:Nat)):=by rw[atZ c0];simp[hcF]
   have hmem:F[c.toNat]∈F:=lYf hcF
   generalize F[c.toNat]=a at hca hmem
   rw[hF2,lXm] at hmem;have ha1:a<1+k:=lKc.mp hmem.1;have ha2:dgr P n a<d:=by simpa using hmem.2
   have hgp3:=kp _ _ hbp.symm hgp2;have hgu3:=kp _ _ hbu.symm (s2 _ _ hgu)
   exists jK6 (kp _ _ hfb hfr2),hca,hgp3
   refine⟨by omega,by simp;omega,_,kXv,[T.int (a:Nat),T.int ((1+k:Nat):Int)],rfl,?_⟩
   have hne:u≠pr:=hpu.symm;have hE:jQl n (a,1+k)=[a,1+k]:=by unfold jQl;rw[lJb (show ¬ (1+k)=n by omega)]
   refine bump (es:=[a,1+k]) (n:=n) (f:=dgr P n) (by rw[jJq hne];exact hgu3) (λ_ _=>rfl) (by simp;omega) ?_
   intro G4 v7 hu4 hk4
   have hlt':∀p,p∈P++[(a,1+k)]->p.1<k+1+1/\p.2<k+1+1:=by
    intro p hp;rw[lJx,lJ1] at hp
    rcases hp with hp | rfl
    .have:=hlt p hp;omega
    .exact⟨by show a<_;omega,by show 1+k<_;omega⟩
   refine xi4 _ _ _ (P++[(a,1+k)]) rfl ⟨by simp[hPl],⟨?_,?_,?_⟩,hlt',?_,?_,?_,?_⟩
   .intro p hp;have:=hlt' p hp;omega
   .intro r hr;rw[jY8,hE];have h0:=hP.deg r hr;have hz1:=qY4 (n:=n) (r:=1+k) hlt (by omega)
    by_cases h1:r=a
    .subst h1;have:¬ 1+k=r:=by omega
     simp[this];omega
    .have h1':¬ a=r:=λz=>h1 z.symm
     by_cases h2:1+k=r
     .subst h2;simp[h1'];omega
     .simp[h1',h2];omega
   .intro r h1 h2
    by_cases h3:r<k+1
    .obtain⟨p,q1,q2⟩:=hP.low r h1 h3;exact⟨p,lKf _ q1,q2⟩
    .exact⟨(a,1+k),by simp,by show 1+k=r;omega,by show a<r;omega⟩
   .rw[hu4,show (λr=>dgr P n r+List.count r [a,1+k])=dgr (P++[(a,1+k)]) n from funext λr=>by rw[jY8,hE]]
   .rw[hk4 pr hpu,jJh];simp[encE]
   .obtain⟨x,y,w,z1,z2⟩:=bx;exact⟨x,y,w,by rw[hk4 b hbu,jJq hbp];exact z1,z2⟩
   .intro c o hc he;have hcu:=jJf he hu0;have hcp:=jJf he hpr0;rw[hk4 c hcu,jJq hcp];exact kp _ _ hc (s2 _ _ (hkp _ _ hc he))
 .intro τ G1 h_;apply xe4 h_;clear h_;intro v5 v6 v7 P;refine ae7 ?_;intro hPl hP hlt hgu hgp hbx hkp;rw[lJe,lK7] at hPl hP hbx;rw[show n-1+1=n by omega] at hP
  exists jJv,jKl
  refine⟨b,_,m+(n-1),rfl,hbx,by omega,by omega,by omega,λq G2 q0 q1 bx kp=> ?_⟩
  refine⟨q,rfl,by omega,by omega,?_⟩
  let J2:Nat->St3->Gp->Prop:=λk τ G'=>∃(v7 v8 v9 v10 v11:Option T)(P:List (Nat×Nat)),τ=[some (.ref b),some (.int n),some (.int d),some (.ref u),some (.ref pr),v5,v6,v7,v8,v9,v10,v11]/\P.length<=n+k/\POk P n d n/\G' u=some (.lst (jQx n (dgr P n)))/\G' pr=some (.lst (P.map encE))/\BoxAt G' b (m+n+2*k)/\Keep b G G'
  refine⟨J2,?_,?_,?_,?_⟩
  .exact xi6 _ _ _ _ _ P rfl ⟨by omega,hP,kp _ _ hbu.symm hgu,kp _ _ hbp.symm hgp,bx.mono (by omega),hkp.trans kp⟩
  .intros;trivial
  .intro k x τ G3 hx0 h_;apply xe6 h_;clear h_;intro v7 v8 v9 v10 v11 P;refine ae6 ?_;intro hPl hP hgu hgp hbx hkp;have hk:k<q.toNat:=by have:=(lJg.mp hx0).1;rw[jK3] at this;exact this
   exists jJv,iSeq
   refine⟨b,_,_,rfl,hbx,by omega,by omega,by omega,λc G4 c0 c1 bx4 kp4=> ?_⟩
   refine⟨b,_,_,rfl,bx4,by omega,by omega,by omega,λe G5 e0 e1 bx5 kp5=> ?_⟩
   obtain⟨a,rfl⟩:=lK3 c0;obtain⟨y,rfl⟩:=lK3 e0;have ha:a<n:=by omega
   have hy:y<=n:=by omega
   have kp35:=kp4.trans kp5;have hgu5:=kp35 _ _ hbu.symm hgu;have hgp5:=kp35 _ _ hbp.symm hgp;refine⟨by omega,?_⟩
   have hEn:∀e',e'∈jQl n (a,y)->e'<n:=by
    intro e' he';unfold jQl at he';split at he'<;>simp at he'<;>simp at * <;>omega
   have hEl:(jQl n (a,y)).length<=2:=by unfold jQl;split<;>simp
   refine kQq (es:=[a,y]) (enc:=λr:Nat=>T.int r) (λr=>if r<n then some (T.int (r:Nat)) else none) (by simp;omega) (λ_ _=>trivial) ?_ ?_
   .intro i r hr G6 K K0 s6 hK hK0
    exists tSeq
    by_cases hrn:r<n
    .rw[lJc (by omega)]
     exact hK _ _ (by rw[lJc hrn]) (.refl _)
    .rw[lJb (by omega)]
     exact hK0 (by rw[lJb hrn]) _ (.refl _)
   .intro en G6 hen hen6 s6
    have hEE:List.filterMap (λr=>if r<n then some (T.int (r:Nat)) else none) [a,y]=(jQl n (a,y)).map λr=>T.int (r:Nat):=by
     unfold jQl
     by_cases hyn:y=n
     .simp[ha,hyn]
     .have:y<n:=by omega
      simp[ha,hyn,this]
    rw[hEE] at hen6;refine⟨_,jJn hen6,?_⟩;refine jK4 (λr=>T.bl (decide (dgr P n r+(jQl n (a,y)).count r<=d))) (by omega) (λG' s=>jJn (s _ _ hen6)) ?_ ?_
    .intro i r hr G7 K K0 s7 hK;have hrn:=hEn r (lJo hr)
     exists jK6 (s7 _ _ (s6 _ _ hgu5)),kKq hrn,jKq (s7 _ _ hen6),qQf,s7 _ _ hen6,kJ8,kJ7
     refine⟨rfl,kUt,?_⟩;rw[uQa,show decide (((dgr P n r:Nat):Int)+((jQl n (a,y)).count r:Nat)<=(d:Nat))=decide (dgr P n r+(jQl n (a,y)).count r<=d) from decide_eq_decide.mpr (by omega)]
     exact hK _ (.refl _)
    .intro al G7 hal hal7 s7;refine⟨al,_,_,rfl,hal7,jX2,_,rfl,?_⟩;have s57:=s6.trans s7;have hgp7:=s57 _ _ hgp5;have hgu7:=s57 _ _ hgu5;have henp:en≠pr:=(jJf hgp5 hen).symm;have henu:en≠u:=(jJf hgu5 hen).symm;have hkp7:Keep b G G7:=(hkp.trans kp35).trans (.sub s57);split
     .rename_i hall
      rw[lVl] at hall;refine⟨by rw[jKq hgp7];trivial,_,hgp7,by simp;omega,_,jJn (by rw[jJq henp];exact s7 _ _ hen6),?_⟩
      refine bump (es:=jQl n (a,y)) (n:=n) (f:=dgr P n) (by rw[jJq hpu.symm];exact hgu7) (λG' hG'=>jJn (by rw[hG' _ henu,jJq henp];exact s7 _ _ hen6)) hEn ?_
      intro G8 w7 hu8 hk8;refine xi6 _ _ _ _ _ (P++[(a,y)]) rfl ⟨by simp;omega,⟨?_,?_,?_⟩,?_,?_,?_,?_⟩
      .intro p hp;rw[lJx,lJ1] at hp
       rcases hp with hp | rfl
       .exact hP.ok p hp
       .exact⟨ha,hy⟩
      .intro r hr;rw[jY8]
       by_cases hm:r∈jQl n (a,y)
       .simpa using hall r hm
       .rw[List.count_eq_zero_of_not_mem hm];exact hP.deg r hr
      .intro r h1 h2;obtain⟨p,q1,q2⟩:=hP.low r h1 h2;exact⟨p,lKf _ q1,q2⟩
      .rw[hu8,show (λr=>dgr P n r+List.count r (jQl n (a,y)))=dgr (P++[(a,y)]) n from funext λr=>by rw[jY8]]
      .rw[hk8 pr hpu,jJh];simp[encE]
      .obtain⟨x1,y1,w,z1,z2⟩:=(bx5.sub s57).mono (show m+n+2*k+1+1<=m+n+2*(k+1) by omega)
       exact⟨x1,y1,w,by rw[hk8 b hbu,jJq hbp];exact z1,z2⟩
      .intro c o hc he;have hcu:=jJf he hu0;have hcp:=jJf he hpr0;rw[hk8 c hcu,jJq hcp];exact hkp7 _ _ hc he
     .exact xi6 _ _ _ _ _ P rfl ⟨by omega,hP,hgu7,hgp7,(bx5.sub s57).mono (by omega),hkp7⟩
  .intro τ G3 h_;apply xe6 h_;clear h_;intro v7 v8 v9 v10 v11 P;refine ae6 ?_;intro hPl hP hgu hgp hbx hkp;rw[jK3] at hPl hbx
   exists tSeq
   refine⟨b,pr,P,n,_,rfl,hbx,by omega,hbp.symm,hgp,hP.ok,by omega,by omega,λW G4 mw bx4 kp4=> ?_⟩
   exact kk W G4 (hP.web mw) (bx4.mono (by omega)) (hkp.trans kp4)
def Conn(W:Web):Prop:=∀S:Nat->Prop,S 0->(∀r i s j,S r->en W r i=some (s,j)->S s)->∀r,r<W.length->S r
theorem WebOk.conn{W:Web}(h:WebOk n d W):Conn W:=by
 intro S h0 hst r
 induction r using Nat.strongRecOn with
 | ind r ih=>
  intro hr
  by_cases hz:r=0
  .subst hz;exact h0
  .obtain⟨i,a,j,q1,q2⟩:=h.low r (by omega) (by rw[<-h.len];exact hr)
   exact hst a j r i (ih a q2 (by omega)) (h.sym _ _ _ _ q1)
theorem jX0{W:Web}(h:en W r i=some e):r<W.length:=by
 obtain⟨es,h1,h2⟩:=jK1 h;exact (lJg.mp h1).1
noncomputable def ring(n:Nat):Web:=(List.range n).map λr=>[((r+1)%n,1),((r+n-1)%n,0)]
theorem kZl(h:r<n):en (ring n) r 0=some ((r+1)%n,1):=jU4 (es:=[((r+1)%n,1),((r+n-1)%n,0)]) (by simp[ring,h]) rfl
theorem kQn(h:r<n):en (ring n) r 1=some ((r+n-1)%n,0):=jU4 (es:=[((r+1)%n,1),((r+n-1)%n,0)]) (by simp[ring,h]) rfl
theorem kKz:(ring n).length=n:=by simp[ring]
theorem uJv(hn:1<=n):WebOk n 2 (ring n) where
 len:=kKz
 sym:=by
  intro r i s j h;have hr:r<n:=by have:=jX0 h;rwa [kKz] at this
  have hi:i=0\/i=1:=by
   obtain⟨es,h1,h2⟩:=jK1 h;have:es=[((r+1)%n,1),((r+n-1)%n,0)]:=by simp[ring,hr] at h1;exact h1.symm
   subst this;have:=(lJg.mp h2).1;simp at this;omega
  rcases hi with rfl | rfl
  .rw[kZl hr] at h;cases h;rw[kQn (lQ4 _ (by omega))]
   congr 2
   by_cases hz:r+1=n
   .rw[hz,Nat.mod_self];rw[lQ7 (by omega)];omega
   .rw[lQ7 (show r+1<n by omega),show r+1+n-1=r+n by omega,mJj,lQ7 hr]
  .rw[kQn hr] at h;cases h;rw[kZl (lQ4 _ (by omega))]
   congr 2
   by_cases hz:r=0
   .subst hz;rw[lQ7 (show 0+n-1<n by omega),show 0+n-1+1=n by omega,Nat.mod_self]
   .rw[show r+n-1=(r-1)+n by omega,mJj,lQ7 (show r-1<n by omega),show r-1+1=r by omega,lQ7 hr]
 deg:=λr es hr=>by
  have hrl:r<n:=by have:=(lJg.mp hr).1;rwa [kKz] at this
  simp[ring,hrl] at hr;rw[<-hr];simp
 low:=λr h1 h2=>⟨1,r-1,0,by rw[kQn h2,show r+n-1=(r-1)+n by omega,mJj,lQ7 (show r-1<n by omega)],by omega⟩
def jZj:Sp3:=λxs G Q=>∃n:Nat,xs=[.int n]/\1<=n/\n<=1000/\∀G',Sub G G'->Q (encW (ring n)) G'
noncomputable def qZe:List Str:=["_law_many","_law_room"]
noncomputable def jZs:TS3:=
 (tRet (tCB jKi (jJb (jUc [fF,tT] (jKl D0) M1 jU6 (tTup (jJb (tTup (jJb (tOp rMod (tOp jKm C1 tI1) C0) (jJb tI1 tNil))) (jJb (tTup (jJb (tOp rMod (tOp rSub C1 tI1) C0) (jJb tI0 tNil))) tNil)))) tNil)))
theorem kVv:RdOk jZj jZs qZe:=by
 intro xs G Q h_;apply xe1 h_;clear h_;intro n;refine ae3 ?_;intro hn1 hn2 kk;show jZs _ [some (.int n),none] G
 have hs:=sz
 exists jZs,jKl
 refine⟨by omega,by omega,?_⟩
 rw[show ((n:Int)).toNat=n by omega,jQ4]
 refine jK4 (λr=>encR [((r+1)%n,1),((r+n-1)%n,0)]) (by simp;omega) (λ_ _=>trivial) ?_ ?_
 .intro i r hr G' K K0 s hk
  have hrn:r<n:=by
   rw[lJg] at hr;obtain⟨q1,q2⟩:=hr;simp at q1 q2;omega
  exists tSeq
  have e1:((r:Int)+1)%(n:Int)=(((r+1)%n:Nat):Int):=by simp
  have e2:((r:Int)-1)%(n:Int)=(((r+n-1)%n:Nat):Int):=by
   rw[Int.natCast_emod,show ((r+n-1:Nat):Int)=(r:Int)-1+n by omega,Int.add_emod_right]
  rw[e1,e2];refine⟨by omega,by omega,by omega,by omega,by omega,?_⟩
  exact hk _ (.refl _)
 .intro D G' hD h1 h2
  exists jJn h1
  have:=kk G' h2;rw[encW,ring,lJz] at this;exact this
structure Fine (W:Web):Prop where
 len:W.length<=1000
 row:∀(r:Nat)(es:List (Nat×Nat)),W[r]? =some es->es.length<=1000
 rng:∀r i s j,en W r i=some (s,j)->s<W.length
theorem jQh{W:Web}(h:W[r]? =some es):L2.atI (W.map encR) (r:Int)=some (encR es):=by rw[atN];simp[h]
theorem kJd(h:es[i]? =some e):L2.atI (es.map encE) (i:Int)=some (encE e):=by rw[atN];simp[h]
theorem jVb{k:Nat}{x:T}(h:(rngT 0 n)[k]? =some x):k<n/\x= .int (k:Nat):=jY0 h
noncomputable def leE(a b:Nat×Nat):Bool:=HT.lexLe [(a.1:Int),(a.2:Int)] [(b.1:Int),(b.2:Int)]
theorem leE_iff{a b:Nat×Nat}:leE a b=true↔(a.1<b.1\/(a.1=b.1/\a.2<=b.2)):=by
 unfold leE;rw[HT.lexLe_cons,HT.lexLe_cons,HT.lexLe_nil]
 by_cases h1:a.1=b.1
 .rw[lJc (by omega)]
  by_cases h2:a.2=b.2
  .rw[lJc (by omega)];simp;omega
  .rw[lJb (by omega)];simp;omega
 .rw[lJb (by omega)];simp;omega
abbrev Tie:=(Nat×Nat)×(Nat×Nat)
noncomputable def encT(x:Tie):T:= .tup [encE x.1,encE x.2]
noncomputable def jUz(r:Nat)(es:List (Nat×Nat))(i:Nat):Option Tie:=match es[i]? with
 | some e=>if leE (r,i) e=true then some ((r,i),e) else none
 | none=>none
noncomputable def rowE(W:Web)(r:Nat):List Tie:=match W[r]? with
 | some es=>(List.range es.length).filterMap (jUz r es)
 | none=>[]
noncomputable def jJ8(W:Web):List Tie:=(List.range W.length).flatMap (rowE W)
theorem jVs{x:Tie}(h:jUz r es i=some x):x.1=(r,i)/\es[i]? =some x.2/\leE x.1 x.2=true:=by
 unfold jUz at h;split at h
 .rename_i e he
  split at h
  .rename_i hl;cases h;exact⟨rfl,he,hl⟩
  .cases h
 .cases h
theorem endsL_mem{W:Web}{x:Tie}:x∈jJ8 W↔en W x.1.1 x.1.2=some x.2/\leE x.1 x.2=true:=by
 obtain⟨⟨r,i⟩,e⟩:=x;unfold jJ8;rw[lX1]
 constructor
 .rintro⟨r',h1,h2⟩;unfold rowE at h2;split at h2
  .rename_i es hes
   rw[lV5] at h2;obtain⟨i',h3,h4⟩:=h2;obtain⟨q1,q2,q3⟩:=jVs h4;cases q1;exact⟨jU4 hes q2,q3⟩
  .cases h2
 .rintro⟨h1,h2⟩;obtain⟨es,q1,q2⟩:=jK1 h1;refine⟨r,lKc.mpr (lJg.mp q1).1,?_⟩;unfold rowE;rw[q1];show _∈List.filterMap _ _
  rw[lV5];refine⟨i,lKc.mpr (lJg.mp q2).1,?_⟩;have q2:es[i]? =some e:=q2;unfold jUz;rw[q2];show (if leE (r,i) e=true then _ else _)=_
  rw[lJc h2]
theorem uXb{α β:Type}{f:α->Option β}{R:β->β->Prop}{xs:List α}(hx:xs.Nodup)(h:∀a a' b b',a≠a'->f a=some b->f a'=some b'->R b b'):(xs.filterMap f).Pairwise R:=by
 rw[lZ5];exact hx.imp λhne b hb b' hb'=>h _ _ b b' hne hb hb'
theorem kJc{W:Web}:(jJ8 W).Nodup:=by
 unfold jJ8
 have h:∀l:List Nat,l.Nodup->(l.flatMap (rowE W)).Nodup:=by
  intro l hl
  induction l with
  | nil=>exact lXr
  | cons a as ih=>
   rw[lKz] at hl;rw[mJk,lVx];refine⟨?_,ih hl.2,?_⟩
   .unfold rowE;split
    .refine uXb lV8 ?_;rintro i i' x x' hne hx hx' rfl;have q1:=(jVs hx).1;have q2:=(jVs hx').1;rw[q1] at q2;cases q2;exact hne rfl
    .exact lXr
   .intro x hx y hy;rintro rfl;rw[lX1] at hy;obtain⟨a',h1,h2⟩:=hy
    have fst:∀r,x∈rowE W r->x.1.1=r:=by
     intro r hr;unfold rowE at hr;split at hr
     .rw[lV5] at hr;obtain⟨i,_,h4⟩:=hr;rw[(jVs h4).1]
     .cases hr
    have:a=a':=(fst a hx).symm.trans (fst a' h2);subst this;exact hl.1 h1
 exact h _ lV8
def jXg:Sp3:=λxs G Q=>∃W:Web,xs=[encW W]/\Fine W/\∀p G',G p=none->G' p=some (.lst ((jJ8 W).map encT))->(jJ8 W).length<=1000000->Sub G G'->Q (.ref p) G'
noncomputable def qZf:List Str:=["_law_web_here","_law_found","_law_room","_law_door"]
noncomputable def jZt:TS3:=
 (tSeq (tAsg (tLst tNil) M1)
 (tSeq (tFor (jKl (jJb (tCB rLen D0) tNil)) M2 (tFor (jKl (jJb (tCB rLen (jJb (tOp rIxF C0 C2) tNil)) tNil)) M3 (tIfS (jJx (tOp rLeF (tTup (jJb C2 D3)) (tOp rIxF (tOp rIxF C0 C2) C3))) (jU1 (tBM "list" jQa C1 (jJb (tTup (jJb (tTup (jJb C2 D3)) (jJb (tOp rIxF (tOp rIxF C0 C2) C3) tNil))) tNil))) jKj)))
 (tRet C1)))
theorem kVw:RdOk jXg jZt qZf:=by
 intro xs G Q h_;apply xe1 h_;clear h_;intro W;refine ae2 ?_;intro fine kk;show jZt _ [some (.tup (W.map encR)),none,none,none] G
 have hs:=sz;have hl:=fine.len
 exists jZt,jJv,jKl,List.length_map
 refine⟨lJn _,λp hp=>⟨by omega,by omega,?_⟩⟩
 rw[show ((W.length:Int)).toNat=W.length by omega]
 refine⟨λk τ G'=>∃(v2 v3:Option T),τ=[some (.tup (W.map encR)),some (.ref p),v2,v3]/\G' p=some (.lst (((List.range k).flatMap (rowE W)).map encT))/\((List.range k).flatMap (rowE W)).length<=1000*k/\Sub G G',?_,?_,?_,?_⟩
 .exact⟨none,none,rfl,jJh,lJn _,.new hp⟩
 .intros;trivial
 .intro k x τ G1 hx h_;apply xe2 h_;clear h_;intro v2 v3;refine ae3 ?_;intro h1 h2 h3;obtain⟨hk,rfl⟩:=jVb hx;have hW:W[k]? =some W[k]:=lJj hk
  generalize W[k]=es at hW
  have hes:=fine.row k es hW
  exists jJv,jKl,jQh hW,encR,List.length_map
  refine⟨by omega,by omega,?_⟩
  rw[show ((es.length:Int)).toNat=es.length by omega]
  refine⟨λi τ G'=>∃(v3:Option T),τ=[some (.tup (W.map encR)),some (.ref p),some (.int k),v3]/\G' p=some (.lst (((List.range k).flatMap (rowE W)++(List.range i).filterMap (jUz k es)).map encT))/\((List.range k).flatMap (rowE W)++(List.range i).filterMap (jUz k es)).length<=1000*k+i/\Sub G G',?_,?_,?_,?_⟩
  .exact⟨v3,rfl,by simpa using h1,by simpa using h2,h3⟩
  .intros;trivial
  .intro i x τ G2 hx h_;apply xe1 h_;clear h_;intro v3;refine ae3 ?_;intro i1 i2 i3;obtain⟨hi,rfl⟩:=jVb hx;have hE:es[i]? =some es[i]:=lJj hi
   generalize es[i]=e at hE
   exists kJ8,kJ7,jQh hW,encR,kJd hE,encE,jKq i1,i1
   refine⟨by omega,?_⟩
   have hle:HT.lexLe [(k:Int),(i:Int)] [(e.1:Int),(e.2:Int)]=leE (k,i) e:=rfl;rw[hle]
   by_cases hc:leE (k,i) e=true
   .have hcell:jUz k es i=some ((k,i),e):=by unfold jUz;rw[hE];show (if _ then _ else _)=_;rw[lJc hc]
    rw[lJc hc];refine⟨by omega,by omega,by rw[lJe];omega,?_,?_,i3.over hp⟩
    .rw[lKv,lQ2];simp[hcell,encT,encE]
    .rw[lKv,lQ2,lJ7,lJ7];rw[lJ7] at i2;simp[hcell] at i2 ⊢; omega
   .have hcell:jUz k es i=none:=by unfold jUz;rw[hE];show (if _ then _ else _)=_;rw[lJb hc]
    rw[lJb hc];refine⟨?_,?_,i3⟩
    .rw[lKv,lQ2];simp[hcell]
    .rw[lKv,lQ2];simp[hcell];simp at i2;omega
  .intro τ G' h_;apply xe1 h_;clear h_;intro v3;refine ae3 ?_;intro i1 i2 i3;rw[jK3] at i1 i2
   have e1:(List.range (k+1)).flatMap (rowE W)=(List.range k).flatMap (rowE W)++(List.range es.length).filterMap (jUz k es):=by
    rw[lKv,lV2]
    congr 1
    simp[rowE,hW]
   refine⟨_,_,rfl,by rw[e1];exact i1,by rw[e1];omega,i3⟩
 .intro τ G1 h_;apply xe2 h_;clear h_;intro v2 v3;refine ae3 ?_;intro h1 h2 h3;rw[jK3] at h1 h2
  exists tSeq
  exact kk p G1 hp h1 (by show ((List.range W.length).flatMap (rowE W)).length<=_;omega) h3
noncomputable def jJl(F:List Nat):List T:=F.map λe=>T.int (e:Nat)
theorem qYi{F:List Nat}:inT (.int r) (jJl F)=F.contains r:=by
 unfold inT jJl;rw[List.any_map,List.contains_eq_any_beq]
 congr 1
 funext e
 simp only[Function.comp,kQl]
 by_cases h:e=r
 .subst h;simp
 .have h2:¬ (e:Int)=r:=by omega
  have h3:¬ r=e:=λz=>h z.symm
  rw[beq_eq_false_iff_ne.mpr h3,beq_eq_false_iff_ne.mpr h2]
theorem qYj{F:List Nat}(h:G p=some (.lst (jJl F))):inR G (.int r) (.ref p)=some (F.contains r):=by
 unfold inR;rw[jJn h];show (if _ then _ else _)=_
 rw[lJc ⟨rfl,kUt⟩,qYi]
theorem jQ7:∀{n:Nat}{F:List Nat}(hn:F.Nodup)(hl:∀x,x∈F->x<n),F.length<=n
 | 0,F,hn,hl=>by
  cases F with
  | nil=>exact lJh _
  | cons a as=>exact absurd (hl a (lJ6)) (lKs _)
 | n+1,F,hn,hl=>by
  have h1:=jQ7 (n:=n) (hn.erase n) (λx hx=>by
   rw[hn.mem_erase_iff] at hx;have:=hl x hx.2;omega)
  by_cases h:n∈F
  .rw[List.length_erase_of_mem h] at h1;omega
  .rw[List.erase_of_not_mem h] at h1;omega
theorem jZ2{F:List Nat}(hn:F.Nodup)(hl:∀x,x∈F->x<n)(he:F.length=n):∀r,r<n->r∈F:=by
 intro r hr;apply lVd;intro hm;have:(r::F).length<=n:=jQ7 (lKz.mpr ⟨hm,hn⟩) (λx hx=>by rw[lJp] at hx;rcases hx with rfl | hx;exact hr;exact hl x hx)
 simp at this;omega
def uV0(W:Web)(S:Nat->Prop):Prop:=∀r i s j,S r->en W r i=some (s,j)->S s
structure Found (W:Web) (r0:Nat) (F:List Nat):Prop where
 nd:F.Nodup
 lt:∀x,x∈F->x<W.length
 got:∀S,S r0->uV0 W S->∀x,x∈F->S x
noncomputable def vis(F:List Nat)(es:List (Nat×Nat)):List Nat:=es.foldl (λF e=>if F.contains e.1=true then F else F++[e.1]) F
noncomputable def row(W:Web)(r:Nat):List (Nat×Nat):=(W[r]?).getD []
theorem jXl{W:Web}(h:W[r]? =some es):row W r=es:=by unfold row;rw[h];rfl
variable {j:Nat}
theorem jYw{F:List Nat}(h:es[j]? =some e):vis F (es.take (j+1))=if (vis F (es.take j)).contains e.1=true then vis F (es.take j) else vis F (es.take j)++[e.1]:=by
 unfold vis;rw[lQe,h,mJl];rfl
noncomputable def bfsN(W:Web):Nat->Nat->List Nat->List Nat
 | 0,_,F=>F
 | n+1,k,F=>match F[k]? with
  | some r=>bfsN W n (k+1) (vis F (row W r))
  | none=>F
noncomputable def bfs(W:Web)(r:Nat):List Nat:=bfsN W W.length 0 [r]
theorem jVm{W:Web}{k:Nat}{F:List Nat}(h:F.length<=k):bfsN W n k F=F:=by
 cases n with
 | zero=>rfl
 | succ n=>rw[bfsN,lJ3 h]
theorem jVl{W:Web}{k:Nat}{F:List Nat}(h:F[k]? =some r):bfsN W (n+1) k F=bfsN W n (k+1) (vis F (row W r)):=by rw[bfsN,h]
noncomputable def jU8:Sp3:=λxs G Q=>∃(W:Web)(r0:Nat),xs=[encW W,.int r0]/\Fine W/\r0<W.length/\∀p G' F,G p=none->G' p=some (.lst (jJl F))->Found W r0 F->F=bfs W r0->Sub G G'->Q (.ref p) G'
noncomputable def kX1:List Str:=["_law_web_here","_law_room","_law_found","_law_at","_law_other","_law_door"]
noncomputable def jVe:TS3:=
 (tSeq (tAsg (tLst D1) M2)
 (tSeq (tAsg tI0 M3)
 (tSeq (jZg (jJx (tOp rLt C3 (tCB rLen D2))) (tSeq (tFor (iSeq (tOp rIxF C0 (tOp rIxF C2 C3))) (gTup 2 (jKc M4 (jKc M5 gNil))) (tIfS (jJx (tOp jVn C4 C2)) (jU1 (tBM "list" jQa C2 D4)) jKj))
 (tAsg (tOp jKm C3 tI1) M3)))
 (tRet C2))))
theorem kJp:RdOk jU8 jVe kX1:=by
 intro xs G Q h_;apply xe2 h_;clear h_;intro W r0;refine ae3 ?_;intro fine hr0 kk;show jVe _ [some (.tup (W.map encR)),some (.int r0),none,none,none,none] G
 have hs:=sz;have hl:=fine.len
 exists jVe,jZg,jJv
 refine⟨by omega,λp hp=> ?_⟩
 refine⟨λm τ G'=>∃(at':Nat)(v4 v5:Option T)(F:List Nat),τ=[some (.tup (W.map encR)),some (.int r0),some (.ref p),some (.int at'),v4,v5]/\G' p=some (.lst (jJl F))/\Found W r0 F/\Sub G G'/\bfs W r0=bfsN W (W.length-at') at' F/\m=W.length-at',⟨_,0,none,none,[r0],rfl,jJh,⟨by simp,by simpa using hr0,λS h0 _ x hx=>by rw[lJ1] at hx;rw[hx];exact h0⟩,.new hp,rfl,rfl⟩,?_⟩
 intro m τ G1 h_;apply xe4 h_;clear h_;intro at' v4 v5 F;refine ae5 ?_;intro h1 h2 h3 hB e4_;subst e4_
 exists iSeq,jJn h1,jK6 h1
 have hFl:=jQ7 h2.nd h2.lt;split
 .rename_i hc
  have hat:at'<F.length:=by rw[jJl,lJe] at hc;omega
  have hF:F[at']? =some F[at']:=lJj hat;have hfm:F[at']∈F:=lYf hat
  generalize F[at']=r at hF hfm
  have hrW:=h2.lt r hfm;have hW:W[r]? =some W[r]:=lJj hrW
  generalize W[r]=es at hW
  have hatI:L2.atI (jJl F) (at':Int)=some (.int r):=by rw[atN];simp[jJl,hF]
  exists hatI,jQh hW,encR
  refine⟨λτ G'=>∃(v4 v5:Option T)(F:List Nat),τ=[some (.tup (W.map encR)),some (.int r0),some (.ref p),some (.int ((at'+1:Nat):Int)),v4,v5]/\G' p=some (.lst (jJl F))/\Found W r0 F/\Sub G G'/\bfs W r0=bfsN W (W.length-(at'+1)) (at'+1) F,?_,?_⟩
  .intro τ' G' h_;apply xe3 h_;clear h_;intro v4 v5 F';refine ae4 ?_;intro i1 i2 i3 iB;exact⟨W.length-(at'+1),by omega,at'+1,v4,v5,rfl,F',i1,i2,i3,iB,rfl⟩
  .refine⟨λj τ G'=>∃(v4 v5:Option T)(F':List Nat),τ=[some (.tup (W.map encR)),some (.int r0),some (.ref p),some (.int at'),v4,v5]/\G' p=some (.lst (jJl F'))/\r∈F'/\Found W r0 F'/\Sub G G'/\F'=vis F (es.take j),?_,?_,?_,?_⟩
   .exact⟨v4,v5,F,rfl,h1,hfm,h2,h3,rfl⟩
   .intros;trivial
   .intro j x τ G2 hx0 h_;apply xe3 h_;clear h_;intro v4 v5 F0;refine ae5 ?_;intro i1 i2 i3 i4 iB;obtain⟨⟨s,t⟩,hx,rfl⟩:=jJ7 hx0;have hen:=jU4 hW hx
    exists encE,jVn,qYj i1,jKq i1,i1
    by_cases hm:s∈F0
    .rw[lJb (by simp[hm])]
     exact⟨F0,rfl,i2,i3,i4,by rw[jYw hx,<-iB,lJc (by simpa using hm)]⟩
    .rw[lJc (by simp[hm])]
     have hFl:=jQ7 i3.nd i3.lt;refine⟨by rw[jJl,lJe];omega,F0++[s],by simp[jJl],lKf _ i2,⟨?_,?_,?_⟩,i4.over hp,by rw[jYw hx,<-iB,lJb (by simpa using hm)]⟩
     .rw[lVx];exact⟨i3.nd,by simp,λa ha b hb=>by rw[lJ1] at hb;subst hb;rintro rfl;exact hm ha⟩
     .intro x hx;rw[lJx,lJ1] at hx
      rcases hx with hx | rfl
      .exact i3.lt x hx
      .exact fine.rng _ _ _ _ hen
     .intro S h0 hc x hx;rw[lJx,lJ1] at hx
      rcases hx with hx | rfl
      .exact i3.got S h0 hc x hx
      .exact hc _ _ _ _ (i3.got S h0 hc r i2) hen
   .intro τ G' h_;apply xe3 h_;clear h_;intro v4 v5 F0;refine ae5 ?_;intro i1 i2 i3 i4 iB
    exists tSeq
    refine⟨by simp,F0,i1,i3,i4,?_⟩
    rw[lJe,lQt] at iB;rw[hB,show W.length-at'=W.length-(at'+1)+1 by omega,jVl hF,jXl hW,<-iB]
 .rename_i hc
  exact kk p G1 F hp h1 h2 (by rw[hB,jVm (by rw[jJl,lJe] at hc;omega)]) h3
structure Turn (m:Nat) (σ:List Nat):Prop where
 len:σ.length=m
 nd:σ.Nodup
 lt:∀x,x∈σ->x<m
def Invol(σ:List Nat):Prop:=∀(k x:Nat),σ[k]? =some x->σ[x]? =some k
variable {σ:List Nat}
theorem Turn.at(h:Turn m σ){k:Nat}(hk:k<m):∃x,σ[k]? =some x/\x<m:=by
 have hk':k<σ.length:=by rw[h.len];exact hk
 exact⟨σ[k],lJj hk',h.lt _ (lYf hk')⟩
variable {x:Nat}
theorem Turn.onto(h:Turn m σ)(hx:x<m):∃k,k<m/\σ[k]? =some x:=by
 obtain⟨k,hk⟩:=lJ2 (jZ2 h.nd h.lt h.len x hx);exact⟨k,by rw[<-h.len];exact (lJg.mp hk).1,hk⟩
variable {k':Nat}
theorem Turn.inj(h:Turn m σ){k:Nat}(h1:σ[k]? =some x)(h2:σ[k']? =some x):k=k':=
 (lQ5 (lJg.mp h1).1 h.nd).mp (h1.trans h2.symm)
theorem Invol.turn(hl:σ.length=m)(h:Invol σ):Turn m σ where
 len:=hl
 nd:=by
  unfold List.Nodup;refine lYe.mpr ?_;intro i j hi hj hij e;have h1:=h j _ (lJj hj);have h2:=h i _ (lJj hi);rw[e,h1] at h2;cases h2;omega
 lt:=λx hx=>by
  obtain⟨k,hk⟩:=lJ2 hx;rw[<-hl];exact (lJg.mp (h k x hk)).1
variable {a:Nat}
theorem Invol.swap{b:Nat}(h:Invol σ)(ha:σ[a]? =some a)(hb:σ[b]? =some b)(hab:a≠b):Invol ((σ.set a b).set b a):=by
 have hal:=(lJg.mp ha).1;have hbl:=(lJg.mp hb).1
 have gt:∀k,((σ.set a b).set b a)[k]? =if k=b then some a else if k=a then some b else σ[k]? :=by
  intro k
  by_cases h1:k=b
  .subst h1;rw[lJc rfl,lKy (by simpa using hbl)]
  .rw[lJb h1,lKu (λz=>h1 z.symm)]
   by_cases h2:k=a
   .subst h2;rw[lJc rfl,lKy hal]
   .rw[lJb h2,lKu (λz=>h2 z.symm)]
 intro k x hk;rw[gt] at hk ⊢
 by_cases h1:k=b
 .subst h1;rw[lJc rfl] at hk;cases hk;rw[lJb hab,lJc rfl]
 .rw[lJb h1] at hk
  by_cases h2:k=a
  .subst h2;rw[lJc rfl] at hk;cases hk;rw[lJc rfl]
  .rw[lJb h2] at hk;have hx:=h k x hk;have h3:x≠b:=by rintro rfl;rw[hb] at hx;cases hx;exact h1 rfl
   have h4:x≠a:=by rintro rfl;rw[ha] at hx;cases hx;exact h2 rfl
   rw[lJb h3,lJb h4];exact hx
noncomputable def jZi:Sp3:=λxs G Q=>∃(b:Addr)(m n:Nat)(own:Bool),xs=[.ref b,.int m,.bl own]/\BoxAt G b n/\n+m<2^40/\1<=m/\m<=1000/\∀ σ G',Turn m σ->(own=true->Invol σ)->BoxAt G' b (n+m)->Keep b G G'->Q (.tup (jJl σ)) G'
noncomputable def qZc:List Str:=["_law_box_here","_law_many","_law_own","_law_order","_law_k","_law_turn_here","_law_one","_law_other"]
noncomputable def jZq:TS3:=
 (tSeq (tAsg (tLst tNil) M3)
 (tSeq (tFor (jKl D1) M4 (jU1 (tBM "list" jZw C3 (jJb (jJm jJw (jJb C0 (jJb (tOp jKm C4 tI1) tNil))) D4))))
 (tSeq (tIfS (tNot (tTru rTru C2)) (tRet (tCB jKi D3)) jKj)
 (tSeq (tAsg (jQv D1) M5)
 (tSeq (tFor (qYm (jJb tI0 (jJb (tOp rSub C1 tI1) (jJb tI2 tNil)))) M4 (tSeq (tPar 6 7 (jJb (tOp rIxF C3 C4) (jJb (tOp rIxF C3 (tOp jKm C4 tI1)) tNil)))
 (tSeq (tAsg C7 (gSub C5 C6 jU3))
 (tAsg C6 (gSub C5 C7 jU3)))))
 (tRet (tCB jKi D5)))))))
theorem kVt:RdOk jZi jZq qZc:=by
 intro xs G Q h_;apply xe4 h_;clear h_;intro b m n own;refine ae5 ?_;intro hb hn hm1 hm2 kk;show jZq _ [some (.ref b),some (.int m),some (.bl own),none,none,none,none,none] G
 have hs:=sz;obtain⟨bo,hbo⟩:=hb.some
 exists jZq,jJv,jKl,qYm,jQv
 refine⟨lJn _,λo ho=>⟨by omega,by omega,?_⟩⟩
 have hob:=jJf hbo ho;rw[show ((m:Int)).toNat=m by omega]
 refine⟨λk τ G'=>∃(v4:Option T)(σ:List Nat),τ=[some (.ref b),some (.int m),some (.bl own),some (.ref o),v4,none,none,none]/\G' o=some (.lst (jJl σ))/\Turn k σ/\BoxAt G' b (n+k)/\Keep b G G',?_,?_,?_,?_⟩
 .exact⟨none,[],rfl,jJh,⟨rfl,lXr,λx hx=>by cases hx⟩,hb.gup hob,.new ho⟩
 .intros;trivial
 .intro k x τ G1 hx h_;apply xe2 h_;clear h_;intro v4 σ;refine ae4 ?_;intro h1 h2 h3 h4;obtain⟨hk,rfl⟩:=jVb hx
  exists jKq h1
  refine⟨b,_,n+k,rfl,h3,by omega,by omega,by omega,λc G2 c0 c1 bx kp=> ?_⟩
  have h1':=kp _ _ hob.symm h1;refine⟨jJl σ,c,rfl,h1',c0,by rw[jJl,lJe,h2.len];omega,by rw[jJl,lJe,h2.len];omega,σ.take c.toNat++k::σ.drop c.toNat,?_,⟨?_,?_,?_⟩,bx.gup hob,(h4.trans kp).over ho⟩
  .simp[insT,jJl,lV9,lYg]
  .rw[ins_perm.length_eq,lJ7,h2.len];rfl
  .rw[ins_perm.nodup_iff,lVx];exact⟨h2.nd,by simp,λa ha e he=>by rw[lJ1] at he;subst he;have:=h2.lt a ha;omega⟩
  .intro x hx;rw[ins_perm.mem_iff,lJx,lJ1] at hx
   rcases hx with hx | rfl
   .have:=h2.lt x hx;omega
   .omega
 .intro τ G1 h_;apply xe2 h_;clear h_;intro v4 σ;refine ae4 ?_;intro h1 h2 h3 h4;rw[jK3] at h2 h3
  exists jJn h1
  cases own with
  | false=>exact kk σ G1 h2 (λz=>by cases z) h3 h4
  | true=>
   exists jJv,qYm,jQv
   refine⟨by omega,by omega,λt ht=> ?_⟩
   have hto:=jJf h1 ht;have htb:b≠t:=by obtain⟨u,hu⟩:=h3.some;exact jJf hu ht
   have ht0:=h4.none htb.symm ht
   have hsm:Builtin.Range.small 0 ((m:Int)-1) 2=true:=by
    unfold Builtin.Range.small Builtin.Range.rangeSize;simp only[Builtin.Range.rangeFitsLong,lK5,Bool.or_eq_true,lK1,beq_iff_eq,show (2:Int)>0 by decide,lKt]
    split<;>omega
   refine⟨by decide,by decide,hsm,?_⟩
   have hN:(Builtin.Range.rangeSize 0 ((m:Int)-1) 2).toNat=m / 2:=by
    unfold Builtin.Range.rangeSize;rw[lJc (by decide)]
    split<;>omega
   rw[hN,show ((m:Int)).toNat=m by omega,jQ4]
   refine⟨λk τ G'=>∃(v4 v6 v7:Option T)(ρ:List Nat),τ=[some (.ref b),some (.int m),some (.bl true),some (.ref o),v4,some (.ref t),v6,v7]/\G' t=some (.lst (jJl ρ))/\G' o=some (.lst (jJl σ))/\Invol ρ/\ρ.length=m/\(∀i x,2*k<=i->σ[i]? =some x->ρ[x]? =some x)/\BoxAt G' b (n+m)/\Keep b G G',?_,?_,?_,?_⟩
   .refine⟨_,_,_,List.range m,rfl,jJh,by rw[jJq hto];exact h1,?_,by simp,?_,h3.gup htb,h4.over ht0⟩
    .intro k x hk;obtain⟨q1,q2⟩:=lJg.mp hk;simp at q1 q2;subst q2;exact hk
    .intro i x _ hx;have:=h2.lt x (lJo hx);simp[this]
   .intros;trivial
   .intro k x τ G2 hx h_;apply xe4 h_;clear h_;intro v4 v6 v7 ρ;refine ae7 ?_;intro i1 i2 i3 i4 i5 i6 i7
    obtain⟨hk,rfl⟩:k<m / 2/\x= .int ((2*k:Nat):Int):=by
     obtain⟨q1,q2⟩:=lJg.mp hx;simp[rngS] at q1 q2;refine⟨q1,?_⟩;rw[<-q2];congr 1;omega
    obtain⟨a,ha,_⟩:=h2.at (show 2*k<m by omega)
    obtain⟨c,hc,_⟩:=h2.at (show 2*k+1<m by omega)
    have hca:L2.atI (jJl σ) ((2*k:Nat):Int)=some (.int (a:Nat)):=by rw[atN];simp[jJl,ha]
    have hcc:L2.atI (jJl σ) (((2*k:Nat):Int)+1)=some (.int (c:Nat)):=by rw[show ((2*k:Nat):Int)+1=((2*k+1:Nat):Int) by omega,atN];simp[jJl,hc]
    have hac:a≠c:=by rintro rfl;have:=h2.inj ha hc;omega
    have fa:=i5 (2*k) a (lJh _) ha;have fc:=i5 (2*k+1) c (by omega) hc
    have hal:a<ρ.length:=(lJg.mp fa).1;have hcl:c<ρ.length:=(lJg.mp fc).1;have ixa:L2.ixN (jJl ρ).length (a:Int)=some a:=kJw (by rw[jJl,lJe];exact hal)
    have ixc:L2.ixN ((jJl ρ).set a (.int (c:Nat))).length (c:Int)=some c:=kJw (by rw[lQz,jJl,lJe];exact hcl)
    exists jK6 i2,hca,hcc,jXj i1 ixa,ixc
    have e1:((jJl ρ).set a (.int (c:Nat))).set c (.int (a:Nat))=jJl ((ρ.set a c).set c a):=by simp[jJl,List.map_set]
    rw[e1];refine⟨(ρ.set a c).set c a,rfl,by rw[jJq hto];exact i2,i3.swap fa fc hac,by simp[i4],?_,i6.gup htb,i7.over ht0⟩
    intro i x hi hx;have hxa:a≠x:=by rintro rfl;have:=h2.inj ha hx;omega
    have hxc:c≠x:=by rintro rfl;have:=h2.inj hc hx;omega
    rw[lKu hxc,lKu hxa];exact i5 i x (by omega) hx
   .intro τ G2 h_;apply xe4 h_;clear h_;intro v4 v6 v7 ρ;refine ae7 ?_;intro i1 i2 i3 i4 i5 i6 i7
    exists jJn i1
    exact kk ρ G2 (i3.turn i4) (λ_=>i3) i6 i7
structure TurnsOk (W:Web) (m:Nat) (Ts:List (List Nat)):Prop where
 len:Ts.length=(jJ8 W).length
 ok:∀(t:Nat)(x:Tie)(σ:List Nat),(jJ8 W)[t]? =some x->Ts[t]? =some σ->Turn m σ/\(x.1=x.2->Invol σ)
def Bel(W:Web)(Ts:List (List Nat))(x i y j:Nat):Prop:=∃(t:Nat)(e f:Nat×Nat)(σ:List Nat)(k k':Nat),(jJ8 W)[t]? =some (e,f)/\Ts[t]? =some σ/\σ[k]? =some k'/\
 ((x=e.1+k*W.length/\i=e.2/\y=f.1+k'*W.length/\j=f.2)\/(y=e.1+k*W.length/\j=e.2/\x=f.1+k'*W.length/\i=f.2))
variable {Ts:List (List Nat)}{y:Nat}
theorem Bel.symm{W:Web}(h:Bel W Ts x i y j):Bel W Ts y j x i:=by
 obtain⟨t,e,f,σ,k,k',h1,h2,h3,h4⟩:=h;exact⟨t,e,f,σ,k,k',h1,h2,h3,h4.symm⟩
theorem spl{k r':Nat}(h1:r<n)(h2:r'<n)(h:r+k*n=r'+k'*n):r=r'/\k=k':=by
 have e1:(r+k*n)%n=r:=by rw[mJm,lQ7 h1]
 have e2:(r'+k'*n)%n=r':=by rw[mJm,lQ7 h2]
 have hn:0<n:=by omega
 have e3:(r+k*n) / n=k:=by rw[Nat.add_mul_div_right _ _ hn,lYz h1,lQ3]
 have e4:(r'+k'*n) / n=k':=by rw[Nat.add_mul_div_right _ _ hn,lYz h2,lQ3]
 rw[h] at e1 e3;exact⟨e1.symm.trans e2,e3.symm.trans e4⟩
theorem kKu{W:Web}{t:Nat}{x:Tie}(h:(jJ8 W)[t]? =some x):en W x.1.1 x.1.2=some x.2/\leE x.1 x.2=true:=endsL_mem.mp (lJo h)
theorem kKt{W:Web}{t:Nat}{x:Tie}(h:(jJ8 W)[t]? =some x)(h':(jJ8 W)[t']? =some x):t=t':=(lQ5 (lJg.mp h).1 kJc).mp (h.trans h'.symm)
theorem Bel.fn{W:Web}{y' j':Nat}(hs:Sym W)(ok:TurnsOk W m Ts)(h:Bel W Ts x i y j)(h':Bel W Ts x i y' j'):y=y'/\j=j':=by
 obtain⟨t,e,f,σ,k,l,h1,h2,h3,h4⟩:=h;obtain⟨t',e',f',σ',k',l',h1',h2',h3',h4'⟩:=h';obtain⟨q1,q2⟩:=kKu h1;obtain⟨q1',q2'⟩:=kKu h1';have q1:en W e.1 e.2=some (f.1,f.2):=q1;have q1':en W e'.1 e'.2=some (f'.1,f'.2):=q1';have qs:=hs _ _ _ _ q1;have qs':=hs _ _ _ _ q1';have l1:=jX0 q1;have l2:=jX0 qs;have l1':=jX0 q1';have l2':=jX0 qs';obtain⟨e1,e2⟩:=e;obtain⟨f1,f2⟩:=f;obtain⟨e1',e2'⟩:=e';obtain⟨f1',f2'⟩:=f';obtain⟨T1,T2⟩:=ok.ok _ _ _ h1 h2;simp only at *
 rcases h4 with ⟨rfl,rfl,rfl,rfl⟩ | ⟨rfl,rfl,rfl,rfl⟩<;>rcases h4' with ⟨z1,rfl,rfl,rfl⟩ | ⟨rfl,rfl,z1,rfl⟩
 .obtain⟨rfl,rfl⟩:=spl l1 l1' z1;rw[q1] at q1';cases q1';have:=kKt h1 h1';subst this;rw[h2] at h2';cases h2';rw[h3] at h3';cases h3';exact⟨rfl,rfl⟩
 .obtain⟨rfl,rfl⟩:=spl l1 l2' z1;rw[q1] at qs';cases qs';have a1:=leE_iff.mp q2;have a2:=leE_iff.mp q2';simp only at a1 a2;have:e1=f1/\i=j:=by omega
  obtain⟨rfl,rfl⟩:=this;have:=kKt h1 h1';subst this;rw[h2] at h2';cases h2';have:=T2 rfl _ _ h3';rw[h3] at this;cases this;exact⟨rfl,rfl⟩
 .obtain⟨rfl,rfl⟩:=spl l2 l1' z1;rw[qs] at q1';cases q1';have a1:=leE_iff.mp q2;have a2:=leE_iff.mp q2';simp only at a1 a2;have:e1=f1/\j=i:=by omega
  obtain⟨rfl,rfl⟩:=this;have:=kKt h1 h1';subst this;rw[h2] at h2';cases h2';have:=T2 rfl _ _ h3;rw[h3'] at this;cases this;exact⟨rfl,rfl⟩
 .obtain⟨rfl,rfl⟩:=spl l2 l2' z1;rw[qs] at qs';cases qs';have:=kKt h1 h1';subst this;rw[h2] at h2';cases h2';have:=T1.inj h3 h3';subst this;exact⟨rfl,rfl⟩
noncomputable def cl(M:List (List T))(x i:Nat):Option T:=(M[x]?).bind λts=>ts[i]?
noncomputable def put(M:List (List T))(x i:Nat)(v:T):List (List T):=match M[x]? with
 | some ts=>M.set x (ts.set i v)
 | none=>M
variable {M:List (List T)}
theorem kQr(h:cl M x i=some v):∃ts,M[x]? =some ts/\ts[i]? =some v:=by
 unfold cl at h;cases e1:M[x]? with
 | none=>rw[e1] at h;cases h
 | some ts=>rw[e1] at h;exact⟨ts,rfl,h⟩
variable {ts:List T}
theorem kUy(h1:M[x]? =some ts):cl M x i=ts[i]? :=by unfold cl;rw[h1];rfl
theorem kZp{u:T}(h:cl M x i=some u)(x' i':Nat):cl (put M x i v) x' i'=if x'=x/\i'=i then some v else cl M x' i':=by
 obtain⟨ts,h1,h2⟩:=kQr h;have hx:=(lJg.mp h1).1;have hi:=(lJg.mp h2).1;unfold put;rw[h1];show cl (M.set x (ts.set i v)) x' i'=_
 by_cases hxx:x'=x
 .subst hxx;rw[kUy (lKy hx),kUy h1]
  by_cases hii:i'=i
  .subst hii;rw[lKy hi,lJc ⟨rfl,rfl⟩]
  .rw[lKu (λz=>hii z.symm),lJb (λz=>hii z.2)]
 .rw[lJb (λz=>hxx z.1)]
  unfold cl;rw[lKu (λz=>hxx z.symm)]
structure SInv (W:Web) (m:Nat) (Ts:List (List Nat)) (M:List (List T)):Prop where
 len:M.length=m*W.length
 row:∀(x:Nat)(ts:List T),M[x]? =some ts->∃es,W[x%W.length]? =some es/\ts.length=es.length
 val:∀x i v,cl M x i=some v->v= .non\/∃y j,Bel W Ts x i y j/\v=encE (y,j)
def Fl(M:List (List T))(x i:Nat):Prop:=∃e,cl M x i=some (encE e)
theorem SInv.at{W:Web}{k:Nat}(h:SInv W m Ts M)(hk:k<m)(he:en W r i=some e):∃ts,M[r+k*W.length]? =some ts/\i<ts.length:=by
 obtain⟨es,h1,h2⟩:=jK1 he;have hr:=jX0 he
 have hx:r+k*W.length<M.length:=by
  rw[h.len];have:(k+1)*W.length<=m*W.length:=lZd _ hk;rw[lVj] at this;omega
 have hM:M[r+k*W.length]? =some M[r+k*W.length]:=lJj hx;obtain⟨es',q1,q2⟩:=h.row _ _ hM;rw[mJm,lQ7 hr,h1] at q1;cases q1;exact⟨_,hM,by rw[q2];exact (lJg.mp h2).1⟩
theorem SInv.put{W:Web}(h:SInv W m Ts M)(hx:M[x]? =some ts)(hi:i<ts.length)(hb:Bel W Ts x i y j):
  SInv W m Ts (M.set x (ts.set i (encE (y,j))))/\Fl (M.set x (ts.set i (encE (y,j)))) x i/\∀x' i',Fl M x' i'->Fl (M.set x (ts.set i (encE (y,j)))) x' i':=by
 have hc:cl M x i=some ts[i]:=by rw[kUy hx];exact lJj hi
 have hp:M.set x (ts.set i (encE (y,j)))=_root_.W.put M x i (encE (y,j)):=by unfold _root_.W.put;rw[hx]
 have hxl:=(lJg.mp hx).1;refine⟨⟨by rw[lQz];exact h.len,λx' ts' h'=> ?_,λx' i' v hv=> ?_⟩,?_,λx' i' ⟨e,he⟩=> ?_⟩
 .by_cases hxx:x'=x
  .subst hxx;rw[lKy hxl] at h';cases h';rw[lQz];exact h.row _ _ hx
  .rw[lKu (λz=>hxx z.symm)] at h';exact h.row _ _ h'
 .rw[hp,kZp hc] at hv
  by_cases hxx:x'=x/\i'=i
  .rw[lJc hxx] at hv;cases hv;obtain⟨rfl,rfl⟩:=hxx;exact .inr ⟨y,j,hb,rfl⟩
  .rw[lJb hxx] at hv;exact h.val _ _ _ hv
 .exact⟨(y,j),by rw[hp,kZp hc,lJc ⟨rfl,rfl⟩]⟩
 .by_cases hxx:x'=x/\i'=i
  .exact⟨(y,j),by rw[hp,kZp hc,lJc hxx]⟩
  .exact⟨e,by rw[hp,kZp hc,lJb hxx];exact he⟩
structure Sheet (W:Web) (m:Nat) (V:Web):Prop where
 len:V.length=m*W.length
 row:∀(x:Nat)(ts:List (Nat×Nat)),V[x]? =some ts->∃es,W[x%W.length]? =some es/\ts.length=es.length
 sym:Sym V
def uQn(W:Web)(m:Nat)(Ts:List (List Nat))(M:List (List T))(d:Nat->Nat->Prop):Prop:=∀t k e f σ k',d t k->(jJ8 W)[t]? =some (e,f)->Ts[t]? =some σ->σ[k]? =some k'->Fl M (e.1+k*W.length) e.2/\Fl M (f.1+k'*W.length) f.2
noncomputable def dec:T->Nat×Nat
 | .tup [.int a,.int b]=>(a.toNat,b.toNat)
 | _=>(0,0)
theorem kJg:dec (encE e)=e:=by obtain⟨a,b⟩:=e;simp[encE,dec]
theorem qV6{W:Web}(hs:Sym W)(ok:TurnsOk W m Ts)(h:SInv W m Ts M)(hd:uQn W m Ts M λt k=>t<(jJ8 W).length/\k<m):Sheet W m (M.map (List.map dec))/\M=(M.map (List.map dec)).map (List.map encE):=by
 have full:∀x i v,cl M x i=some v->Fl M x i:=by
  intro x i v hv;obtain⟨ts,h1,h2⟩:=kQr hv;obtain⟨es,q1,q2⟩:=h.row _ _ h1;have hx:x<m*W.length:=by rw[<-h.len];exact (lJg.mp h1).1
  have hi:i<es.length:=by rw[<-q2];exact (lJg.mp h2).1
  have hW:0<W.length:=by rcases lZ1 W.length with z | z;rw[z] at hx;omega;exact z
  have hk:x / W.length<m:=Nat.div_lt_of_lt_mul (by rw[lX9];exact hx)
  have hxe:x%W.length+x / W.length*W.length=x:=by rw[lX9];exact Nat.mod_add_div x W.length
  have he:=jU4 q1 (lJj hi)
  generalize es[i]=e at he
  obtain⟨s,j⟩:=e
  by_cases hle:leE (x%W.length,i) (s,j)=true
  .obtain⟨t,ht⟩:=lJ2 (endsL_mem (x:=((x%W.length,i),(s,j))).mpr ⟨he,hle⟩);have htl:=(lJg.mp ht).1;have htT:t<Ts.length:=by rw[ok.len];exact htl
   have hσ:Ts[t]? =some Ts[t]:=lJj htT;obtain⟨k',hk',_⟩:=(ok.ok _ _ _ ht hσ).1.at hk;have:=(hd t _ _ _ _ _ ⟨htl,hk⟩ ht hσ hk').1;simp only at this;rw[hxe] at this;exact this
  .have hle2:leE (s,j) (x%W.length,i)=true:=by
    rw[leE_iff] at hle ⊢; simp only at hle ⊢; omega
   obtain⟨t,ht⟩:=lJ2 (endsL_mem (x:=((s,j),(x%W.length,i))).mpr ⟨hs _ _ _ _ he,hle2⟩);have htl:=(lJg.mp ht).1;have htT:t<Ts.length:=by rw[ok.len];exact htl
   have hσ:Ts[t]? =some Ts[t]:=lJj htT;obtain⟨k0,hk0,hk1⟩:=(ok.ok _ _ _ ht hσ).1.onto hk;have:=(hd t _ _ _ _ _ ⟨htl,hk0⟩ ht hσ hk1).2;simp only at this;rw[hxe] at this;exact this
 have enM:∀x i e,en (M.map (List.map dec)) x i=some e->cl M x i=some (encE e)/\Bel W Ts x i e.1 e.2:=by
  intro x i e he;obtain⟨es,h1,h2⟩:=jK1 he;rw[lJ4] at h1;cases e1:M[x]? with
  | none=>rw[e1] at h1;cases h1
  | some ts=>
   rw[e1] at h1;cases h1;rw[lJ4] at h2;cases e2:ts[i]? with
   | none=>rw[e2] at h2;cases h2
   | some v=>
    rw[e2] at h2;cases h2;have hc:cl M x i=some v:=by rw[kUy e1];exact e2
    obtain⟨e',he'⟩:=full x i v hc;rw[hc] at he';cases he';rw[kJg];refine⟨hc,?_⟩
    rcases h.val _ _ _ hc with z | ⟨y,j,hb,z⟩
    .cases z
    .have:e'=(y,j):=by rw[<-kJg (e:=e'),z,kJg]
     rw[this];exact hb
 have toM:∀x i e,cl M x i=some (encE e)->en (M.map (List.map dec)) x i=some e:=by
  intro x i e he;obtain⟨ts,h1,h2⟩:=kQr he;exact jU4 (es:=ts.map dec) (by simp[h1]) (by simp[h2,kJg])
 refine⟨⟨by rw[lJe];exact h.len,λx ts hx=> ?_,λx i y j he=> ?_⟩,?_⟩
 .rw[lJ4] at hx;cases e1:M[x]? with
  | none=>rw[e1] at hx;cases hx
  | some us=>
   rw[e1] at hx;cases hx;rw[lJe];exact h.row _ _ e1
 .obtain⟨h1,h2⟩:=enM x i (y,j) he;have h3:Bel W Ts y j x i:=h2.symm
  have hin:∃v,cl M y j=some v:=by
   obtain⟨t,e,f,σ,k,k',q1,q2,q3,q4⟩:=h3;obtain⟨z1,z2⟩:=kKu q1;have z1:en W e.1 e.2=some (f.1,f.2):=z1;have T1:=(ok.ok _ _ _ q1 q2).1;have hk:k<m:=by rw[<-T1.len];exact (lJg.mp q3).1
   have hk':k'<m:=T1.lt _ (lJo q3)
   rcases q4 with ⟨a1,a2,_,_⟩ | ⟨_,_,a1,a2⟩
   .obtain⟨ts,b1,b2⟩:=h.at hk z1;exact⟨ts[e.2],by rw[a1,a2,kUy b1];exact lJj b2⟩
   .obtain⟨ts,b1,b2⟩:=h.at hk' (hs _ _ _ _ z1);exact⟨ts[f.2],by rw[a1,a2,kUy b1];exact lJj b2⟩
  obtain⟨v,hv⟩:=hin;obtain⟨e',he'⟩:=full y j v hv;have h4:=toM y j e' he';obtain⟨_,h5⟩:=enM y j e' h4;obtain⟨a1,a2⟩:=Bel.fn hs ok h3 h5;rw[h4,<-show (e'.1,e'.2)=e' from rfl,<-a1,<-a2]
 .rw[lJz]
  conv=>lhs;rw[<-List.map_id M]
  apply lQ6;intro ts hts;show ts=(ts.map dec).map encE
  rw[lJz]
  conv=>lhs;rw[<-List.map_id ts]
  apply lQ6;intro v hv;obtain⟨x,hx⟩:=lJ2 hts;obtain⟨i,hi⟩:=lJ2 hv;obtain⟨e,he⟩:=full x i v (by rw[kUy hx];exact hi)
  rw[kUy hx,hi] at he;cases he;show encE e=encE (dec (encE e))
  rw[kJg]
def RowsT(G:Gp)(h:Addr)(M:List (List T))(rs:List Addr):Prop:=G h=some (.lst (rs.map T.ref))/\rs.length=M.length/\∀(i:Nat)(r:Addr),rs[i]? =some r->∃ts:List T,M[i]? =some ts/\G r=some (.lst ts)
theorem RowsT.set{a:Addr}(x:RowsT G h M rs)(hn:(h::rs).Nodup)(hr:rs[r]? =some a):RowsT (gup G a (.lst ts)) h (M.set r ts) rs:=by
 rw[lKz] at hn;have hrl:r<rs.length:=(lJg.mp hr).1;refine⟨by rw[jJq];exact x.1;rintro rfl;exact hn.1 (lJo hr),by rw[lQz];exact x.2.1,λi c e=> ?_⟩
 by_cases hi:i=r
 .subst hi;rw[hr] at e;cases e;exact⟨ts,by rw[lKy];rw[<-x.2.1];exact hrl,jJh⟩
 .obtain⟨us,h1,h2⟩:=x.2.2 i c e;refine⟨us,by rw[lKu (Ne.symm hi)];exact h1,?_⟩
  rw[jJq];exact h2;rintro rfl;have hil:i<rs.length:=(lJg.mp e).1;exact hi ((lQ5 hil hn.2).mp (e.trans hr.symm))
theorem RowsT.get(R:RowsT G h M rs)(hx:M[x]? =some ts):∃a,rs[x]? =some a/\L2.atI (rs.map T.ref) (x:Int)=some (.ref a)/\G a=some (.lst ts):=by
 have hxl:x<rs.length:=by rw[R.2.1];exact (lJg.mp hx).1
 have hr:rs[x]? =some rs[x]:=lJj hxl;obtain⟨us,h1,h2⟩:=R.2.2 x _ hr;rw[hx] at h1;cases h1;exact⟨_,hr,by rw[atN,lJ4,hr];rfl,h2⟩
theorem uJx:(List.replicate n [T.non]).flatten=List.replicate n T.non:=by
 induction n with
 | zero=>rfl
 | succ n ih=>rw[lVi,lVv,ih];rfl
noncomputable def rowN(W:Web)(x:Nat):List T:=List.replicate ((W[x%W.length]?).getD []).length .non
theorem kZ9{W:Web}:SInv W m Ts ((List.range (m*W.length)).map (rowN W)) where
 len:=by simp
 row:=λx ts h=>by
  rw[lJ4] at h;cases e:(List.range (m*W.length))[x]? with
  | none=>rw[e] at h;cases h
  | some y=>
   rw[e] at h;cases h;obtain⟨q1,q2⟩:=lJg.mp e;simp at q1 q2;subst q2;have hW:0<W.length:=by rcases lZ1 W.length with z | z;rw[z] at q1;omega;exact z
   have hx:x%W.length<W.length:=lQ4 _ hW;exact⟨W[x%W.length],lJj hx,by simp[rowN,hx]⟩
 val:=λx i v h=>by
  obtain⟨ts,h1,h2⟩:=kQr h;rw[lJ4] at h1;cases e:(List.range (m*W.length))[x]? with
  | none=>rw[e] at h1;cases h1
  | some y=>
   rw[e] at h1;cases h1;have:=lJo h2;unfold rowN at this;exact .inl (List.mem_replicate.mp this).2
noncomputable def jU7:Sp3:=λxs G Q=>∃(W:Web)(tr:Addr)(m:Nat)(Ts:List (List Nat)),xs=[encW W,.ref tr,.int m]/\Fine W/\Sym W/\1<=W.length/\1<=m/\m*W.length<=1000/\TurnsOk W m Ts/\G tr=some (.lst (Ts.map λσ=>T.tup (jJl σ)))/\∀V G',Sheet W m V->Sub G G'->Q (encW V) G'
noncomputable def kX0:List Str:=["_law_web_here","_law_turns","_law_many","_law_made","_law_t","_law_one","_law_other","_law_k","_law_spot","_law_there","_law_n","_law_room"]
noncomputable def jVd:TS3:=
 (tSeq (tAsg (jUc [fF,fF,fF,fF,fF,fF,fF,fF,fF,fF,tT,fF] (jKl (jJb (tOp jVi C2 (tCB rLen D0)) tNil)) M10 jU6 (tOp jVi (tLst (jJb (tC .non) tNil)) (tCB rLen (jJb (tOp rIxF C0 (tOp rMod C10 (tCB rLen D0))) tNil)))) M3)
 (tSeq (tFor (jZ7 (jJb (jJm jXg D0) tNil)) (gTup 2 (jKc M4 (jKc (gTup 2 (jKc M5 (jKc M6 gNil))) gNil))) (tFor (jKl D2) M7 (tSeq (tAsg (tOp jKm (tOp rIxF C5 tI0) (tOp jVi C7 (tCB rLen D0))) M8)
 (tSeq (tAsg (tOp jKm (tOp rIxF C6 tI0) (tOp jVi (tOp rIxF (tOp rIxF C1 C4) C7) (tCB rLen D0))) M9)
 (tSeq (tAsg (tTup (jJb C9 (jJb (tOp rIxF C6 tI1) tNil))) (gSub (tOp rIxF C3 C8) (tOp rIxF C5 tI1) jU3))
 (tAsg (tTup (jJb C8 (jJb (tOp rIxF C5 tI1) tNil))) (gSub (tOp rIxF C3 C9) (tOp rIxF C6 tI1) jU3)))))))
 (tRet (tCB jKi (jJb (jUc [fF,fF,fF,fF,fF,fF,fF,fF,fF,fF,fF,tT] (iSeq C3) M11 jU6 (tCB jKi D11)) tNil)))))
theorem kJo:RdOk jU7 jVd kX0:=by
 intro xs G Q h_;apply xe4 h_;clear h_;intro W tr m Ts;refine ae8 ?_;intro fine sym hW1 hm1 hmn ok htr kk;show jVd _ [some (.tup (W.map encR)),some (.ref tr),some (.int m),none,none,none,none,none,none,none,none,none] G
 have hs:=sz;have hl:=fine.len;have hm2:m<=1000:=lKx (Nat.le_mul_of_pos_right m hW1) hmn
 exists jVd,jJv,jKl,jZ7,iSeq,List.length_map
 have hcast:(m:Int)*(W.length:Int)=((m*W.length:Nat):Int):=by simp
 rw[hcast];refine⟨.inr ⟨by omega,by omega⟩,by omega,by omega,?_⟩
 rw[show ((m*W.length:Nat):Int).toNat=m*W.length by omega,jQ4]
 refine kKj (rowN W) (by simp;omega) (λ_ _=>trivial) ?_ ?_
 .intro x x' hx G' K K0 s hk;obtain⟨q1,q2⟩:=lJg.mp hx;simp at q1 q2;subst q2;have hmod:x%W.length<W.length:=lQ4 _ hW1;have hWx:W[x%W.length]? =some W[x%W.length]:=lJj hmod;have hrow:rowN W x=List.replicate (W[x%W.length]).length .non:=by simp[rowN,hWx]
  rw[hrow] at hk
  generalize W[x%W.length]=es at hWx hk
  have hes:=fine.row _ _ hWx
  exists List.length_map,show (x:Int)%(W.length:Int)=((x%W.length:Nat):Int) by simp,jQh hWx,encR
  refine⟨by omega,λp hp=>⟨by omega,.newL (List.replicate es.length .non),?_,?_⟩⟩
  .rw[<-uJx];simp only[mulR,jJh];rw[lJc];congr;refine⟨?_,?_,?_⟩<;>simp<;>omega
  .rw[kXl];intro q hq;have hq0:=(jKw hq).2;exact hk q _ hq0 jJh ((Sub.new hp).over hq0)
 .intro D rs G1 hD hD1 s1 hrl hnd hrs;rw[lK7] at hrl
  have hfr:∀r,r∈rs->G r=none:=by
   intro r z;obtain⟨j,hj⟩:=lJ2 z;have hjl:j<rs.length:=(lJg.mp hj).1;exact (hrs j r j hj (by rw[lXy (by omega)])).1
  refine⟨W,rfl,fine,λpe G2 hpe hG2 hlen s2=> ?_⟩
  have hpn:∀r,r∈rs->pe≠r:=by
   rintro r z rfl;obtain⟨j,hj⟩:=lJ2 z;have hjl:j<rs.length:=(lJg.mp hj).1;have:=(hrs j pe j hj (by rw[lXy (by omega)])).2
   rw[this] at hpe;cases hpe
  refine⟨(jJ8 W).map encT,by simp only[jQf,hG2,asL],?_⟩
  let J1:Nat->St3->Gp->Prop:=λt τ G'=>∃(v4 v5 v6 v7 v8 v9:Option T)(M:List (List T)),τ=[some (.tup (W.map encR)),some (.ref tr),some (.int m),some (.ref D),v4,v5,v6,v7,v8,v9,none,none]/\RowsT G' D M rs/\SInv W m Ts M/\uQn W m Ts M (λt' k=>t'<t/\k<m)/\Sub G G'/\G' pe=some (.lst ((jJ8 W).map encT))
  refine⟨J1,?_,?_,?_,?_⟩
  .refine xi7 none none none none none none ((List.range (m*W.length)).map (rowN W)) rfl ⟨⟨s2 _ _ hD1,by simp[hrl],λi r hi=> ?_⟩,kZ9,λt k e f σ k' h=>absurd h.1 (lKs _),s1.trans s2,hG2⟩
   have hil:i<m*W.length:=by rw[<-hrl];exact (lJg.mp hi).1
   exact⟨rowN W i,by simp[hil],s2 _ _ (hrs i r i hi (by simp[hil])).2⟩
  .intro t τ G' ht h_;apply xe7 h_;clear h_;intro v4 v5 v6 v7 v8 v9 M;refine ae5 ?_;intro i1 i2 i3 i4 i5;simp only[jQf,i5,asL]
  .intro t x τ G3 hx h_;apply xe7 h_;clear h_;intro v4 v5 v6 v7 v8 v9 M;refine ae5 ?_;intro i1 i2 i3 i4 i5;have ht:t<(jJ8 W).length:=by have:=(lJg.mp hx).1;simpa[jVo] using this
   have hte:(jJ8 W)[t]? =some (jJ8 W)[t]:=lJj ht;rw[jUr (x:=encT (jJ8 W)[t]) (by simp[ht])] at hx
   cases hx
   generalize (jJ8 W)[t]=x at hte
   obtain⟨e,f⟩:=x;have htT:t<Ts.length:=by rw[ok.len];exact ht
   have hσ:Ts[t]? =some Ts[t]:=lJj htT
   generalize Ts[t]=σ at hσ
   obtain⟨T1,T2⟩:=ok.ok _ _ _ hte hσ;have hef:en W e.1 e.2=some (f.1,f.2):=(kKu hte).1;have hfe:=sym _ _ _ _ hef
   exists jJv,jKl,encT
   refine⟨by omega,by omega,?_⟩
   rw[show ((m:Int)).toNat=m by omega]
   let J2:Nat->St3->Gp->Prop:=λk τ G'=>∃(v7 v8 v9:Option T)(M:List (List T)),τ=[some (.tup (W.map encR)),some (.ref tr),some (.int m),some (.ref D),some (.int t),some (encE e),some (encE f),v7,v8,v9,none,none]/\RowsT G' D M rs/\SInv W m Ts M/\uQn W m Ts M (λt' k'=>(t'<t/\k'<m)\/(t'=t/\k'<k))/\Sub G G'/\G' pe=some (.lst ((jJ8 W).map encT))
   refine⟨J2,?_,?_,?_,?_⟩
   .refine xi4 v7 v8 v9 M rfl ⟨i1,i2,λt' k e f σ k' h=> ?_,i4,i5⟩
    rcases h with h | h
    .exact i3 t' k e f σ k' h
    .exact absurd h.2 (lKs _)
   .intros;trivial
   .intro k x τ G4 hx h_;apply xe4 h_;clear h_;intro v7 v8 v9 M;refine ae5 ?_;intro i1 i2 i3 i4 i5;obtain⟨hk,rfl⟩:=jVb hx;obtain⟨k',hk',hkm⟩:=T1.at hk;have hb1:Bel W Ts (e.1+k*W.length) e.2 (f.1+k'*W.length) f.2:=⟨t,e,f,σ,k,k',hte,hσ,hk',.inl ⟨rfl,rfl,rfl,rfl⟩⟩;obtain⟨ts,m1,m2⟩:=i2.at hk hef;obtain⟨a,a1,a2,a3⟩:=i1.get m1;have ham:=lJo a1;obtain⟨p1,p2,p3⟩:=i2.put m1 m2 hb1;have q1:=i1.set (ts:=ts.set e.2 (encE (f.1+k'*W.length,f.2))) hnd a1;obtain⟨us,m3,m4⟩:=p1.at hkm hfe;obtain⟨c,c1,c2,c3⟩:=q1.get m3;have hcm:=lJo c1;obtain⟨p4,p5,p6⟩:=p1.put m3 m4 hb1.symm;have q2:=q1.set (ts:=us.set f.2 (encE (e.1+k*W.length,e.2))) hnd c1;have g2:L2.atI (Ts.map λσ=>T.tup (jJl σ)) (t:Int)=some (.tup (jJl σ)):=by rw[atN];simp[hσ]
    have g3:L2.atI (jJl σ) (k:Int)=some (.int (k':Nat)):=by rw[atN];simp[jJl,hk']
    have b1:e.1+k*W.length<m*W.length:=by rw[<-i2.len];exact (lJg.mp m1).1
    have b2:f.1+k'*W.length<m*W.length:=by rw[<-p1.len];exact (lJg.mp m3).1
    have s8:(e.1:Int)+(k:Int)*(W.length:Int)=((e.1+k*W.length:Nat):Int):=by simp
    have s9:(f.1:Int)+(k':Int)*(W.length:Int)=((f.1+k'*W.length:Nat):Int):=by simp
    exists encE,List.length_map,jK6 (i4 _ _ htr),g2,g3,s8,s9,jK6 i1.1,a2,jXj a3 (kJw m2)
    refine⟨.inr ⟨by omega,by omega⟩,.inr ⟨by omega,by omega⟩,by omega,by omega,.ref c,(jK6 q1.1).trans c2,_,jXj c3 (kJw m4),xi4 _ _ _ _ rfl ⟨q2,p4,?_,(i4.over (hfr a ham)).over (hfr c hcm),?_⟩⟩
    .intro t' k0 e' f' σ' k1 h g4 g5 g6
     by_cases hh:t'=t/\k0=k
     .obtain⟨rfl,rfl⟩:=hh;rw[hte] at g4;cases g4;rw[hσ] at g5;cases g5;rw[hk'] at g6;cases g6;exact⟨p6 _ _ p2,p5⟩
     .obtain⟨z1,z2⟩:=i3 t' k0 e' f' σ' k1 (by omega) g4 g5 g6
      exact⟨p6 _ _ (p3 _ _ z1),p6 _ _ (p3 _ _ z2)⟩
    .rw[jJq (hpn c hcm),jJq (hpn a ham)];exact i5
   .intro τ G' h_;apply xe4 h_;clear h_;intro v7 v8 v9 M;refine ae5 ?_;intro i1 i2 i3 i4 i5;rw[jK3] at i3;refine xi7 _ _ _ _ _ _ M rfl ⟨i1,i2,λt' k e f σ k' h=>i3 t' k e f σ k' ?_,i4,i5⟩
    by_cases hh:t'=t
    .exact .inr ⟨hh,h.2⟩
    .exact .inl ⟨by omega,h.2⟩
  .intro τ G3 h_;apply xe7 h_;clear h_;intro v4 v5 v6 v7 v8 v9 M;refine ae5 ?_;intro i1 i2 i3 i4 i5;rw[jVo,lJe] at i3;obtain⟨sh,eM⟩:=qV6 sym ok i2 i3
   exists iSeq,jJn i1.1
   refine jK4 (es:=rs) (λr=>T.tup (match G3 r with | some (.lst ts)=>ts | _=>[])) (by omega) (λG' s=>jJn (s _ _ i1.1)) ?_ ?_
   .intro i r hr G4 K K0 s hk;obtain⟨ts,z1,z2⟩:=i1.2.2 i r hr
    exists jJn (s _ _ z2)
    have:=hk G4 (.refl _);rw[z2] at this;exact this
   .intro E G4 hE h4 s4;refine⟨_,jJn h4,?_⟩
    have e1:rs.map (λr=>T.tup (match G3 r with | some (.lst ts)=>ts | _=>[]))=(M.map (List.map dec)).map encR:=by
     have e2:(M.map (List.map dec)).map encR=M.map T.tup:=by
      conv=>rhs;rw[eM]
      rw[lJz,lJz,lJz];rfl
     rw[e2];apply lQj;intro i
     by_cases hi:i<rs.length
     .have hri:rs[i]? =some rs[i]:=lJj hi;obtain⟨ts,z1,z2⟩:=i1.2.2 i _ hri;rw[lJ4,lJ4,hri,z1];simp only[lQ1,z2]
     .rw[lJ3 (by rw[lJe];omega),lJ3 (by rw[lJe,<-i1.2.1];omega)]
    rw[e1];exact kk _ G4 sh (i4.trans s4)
def Cov(W:Web)(m:Nat)(V:Web):Prop:=V=W\/(Sheet W m V/\Conn V)
theorem Sheet.fine{W V:Web}(h:Sheet W m V)(f:Fine W)(hm:m*W.length<=1000):Fine V where
 len:=by rw[h.len];exact hm
 row:=λx ts hx=>by obtain⟨es,h1,h2⟩:=h.row x ts hx;rw[h2];exact f.row _ _ h1
 rng:=λr i s j he=>jX0 (h.sym _ _ _ _ he)
theorem Found.conn{V:Web}{F:List Nat}(h:Found V 0 F)(hl:F.length=V.length):Conn V:=λS h0 hst r hr=>h.got S h0 hst r (jZ2 h.nd h.lt hl r hr)
theorem qUv{f:Nat×Nat}:eqG G (encE e) (encE f)=some (decide (e=f)):=by
 obtain⟨a,b⟩:=e;obtain⟨c,d⟩:=f;rw[show eqG G (encE (a,b)) (encE (c,d))=some (eqT (encE (a,b)) (encE (c,d))) from rfl]
 congr 1
 simp only[encE,uXx,kQl,uVl,uVk,Bool.and_true]
 by_cases h1:a=c
 .by_cases h2:b=d
  .simp[h1,h2]
  .have:¬ (b:Int)=d:=by omega
   simp[h1,h2,this]
 .have:¬ (a:Int)=c:=by omega
  simp[h1,this]
theorem jXb{c:Nat}:eqG G (.int a) (.int c)=some (decide (a=c)):=by
 rw[show eqG G (.int a) (.int c)=some (eqT (.int a) (.int c)) from rfl]
 congr 1
 simp only[kQl]
 by_cases h1:a=c
 .simp[h1]
 .have:¬ (a:Int)=c:=by omega
  simp[h1,this]
noncomputable def jU9:Sp3:=λxs G Q=>∃(b:Addr)(W:Web)(m n:Nat),xs=[.ref b,encW W,.int m]/\BoxAt G b n/\n+3*((jJ8 W).length*m)<2^40/\Fine W/\Sym W/\1<=W.length/\1<=m/\m*W.length<=1000/\∀V G',Cov W m V->BoxAt G' b (n+3*((jJ8 W).length*m))->Keep b G G'->Q (encW V) G'
noncomputable def kX2:List Str:=["_law_box_here","_law_web_here","_law_many","_law_turn_here","_law_turns","_law_made","_law_pair"]
noncomputable def jVf:TS3:=
 (tSeq (tFor (jKl (jJb (tC (.int 3)) tNil)) M3 (tSeq (tAsg (jUc [fF,fF,fF,fF,fF,fF,tT] (iSeq (jJm jXg D1)) M6 jU6 (jJm jZi (jJb C0 (jJb C2 (jJb (tOp rEqA (tOp rIxF C6 tI0) (tOp rIxF C6 tI1)) tNil))))) M4)
 (tSeq (tAsg (jJm jU7 (jJb C1 (jJb C4 D2))) M5)
 (tIfS (jJx (tOp rEqA (tCB rLen (jJb (jJm jU8 (jJb C5 (jJb tI0 tNil))) tNil)) (tCB rLen D5))) (tRet C5) jKj))))
 (tRet C1))
theorem kJq:RdOk jU9 jVf kX2:=by
 intro xs G Q h_;apply xe4 h_;clear h_;intro b W m n;refine ae8 ?_;intro hb hn fine sym hW1 hm1 hmn kk;show jVf _ [some (.ref b),some (encW W),some (.int m),none,none,none,none] G
 have hs:=sz;have hm2:m<=1000:=lKx (Nat.le_mul_of_pos_right m hW1) hmn
 exists jVf,jJv,jKl
 refine⟨by decide,by decide,?_⟩
 refine⟨λk τ G'=>∃(v3 v4 v5:Option T),τ=[some (.ref b),some (encW W),some (.int m),v3,v4,v5,none]/\BoxAt G' b (n+k*((jJ8 W).length*m))/\Keep b G G',?_,?_,?_,?_⟩
 .exact⟨none,none,none,rfl,by simpa using hb,.refl _ _⟩
 .intros;trivial
 .intro k x τ G1 hx h_;apply xe3 h_;clear h_;intro v3 v4 v5;refine ae2 ?_;intro hb1 kp1;have hk:k<3:=by have:=(lJg.mp hx).1;rw[jK3] at this;exact this
  have hk3:(k+1)*((jJ8 W).length*m)<=3*((jJ8 W).length*m):=lZd _ (by omega)
  rw[lVj] at hk3;obtain⟨bo,hbo⟩:=hb1.some
  exists iSeq
  refine⟨W,rfl,fine,λpe G2 hpe hG2 hlen s2=> ?_⟩
  have hpb:=jJf hbo hpe;refine⟨_,jJn hG2,?_⟩;intro D hD;have hDb:=jJf (s2 _ _ hbo) hD;have hDe:=jJf hG2 hD;refine⟨λi acc G'=>∃Ts:List (List Nat),acc=Ts.map (λσ=>T.tup (jJl σ))/\Ts.length=i/\(∀(t:Nat)(x:Tie)(σ:List Nat),(jJ8 W)[t]? =some x->Ts[t]? =some σ->Turn m σ/\(x.1=x.2->Invol σ))/\BoxAt G' b (n+k*((jJ8 W).length*m)+i*m)/\Keep b G2 G'/\G' D=some (.lst acc),?_,?_,?_,?_⟩
  .exact⟨[],rfl,rfl,λt x σ _ h=>by simp at h,by simpa using (hb1.sub s2).gup hDb,.new hD,jJh⟩
  .rintro i acc G' hi ⟨Ts,rfl,j1,j2,j3,j4,j5⟩;exact⟨jJn (j4 _ _ hpb.symm hG2),j5⟩
  .rintro i x acc G3 hx0 ⟨Ts,rfl,j1,j2,j3,j4,j5⟩;obtain⟨⟨e,f⟩,hte,rfl⟩:=jJ7 hx0;have hi:i<(jJ8 W).length:=(lJg.mp hte).1;have him:(i+1)*m<=(jJ8 W).length*m:=lZd _ hi;rw[lVj] at him
   exists encT,rEqA,qUv
   refine⟨b,m,_,_,rfl,j3,by omega,hm1,hm2,λσ G4 T1 T2 bx kp=> ?_⟩
   refine⟨kp _ _ hDb.symm j5,by rw[lJe];omega,Ts++[σ],by simp,by simp[j1],?_,?_,?_⟩
   .intro t y ρ h1 h2
    by_cases htl:t<Ts.length
    .rw[lKq htl] at h2;exact j2 t y ρ h1 h2
    .have htl2:t<(Ts++[σ]).length:=(lJg.mp h2).1;simp at htl2;have:t=Ts.length:=by omega
     subst this;rw[lK2 (lJh _)] at h2;simp at h2;subst h2;rw[j1,hte] at h1;cases h1;exact⟨T1,λz=>T2 (by simpa using z)⟩
   .exact (bx.gup hDb).mono (by rw[lVj];omega)
   .exact (j4.trans kp).over hD
  .rintro acc G3 ⟨Ts,rfl,j1,j2,j3,j4,j5⟩;rw[lJe] at j1 j3;have hkp3:Keep b G G3:=(kp1.trans (.sub s2)).trans j4;refine⟨W,D,m,Ts,rfl,fine,sym,hW1,hm1,hmn,⟨j1,j2⟩,j5,λV G4 sh s4=> ?_⟩
   have hVl:1<=V.length:=by rw[sh.len];exact Nat.mul_pos hm1 hW1
   refine⟨V,0,rfl,sh.fine fine hmn,hVl,λp G5 F hp hp5 fd _ s5=> ?_⟩
   exists rEqA,jJn hp5,encW,jJl,List.length_map,jXb
   split
   .rename_i hc
    have hc:F.length=V.length:=by simpa using hc
    exact kk V G5 (.inr ⟨sh,fd.conn hc⟩) (((j3.sub s4).sub s5).mono (by omega)) ((hkp3.trans (.sub s4)).trans (.sub s5))
   .exact⟨((j3.sub s4).sub s5).mono (by rw[lVj];omega),(hkp3.trans (.sub s4)).trans (.sub s5)⟩
 .intro τ G1 h_;apply xe3 h_;clear h_;intro v3 v4 v5;refine ae2 ?_;intro hb1 kp1;rw[jK3] at hb1
  exists tSeq
  exact kk W G1 (.inl rfl) hb1 kp1
structure AnyWeb (W:Web):Prop where
 pos:1<=W.length
 len:W.length<=24
 sym:Sym W
 deg:∀(r:Nat)(es:List (Nat×Nat)),W[r]? =some es->es.length<=6
 conn:Conn W
theorem WebOk.any{W:Web}(h:WebOk n d W)(h1:1<=n)(h2:n<=24)(h3:d<=6):AnyWeb W:=⟨by rw[h.len];exact h1,by rw[h.len];exact h2,h.sym,λr es hr=>lKx (h.deg r es hr) h3,h.conn⟩
theorem WebOk.fine{W:Web}(h:WebOk n d W)(h2:n<=24)(h3:d<=6):Fine W:=⟨by rw[h.len];omega,λr es hr=>by have:=h.deg r es hr;omega,λr i s j he=>jX0 (h.sym _ _ _ _ he)⟩
theorem AnyWeb.fine{W:Web}(h:AnyWeb W):Fine W:=⟨by have:=h.len;omega,λr es hr=>by have:=h.deg r es hr;omega,λr i s j he=>jX0 (h.sym _ _ _ _ he)⟩
theorem kZd{α β:Type}{f:α->List β}{d:Nat}:∀{l:List α},(∀a,a∈l->(f a).length<=d)->(l.flatMap f).length<=l.length*d
 | [],_=>by simp
 | a::l,h=>by
  rw[mJk,lJ7,lKk,lVj];have h1:=h a (lJ6);have h2:=kZd (l:=l) λx hx=>h x (lKd _ hx)
  omega
theorem kZj{W:Web}(h:∀(r:Nat)(es:List (Nat×Nat)),W[r]? =some es->es.length<=d):(jJ8 W).length<=W.length*d:=by
 have:=kZd (f:=rowE W) (d:=d) (l:=List.range W.length) λr hr=>by
  unfold rowE;split
  .rename_i es hes
   have h1:=List.length_filterMap_le (jUz r es) (List.range es.length);rw[lK7] at h1;have h2:=h r es hes;omega
  .simp
 rwa [lK7] at this
def jVa:Sp3:=λxs G Q=>∃(b:Addr)(n:Nat),xs=[.ref b]/\BoxAt G b n/\n+1000<2^40/\∀W G',AnyWeb W->BoxAt G' b (n+1000)->Keep b G G'->Q (encW W) G'
noncomputable def kX3:List Str:=["_law_box_here","_law_way_here","_law_base","_law_many"]
noncomputable def jVg:TS3:=
 (tSeq (tAsg (jJm jJw (jJb C0 (jJb (tC (.int 8)) tNil))) M1)
 (tSeq (tIfS (jJx (tOp rEqA C1 tI0)) (tRet (jJm jXe (jJb C0 (jJb (tOp jKm (tC (.int 8)) (jJm jJw (jJb C0 (jJb (tC (.int 17)) tNil)))) (jJb (tOp jKm (tC (.int 3)) (jJm jJw (jJb C0 (jJb (tC (.int 4)) tNil)))) tNil))))) jKj)
 (tSeq (tIfS (jJx (tOp rLt C1 (tC (.int 4)))) (tRet (jJm jXe (jJb C0 (jJb (tOp jKm tI1 (jJm jJw (jJb C0 (jJb (tC (.int 7)) tNil)))) (jJb (tOp jKm tI2 (jJm jJw (jJb C0 (jJb (tC (.int 3)) tNil)))) tNil))))) jKj)
 (tSeq (tIfS (jJx (tOp rEqA C1 (tC (.int 4)))) (tRet (jJm jZj (jJb (tOp jKm tI1 (jJm jJw (jJb C0 (jJb (tC (.int 12)) tNil)))) tNil))) jKj)
 (tSeq (tAsg (jJm jXe (jJb C0 (jJb (tOp jKm tI1 (jJm jJw (jJb C0 (jJb (tC (.int 4)) tNil)))) (jJb (tOp jKm tI2 (jJm jJw (jJb C0 (jJb tI2 tNil)))) tNil)))) M2)
 (tSeq (tAsg (tOp jKm tI2 (jJm jJw (jJb C0 (jJb (tOp rIxF (tLst (jJb (tC (.int 5)) (jJb (tC (.int 5)) (jJb (tC (.int 5)) (jJb (tC (.int 3)) tNil))))) (tOp rSub (tCB rLen D2) tI1)) tNil)))) M3)
 (tRet (jJm jU9 (jJb C0 (jJb C2 D3))))))))))
theorem kJr:RdOk jVa jVg kX3:=by
 intro xs G Q h_;apply xe2 h_;clear h_;intro b n;refine ae3 ?_;intro hb hn kk;show jVg _ [some (.ref b),none,none,none] G
 have hs:=sz
 exists jVg,rEqA
 refine⟨b,_,n,rfl,hb,by omega,by omega,by omega,λw G1 w0 w1 b1 k1=> ?_⟩
 obtain⟨w,rfl⟩:=lK3 w0;have e0:eqG G1 (T.int (w:Nat)) (T.int 0)=some (decide (w=0)):=jXb (c:=0);have e4:eqG G1 (T.int (w:Nat)) (T.int 4)=some (decide (w=4)):=jXb (c:=4)
 exists e0,e4
 split
 .refine⟨b,_,_,rfl,b1,by omega,by omega,by omega,λr G2 r0 r1 b2 k2=> ?_⟩
  exists tSeq
  refine⟨b,_,_,rfl,b2,by omega,by omega,by omega,λq G3 q0 q1 b3 k3=> ?_⟩
  exists tSeq
  obtain⟨r,rfl⟩:=lK3 r0;obtain⟨q,rfl⟩:=lK3 q0;refine⟨b,8+r,3+q,_,by simp,b3,by omega,by omega,by omega,by omega,by omega,λW G4 ok b4 k4=> ?_⟩
  exact kk W G4 (ok.any (by omega) (by omega) (by omega)) (b4.mono (by omega)) (((k1.trans k2).trans k3).trans k4)
 split
 .refine⟨b,_,_,rfl,b1,by omega,by omega,by omega,λr G2 r0 r1 b2 k2=> ?_⟩
  exists tSeq
  refine⟨b,_,_,rfl,b2,by omega,by omega,by omega,λq G3 q0 q1 b3 k3=> ?_⟩
  exists tSeq
  obtain⟨r,rfl⟩:=lK3 r0;obtain⟨q,rfl⟩:=lK3 q0;refine⟨b,1+r,2+q,_,by simp,b3,by omega,by omega,by omega,by omega,by omega,λW G4 ok b4 k4=> ?_⟩
  exact kk W G4 (ok.any (by omega) (by omega) (by omega)) (b4.mono (by omega)) (((k1.trans k2).trans k3).trans k4)
 split
 .refine⟨b,_,_,rfl,b1,by omega,by omega,by omega,λr G2 r0 r1 b2 k2=> ?_⟩
  exists tSeq
  obtain⟨r,rfl⟩:=lK3 r0;refine⟨1+r,by simp,by omega,by omega,λG3 s3=> ?_⟩
  exact kk _ G3 ((uJv (n:=1+r) (by omega)).any (by omega) (by omega) (by omega)) ((b2.sub s3).mono (by omega)) ((k1.trans k2).trans (.sub s3))
 refine⟨b,_,_,rfl,b1,by omega,by omega,by omega,λr G2 r0 r1 b2 k2=> ?_⟩
 exists tSeq
 refine⟨b,_,_,rfl,b2,by omega,by omega,by omega,λq G3 q0 q1 b3 k3=> ?_⟩
 exists tSeq
 obtain⟨r,rfl⟩:=lK3 r0;obtain⟨q,rfl⟩:=lK3 q0;refine⟨b,1+r,2+q,_,by simp,b3,by omega,by omega,by omega,by omega,by omega,λW G4 ok b4 k4=> ?_⟩
 exists encW,List.length_map
 refine⟨by omega,λp hp=> ?_⟩
 obtain⟨bo,hbo⟩:=b4.some;have hbp:=jJf hbo hp;have hWl:=ok.len;have hfine:=ok.fine (by omega) (by omega)
 have hends:=kZj ok.deg
 obtain⟨c,hc,hc1,hc2,hc3⟩:∃c:Nat,L2.atI [T.int 5,T.int 5,T.int 5,T.int 3] ((W.length:Int)-1)=some (.int (c:Nat))/\1<=c/\c<=5/\(c+1)*W.length<=24:=by
  have:W.length=1\/W.length=2\/W.length=3\/W.length=4:=by omega
  rcases this with h | h | h | h<;>rw[h]
  .exact⟨5,rfl,by decide,by decide,by decide⟩
  .exact⟨5,rfl,by decide,by decide,by decide⟩
  .exact⟨5,rfl,by decide,by decide,by decide⟩
  .exact⟨3,rfl,by decide,by decide,by decide⟩
 refine⟨_,hc,?_⟩;refine⟨b,_,_,rfl,b4.gup hbp,by omega,by omega,by omega,λx G5 x0 x1 b5 k5=> ?_⟩
 exists tSeq
 obtain⟨x,rfl⟩:=lK3 x0;have hm:(2+x)*W.length<=24:=lKx (lZd _ (by omega)) hc3
 have hcost:(jJ8 W).length*(2+x)<=12*6:=Nat.mul_le_mul (lKx hends (by rw[hWl];exact Nat.mul_le_mul (show 1+r<=4 by omega) (show 2+q<=3 by omega))) (by omega)
 refine⟨b,W,2+x,_,by simp[encW],b5,by omega,hfine,ok.sym,by omega,by omega,by omega,λV G6 cov b6 k6=> ?_⟩
 refine kk V G6 ?_ (b6.mono (by omega)) (((((k1.trans k2).trans k3).trans k4).trans (.new hp)).trans k5 |>.trans k6)
 rcases cov with rfl | ⟨sh,cn⟩
 .exact ok.any (by omega) (by omega) (by omega)
 .refine⟨by rw[sh.len];exact Nat.mul_pos (by omega) (by omega),by rw[sh.len];exact hm,sh.sym,λy es hy=> ?_,cn⟩
  obtain⟨es',h1,h2⟩:=sh.row y es hy;have:=ok.deg _ _ h1;omega
noncomputable def jKh(r:Nat)(es:List (Nat×Nat)):Nat:=(es.getLast?.map Prod.fst).getD r
noncomputable def goW(W:Web)(r:Nat)(ds:List Nat):Option (List (Nat×Nat)):=ds.foldl (λo d=>o.bind λes=>(en W (jKh r es) d).map λe=>es++[e]) (some [])
theorem qUk{W:Web}:goW W r []=some []:=rfl
variable {ds:List Nat}
theorem jUv{W:Web}:goW W r (ds++[d])=(goW W r ds).bind λes=>(en W (jKh r es) d).map λe=>es++[e]:=by
 unfold goW;rw[mJl];rfl
variable {ds':List Nat}
theorem qYt{W:Web}(h:goW W r ds=none):goW W r (ds++ds')=none:=by
 unfold goW at h ⊢;rw[mJl,h]
 induction ds' with
 | nil=>rfl
 | cons a as ih=>exact ih
theorem jK8:jKh r (es++[e])=e.1:=by simp[jKh]
theorem kVm{α:Type}{P:List α->Prop}(h0:P [])(h1:∀ds d,P ds->P (ds++[d]))(ds:List α):P ds:=by
 have:∀l:List α,P l.reverse:=by
  intro l
  induction l with
  | nil=>exact h0
  | cons a as ih=>rw[lX8];exact h1 _ _ ih
 have h:=this ds.reverse
 rwa [List.reverse_reverse] at h
theorem jYp{W:Web}(f:Fine W)(hr:r<W.length):∀{ds:List Nat}{es:List (Nat×Nat)},goW W r ds=some es->jKh r es<W.length/\es.length=ds.length/\∀e,e∈es->e.1<W.length:=by
 intro ds;refine kVm (P:=λds=>∀{es:List (Nat×Nat)},goW W r ds=some es->jKh r es<W.length/\es.length=ds.length/\∀e,e∈es->e.1<W.length) ?_ ?_ ds
 .intro es h;cases h;exact⟨hr,rfl,λe he=>by cases he⟩
 .intro ds d ih es h;rw[jUv] at h;cases e1:goW W r ds with
  | none=>rw[e1] at h;cases h
  | some es1=>
   rw[e1] at h;obtain⟨a1,a2,a3⟩:=ih e1;simp only[lYp] at h;cases e2:en W (jKh r es1) d with
   | none=>rw[e2] at h;cases h
   | some e=>
    rw[e2] at h;cases h;have he:=f.rng _ _ e.1 e.2 e2;refine⟨by rw[jK8];exact he,by simp[a2],λx hx=> ?_⟩
    rw[lJx,lJ1] at hx
    rcases hx with hx | rfl
    .exact a3 x hx
    .exact he
theorem kZa{W:Web}(hd:ds[i]? =some d):goW W r (ds.take (i+1))=(goW W r (ds.take i)).bind λes=>(en W (jKh r es) d).map λe=>es++[e]:=by
 rw[lQe,hd];exact jUv
theorem uKt{W:Web}(hd:ds[i]? =some d)(h:goW W r (ds.take i)=some es)(hn:en W (jKh r es) d=none):goW W r ds=none:=by
 have:goW W r (ds.take (i+1))=none:=by rw[kZa hd,h];simp[hn]
 have h2:=qYt (ds':=ds.drop (i+1)) this
 rwa [lK8] at h2
noncomputable def jUd:Sp3:=λxs G Q=>∃(W:Web)(r:Nat)(x:T)(ds:List Nat),xs=[encW W,.int r,x]/\Fine W/\r<W.length/\seqT G x=some (jJl ds)/\ds.length<=1000/\∀G',Sub G G'->(goW W r ds=none->Q .non G')/\(∀es p,goW W r ds=some es->G p=none->G' p=some (.lst (es.map encE))->Q (.ref p) G')
noncomputable def qVv:List Str:=["web","room","way","ends","here","door","end"]
noncomputable def jX9:TS3:=
 (tSeq (tAsg (tLst tNil) M3)
 (tSeq (tAsg C1 M4)
 (tSeq (tFor (iSeq C2) M5 (tSeq (tIfS (tNot (jJx (jYl rLeF rLt tI0 C5 (tCB rLen (jJb (tOp rIxF C0 C4) tNil))))) (tRet (tC .non)) jKj)
 (tSeq (tAsg (tOp rIxF (tOp rIxF C0 C4) C5) M6)
 (tSeq (jU1 (tBM "list" jQa C3 D6))
 (tAsg (tOp rIxF C6 tI0) M4)))))
 (tRet C3))))
theorem kYj{W:Web}(hr:r<W.length):∃es,W[r]? =some es/\∀d,en W r d=es[d]? :=⟨W[r],lJj hr,λd=>by unfold en;rw[lJj hr];rfl⟩
theorem kUa:RdOk jUd jX9 qVv:=by
 intro xs G Q h_;apply xe4 h_;clear h_;intro W r x ds;refine ae5 ?_;intro fine hr hx hdl kk;show jX9 _ [some (.tup (W.map encR)),some (.int r),some x,none,none,none,none] G
 have hs:=sz
 exists jX9,jJv,iSeq
 refine⟨lJn _,λp hp=> ?_⟩
 refine⟨jJl ds,(Sub.new hp).seq hx,?_⟩;refine⟨λi τ G'=>∃(v5 v6:Option T)(es:List (Nat×Nat)),τ=[some (.tup (W.map encR)),some (.int r),some x,some (.ref p),some (.int (jKh r es:Nat)),v5,v6]/\goW W r (ds.take i)=some es/\G' p=some (.lst (es.map encE))/\Sub G G',?_,?_,?_,?_⟩
 .exact⟨none,none,[],rfl,rfl,jJh,.new hp⟩
 .intro i τ G' hi h_;apply xe3 h_;clear h_;intro v5 v6 es;refine ae3 ?_;intro h1 h2 h3;exact h3.seq hx
 .intro i y τ G1 hy h_;apply xe3 h_;clear h_;intro v5 v6 es;refine ae3 ?_;intro h1 h2 h3;obtain⟨d,hd,rfl⟩:=jJ7 hy;have hi:i<ds.length:=(lJg.mp hd).1;obtain⟨b1,b2,b3⟩:=jYp fine hr h1;obtain⟨row,hrow,hen⟩:=kYj b1;have hrl:=fine.row _ _ hrow;rw[lQc] at b2;have hatR:=jQh hrow
  exists jYl,kJ8,kJ7,hatR,encR,List.length_map
  rw[lJc (by omega)]
  by_cases hdr:d<row.length
  .have hed:row[d]? =some row[d]:=lJj hdr
   generalize row[d]=e at hed
   have heR:=kJd hed
   exists heR,show decide ((d:Int)<(row.length:Int))=true by simp;omega,encE,jKq h2,h2,List.length_map
   refine⟨by omega,_,_,es++[e],by rw[jK8],rfl,rfl,?_,by simp[encE],h3.over hp⟩
   rw[kZa hd,h1];simp[hen,hed]
  .have hnone:row[d]? =none:=lJ3 (by omega)
   exists show decide ((d:Int)<(row.length:Int))=false by simp;omega
   exact (kk G1 h3).1 (uKt hd h1 (by rw[hen];exact hnone))
 .intro τ G1 h_;apply xe3 h_;clear h_;intro v5 v6 es;refine ae3 ?_;intro h1 h2 h3
  exists tSeq
  have e1:(jJl ds).length=ds.length:=by simp[jJl]
  rw[e1,lQt] at h1;exact (kk G1 h3).2 es p h1 hp h2
noncomputable def qYs(r:Nat)(es:List (Nat×Nat)):T:=match es.getLast? with
 | some e=>encE e
 | none=> .tup [.int r,.non]
noncomputable def degT(W:Web)(r:Nat):T:= .int (((W[r]?).getD []).length:Nat)
noncomputable def kQ5(W:Web)(r:Nat)(es:List (Nat×Nat)):T:= .tup (degT W r::es.map λe=>T.tup [.int (e.2:Nat),degT W e.1])
theorem kQp{W:Web}(h:W[r]? =some es):degT W r= .int (es.length:Nat):=by unfold degT;rw[h];rfl
noncomputable def jKf:Sp3:=λxs G Q=>∃(W:Web)(r:Nat)(x:T)(ds:List Nat),xs=[encW W,.int r,x]/\Fine W/\r<W.length/\seqT G x=some (jJl ds)/\ds.length<=1000/\∀G',Sub G G'->(goW W r ds=none->Q .non G')/\(∀es,goW W r ds=some es->Q (qYs r es) G')
noncomputable def uVz:List Str:=["web","room","way","ends"]
noncomputable def kV1:TS3:=
 (tSeq (tAsg (jJm jUd (jJb C0 (jJb C1 D2))) M3)
 (tSeq (tIfS (jJx (tOp rIsN C3 (tC .non))) (tRet (tC .non)) jKj)
 (tRet (tIf (tTru rTru C3) (tOp rIxF C3 (tUn rNeg tI1)) (tTup (jJb C1 (jJb (tC .non) tNil)))))))
theorem qK3:RdOk jKf kV1 uVz:=by
 intro xs G Q h_;apply xe4 h_;clear h_;intro W r x ds;refine ae5 ?_;intro fine hr hx hdl kk;show kV1 _ [some (encW W),some (.int r),some x,none] G
 have hs:=sz
 exists kV1
 refine⟨W,r,x,ds,rfl,fine,hr,hx,hdl,λG1 s1=>⟨λhn=> ?_,λes p he hp hp1=> ?_⟩⟩
 .exists tSeq
  exact (kk G1 s1).1 hn
 .exists jJn hp1,jK6 hp1,hp1
  have:=(kk G1 s1).2 es he
  rcases es.eq_nil_or_concat with rfl | ⟨l,a,h⟩
  .exact⟨by omega,this⟩
  .rw[lYq] at h;subst h;rw[lJc (by simp)]
   refine⟨encE a,by rw[lQv];exact kXv,?_⟩
   simpa[qYs] using this
noncomputable def jUl:Sp3:=λxs G Q=>∃(W:Web)(r:Nat)(x:T)(ds:List Nat),xs=[encW W,.int r,x]/\Fine W/\r<W.length/\seqT G x=some (jJl ds)/\ds.length<=1000/\∀G',Sub G G'->(goW W r ds=none->Q .non G')/\(∀es,goW W r ds=some es->Q (kQ5 W r es) G')
noncomputable def uVx:List Str:=["web","room","way","ends","end"]
noncomputable def kV0:TS3:=
 (tSeq (tAsg (jJm jUd (jJb C0 (jJb C1 D2))) M3)
 (tSeq (tIfS (jJx (tOp rIsN C3 (tC .non))) (tRet (tC .non)) jKj)
 (tRet (tCB jKi (jJb (tOp jKm (tLst (jJb (tCB rLen (jJb (tOp rIxF C0 C1) tNil)) tNil)) (jUc [fF,fF,fF,fF,tT] (iSeq C3) M4 jU6 (tTup (jJb (tOp rIxF C4 tI1) (jJb (tCB rLen (jJb (tOp rIxF C0 (tOp rIxF C4 tI0)) tNil)) tNil))))) tNil)))))
theorem qK2:RdOk jUl kV0 uVx:=by
 intro xs G Q h_;apply xe4 h_;clear h_;intro W r x ds;refine ae5 ?_;intro fine hr hx hdl kk;show kV0 _ [some (.tup (W.map encR)),some (.int r),some x,none,none] G
 have hs:=sz
 exists kV0
 refine⟨W,r,x,ds,rfl,fine,hr,hx,hdl,λG1 s1=>⟨λhn=> ?_,λes p he hp hp1=> ?_⟩⟩
 .exists tSeq
  exact (kk G1 s1).1 hn
 .obtain⟨b1,b2,b3⟩:=jYp fine hr he;obtain⟨row,hrow,hen⟩:=kYj hr
  exists iSeq,hp1,jQh hrow,encR,List.length_map
  refine⟨by omega,λq hq=> ?_⟩
  have hpq:=jJf hp1 hq;refine⟨es.map encE,jJn (by rw[jJq hpq];exact hp1),?_⟩
  refine jK4 (λe=>T.tup [.int (e.2:Nat),degT W e.1]) (by omega) (λG' s=>jJn (s _ _ (by rw[jJq hpq];exact hp1))) ?_ ?_
  .intro i e hei G2 K K0 s hk;obtain⟨row',hrow',_⟩:=kYj (b3 e (lJo hei))
   exists encE,jQh hrow',encR,List.length_map
   refine⟨by omega,?_⟩
   rw[kQp hrow'] at hk;exact hk G2 (.refl _)
  .intro D G2 hD h1 h2;have hq2:=h2 _ _ (jJh (G:=G1) (a:=q) (o:= .lst [T.int (row.length:Nat)]));refine⟨_,kZw hq2 h1 (by simp;omega),?_⟩
   rw[kXl];intro u hu;refine⟨_,kYg,?_⟩;have:=(kk (gup G2 u (.lst ([T.int (row.length:Nat)]++es.map λe=>T.tup [.int (e.2:Nat),degT W e.1]))) (((s1.trans (.new hq)).trans h2).trans (.new hu))).2 es he
   rw[kQ5,kQp hrow] at this;exact this
variable {nu:List Nat}
theorem qVr(h:nu[x]? =some y):L2.atI (jJl nu) (x:Int)=some (.int (y:Nat)):=by rw[atN];simp[jJl,h]
variable {kvs:List (L2.Key×T)}
theorem kVa{k:L2.Key}:(valT kvs k).isSome=true↔k∈kvs.map Prod.fst:=by
 unfold valT;rw[lZz,List.find?_isSome,lJl];exact⟨λ⟨a,h1,h2⟩=>⟨a,h1,by simpa using h2⟩,λ⟨a,h1,h2⟩=>⟨a,h1,by simpa using h2⟩⟩
noncomputable def keyN(x:Nat):L2.Key:= .inl (x:Nat)
theorem kY4{F:List Nat}:keyN x∈F.map keyN↔x∈F:=by
 rw[lJl];refine⟨λ⟨a,ha,e⟩=> ?_,λh=>⟨x,h,rfl⟩⟩
 have e1:(Sum.inl (a:Int):L2.Key)=Sum.inl (x:Int):=e;have:(a:Int)=x:=by injection e1
 have:a=x:=by omega
 exact this▸ha
theorem uKp{d:Addr}{F:List Nat}(h:G d=some (.dck kvs))(hk:kvs.map Prod.fst=F.map keyN):inR G (.int (x:Nat)) (.ref d)=some (decide (x∈F)):=by
 have e1:seqT G (.ref d)=none:=by simp only[seqT,h];rfl
 have e2:dAt G (.ref d) (.int (x:Nat))=some (valT kvs (keyN x)):=by simp only[dAt,h,jUs];rfl
 unfold inR;simp only[e1,e2]
 congr 1
 rw[Bool.eq_iff_iff,kVa,hk,kY4];simp
theorem qXp{k:L2.Key}(h:k∉kvs.map Prod.fst):putT kvs k v=kvs++[(k,v)]:=by
 unfold putT;rw[lJb];rw[lZb];rintro⟨a,ha,e⟩;exact h (lJl.mpr ⟨a,ha,by simpa using e⟩)
theorem qXc{d:Addr}(h:G d=some (.dck kvs))(hz:kvs.length<sizeLine):setR G (.ref d) (.int (x:Nat)) v=some (gup G d (.dck (putT kvs (keyN x) v))):=by
 simp only[setR,h,jUs];rw[lJc hz];rfl
theorem jYd{y:T}(h:(numT xs)[j]? =some y):∃x,xs[j]? =some x/\y= .tup [.int j,x]:=by
 have hj:j<xs.length:=by have:=(lJg.mp h).1;rwa [jJ0] at this
 refine⟨xs[j],lJj hj,?_⟩;rw[jUr (lJj hj)] at h;cases h;rfl
theorem kYa(h:Sub G G')(hp:G' p=none):G p=none:=by
 cases e:G p with
 | none=>rfl
 | some o=>rw[h _ _ e] at hp;cases hp
theorem vis_sub{F:List Nat}:(∃E,vis F es=F++E)/\(∀e,e∈es->e.1∈vis F es)/\(∀x,x∈vis F es->x∈F\/∃e,e∈es/\e.1=x)/\(F.Nodup->(vis F es).Nodup):=by
 induction es generalizing F with
 | nil=>exact⟨⟨[],by simp[vis]⟩,by simp,λx h=> .inl h,λh=>h⟩
 | cons e es ih=>
  have hv:vis F (e::es)=vis (if F.contains e.1=true then F else F++[e.1]) es:=rfl
  rw[hv]
  by_cases h:F.contains e.1=true
  .rw[lJc h];obtain⟨⟨E,i1⟩,i2,i3,i4⟩:=ih (F:=F);refine⟨⟨E,i1⟩,λd hd=> ?_,λx hx=> ?_,i4⟩
   .rcases (lJp.mp hd) with rfl | hde
    .rw[i1];exact lKf _ (by simpa using h)
    .exact i2 d hde
   .rcases i3 x hx with h | ⟨d,hd,e⟩
    .exact .inl h
    .exact .inr ⟨d,lKd _ hd,e⟩
  .rw[lJb h];obtain⟨⟨E,i1⟩,i2,i3,i4⟩:=ih (F:=F++[e.1]);refine⟨⟨e.1::E,by rw[i1];simp⟩,λd hd=> ?_,λx hx=> ?_,λhn=>i4 ?_⟩
   .rcases (lJp.mp hd) with rfl | hde
    .rw[i1];exact lKf _ (by simp)
    .exact i2 d hde
   .rcases i3 x hx with h | ⟨d,hd,e'⟩
    .rcases (lJx.mp h) with h | hs
     .exact .inl h
     .exact .inr ⟨e,lJ6 ..,(lJ1.mp hs).symm⟩
    .exact .inr ⟨d,lKd _ hd,e'⟩
   .rw[lVx];exact⟨hn,by simp,λa ha b hb=>by rw[lJ1] at hb;subst hb;rintro rfl;exact h (by simpa using ha)⟩
structure Bfs (W:Web) (k:Nat) (F:List Nat):Prop where
 nd:F.Nodup
 lt:∀x,x∈F->x<W.length
 near:∀(i x:Nat)(e:Nat×Nat),i<k->F[i]? =some x->e∈row W x->e.1∈F
theorem kVp{W:Web}(h:e∈row W x):∃i,en W x i=some e:=by
 unfold row at h;cases hW:W[x]? with
 | none=>rw[hW] at h;simp at h
 | some es=>
  rw[hW] at h;obtain⟨i,hi⟩:=lJ2 (show e∈es from h)
  exact⟨i,jU4 hW hi⟩
theorem Bfs.step{W:Web}(f:Fine W){k:Nat}{F:List Nat}(h:Bfs W k F)(hr:F[k]? =some r):Bfs W (k+1) (vis F (row W r)):=by
 obtain⟨⟨E,e1⟩,e2,e3,e4⟩:=vis_sub (F:=F) (es:=row W r);refine⟨e4 h.nd,λx hx=> ?_,λi x e hi hx he=> ?_⟩
 .rcases e3 x hx with hx | ⟨e,he,rfl⟩
  .exact h.lt x hx
  .obtain⟨i,hi⟩:=kVp he;exact f.rng _ _ e.1 e.2 hi
 .have hkl:k<F.length:=(lJg.mp hr).1;have hx':F[i]? =some x:=by rw[e1,lKq (by omega)] at hx;exact hx
  rcases lK9 (lQf hi) with h1 | rfl
  .rw[e1];exact lKf _ (h.near i x e h1 hx' he)
  .rw[hr] at hx';cases hx';exact e2 e he
theorem Bfs.run{W:Web}(f:Fine W):∀(n k:Nat)(F:List Nat),Bfs W k F->W.length<=n+k->k<=F.length->(∃E,bfsN W n k F=F++E)/\Bfs W (bfsN W n k F).length (bfsN W n k F)
 | 0,k,F,h,hl,hk=>by
  have hF:=jQ7 h.nd h.lt;have:k=F.length:=by omega
  subst this;exact⟨⟨[],by simp[bfsN]⟩,h⟩
 | n+1,k,F,h,hl,hk=>by
  rcases lKw k F.length with hlt | hge
  .have hr:F[k]? =some F[k]:=lJj hlt;rw[jVl hr];obtain⟨⟨E,e1⟩,e2,e3,e4⟩:=vis_sub (F:=F) (es:=row W F[k]);obtain⟨⟨E',h1⟩,h2⟩:=Bfs.run f n (k+1) _ (h.step f hr) (by omega) (by rw[e1,lJ7];omega)
   exact⟨⟨E++E',by rw[h1,e1,lJq]⟩,h2⟩
  .have:k=F.length:=by omega
   subst this;rw[jVm (lJh _)];exact⟨⟨[],by simp⟩,h⟩
theorem qZ8{W:Web}(f:Fine W)(hr:r<W.length):(∃E,bfs W r=r::E)/\Bfs W (bfs W r).length (bfs W r):=
 Bfs.run f W.length 0 [r] ⟨by simp,by simpa using hr,λi x e hi=>absurd hi (lKs _)⟩ (by omega) (by simp)
structure Order (W:Web) (r:Nat) (F:List Nat):Prop where
 nd:F.Nodup
 lt:∀x,x∈F->x<W.length
 all:∀x,x<W.length->x∈F
 first:F[0]? =some r
theorem qVo{W:Web}(f:Fine W)(sym:Sym W)(c:Conn W)(hr:r<W.length):Order W r (bfs W r):=by
 obtain⟨⟨E,e1⟩,h⟩:=qZ8 f hr
 have cl:∀x i s j,x∈bfs W r->en W x i=some (s,j)->s∈bfs W r:=by
  intro x i s j hx he;obtain⟨k,hk⟩:=lJ2 hx;have hkl:=(lJg.mp hk).1;refine h.near k x (s,j) hkl hk ?_;have he':=he;unfold en at he';cases hW:W[x]? with
  | none=>rw[hW] at he';cases he'
  | some es=>rw[hW] at he';rw[jXl hW];exact lJo (show es[i]? =_ from he')
 have hrF:r∈bfs W r:=by rw[e1];exact lJ6 ..
 have h0:0∈bfs W r:=c (λx=>x∈bfs W r->0∈bfs W r) (λh=>h) (λx i s j hx he hs=>hx (cl s j x i hs (sym _ _ _ _ he))) r hr hrF
 exact⟨h.nd,h.lt,λx hx=>c (λx=>x∈bfs W r) h0 (λx i s j h he=>cl x i s j h he) x hx,by rw[e1];rfl⟩
theorem kZo:∀(n:Nat)(F:List Nat),(∀x,x<n->x∈F)->n<=F.length
 | 0,_,_=>lJn _
 | n+1,F,h=>by
  have hn:=h n (Nat.lt_succ_self _);have h1:=kZo n (F.erase n) λx hx=>(List.mem_erase_of_ne (by omega)).mpr (h x (by omega))
  rw[List.length_erase_of_mem hn] at h1;have:=List.length_pos_of_mem hn;omega
theorem Order.len{W:Web}{F:List Nat}(h:Order W r F):F.length=W.length:=by
 have h1:=jQ7 h.nd h.lt;exact Nat.le_antisymm h1 (kZo _ _ h.all)
noncomputable def nuF(nu:List Nat)(x:Nat):Nat:=(nu[x]?).getD x
noncomputable def renE(nu:List Nat)(es:List (Nat×Nat)):List (Nat×Nat):=es.map λe=>(nuF nu e.1,e.2)
structure Ren (W:Web) (nu:List Nat) (V:Web):Prop where
 len:V.length=W.length
 at':∀(r:Nat)(es:List (Nat×Nat)),W[r]? =some es->V[nuF nu r]? =some (renE nu es)
theorem jQ2(h:nu[x]? =some y):nuF nu x=y:=by unfold nuF;rw[h];rfl
theorem jYe(h:nu.length<=x):nuF nu x=x:=by unfold nuF;rw[lJ3 h];rfl
theorem kYp(t:Turn n nu)(h:x<n):nuF nu x<n:=by
 obtain⟨y,hy,hl⟩:=t.at h;rw[jQ2 hy];exact hl
theorem kQd(t:Turn n nu)(h:nuF nu x=nuF nu y):x=y:=by
 rcases lKw x n with hx | hx<;>rcases lKw y n with hy | hy
 .obtain⟨a,ha,_⟩:=t.at hx;obtain⟨b,hb,_⟩:=t.at hy;rw[jQ2 ha,jQ2 hb] at h;subst h;exact (lQ5 (by rw[t.len];exact hx) t.nd).mp (ha.trans hb.symm)
 .have:=kYp t hx;rw[h,jYe (by rw[t.len];exact hy)] at this;omega
 .have:=kYp t hy;rw[<-h,jYe (by rw[t.len];exact hx)] at this;omega
 .rw[jYe (by rw[t.len];exact hx),jYe (by rw[t.len];exact hy)] at h;exact h
theorem jXr(t:Turn n nu)(h:y<n):∃x,x<n/\nuF nu x=y:=by
 have hm:=jZ2 t.nd t.lt t.len y h;obtain⟨x,hx⟩:=lJ2 hm;exact⟨x,by have:=(lJg.mp hx).1;rw[t.len] at this;exact this,jQ2 hx⟩
theorem qK0{W V:Web}(h:Ren W nu V)(t:Turn W.length nu)(r:Nat):row V (nuF nu r)=renE nu (row W r):=by
 rcases lKw r W.length with hr | hr
 .have hW:W[r]? =some W[r]:=lJj hr;rw[jXl hW,jXl (h.at' r _ hW)]
 .have e1:row W r=[]:=by unfold row;rw[lJ3 hr];rfl
  have e2:row V (nuF nu r)=[]:=by unfold row;rw[jYe (by rw[t.len];exact hr),lJ3 (by rw[h.len];exact hr)];rfl
  rw[e1,e2];rfl
theorem kUx(hf:∀x y,f x=f y->x=y){F:List Nat}:(F.map f).contains (f x)=F.contains x:=by
 rw[Bool.eq_iff_iff];simp only[List.contains_iff_mem,lJl];exact⟨λ⟨a,ha,e⟩=>hf _ _ e▸ha,λh=>⟨x,h,rfl⟩⟩
theorem uJc(hf:∀x y,f x=f y->x=y)(es:List (Nat×Nat)):∀F:List Nat,vis (F.map f) (es.map λe=>(f e.1,e.2))=(vis F es).map f:=by
 induction es with
 | nil=>intro F;rfl
 | cons e es ih=>
  intro F;show vis (if (F.map f).contains (f e.1)=true then F.map f else F.map f++[f e.1]) _=(vis (if F.contains e.1=true then F else F++[e.1]) es).map f
  rw[kUx hf]
  by_cases h:F.contains e.1=true
  .rw[lJc h,lJc h];exact ih F
  .rw[lJb h,lJb h,show F.map f++[f e.1]=(F++[e.1]).map f by simp];exact ih _
theorem kZr{W V:Web}{nu:List Nat}(h:Ren W nu V)(t:Turn W.length nu):∀(n k:Nat)(F:List Nat),bfsN V n k (F.map (nuF nu))=(bfsN W n k F).map (nuF nu)
 | 0,_,_=>rfl
 | n+1,k,F=>by
  cases hk:F[k]? with
  | none=>
   have hl:F.length<=k:=by simpa using hk
   rw[jVm hl,jVm (by rw[lJe];exact hl)]
  | some r=>
   rw[jVl hk,jVl (by rw[lJ4,hk];rfl),qK0 h t,renE,uJc (λ_ _=>kQd t)]
   exact kZr h t n (k+1) _
theorem qVn{W V:Web}(h:Ren W nu V)(t:Turn W.length nu)(r:Nat):bfs V (nuF nu r)=(bfs W r).map (nuF nu):=by
 unfold bfs;rw[h.len];exact kZr h t _ _ [r]
theorem qUc{f:Nat->Nat}(hf:∀x y,f x=f y->x=y)(x:Nat):∀F:List Nat,(F.map f).idxOf (f x)=F.idxOf x
 | []=>rfl
 | a::F=>by
  simp only[lJw,List.idxOf_cons,qUc hf x F]
  by_cases h:a=x
  .rw[h];simp only[BEq.rfl,cond_true]
  .have h2:¬ f a=f x:=λe=>h (hf _ _ e)
   rw[beq_eq_false_iff_ne.mpr h,beq_eq_false_iff_ne.mpr h2]
noncomputable def tf(W:Web)(r:Nat):Web:=(bfs W r).map λs=>(row W s).map λe=>((bfs W r).idxOf e.1,e.2)
theorem qZk{W V:Web}(h:Ren W nu V)(t:Turn W.length nu)(r:Nat):tf V (nuF nu r)=tf W r:=by
 unfold tf;rw[qVn h t,lJz];apply lQ6;intro s _;show (row V (nuF nu s)).map _=_
 rw[qK0 h t,renE,lJz];apply lQ6;intro e _;show ((List.map (nuF nu) (bfs W r)).idxOf (nuF nu e.1),e.2)=_
 rw[qUc λ_ _=>kQd t]
noncomputable def inv(n:Nat)(F:List Nat):List Nat:=(List.range n).map λx=>F.idxOf x
theorem Order.idx{W:Web}{F:List Nat}(o:Order W r F)(h:x<W.length):F[F.idxOf x]? =some x/\F.idxOf x<W.length:=by
 have hl:=List.idxOf_lt_length_of_mem (o.all x h);refine⟨?_,by rw[o.len] at hl;exact hl⟩
 rw[lJj hl,List.getElem_idxOf]
theorem kY7{F:List Nat}(h:x<n):(inv n F)[x]? =some (F.idxOf x):=by simp[inv,h]
theorem Order.turn{W:Web}{F:List Nat}(o:Order W r F):Turn W.length (inv W.length F):=by
 refine⟨by simp[inv],?_,λy hy=> ?_⟩
 .unfold inv;rw[lZe,lQo];refine List.Pairwise.imp_of_mem (λ{a b} ha hb hne e=>hne ?_) (lZe.mp lV8)
  have h1:=(o.idx (lKc.mp ha)).1;have h2:=(o.idx (lKc.mp hb)).1;rw[e,h2] at h1;cases h1;rfl
 .obtain⟨x,hx,rfl⟩:=lJl.mp hy;exact (o.idx (lKc.mp hx)).2
theorem uJi{W:Web}(f:Fine W)(o:Order W r (bfs W r)):Ren W (inv W.length (bfs W r)) (tf W r):=by
 refine⟨by unfold tf;rw[lJe];exact o.len,λx es hx=> ?_⟩
 have hxl:=(lJg.mp hx).1;rw[jQ2 (kY7 hxl)];unfold tf;rw[lJ4,(o.idx hxl).1];show some _=some _
 congr 1
 show (row W x).map _=_
 rw[jXl hx,renE];apply lQ6;intro e he;obtain⟨i,hi⟩:=lJ2 he;rw[jQ2 (kY7 (f.rng x i e.1 e.2 (jU4 hx hi)))]
theorem Ren.unique{W V V':Web}(t:Turn W.length nu)(h:Ren W nu V)(h':Ren W nu V'):V=V':=by
 apply lQj;intro i
 rcases lKw i W.length with hi | hi
 .obtain⟨x,hx,rfl⟩:=jXr t hi;have hW:W[x]? =some W[x]:=lJj hx;rw[h.at' x _ hW,h'.at' x _ hW]
 .rw[lJ3 (by rw[h.len];exact hi),lJ3 (by rw[h'.len];exact hi)]
theorem kJ5{W V:Web}(t:Turn W.length nu)(h:Ren W nu V)(r i:Nat):en V (nuF nu r) i=(en W r i).map λe=>(nuF nu e.1,e.2):=by
 unfold en
 rcases lKw r W.length with hr | hr
 .have hW:W[r]? =some W[r]:=lJj hr;rw[hW,h.at' r _ hW];show (renE nu W[r])[i]? =_
  rw[renE,lJ4];rfl
 .rw[lJ3 hr,jYe (by rw[t.len];exact hr),lJ3 (by rw[h.len];exact hr)];rfl
variable {r0:Nat}
theorem qVa{W:Web}(sym:Sym W)(c:Conn W)(hr:r0<W.length)(S:Nat->Prop)(h0:S r0)(cl:∀r i s j,S r->en W r i=some (s,j)->S s):∀r,r<W.length->S r:=
 c S (c (λx=>S x->S 0) (λh=>h) (λx i s j hx he hs=>hx (cl s j x i hs (sym _ _ _ _ he))) r0 hr h0) cl
theorem uJy{W V:Web}(t:Turn W.length nu)(h:Ren W nu V)(a:AnyWeb W):AnyWeb V:=by
 have back:∀r i e,en V r i=some e->∃x d,nuF nu x=r/\en W x i=some d/\e=(nuF nu d.1,d.2):=by
  intro r i e he;have hr:=jX0 he;rw[h.len] at hr;obtain⟨x,hx,rfl⟩:=jXr t hr;rw[kJ5 t h] at he;obtain⟨d,hd,rfl⟩:=lQn.mp he;exact⟨x,d,rfl,hd,rfl⟩
 refine⟨by rw[h.len];exact a.pos,by rw[h.len];exact a.len,?_,?_,?_⟩
 .intro r i s j he;obtain⟨x,d,rfl,hd,e⟩:=back r i _ he;cases e;rw[kJ5 t h,a.sym _ _ d.1 d.2 hd];rfl
 .intro r es hr;have hrl:=(lJg.mp hr).1;rw[h.len] at hrl;obtain⟨x,hx,rfl⟩:=jXr t hrl;have hW:W[x]? =some W[x]:=lJj hx;rw[h.at' x _ hW] at hr;cases hr;rw[renE,lJe];exact a.deg x _ hW
 .intro S h0 cl r hr;rw[h.len] at hr;have ap:=a.pos;obtain⟨z,hz,e0⟩:=jXr t (show 0<W.length by omega)
  obtain⟨x,hx,rfl⟩:=jXr t hr;exact qVa a.sym a.conn hz (λx=>S (nuF nu x)) (by show S (nuF nu z);rw[e0];exact h0) (λr i s j hS he=>cl _ i _ j hS (by rw[kJ5 t h,he];rfl)) x hx
theorem AnyWeb.order{W:Web}(a:AnyWeb W)(hr:r<W.length):Order W r (bfs W r):=qVo a.fine a.sym a.conn hr
theorem uVs{W:Web}(a:AnyWeb W)(hr:r<W.length):AnyWeb (tf W r):=uJy (a.order hr).turn (uJi a.fine (a.order hr)) a
theorem qV1{W:Web}(a:AnyWeb W)(hr:r<W.length):tf (tf W r) 0=tf W r:=by
 have o:=a.order hr;have h:=qZk (uJi a.fine o) o.turn r
 have h0:nuF (inv W.length (bfs W r)) r=0:=by
  rw[jQ2 (kY7 hr)];obtain⟨⟨E,e1⟩,_⟩:=qZ8 a.fine hr;rw[e1];simp
 rw[h0] at h;exact h
def lx:List Nat->List Nat->Prop
 | [],_=>False
 | _::_,[]=>False
 | a::u,b::v=>a<b\/(a=b/\lx u v)
def slt(u v:List Nat):Prop:=u.length<v.length\/(u.length=v.length/\lx u v)
theorem qZt:∀u:List Nat,¬ lx u u
 | []=>λh=>h
 | a::u=>λh=>by
  rcases h with h | ⟨_,h⟩
  .exact lVt _ h
  .exact qZt u h
theorem kYt:∀{u v w:List Nat},lx u v->lx v w->lx u w
 | [],_,_,h,_=>(show False from h).elim
 | _::_,[],_,h,_=>(show False from h).elim
 | _::_,_::_,[],_,h=>(show False from h).elim
 | a::u,b::v,c::w,h,k=>by
  rcases h with h | ⟨rfl,h⟩<;>rcases k with k | ⟨rfl,k⟩
  .exact .inl (lYa h k)
  .exact .inl h
  .exact .inl k
  .exact .inr ⟨rfl,kYt h k⟩
theorem qZu{x y:List Nat}:∀{u v:List Nat},u.length=v.length->lx u v->lx (u++x) (v++y)
 | [],_,_,h=>(show False from h).elim
 | _::_,[],_,h=>(show False from h).elim
 | a::u,b::v,e,h=>by
  rcases h with h | ⟨rfl,h⟩
  .exact .inl h
  .exact .inr ⟨rfl,qZu (by simpa using e) h⟩
theorem qQ1{a b:Nat}(h:a<b):∀u:List Nat,lx (u++[a]) (u++[b])
 | []=> .inl h
 | _::u=> .inr ⟨rfl,qQ1 h u⟩
variable {u:List Nat}
theorem uJq(h:slt u u):False:=by
 rcases h with h | h
 .exact lVt _ h
 .exact qZt u h.2
variable {w:List Nat}
theorem kQ3{v:List Nat}(h:slt u v)(k:slt v w):slt u w:=by
 rcases h with h | ⟨h,h'⟩<;>rcases k with k | ⟨k,k'⟩
 .exact .inl (lYa h k)
 .exact .inl (by omega)
 .exact .inl (by omega)
 .exact .inr ⟨h.trans k,kYt h' k'⟩
theorem kYe{v:List Nat}{b:Nat}(h:slt u v):slt (u++[a]) (v++[b]):=by
 rcases h with h | ⟨h,h'⟩
 .exact .inl (by simp;exact h)
 .exact .inr ⟨by simp;exact h,qZu h h'⟩
theorem qV3{b:Nat}(h:a<b):slt (u++[a]) (u++[b]):= .inr ⟨by simp,qQ1 h u⟩
def sle(u v:List Nat):Prop:=u=v\/slt u v
theorem qKr{v:List Nat}(h:sle u v)(k:sle v w):sle u w:=by
 rcases h with rfl | h
 .exact k
 .rcases k with rfl | k
  .exact .inr h
  .exact .inr (kQ3 h k)
theorem qV4{v:List Nat}(h:sle u v):sle (u++[d]) (v++[d]):=by
 rcases h with rfl | h
 .exact .inl rfl
 .exact .inr (kYe h)
theorem qV5{v:List Nat}(h:sle u v)(k:sle v u):u=v:=by
 rcases h with h | h
 .exact h
 .rcases k with k | k
  .exact k.symm
  .exact (uJq (kQ3 h k)).elim
def jX3(W:Web):Nat->List Nat->Nat->Prop
 | r,[],x=>r=x
 | r,d::u,x=>∃s j,en W r d=some (s,j)/\jX3 W s u x
theorem jYg{W:Web}{x d y j:Nat}(h:en W x d=some (y,j)):∀{u:List Nat}{r:Nat},jX3 W r u x->jX3 W r (u++[d]) y
 | [],r,e=>by cases (show r=x from e);exact⟨y,j,h,rfl⟩
 | c::u,r,⟨s,k,e,l⟩=>⟨s,k,e,jYg h l⟩
theorem kKc{W:Web}{d y:Nat}:∀{u:List Nat}{r:Nat},jX3 W r (u++[d]) y->∃x j,jX3 W r u x/\en W x d=some (y,j)
 | [],r,⟨s,j,e,l⟩=>by cases (show s=y from l);exact⟨r,j,rfl,e⟩
 | c::u,r,⟨s,k,e,l⟩=>by
  obtain⟨x,j,h1,h2⟩:=kKc l;exact⟨x,j,⟨s,k,e,h1⟩,h2⟩
structure Least (W:Web) (r x:Nat) (w:List Nat):Prop where
 to:jX3 W r w x
 le:∀u,jX3 W r u x->sle w u
theorem Least.unique{W:Web}{w':List Nat}(h:Least W r x w)(h':Least W r x w'):w=w':=qV5 (h.le _ h'.to) (h'.le _ h.to)
abbrev PE:=Nat×Option (Nat×Nat)×List Nat
structure Tr (W:Web) (r0 a j:Nat) (P:List PE):Prop where
 nd:(P.map Prod.fst).Nodup
 zero:P[0]? =some (r0,none,[])
 to:∀p,p∈P->jX3 W r0 p.2.2 p.1
 par:∀p,p∈P->p=(r0,none,[])\/∃(i:Nat)(q:PE)(d:Nat),(i<a\/(i=a/\d<j))/\P[i]? =some q/\p.2.1=some (q.1,d)/\p.2.2=q.2.2++[d]
 inc:∀(i k:Nat)(p q:PE),i<k->P[i]? =some p->P[k]? =some q->slt p.2.2 q.2.2
 cl:∀(i:Nat)(p:PE)(d y k:Nat),(i<a\/(i=a/\d<j))->P[i]? =some p->en W p.1 d=some (y,k)->∃q,q∈P/\q.1=y/\sle q.2.2 (p.2.2++[d])
theorem qV0{W:Web}:Tr W r0 0 0 [(r0,none,[])] where
 nd:=by simp
 zero:=rfl
 to:=λp hp=>by rw[lJ1.mp hp];rfl
 par:=λp hp=> .inl (lJ1.mp hp)
 inc:=λi k p q h h1 h2=>by
  have:=(lJg.mp h2).1;simp at this;omega
 cl:=λi p d y k h=>by omega
theorem Tr.old{W:Web}{P:List PE}{x:PE}(h:Tr W r0 a j P)(hx:P[a]? =some x):∀p,p∈P->slt p.2.2 (x.2.2++[j]):=by
 intro p hp
 rcases h.par p hp with rfl | ⟨i,q,d,hi,hq,_,e⟩
 .exact .inl (by simp)
 .rw[e]
  rcases hi with hi | ⟨rfl,hd⟩
  .exact kYe (h.inc i a q x hi hq hx)
  .rw[hx] at hq;cases hq;exact qV3 hd
theorem Tr.skip{W:Web}{k:Nat}{P:List PE}{x:PE}(h:Tr W r0 a j P)(hx:P[a]? =some x)(he:en W x.1 j=some (y,k))(hy:y∈P.map Prod.fst):Tr W r0 a (j+1) P where
 nd:=h.nd
 zero:=h.zero
 to:=h.to
 par:=λp hp=>by
  rcases h.par p hp with e | ⟨i,q,d,hi,r⟩
  .exact .inl e
  .exact .inr ⟨i,q,d,by omega,r⟩
 inc:=h.inc
 cl:=λi p d z k' hi hp hz=>by
  by_cases hh:i=a/\d=j
  .obtain⟨rfl,rfl⟩:=hh;rw[hx] at hp;cases hp;rw[he] at hz;cases hz;obtain⟨q,hq,rfl⟩:=lJl.mp hy;exact⟨q,hq,rfl,.inr (h.old hx q hq)⟩
  .exact h.cl i p d z k' (by omega) hp hz
theorem Tr.add{W:Web}{k:Nat}{P:List PE}{x:PE}(h:Tr W r0 a j P)(hx:P[a]? =some x)(he:en W x.1 j=some (y,k))(hy:y∉P.map Prod.fst):Tr W r0 a (j+1) (P++[(y,some (x.1,j),x.2.2++[j])]):=by
 have hal:a<P.length:=(lJg.mp hx).1
 have lf:∀{i:Nat}{q:PE},P[i]? =some q->(P++[(y,some (x.1,j),x.2.2++[j])])[i]? =some q:=λ{i q} hq=>by
  rw[lKq (lJg.mp hq).1];exact hq
 have rt:∀{i:Nat}{q:PE},(P++[(y,some (x.1,j),x.2.2++[j])])[i]? =some q->P[i]? =some q\/(i=P.length/\q=(y,some (x.1,j),x.2.2++[j])):=λ{i q} hq=>by
  by_cases hi:i<P.length
  .rw[lKq hi] at hq;exact .inl hq
  .have:=(lJg.mp hq).1;simp at this;have e:i=P.length:=by omega
   subst e;rw[lK2 (lJh _)] at hq;simp at hq;exact .inr ⟨rfl,hq.symm⟩
 refine⟨?_,lf h.zero,λp hp=> ?_,λp hp=> ?_,λi m p q him hp hq=> ?_,λi p d z k' hi hp hz=> ?_⟩
 .rw[lQv,lVx];refine⟨h.nd,by simp,λu hu v hv=> ?_⟩
  have:v=y:=by simpa using hv
  subst this;rintro rfl;exact hy hu
 .rcases (lJx.mp hp) with hp | hp
  .exact h.to p hp
  .rw[lJ1.mp hp];exact jYg he (h.to x (lJo hx))
 .rcases (lJx.mp hp) with hp | hp
  .rcases h.par p hp with e | ⟨i,q,d,hi,hq,r⟩
   .exact .inl e
   .exact .inr ⟨i,q,d,by omega,lf hq,r⟩
  .rw[lJ1.mp hp];exact .inr ⟨a,x,j,by omega,lf hx,rfl,rfl⟩
 .rcases rt hp with hp | ⟨rfl,rfl⟩<;>rcases rt hq with hq | ⟨rfl,rfl⟩
  .exact h.inc i m p q him hp hq
  .exact h.old hx p (lJo hp)
  .have:=(lJg.mp hq).1;omega
  .omega
 .rcases rt hp with hpo | ⟨rfl,rfl⟩
  .by_cases hh:i=a/\d=j
   .obtain⟨rfl,rfl⟩:=hh;rw[hx] at hpo;cases hpo;rw[he] at hz;cases hz;exact⟨_,lKb _ (lYd _),rfl,.inl rfl⟩
   .obtain⟨q,h1,h2⟩:=h.cl i p d z k' (by omega) hpo hz
    exact⟨q,lKf _ h1,h2⟩
  .omega
theorem Tr.next{W:Web}{P:List PE}{x:PE}(h:Tr W r0 a n P)(hx:P[a]? =some x)(hn:∀d e,en W x.1 d=some e->d<n):Tr W r0 (a+1) 0 P where
 nd:=h.nd
 zero:=h.zero
 to:=h.to
 par:=λp hp=>by
  rcases h.par p hp with e | ⟨i,q,d,hi,r⟩
  .exact .inl e
  .exact .inr ⟨i,q,d,by omega,r⟩
 inc:=h.inc
 cl:=λi p d z k' hi hp hz=>by
  refine h.cl i p d z k' ?_ hp hz
  by_cases hh:i=a
  .subst hh;rw[hx] at hp;cases hp;exact .inr ⟨rfl,hn d _ hz⟩
  .exact .inl (by omega)
theorem Tr.all{W:Web}{P:List PE}(h:Tr W r0 P.length 0 P):∀(n:Nat)(u:List Nat)(y:Nat),u.length=n->jX3 W r0 u y->∃q,q∈P/\q.1=y/\sle q.2.2 u
 | 0,u,y,hn,hl=>by
  have:u=[]:=lVk.mp hn;subst this;cases (show r0=y from hl)
  exact⟨_,lJo h.zero,rfl,.inl rfl⟩
 | n+1,u,y,hn,hl=>by
  rcases List.eq_nil_or_concat u with rfl | ⟨u',d,rfl⟩
  .simp at hn
  .rw[lYq] at hl hn ⊢;obtain⟨x,j,h1,h2⟩:=kKc hl;obtain⟨q,hq,rfl,hs⟩:=h.all n u' x (by simpa using hn) h1
   obtain⟨i,hi⟩:=lJ2 hq;obtain⟨q',a1,a2,a3⟩:=h.cl i q d y j (.inl (lJg.mp hi).1) hi h2;exact⟨q',a1,a2,qKr a3 (qV4 hs)⟩
theorem kYr{α β:Type}{f:α->β}:∀{P:List α},(P.map f).Nodup->∀{p q:α},p∈P->q∈P->f p=f q->p=q
 | [],_,_,_,h,_,_=>by simp at h
 | a::P,nd,p,q,hp,hq,e=>by
  rw[lJw,lKz] at nd
  rcases (lJp.mp hp) with ep | hp'<;>rcases lJp.mp hq with eq | hq'
  .rw[ep,eq]
  .exact absurd (lJl.mpr ⟨q,hq',by rw[<-e,ep]⟩) nd.1
  .exact absurd (lJl.mpr ⟨p,hp',by rw[e,eq]⟩) nd.1
  .exact kYr nd.2 hp' hq' e
theorem Tr.least{W:Web}{P:List PE}(h:Tr W r0 P.length 0 P){p:PE}(hp:p∈P):Least W r0 p.1 p.2.2:=by
 refine⟨h.to p hp,λu hu=> ?_⟩
 obtain⟨q,hq,e,hs⟩:=h.all _ u _ rfl hu;rw[kYr h.nd hq hp e] at hs;exact hs
noncomputable def encO:Option (Nat×Nat)->T
 | none=> .non
 | some e=>encE e
noncomputable def jQt(P:List PE):List (L2.Key×T):=P.map λp=>(keyN p.1,encO p.2.1)
theorem jY4{P:List PE}:(jQt P).map Prod.fst=(P.map Prod.fst).map keyN:=by
 unfold jQt;rw[lJz,lJz];rfl
theorem kY5(h:keyN x=keyN y):x=y:=by
 have:((x:Nat):Int)=(y:Nat):=Sum.inl.inj h;omega
theorem kX6{α:Type}{f:α->Nat}{g:α->T}:∀{P:List α},(P.map f).Nodup->∀{p:α},p∈P->valT (P.map λp=>(keyN (f p),g p)) (keyN (f p))=some (g p)
 | [],_,_,h=>by simp at h
 | a::P,nd,p,hp=>by
  rw[lJw,lKz] at nd;rw[lJw];unfold valT;rw[lQm]
  by_cases hh:f a=f p
  .rcases (lJp.mp hp) with rfl | hp
   .simp
   .exact absurd (lJl.mpr ⟨p,hp,hh.symm⟩) nd.1
  .have hp':p∈P:=by
    rcases (lJp.mp hp) with rfl | hp
    .exact absurd rfl hh
    .exact hp
   have:decide (keyN (f a)=keyN (f p))=false:=lJv λe=>hh (kY5 e)
   simp only[this];exact kX6 nd.2 hp'
theorem kXj{d:Addr}(h:G d=some (.dck kvs)):ixR G (.ref d) (.int (x:Nat))=valT kvs (keyN x):=by
 have h1:seqT G (.ref d)=none:=by simp only[seqT,h,asL]
 have h2:dAt G (.ref d) (.int (x:Nat))=some (valT kvs (keyN x)):=by simp only[dAt,h,jUs];rfl
 unfold ixR;rw[h1,h2]
theorem uQq{W:Web}(f:Fine W){F:List Nat}(hx:W[x]? =some es)(hF:∀y,y∈F->y<W.length)(j:Nat):∀y,y∈vis F (es.take j)->y<W.length:=by
 intro y hy
 rcases (vis_sub (F:=F) (es:=es.take j)).2.2.1 y hy with h | ⟨e,he,rfl⟩
 .exact hF y h
 .obtain⟨i,hi⟩:=lJ2 (lQg he);exact f.rng x i e.1 e.2 (jU4 hx hi)
noncomputable def jJ5:Sp3:=λxs G Q=>∃(W:Web)(r0:Nat),xs=[encW W,.int r0]/\Fine W/\r0<W.length/\∀d G' P,G d=none->G' d=some (.dck (jQt P))->P.map Prod.fst=bfs W r0->Tr W r0 P.length 0 P->Sub G G'->Q (.ref d) G'
noncomputable def kJk:List Str:=["web","room","comings","level","further","here","door","end"]
noncomputable def jQo:TS3:=
 (tSeq (tAsg (qKl C1 (tC .non)) M2)
 (tSeq (tAsg (tLst D1) M3)
 (tSeq (jZg (tTru rTru C3) (tSeq (tAsg (tLst tNil) M4)
 (tSeq (tFor (iSeq C3) M5 (tFor (iEnT (jJb (tOp rIxF C0 C5) tNil)) (gTup 2 (jKc M6 (jKc M7 gNil))) (tIfS (jJx (tOp jVn (tOp rIxF C7 tI0) C2)) (tSeq (tAsg (tTup (jJb C5 D6)) (gSub C2 (tOp rIxF C7 tI0) jU3))
 (jU1 (tBM "list" jQa C4 (jJb (tOp rIxF C7 tI0) tNil)))) jKj)))
 (tAsg C4 M3))))
 (tRet C2))))
theorem jXm:RdOk jJ5 jQo kJk:=by
 intro xs G Q h_;apply xe2 h_;clear h_;intro W r0;refine ae3 ?_;intro fine hr0 kk;show jQo _ [some (.tup (W.map encR)),some (.int r0),none,none,none,none,none,none] G
 have hs:=sz;have hl:=fine.len
 exists jQo,jZg,jJv,qKl,iSeq,iEnT
 intro d hd;refine⟨keyN r0,rfl,by omega,λl hl0=> ?_⟩
 have hdl:d≠l:=jJf (jJh (G:=G) (a:=d) (o:= .dck [(keyN r0,T.non)])) hl0;refine⟨λm τ G'=>∃(a:Nat)(l:Addr)(v4 v5 v6 v7:Option T)(F:List Nat)(P:List PE),τ=[some (.tup (W.map encR)),some (.int r0),some (.ref d),some (.ref l),v4,v5,v6,v7]/\d≠l/\G l=none/\G' d=some (.dck (jQt P))/\P.map Prod.fst=F/\Tr W r0 a 0 P/\G' l=some (.lst (jJl (F.drop a)))/\a<=F.length/\Bfs W a F/\bfs W r0=bfsN W (W.length-a) a F/\Sub G G'/\m=W.length-a,?_,?_⟩
 .refine⟨_,0,l,none,none,none,none,[r0],[(r0,none,[])],rfl,hdl,?_,?_,rfl,qV0,jJh,lJn _,⟨by simp,by simpa using hr0,λi x e hi=>absurd hi (lKs _)⟩,rfl,(Sub.new hd).trans (.new hl0),rfl⟩
  .rw[jJq hdl.symm] at hl0;exact hl0
  .rw[jJq hdl];exact jJh
 intro m τ G1 h_;apply xe8 h_;clear h_;intro a l v4 v5 v6 v7 F P;refine ae11 ?_;intro hdl hl0 h1 hk hT h2 haF hB hb hs1 e10_;subst e10_;have hFl:=jQ7 hB.nd hB.lt
 exists h2
 split
 .rename_i hne
  have haF':a<F.length:=by
   rcases lKw a F.length with z | z
   .exact z
   .rw[lVz z] at hne;simp[jJl] at hne
  refine⟨λτ' G'=>∃(l':Addr)(v4 v5 v6 v7:Option T)(F':List Nat)(P':List PE),τ'=[some (.tup (W.map encR)),some (.int r0),some (.ref d),some (.ref l'),v4,v5,v6,v7]/\d≠l'/\G l'=none/\G' d=some (.dck (jQt P'))/\P'.map Prod.fst=F'/\Tr W r0 F.length 0 P'/\G' l'=some (.lst (jJl (F'.drop F.length)))/\F.length<=F'.length/\Bfs W F.length F'/\bfs W r0=bfsN W (W.length-F.length) F.length F'/\Sub G G',?_,by omega,λp hp=> ?_⟩
  .intro τ' G' h_;apply xe7 h_;clear h_;intro l' v4 v5 v6 v7 F' P';refine ae10 ?_;intro i1 i2 i3 i4 iT i5 i6 i7 i8 i9;exact⟨W.length-F.length,by omega,F.length,l',v4,v5,v6,v7,rfl,i1,i2,F',P',i3,i4,iT,i5,i6,i7,i8,i9,rfl⟩
  .have hpd:d≠p:=jJf h1 hp;have hpl:l≠p:=jJf h2 hp;have hp0:=kYa hs1 hp;refine⟨jJl (F.drop a),jJn (by rw[jJq hpl];exact h2),?_⟩
   refine⟨λi τ G'=>∃(v5 v6 v7:Option T)(F':List Nat)(P':List PE),τ=[some (.tup (W.map encR)),some (.int r0),some (.ref d),some (.ref l),some (.ref p),v5,v6,v7]/\G' d=some (.dck (jQt P'))/\P'.map Prod.fst=F'/\Tr W r0 (a+i) 0 P'/\G' l=some (.lst (jJl (F.drop a)))/\G' p=some (.lst (jJl (F'.drop F.length)))/\(∃E,F'=F++E)/\Bfs W (a+i) F'/\bfs W r0=bfsN W (W.length-(a+i)) (a+i) F'/\Sub G G',?_,?_,?_,?_⟩
   .exact⟨v5,v6,v7,F,P,rfl,by rw[jJq hpd];exact h1,hk,hT,by rw[jJq hpl];exact h2,by rw[List.drop_length];exact jJh,⟨[],by simp⟩,hB,hb,hs1.trans (.new hp)⟩
   .intro i τ G' hi h_;apply xe5 h_;clear h_;intro v5 v6 v7 F' P';refine ae9 ?_;intro j1 jk jT j2 j3 jE jB jb js;exact jJn j2
   .intro i y τ G2 hy h_;apply xe5 h_;clear h_;intro v5 v6 v7 F' P';refine ae9 ?_;intro j1 jk jT j2 j3 q5_ jB jb js;obtain⟨E,jE⟩:=q5_;obtain⟨x,hx,rfl⟩:=jJ7 hy;rw[lX0] at hx;have hai:a+i<F.length:=(lJg.mp hx).1;have hx':F'[a+i]? =some x:=by rw[jE,lKq hai];exact hx
    have hxW:=jB.lt x (lJo hx');have hW:W[x]? =some W[x]:=lJj hxW
    generalize W[x]=es at hW
    exists iEnT,jQh hW,encR,jJv
    refine⟨λj τ G'=>∃(v6 v7:Option T)(F2:List Nat)(P2:List PE),τ=[some (.tup (W.map encR)),some (.int r0),some (.ref d),some (.ref l),some (.ref p),some (.int x),v6,v7]/\G' d=some (.dck (jQt P2))/\P2.map Prod.fst=F2/\Tr W r0 (a+i) j P2/\G' l=some (.lst (jJl (F.drop a)))/\G' p=some (.lst (jJl (F2.drop F.length)))/\F2=vis F' (es.take j)/\Sub G G',?_,?_,?_,?_⟩
    .exact⟨v6,v7,F',P',rfl,j1,jk,jT,j2,j3,rfl,js⟩
    .intros;trivial
    .intro j y τ G3 hy h_;apply xe4 h_;clear h_;intro v6 v7 F2 P2;refine ae7 ?_;intro q1 qk qT q2 q3 q4 q5;obtain⟨z,hz,rfl⟩:=jYd hy;obtain⟨e,he,rfl⟩:=jJ7 hz;have hF2n:F2.Nodup:=by rw[q4];exact vis_sub.2.2.2 jB.nd
     have hF2l:∀y,y∈F2->y<W.length:=by rw[q4];exact uQq fine hW jB.lt j
     have hF2:=jQ7 hF2n hF2l;have hkl:(jQt P2).length=F2.length:=by rw[<-qk];simp[jQt]
     obtain⟨⟨E',e1⟩,_⟩:=vis_sub (F:=F') (es:=es.take j)
     have hFF:F.length<=F2.length:=by
      rw[q4,e1,jE];simp only[lJ7];omega
     have hx2:F2[a+i]? =some x:=by
      rw[q4,e1,lKq (lJg.mp hx').1];exact hx'
     rw[<-qk] at hx2;obtain⟨px,hpx,hpx1⟩:=jJ7 hx2;have hee:en W px.1 j=some (e.1,e.2):=by rw[<-hpx1];exact jU4 hW he
     have qk':(jQt P2).map Prod.fst=F2.map keyN:=by rw[jY4,qk]
     exists encE,jVn,uKp q1 qk'
     by_cases hm:e.1∈F2
     .rw[lJb (by simp[hm])]
      exact⟨F2,P2,q1,qk,qT.skip hpx hee (by rw[qk];exact hm),q2,q3,by rw[jYw he,<-q4,lJc (by simpa using hm)],q5⟩
     .rw[lJc (by simp[hm])]
      exists qXc q1 (show (jQt P2).length<sizeLine by omega)
      have hgp:gup G3 d (.dck (putT (jQt P2) (keyN e.1) (.tup [.int x,.int j]))) p=some (.lst (jJl (F2.drop F.length))):=by rw[jJq hpd.symm];exact q3
      refine⟨by omega,by rw[jKq hgp];trivial,_,hgp,by simp[jJl];omega,F2++[e.1],P2++[(e.1,some (px.1,j),px.2.2++[j])],?_,?_,?_,?_,?_,?_,?_⟩
      .rw[jJq hpd,jJh,qXp (by rw[qk',kY4];exact hm),<-hpx1]
       simp only[jQt,lQv];rfl
      .rw[lQv,qk];rfl
      .exact qT.add hpx hee (by rw[qk];exact hm)
      .rw[jJq hpl,jJq hdl.symm];exact q2
      .rw[lY8 hFF];simp[jJl]
      .rw[jYw he,<-q4,lJb (by simpa using hm)]
      .exact (q5.over hd).over hp0
    .intro τ G3 h_;apply xe4 h_;clear h_;intro v6 v7 F2 P2;refine ae7 ?_;intro q1 qk qT q2 q3 q4 q5;rw[jJ0,lJe] at qT;rw[jJ0,lJe,lQt] at q4;obtain⟨⟨E',e1⟩,_⟩:=vis_sub (F:=F') (es:=es)
     have hx2:F2[a+i]? =some x:=by
      rw[q4,e1,lKq (lJg.mp hx').1];exact hx'
     rw[<-qk] at hx2;obtain⟨px,hpx,hpx1⟩:=jJ7 hx2;refine⟨_,_,_,rfl,F2,P2,q1,qk,qT.next hpx (λd' e he=> ?_),q2,q3,⟨E++E',by rw[q4,e1,jE,lJq]⟩,?_,?_,q5⟩
     .rw[<-hpx1] at he;obtain⟨es',z1,z2⟩:=jK1 he;rw[hW] at z1;cases z1;exact (lJg.mp z2).1
     .have:=jB.step fine hx';rw[jXl hW,<-q4] at this;exact this
     .rw[jb,show W.length-(a+i)=W.length-(a+(i+1))+1 by omega,jVl hx',jXl hW,<-q4];rfl
   .intro τ G2 h_;apply xe5 h_;clear h_;intro v5 v6 v7 F' P';refine ae9 ?_;intro j1 jk jT j2 j3 q5_ jB jb js;obtain⟨E,jE⟩:=q5_;have hlen:(jJl (F.drop a)).length=F.length-a:=by simp[jJl]
    rw[hlen,show a+(F.length-a)=F.length by omega] at jB jb jT
    exists tSeq
    exact⟨hpd,hp0,F',P',j1,jk,jT,j3,by rw[jE,lJ7];omega,jB,jb,js⟩
 .rename_i hne
  have he:F.length<=a:=by
   have:jJl (F.drop a)=[]:=by simpa using hne
   have:=lKl List.length this;simp[jJl] at this;omega
  have hPl:P.length=a:=by have:=lKl List.length hk;simp at this;omega
  rw[jVm he] at hb;exact kk d G1 P hd h1 (by rw[hk,hb]) (by rw[hPl];exact hT) hs1
theorem qUy{z:Nat}:encO (some (z,d))= .tup [.int (z:Nat),.int (d:Nat)]:=rfl
theorem qUz:encO none= .non:=rfl
noncomputable def jKt:Sp3:=λxs G Q=>∃(W:Web)(r x:Nat),xs=[encW W,.int r,.int x]/\AnyWeb W/\r<W.length/\x<W.length/\∀G' w,Least W r x w->w.length<W.length->Sub G G'->Q (.tup (jJl w)) G'
noncomputable def qZb:List Str:=["web","one","other","comings","doors","end"]
noncomputable def jZp:TS3:=
 (tSeq (tAsg (jJm jJ5 (jJb C0 D1)) M3)
 (tSeq (tAsg (tLst tNil) M4)
 (tSeq (tAsg (tOp rIxF C3 C2) M5)
 (tSeq (jZg (jJx (tOp uJz C5 (tC .non))) (tSeq (jU1 (tBM "list" jQa C4 (jJb (tOp rIxF C5 tI1) tNil)))
 (tAsg (tOp rIxF C3 (tOp rIxF C5 tI0)) M5)))
 (tRet (uJl D4))))))
theorem uQw{W:Web}{P:List PE}(h:Tr W r0 P.length 0 P):∀(i:Nat)(p:PE),P[i]? =some p->p.2.2.length<=i:=by
 intro i
 induction i using Nat.strongRecOn with
 | ind i ih=>
  intro p hp
  rcases h.par p (lJo hp) with rfl | ⟨k,q,d,_,hq,_,e⟩
  .simp
  .rw[e,lJ7]
   have hki:k<i:=by
    rcases lXw k i with z | z | z
    .exact z
    .subst z;rw[hp] at hq;cases hq;have:=lKl List.length e;simp at this
    .have:=h.inc i k p q z hp hq;rw[e] at this
     rcases this with this | ⟨this,_⟩<;>simp at this
     omega
   have:=ih k hki q hq;simp;omega
theorem kVs:RdOk jKt jZp qZb:=by
 intro xs G Q h_;apply xe3 h_;clear h_;intro W r x;refine ae4 ?_;intro any hr hx kk;show jZp _ [some (encW W),some (.int r),some (.int x),none,none,none] G
 have hs:=sz
 exists jZp,jZg,uJl
 refine⟨W,r,rfl,any.fine,hr,λd G1 P hd h1 hF hT s1=> ?_⟩
 have hxF:x∈P.map Prod.fst:=by rw[hF];exact (any.order hr).all x hx
 obtain⟨px,hpx,hpx1⟩:=lJl.mp hxF;have hWl:=any.len
 have hPW:P.length=W.length:=by
  have h1:=lKl List.length hF;rw[(any.order hr).len] at h1
  simpa using h1
 have hPl:P.length<=24:=by omega
 have wl:∀p,p∈P->p.2.2.length<W.length:=λp hp=>by
  obtain⟨i,hi⟩:=lJ2 hp;have:=uQw hT i p hi;have:=(lJg.mp hi).1;omega
 refine⟨by omega,λl hl=> ?_⟩
 have hdl:d≠l:=jJf h1 hl;have h1':gup G1 l (.lst []) d=some (.dck (jQt P)):=by rw[jJq hdl];exact h1
 have hv:∀p,p∈P->valT (jQt P) (keyN p.1)=some (encO p.2.1):=λp hp=>kX6 hT.nd hp
 have hv0:=hv px hpx;rw[hpx1] at hv0;refine⟨encO px.2.1,(kXj h1').trans hv0,?_⟩;refine⟨λm τ G'=>∃(p:PE)(ds:List Nat),τ=[some (encW W),some (.int r),some (.int x),some (.ref d),some (.ref l),some (encO p.2.1)]/\p∈P/\p.2.2++ds.reverse=px.2.2/\G' d=some (.dck (jQt P))/\G' l=some (.lst (jJl ds))/\Sub G G'/\m=p.2.2.length,?_,?_⟩
 .exact⟨_,px,[],rfl,hpx,by simp,h1',jJh,s1.trans (.new hl),rfl⟩
 intro m τ G2 h_;apply xe2 h_;clear h_;intro p ds;refine ae6 ?_;intro hp hw h2 h3 s2 e5_;subst e5_;have hlG:G l=none:=kYa s1 hl
 exists uJz
 rcases hT.par p hp with rfl | ⟨i,q,c,hi,hq,ho,hpw⟩
 .exists qUz,kJx
  refine⟨jJl ds,by simp only[jQf,h3,asL],?_⟩
  have e1:(jJl ds).reverse=jJl px.2.2:=by rw[<-hw];simp[jJl]
  rw[e1];exact kk G2 px.2.2 (by rw[<-hpx1];exact hT.least hpx) (wl px hpx) s2
 .have hqm:=lJo hq;have hpl:=wl px hpx
  have hdl2:ds.length<=24:=by
   have:=lKl List.length hw;simp at this;omega
  rw[ho]
  exists qUy,kJx
  refine⟨λτ' G'=>∃(p':PE)(ds:List Nat),τ'=[some (encW W),some (.int r),some (.int x),some (.ref d),some (.ref l),some (encO p'.2.1)]/\p'∈P/\p'.2.2.length<p.2.2.length/\p'.2.2++ds.reverse=px.2.2/\G' d=some (.dck (jQt P))/\G' l=some (.lst (jJl ds))/\Sub G G',?_,?_⟩
  .intro τ' G' h_;apply xe2 h_;clear h_;intro p' ds';refine ae6 ?_;intro i1 i2 i3 i4 i5 i6;exact⟨_,i2,p',rfl,i1,ds',i3,i4,i5,i6,rfl⟩
  .exists h3
   have h2':gup G2 l (.lst (jJl ds++[.int (c:Nat)])) d=some (.dck (jQt P)):=by rw[jJq hdl];exact h2
   refine⟨by rw[jKq h3];trivial,by simp[jJl];omega,encO q.2.1,(kXj h2').trans (hv q hqm),q,rfl,hqm,by rw[hpw];simp,ds++[c],?_,h2',by simp[jJl],s2.over hlG⟩
   rw[<-hw,hpw];simp
noncomputable def jX6:Sp3:=λxs G Q=>∃(es:List (Nat×Nat))(nu:List Nat),xs=[encR es,.tup (jJl nu)]/\(∀e,e∈es->e.1<nu.length)/\es.length<=1000/\∀G',Sub G G'->Q (encR (renE nu es)) G'
noncomputable def qVw:List Str:=["ends","numbers","end"]
noncomputable def jYa:TS3:=
 (tRet (tCB jKi (jJb (jUc [fF,fF,tT] (iSeq C0) M2 jU6 (tTup (jJb (tOp rIxF C1 (tOp rIxF C2 tI0)) (jJb (tOp rIxF C2 tI1) tNil)))) tNil)))
theorem kUb:RdOk jX6 jYa qVw:=by
 intro xs G Q h_;apply xe2 h_;clear h_;intro es nu;refine ae3 ?_;intro hlt hl kk;show jYa _ [some (.tup (es.map encE)),some (.tup (jJl nu)),none] G
 have hs:=sz
 exists jYa,iSeq
 refine jK4 (λe=>encE (nuF nu e.1,e.2)) (by omega) (λ_ _=>trivial) ?_ ?_
 .intro i e he G' K K0 s hk;have hx:=hlt e (lJo he);have hy:nu[e.1]? =some nu[e.1]:=lJj hx
  exists encE,qVr hy
  rw[encE,jQ2 hy] at hk;exact⟨by omega,hk G' (.refl _)⟩
 .intro D G' hD h1 h2;refine⟨_,jJn h1,?_⟩;have:=kk G' h2;rw[encR,renE,lJz] at this;exact this
def jKv:Sp3:=λxs G Q=>∃(W:Web)(nu:List Nat),xs=[encW W,.tup (jJl nu)]/\Fine W/\Turn W.length nu/\∀V G',Ren W nu V->Sub G G'->Q (encW V) G'
noncomputable def kU7:List Str:=["web","numbers","rooms","room","ends"]
noncomputable def jUp:TS3:=
 (tSeq (tAsg (tCB kUc D0) M2)
 (tSeq (tFor (iEnT D0) (gTup 2 (jKc M3 (jKc M4 gNil))) (tAsg (jJm jX6 (jJb C4 D1)) (gSub C2 (tOp rIxF C1 C3) jU3)))
 (tRet (tCB jKi D2))))
theorem jZn:RdOk jKv jUp kU7:=by
 intro xs G Q h_;apply xe2 h_;clear h_;intro W nu;refine ae3 ?_;intro fine t kk;show jUp _ [some (.tup (W.map encR)),some (.tup (jJl nu)),none,none,none] G
 have hs:=sz;have hl:=fine.len
 exists jUp,kUc,kK7,jJv,iEnT
 intro p hp;refine⟨λk τ G'=>∃(v3 v4:Option T)(V:Web),τ=[some (.tup (W.map encR)),some (.tup (jJl nu)),some (.ref p),v3,v4]/\G' p=some (.lst (V.map encR))/\V.length=W.length/\(∀(r:Nat)(es:List (Nat×Nat)),r<k->W[r]? =some es->V[nuF nu r]? =some (renE nu es))/\Sub G G',?_,?_,?_,?_⟩
 .exact⟨none,none,W,rfl,jJh,rfl,λr es h=>absurd h (lKs _),.new hp⟩
 .intros;trivial
 .intro k y τ G1 hy h_;apply xe3 h_;clear h_;intro v3 v4 V;refine ae4 ?_;intro h1 h2 h3 h4;obtain⟨z,hz,rfl⟩:=jYd hy;obtain⟨es,he,rfl⟩:=jJ7 hz;have hk:k<W.length:=(lJg.mp he).1;obtain⟨x,hx,hxl⟩:=t.at hk
  exists tSeq
  refine⟨es,nu,rfl,λe hm=> ?_,fine.row k es he,λG2 s2=> ?_⟩
  .obtain⟨i,hi⟩:=lJ2 hm;rw[t.len];exact fine.rng k i e.1 e.2 (jU4 he hi)
  .have hp2:=s2 _ _ h1
   exists qVr hx,kYf hp2
   have hxV:x<(V.map encR).length:=by rw[lJe,h2];exact hxl
   rw[kJw hxV];refine⟨_,rfl,V.set x (renE nu es),(by show gup _ _ _ _=_;rw[jJh,List.map_set]),by rw[lQz];exact h2,λr es' hr he'=> ?_,(h4.trans s2).over hp⟩
   rcases lK9 (lQf hr) with h | rfl
   .rw[lKu (λe=> ?_)]
    .exact h3 r es' h he'
    .have:=kQd t ((jQ2 hx).trans e);omega
   .rw[he] at he';cases he';rw[jQ2 hx,lKy (by rw[h2];exact hxl)]
 .intro τ G1 h_;apply xe3 h_;clear h_;intro v3 v4 V;refine ae4 ?_;intro h1 h2 h3 h4
  exists tSeq
  refine⟨_,jJn h1,?_⟩;rw[jJ0,lJe] at h3;exact kk V G1 ⟨h2,λr es he=>h3 r es (lJg.mp he).1 he⟩ h4
theorem kYk:rngT 0 n=jJl (List.range n):=by
 unfold rngT jJl;apply lQ6;intro x _;show T.int (0+(x:Int))=_
 rw[Int.zero_add]
theorem jZ4{F:List Nat}(h:kvs.map Prod.fst=F.map keyN):(kvs.map λkv=>kT kv.1)=jJl F:=by
 have:(kvs.map λkv=>kT kv.1)=(kvs.map Prod.fst).map kT:=by rw[lJz];rfl
 rw[this,h,lJz];rfl
def jK7:Sp3:=λxs G Q=>∃(W:Web)(r:Nat),xs=[encW W,.int r]/\AnyWeb W/\r<W.length/\∀G',Sub G G'->Q (encW (tf W r)) G'
noncomputable def kXz:List Str:=["web","room","numbers","number","come_to"]
noncomputable def jVc:TS3:=
 (tSeq (tAsg (jQv (jJb (tCB rLen D0) tNil)) M2)
 (tSeq (tFor (jZ7 (jJb (tCB kJ6 (jJb (jJm jJ5 (jJb C0 D1)) tNil)) tNil)) (gTup 2 (jKc M3 (jKc M4 gNil))) (tAsg C3 (gSub C2 C4 jU3)))
 (tRet (jJm jKv (jJb C0 (jJb (tCB jKi D2) tNil))))))
theorem kJn:RdOk jK7 jVc kXz:=by
 intro xs G Q h_;apply xe2 h_;clear h_;intro W r;refine ae3 ?_;intro any hr kk;show jVc _ [some (.tup (W.map encR)),some (.int r),none,none,none] G
 have hs:=sz;have hW2:=any.len;have o:=any.order hr;have ol:=o.len
 exists jVc,jQv,jJv,jZ7,kJ6,List.length_map
 refine⟨by omega,by omega,λq hq=> ?_⟩
 refine⟨W,r,rfl,any.fine,hr,λd G1 P hd hd1 hP _ s1=> ?_⟩
 obtain⟨kvs,hkv⟩:∃kvs,kvs=jQt P:=⟨_,rfl⟩
 rw[<-hkv] at hd1;have hk:kvs.map Prod.fst=(bfs W r).map keyN:=by rw[hkv,jY4,hP]
 have hq1:=s1 _ _ (jJh (G:=G) (a:=q) (o:= .lst (rngT 0 ((W.length:Nat):Int).toNat)));rw[show ((W.length:Nat):Int).toNat=W.length by omega,kYk] at hq1
 refine⟨d,rfl,kvs,hd1,λu hu=> ?_⟩
 rw[jZ4 hk];have hqu:q≠u:=jJf hq1 hu;refine⟨jJl (bfs W r),by simp only[jQf,jJh];rfl,?_⟩
 refine⟨λi τ G'=>∃(v3 v4:Option T)(N:List Nat),τ=[some (.tup (W.map encR)),some (.int r),some (.ref q),v3,v4]/\G' q=some (.lst (jJl N))/\G' u=some (.lst (jJl (bfs W r)))/\N.length=W.length/\(∀i' x,i'<i->(bfs W r)[i']? =some x->N[x]? =some i')/\Sub G G',?_,?_,?_,?_⟩
 .exact⟨none,none,List.range W.length,rfl,by rw[jJq hqu];exact hq1,jJh,by simp,λi' x h=>absurd h (lKs _),((Sub.new hq).trans s1).trans (.new hu)⟩
 .intro i τ G' hi h_;apply xe3 h_;clear h_;intro v3 v4 N;refine ae5 ?_;intro h1 h2 h3 h4 h5;simp only[jQf,h2];rfl
 .intro i y τ G2 hy h_;apply xe3 h_;clear h_;intro v3 v4 N;refine ae5 ?_;intro h1 h2 h3 h4 h5;obtain⟨z,hz,rfl⟩:=jYd hy;obtain⟨x,hx,rfl⟩:=jJ7 hz;have hxl:=o.lt x (lJo hx)
  exists kYf h1
  rw[kJw (show x<(jJl N).length by simp[jJl,h3,hxl])]
  refine⟨_,rfl,N.set x i,(by show gup _ _ _ _=_;rw[jJh];simp[jJl]),(by show gup _ _ _ _=_;rw[jJq hqu.symm];exact h2),by rw[lQz];exact h3,λi' x' hi' hx'=> ?_,h5.over hq⟩
  rcases lK9 (lQf hi') with h | rfl
  .rw[lKu (λe=> ?_)]
   .exact h4 i' x' h hx'
   .subst e;have:=(lQ5 (lJg.mp hx).1 o.nd).mp (hx.trans hx'.symm);omega
  .rw[hx] at hx';cases hx';rw[lKy (by rw[h3];exact hxl)]
 .intro τ G2 h_;apply xe3 h_;clear h_;intro v3 v4 N;refine ae5 ?_;intro h1 h2 h3 h4 h5
  exists tSeq
  refine⟨_,jJn h1,?_⟩
  have hN:N=inv W.length (bfs W r):=by
   apply lQj;intro x
   rcases lKw x W.length with hx | hx
   .obtain⟨e1,e2⟩:=o.idx hx;rw[kY7 hx,h4 _ x (by rw[jJ0];simp[jJl];rw[ol];exact e2) e1]
   .rw[lJ3 (by omega),lJ3 (by simp[inv];exact hx)]
  refine⟨W,N,rfl,any.fine,by rw[hN];exact o.turn,λV G3 ren s3=> ?_⟩
  rw[hN] at ren;rw[Ren.unique o.turn ren (uJi any.fine o)];exact kk G3 (h5.trans s3)
theorem kQk{α:Type}[DecidableEq α]{f:α->T}(h:∀x y,eqT (f x) (f y)=decide (x=y)):∀xs ys:List α,eqTs (xs.map f) (ys.map f)=decide (xs=ys)
 | [],[]=>by show true=_;simp
 | [],_::_=>by show false=_;simp
 | _::_,[]=>by show false=_;simp
 | x::xs,y::ys=>by
  show (eqT (f x) (f y)&&eqTs (xs.map f) (ys.map f))=_
  rw[h,kQk h xs ys]
  by_cases e:x=y
  .subst e;by_cases e2:xs=ys<;>simp[e2]
  .simp[e]
theorem qUt(x y:Nat):eqT (.int x) (.int y)=decide (x=y):=by
 by_cases h:x=y
 .subst h;simp[kQl]
 .have:¬ (x:Int)=y:=by omega
  simp[kQl,h,this]
theorem uX2(x y:Nat×Nat):eqT (encE x) (encE y)=decide (x=y):=by
 obtain⟨a,b⟩:=x;obtain⟨c,d⟩:=y;show (eqT (.int a) (.int c)&&(eqT (.int b) (.int d)&&true))=_
 rw[qUt,qUt]
 by_cases h:a=c<;>by_cases h2:b=d<;>simp[h,h2]
theorem uX1(x y:List (Nat×Nat)):eqT (encR x) (encR y)=decide (x=y):=kQk uX2 x y
theorem uX0(x y:Web):eqT (encW x) (encW y)=decide (x=y):=kQk uX1 x y
structure OkD (d:Nat) (x:T):Prop where
 tr:tree x=true
 lay:PyData.canLay0 (td x)=true
 dep:(td x).depth<=d
theorem okD_int{i:Int}:OkD 0 (.int i):=⟨rfl,rfl,Nat.le_of_eq (by simp[td,PyData.depth])⟩
theorem kV8{d:Nat}:∀xs:List T,(∀x,x∈xs->OkD d x)->jQm xs=true/\PyData.canLayAll0 (tds xs)=true/\PyData.depthAll (tds xs)<=d
 | [],_=>⟨rfl,by simp[tds,PyData.canLayAll0],by simp[tds,PyData.depthAll]⟩
 | x::xs,h=>by
  obtain⟨a1,a2,a3⟩:=kV8 xs λy hy=>h y (lKd _ hy)
  obtain⟨b1,b2,b3⟩:=h x (lJ6 ..);refine⟨?_,?_,?_⟩
  .show (tree x&&jQm xs)=true;rw[a1,b1];rfl
  .show PyData.canLayAll0 (td x::tds xs)=true;rw[PyData.canLayAll0,a2,b2];rfl
  .show PyData.depthAll (td x::tds xs)<=d;rw[PyData.depthAll];omega
theorem jZ0(h:∀x,x∈xs->OkD d x):OkD (d+1) (.tup xs):=by
 obtain⟨a1,a2,a3⟩:=kV8 xs h;exact⟨a1,by show PyData.canLay0 (.tuple (tds xs))=true;rw[PyData.canLay0,a2],by show (PyData.tuple (tds xs)).depth<=d+1;rw[PyData.depth];omega⟩
theorem uJ6{W:Web}:OkD 3 (encW W):=by
 refine jZ0 λx hx=> ?_
 obtain⟨es,_,rfl⟩:=lJl.mp hx;refine jZ0 λx hx=> ?_
 obtain⟨e,_,rfl⟩:=lJl.mp hx;refine jZ0 λx hx=> ?_
 simp only[lKr,lJp,lQr] at hx
 rcases hx with rfl | rfl<;>exact okD_int
variable {A:Web}
theorem kZf{B:Web}:eqG G (encW A) (encW B)=some (decide (A=B)):=by
 have e:∀W:Web,eqOk (encW W)=true:=by
  intro W;have h:=uJ6 (W:=W);unfold eqOk;rw[h.tr,h.lay,lJ9 (show (td (encW W)).depth<=50 by have:=h.dep;omega)];rfl
 show (if eqOk (encW A)=true/\eqOk (encW B)=true then some (eqT (encW A) (encW B)) else none)=_
 rw[lJc ⟨e A,e B⟩,uX0]
noncomputable def prt(W:Web)(a:Nat)(V:Web)(b:Nat):List Nat:=(List.range W.length).map λx=>(bfs V b).getD ((bfs W a).idxOf x) 0
noncomputable def Tw(W:Web)(a:Nat)(V:Web)(b:Nat):Option (List Nat):=if tf W a=tf V b then some (prt W a V b) else none
structure Iso (W:Web) (a:Nat) (V:Web) (b:Nat) (m:List Nat):Prop where
 turn:Turn W.length m
 ren:Ren W m V
 fst:nuF m a=b
theorem Order.idx0{W:Web}{F:List Nat}(o:Order W r F):F.idxOf r=0:=by
 have:=o.first;cases F with
 | nil=>cases this
 | cons x F=>cases this;simp
theorem kX8{W:Web}(w:AnyWeb W)(ha:a<W.length):(tf W a).length=W.length:=by unfold tf;rw[lJe,(w.order ha).len]
theorem kYo{W:Web}{V:Web}{b:Nat}(hx:x<W.length):(prt W a V b)[x]? =some ((bfs V b).getD ((bfs W a).idxOf x) 0):=by simp[prt,hx]
theorem uVc{W V:Web}{b:Nat}(w:AnyWeb W)(v:AnyWeb V)(ha:a<W.length)(hb:b<V.length)(h:tf W a=tf V b):Iso W a V b (prt W a V b):=by
 have oF:=w.order ha;have oE:=v.order hb;have ln:W.length=V.length:=by rw[<-kX8 w ha,<-kX8 v hb,h]
 have lE:=oE.len;have lF:=oF.len
 have at_:∀x,x<W.length->(bfs V b)[(bfs W a).idxOf x]? =some ((bfs V b).getD ((bfs W a).idxOf x) 0):=by
  intro x hx;have:=(oF.idx hx).2;rw[lXb,lJj (by omega)];rfl
 have tn:Turn W.length (prt W a V b):=by
  refine⟨by simp[prt],?_,λx hx=> ?_⟩
  .unfold prt;rw[lZe,lQo];refine (lV8 (n:=W.length)).imp_of_mem λ{x y} hx hy hne he=>hne ?_
   have hx:=lKc.mp hx;have hy:=lKc.mp hy;have h1:=at_ x hx
   have h2:=at_ y hy
   rw[he] at h1;have l1:=(oF.idx hx).2;have l2:=(oF.idx hy).2;have e:(bfs W a).idxOf x=(bfs W a).idxOf y:=(lQ5 (by omega) oE.nd).mp (h1.trans h2.symm)
   have i1:=(oF.idx hx).1;have i2:=(oF.idx hy).1;rw[e,i2] at i1;exact (lJ0 i1).symm
  .unfold prt at hx
   (obtain⟨y,hy,rfl⟩:=lJl.mp hx)
   rw[ln];exact oE.lt _ (lJo (at_ y (lKc.mp hy)))
 refine⟨tn,⟨ln.symm,λr es hr=> ?_⟩,?_⟩
 .have hrl:r<W.length:=(lJg.mp hr).1;have hm:nuF (prt W a V b) r=(bfs V b).getD ((bfs W a).idxOf r) 0:=jQ2 (kYo hrl);have i1:=oF.idx hrl;have t1:(tf W a)[(bfs W a).idxOf r]? =some ((row W r).map λe=>((bfs W a).idxOf e.1,e.2)):=by unfold tf;rw[lJ4,i1.1];rfl
  have t2:(tf V b)[(bfs W a).idxOf r]? =some ((row V ((bfs V b).getD ((bfs W a).idxOf r) 0)).map λe=>((bfs V b).idxOf e.1,e.2)):=by unfold tf;rw[lJ4,at_ r hrl];rfl
  rw[h,t2] at t1;have t3:=lKl (List.map λe:Nat×Nat=>((bfs V b).getD e.1 0,e.2)) (lJ0 t1)
  rw[lJz,lJz] at t3;have hml:(bfs V b).getD ((bfs W a).idxOf r) 0<V.length:=oE.lt _ (lJo (at_ r hrl))
  have e1:(row V ((bfs V b).getD ((bfs W a).idxOf r) 0)).map ((λe:Nat×Nat=>((bfs V b).getD e.1 0,e.2))∘λe=>((bfs V b).idxOf e.1,e.2))=row V ((bfs V b).getD ((bfs W a).idxOf r) 0):=by
   conv=>rhs;rw[<-List.map_id (row V ((bfs V b).getD ((bfs W a).idxOf r) 0))]
   refine lQ6 λe he=> ?_
   obtain⟨i,hi⟩:=kVp he;have hl:=v.fine.rng _ _ e.1 e.2 hi;show ((bfs V b).getD ((bfs V b).idxOf e.1) 0,e.2)=e
   rw[lXb,(oE.idx hl).1];rfl
  have e2:(row W r).map ((λe:Nat×Nat=>((bfs V b).getD e.1 0,e.2))∘λe=>((bfs W a).idxOf e.1,e.2))=renE (prt W a V b) (row W r):=by
   unfold renE;refine lQ6 λe he=> ?_
   obtain⟨i,hi⟩:=kVp he;have hl:=w.fine.rng _ _ e.1 e.2 hi;show ((bfs V b).getD ((bfs W a).idxOf e.1) 0,e.2)=(nuF (prt W a V b) e.1,e.2)
   rw[jQ2 (kYo hl)]
  rw[e1,e2,jXl hr] at t3;rw[hm,lJj hml,<-jXl (lJj hml),t3]
 .rw[jQ2 (kYo ha),oF.idx0];have:=oE.first;rw[lXb,this];rfl
theorem Iso.tf_eq{W V:Web}{b:Nat}{m:List Nat}(i:Iso W a V b m):tf W a=tf V b:=by
 rw[<-i.fst];exact (qZk i.ren i.turn a).symm
theorem Iso.prt_eq{W V:Web}{b:Nat}{m:List Nat}(w:AnyWeb W)(ha:a<W.length)(i:Iso W a V b m):prt W a V b=m:=by
 have oF:=w.order ha;have e:bfs V b=(bfs W a).map (nuF m):=by rw[<-i.fst];exact qVn i.ren i.turn a
 apply lQj;intro x
 by_cases hx:x<W.length
 .rw[kYo hx,e,lXb,lJ4,(oF.idx hx).1];obtain⟨y,hy,_⟩:=i.turn.at hx;rw[hy];show some (nuF m x)=some y
  rw[jQ2 hy]
 .rw[lJ3 (by simp[prt];omega),lJ3 (by rw[i.turn.len];omega)]
theorem Iso.tw{W V:Web}{b:Nat}{m:List Nat}(w:AnyWeb W)(ha:a<W.length)(i:Iso W a V b m):Tw W a V b=some m:=by
 unfold Tw;rw[lJc i.tf_eq,i.prt_eq w ha]
noncomputable def uVn:Option (List Nat)->T
 | none=> .non
 | some m=> .tup (jJl m)
theorem uU9(kvs:List (L2.Key×T)){F:List Nat}(h:kvs.map Prod.fst=F.map keyN):(kvs.map λkv=>kT kv.1)=(F.map λx=>((x:Nat):Int)).map T.int:=by
 rw[jZ4 h,jJl,lJz];rfl
theorem kYw(h:G p=some (.lst xs)):jQf G (.ref p)=some xs:=by
 show asL (G p)=_
 rw[h];rfl
noncomputable def kvR(F M:List Nat):List (L2.Key×T):=(F.map keyN).zip (jJl M)
theorem qKa:∀{F M:List Nat}{x:Nat},x∈F->F.length=M.length->valT (kvR F M) (keyN x)=some (.int (M.getD (F.idxOf x) 0:Nat))
 | f::F,[],x,hx,hl=>by simp at hl
 | f::F,m::M,x,hx,hl=>by
  show Option.map (λx=>x.snd) (List.find? (λkv=>decide (kv.fst=keyN x)) ((keyN f,T.int (m:Nat))::kvR F M))=_
  rw[lQm]
  by_cases e:f=x
  .subst e;simp
  .rw[lJv (λq=>e (kY5 q))]
   have hx':x∈F:=by
    rcases (lJp.mp hx) with q | q
    .exact absurd q.symm e
    .exact q
   have ih:=qKa hx' (by simpa using hl)
   rw[List.idxOf_cons,show (f == x)=false by simpa using e]
   exact ih
noncomputable def jQy:Sp3:=λxs G Q=>∃(W:Web)(a:Nat)(V:Web)(b:Nat),xs=[encW W,.int a,encW V,.int b]/\AnyWeb W/\AnyWeb V/\a<W.length/\b<V.length/\∀G',Sub G G'->Q (uVn (Tw W a V b)) G'
noncomputable def qJ4:List Str:=["one","a","other","b","partners","room"]
noncomputable def jV2:TS3:=
 (tSeq (tIfS (jJx (tOp rNeA (jJm jK7 (jJb C0 D1)) (jJm jK7 (jJb C2 D3)))) (tRet (tC .non)) jKj)
 (tSeq (tAsg (uJn (jJb (tCB kJ6 (jJb (jJm jJ5 (jJb C0 D1)) tNil)) (jJb (tCB kJ6 (jJb (jJm jJ5 (jJb C2 D3)) tNil)) tNil))) M4)
 (tRet (tCB jKi (jJb (jUc [fF,fF,fF,fF,fF,tT] (jKl (jJb (tCB rLen D0) tNil)) M5 jU6 (tOp rIxF C4 C5)) tNil)))))
theorem kK0:RdOk jQy jV2 qJ4:=by
 intro xs G Q h_;apply xe4 h_;clear h_;intro W a V b;refine ae5 ?_;intro w v ha hb kk;show jV2 _ [some (.tup (W.map encR)),some (.int a),some (.tup (V.map encR)),some (.int b),none,none] G
 have hs:=sz
 exists jV2,rNeA,uJn,kJ6
 refine⟨W,a,rfl,w,ha,λG1 s1=> ?_⟩
 refine⟨V,b,rfl,v,hb,λG2 s2=> ?_⟩
 refine⟨_,kZf,?_⟩
 by_cases h:tf W a=tf V b
 .rw[lJ9 h,lJb (by decide)]
  refine⟨W,a,rfl,w.fine,ha,λd1 G3 P1 hd1 hG3 hP1 _ s3=> ?_⟩
  obtain⟨kvs1,hkv1⟩:∃kvs,kvs=jQt P1:=⟨_,rfl⟩
  rw[<-hkv1] at hG3;have hk1:kvs1.map Prod.fst=(bfs W a).map keyN:=by rw[hkv1,jY4,hP1]
  refine⟨d1,rfl,kvs1,hG3,λq1 hq1=> ?_⟩
  refine⟨V,b,rfl,v.fine,hb,λd2 G4 P2 hd2 hG4 hP2 _ s4=> ?_⟩
  obtain⟨kvs2,hkv2⟩:∃kvs,kvs=jQt P2:=⟨_,rfl⟩
  rw[<-hkv2] at hG4;have hk2:kvs2.map Prod.fst=(bfs V b).map keyN:=by rw[hkv2,jY4,hP2]
  refine⟨d2,rfl,kvs2,hG4,λq2 hq2=> ?_⟩
  have oF:=w.order ha;have oE:=v.order hb;have lF:=oF.len;have lE:=oE.len;have lW:=w.len;have ln:W.length=V.length:=by rw[<-kX8 w ha,<-kX8 v hb,h]
  have g1:G4 q1=some (.lst (((bfs W a).map λx=>((x:Nat):Int)).map T.int)):=by
   rw[<-uU9 kvs1 hk1];exact s4 _ _ jJh
  have ne:q2≠q1:=by rintro rfl;rw[g1] at hq2;cases hq2
  refine⟨(bfs W a).map λx=>((x:Nat):Int),kYw (by rw[jJq ne.symm];exact g1),_,kYw jJh,by simp[<-lJe (f:=Prod.fst) (as:=kvs2),hk2];omega,?_,by rw[lJe];omega,by rw[lJe];omega,λp hp=> ?_⟩
  .rw[lZe,lQo];exact oF.nd.imp λ{x y} hne he=>hne (by omega)
  have ek:(List.map (λi=>(Sum.inl i:L2.Key)) (List.map (λx=>((x:Nat):Int)) (bfs W a))).zip (List.map (λkv=>kT kv.fst) kvs2)=kvR (bfs W a) (bfs V b):=by
   rw[jZ4 hk2,lJz];rfl
  rw[ek];have hp2:gup (gup G4 q2 (GO.lst (List.map (λkv=>kT kv.fst) kvs2))) p (GO.dck (kvR (bfs W a) (bfs V b))) p=some (.dck (kvR (bfs W a) (bfs V b))):=jJh
  have sf:Sub G (gup (gup G4 q2 (GO.lst (List.map (λkv=>kT kv.fst) kvs2))) p (GO.dck (kvR (bfs W a) (bfs V b)))):=(((((s1.trans s2).trans s3).trans (.new hq1)).trans s4).trans (.new hq2)).trans (.new hp)
  generalize gup (gup G4 q2 (GO.lst (List.map (λkv=>kT kv.fst) kvs2))) p (GO.dck (kvR (bfs W a) (bfs V b)))=G5 at hp2 sf ⊢
  exists jKl,List.length_map
  refine⟨by omega,by omega,?_⟩
  have er:rngT 0 ((W.length:Nat):Int).toNat=(List.range W.length).map λx=>T.int (x:Nat):=by rw[show ((W.length:Nat):Int).toNat=W.length by omega,kYk];rfl
  rw[er];refine jK4 (es:=List.range W.length) (λx=>T.int ((bfs V b).getD ((bfs W a).idxOf x) 0:Nat)) (by rw[lK7];omega) (λ_ _=>trivial) ?_ ?_
  .intro i x hx G6 K K0 s6 hk;have hxl:x<W.length:=lKc.mp (lJo hx);have hv:=(kXj (x:=x) (s6 _ _ hp2)).trans (qKa (oF.all x hxl) (show (bfs W a).length=(bfs V b).length by omega))
   exists hv
   exact hk G6 (.refl _)
  .intro D G6 hD hG6 s6
   exists jJn hG6
   have e:Tw W a V b=some (prt W a V b):=by unfold Tw;rw[lJc h]
   have:=kk G6 (sf.trans s6);rw[e,show uVn (some (prt W a V b))= .tup ((List.range W.length).map λx=>T.int ((bfs V b).getD ((bfs W a).idxOf x) 0:Nat)) by show T.tup (List.map _ (prt W a V b))=_;unfold prt;rw[lJz];rfl] at this
   exact this
 .rw[lJv h,lJc rfl];have e:Tw W a V b=none:=by unfold Tw;rw[lJb h]
  have:=kk G2 (s1.trans s2);rw[e] at this;exact this
theorem uVe{i:Int}:isiT G (.int i) (.ty "bool")=some false:=rfl
theorem uVd{i:Int}:isiT G (.int i) (.ty "int")=some true:=rfl
theorem qUa:isiT G (.tup ts) (.ty "tuple")=some true:=rfl
theorem kXm{a:Int}:eqG G (.int a) (.int a)=some true:=by
 rw[show eqG G (.int a) (.int a)=some (eqT (.int a) (.int a)) from rfl]
 simp[kQl]
structure Sz (W:Web):Prop where
 len:W.length<=1000
 row:∀(r:Nat)(es:List (Nat×Nat)),W[r]? =some es->es.length<=1000
def IsW(W:Web):Prop:=0<W.length/\Sym W/\(bfs W 0).length=W.length
theorem Sz.fine{W:Web}(h:Sz W)(s:Sym W):Fine W:=⟨h.len,h.row,λ_ _ _ _ he=>jX0 (s _ _ _ _ he)⟩
def jQi:Sp3:=λxs G Q=>∃i:Int,xs=[.int i]/\∀G',Sub G G'->Q (.bl true) G'
noncomputable def kX4:List Str:=["thing"]
noncomputable def jVh:TS3:=
 (tRet (kKw (tCB rIsi (jJb C0 (jJb (tC (.ty "int")) tNil))) (uJm (tCB rIsi (jJb C0 (jJb (tC (.ty "bool")) tNil))))))
theorem kJs:RdOk jQi jVh kX4:=by
 intro xs G Q h_;apply xe1 h_;clear h_;intro i kk;show jVh _ [some (.int i)] G
 exists jVh,rIsi,uVd,uVe
 exact kk G (.refl _)
def jKy:Sp3:=λxs G Q=>∃(W:Web)(n:Nat),xs=[encW W,.int n]/\∀G',Sub G G'->Q (.bl (decide (n<W.length))) G'
noncomputable def jXc:List Str:=["web","thing"]
noncomputable def jKz:TS3:=
 (tRet (kKw (jJm jQi D1) (jYl rLeF rLt tI0 C1 (tCB rLen D0))))
theorem jU2:RdOk jKy jKz jXc:=by
 intro xs G Q h_;apply xe2 h_;clear h_;intro W n kk;show jKz _ [some (.tup (W.map encR)),some (.int n)] G
 exists jKz
 refine⟨n,rfl,λG1 s1=> ?_⟩
 exists jYl,kJ8,kJ7,List.length_map
 rw[lJc (by omega),show decide ((n:Int)<(W.length:Int))=decide (n<W.length) from decide_eq_decide.mpr (by omega)]
 exact kk G1 s1
def jZk:Sp3:=λxs G Q=>∃e:Nat×Nat,xs=[encE e]/\∀G',Sub G G'->Q (.bl true) G'
noncomputable def qZh:List Str:=["thing"]
noncomputable def jZv:TS3:=
 (tRet (kKw (tCB rIsi (jJb C0 (jJb (tC (.ty "tuple")) tNil))) (kKw (tOp rEqA (tCB rLen D0) tI2) (kKw (jJm jQi (jJb (tOp rIxF C0 tI0) tNil)) (jJm jQi (jJb (tOp rIxF C0 tI1) tNil))))))
theorem kVy:RdOk jZk jZv qZh:=by
 intro xs G Q h_;apply xe1 h_;clear h_;intro e kk;show jZv _ [some (.tup [.int e.1,.int e.2])] G
 exists jZv,rIsi,rEqA,qUa
 refine⟨true,rfl,?_⟩
 exists tSeq
 refine⟨_,rfl,λG1 s1=> ?_⟩
 exists tSeq
 exact⟨_,rfl,λG2 s2=>kk G2 (s1.trans s2)⟩
def jX5:Sp3:=λxs G Q=>∃es:List (Nat×Nat),xs=[encR es]/\es.length<=1000/\∀G',Sub G G'->Q (.bl true) G'
noncomputable def qVu:List Str:=["thing","part"]
noncomputable def jX8:TS3:=
 (tRet (kKw (tCB rIsi (jJb C0 (jJb (tC (.ty "tuple")) tNil))) (tCB rAll (jJb (jUc [fF,tT] (iSeq C0) M1 jU6 (jJm jZk D1)) tNil))))
theorem kQ9:RdOk jX5 jX8 qVu:=by
 intro xs G Q h_;apply xe1 h_;clear h_;intro es;refine ae2 ?_;intro hl kk;show jX8 _ [some (.tup (es.map encE)),none] G
 have hs:=sz
 exists jX8,rIsi,iSeq,qUa
 refine jK4 (λ_=>T.bl true) (by omega) (λ_ _=>trivial) ?_ ?_
 .intro i e he G' K K0 s hk
  exists tSeq
  exact⟨e,rfl,λG4 s4=>hk G4 s4⟩
 .intro D G' hD h1 h2;refine⟨D,_,_,rfl,h1,jX2 (f:=λ_=>true),?_⟩
  rw[lVl.mpr (λ_ _=>rfl)]
  exact kk G' h2
noncomputable def jUm:Sp3:=λxs G Q=>∃(W:Web)(r i:Nat)(e:Nat×Nat),xs=[encW W,.int r,.int i]/\en W r i=some e/\∀G' c,(c=true↔en W e.1 e.2=some (r,i))->Sub G G'->Q (.bl c) G'
noncomputable def kU8:List Str:=["rooms","room","door","end"]
noncomputable def jUq:TS3:=
 (tSeq (tAsg (tOp rIxF (tOp rIxF C0 C1) C2) M3)
 (tSeq (tIfS (tNot (jJx (jJm jKy (jJb C0 (jJb (tOp rIxF C3 tI0) tNil))))) (tRet (tC (.bl false))) jKj)
 (tSeq (tIfS (tNot (jJx (jYl rLeF rLt tI0 (tOp rIxF C3 tI1) (tCB rLen (jJb (tOp rIxF C0 (tOp rIxF C3 tI0)) tNil))))) (tRet (tC (.bl false))) jKj)
 (tRet (tOp rEqA (tOp rIxF (tOp rIxF C0 (tOp rIxF C3 tI0)) (tOp rIxF C3 tI1)) (tTup (jJb C1 D2)))))))
theorem jZo:RdOk jUm jUq kU8:=by
 intro xs G Q h_;apply xe4 h_;clear h_;intro W r i e;refine ae2 ?_;intro he kk;show jUq _ [some (.tup (W.map encR)),some (.int r),some (.int i),none] G
 obtain⟨es,h1,h2⟩:=jK1 he;have hs:=sz
 exists jUq,jQh h1,encR,kJd h2,encE
 refine⟨W,e.1,rfl,λG1 s1=>⟨_,rfl,?_⟩⟩
 by_cases hn:e.1<W.length
 .rw[lJb (by simp[hn])]
  have e1:W[e.1]? =some W[e.1]:=lJj hn
  exists jYl,kJ8,kJ7,rEqA,jQh e1,encR,List.length_map
  rw[lJc (by omega)]
  by_cases hj:e.2<(W[e.1]).length
  .rw[lJb (by simp;omega)]
   have e2:(W[e.1])[e.2]? =some ((W[e.1])[e.2]):=lJj hj;have e3:en W e.1 e.2=some ((W[e.1])[e.2]):=jU4 e1 e2;refine⟨_,kJd e2,by omega,_,qUv (f:=(r,i)),?_⟩
   refine kk G1 _ ?_ s1;rw[e3,lK1,lYi]
  .rw[lJc (by simp;omega)]
   refine kk G1 false (Iff.intro (λz=>Bool.noConfusion z) λz=> ?_) s1
   obtain⟨us,u1,u2⟩:=jK1 z;rw[e1] at u1;cases u1;exact absurd (lJg.mp u2).1 hj
 .rw[lJc (by simp[hn])]
  exact kk G1 false (Iff.intro (λz=>Bool.noConfusion z) λz=>absurd (jX0 z) hn) s1
def jQn:Sp3:=λxs G Q=>∃W:Web,xs=[encW W]/\Sz W/\∀G' c,(c=true↔Sym W)->Sub G G'->Q (.bl c) G'
noncomputable def kJl:List Str:=["rooms","room","ends","door"]
noncomputable def jQp:TS3:=
 (tSeq (tFor (iEnT D0) (gTup 2 (jKc M1 (jKc M2 gNil))) (tFor (jKl (jJb (tCB rLen D2) tNil)) M3 (tIfS (tNot (jJx (jJm jUm (jJb C0 (jJb C1 D3))))) (tRet (tC (.bl false))) jKj)))
 (tRet (tC (.bl true))))
theorem jXn:RdOk jQn jQp kJl:=by
 intro xs G Q h_;apply xe1 h_;clear h_;intro W;refine ae2 ?_;intro hz kk;show jQp _ [some (.tup (W.map encR)),none,none,none] G
 have hs:=sz;have hl:=hz.len
 exists jQp,jJv,iEnT
 let J1:Nat->St3->Gp->Prop:=λk τ G'=>∃(v1 v2 v3:Option T),τ=[some (.tup (W.map encR)),v1,v2,v3]/\(∀r i e,r<k->en W r i=some e->en W e.1 e.2=some (r,i))/\Sub G G'
 refine⟨J1,?_,?_,?_,?_⟩
 .exact xi3 _ _ _ rfl ⟨λr i e h=>absurd h (lKs _),.refl _⟩
 .intros;trivial
 .intro k y τ G1 hy h_;apply xe3 h_;clear h_;intro v1 v2 v3;refine ae2 ?_;intro h1 h2;obtain⟨z,hzz,rfl⟩:=jYd hy;obtain⟨es,he,rfl⟩:=jJ7 hzz;have hel:=hz.row k es he
  exists jJv,jKl,encR,List.length_map
  refine⟨by omega,by omega,?_⟩
  rw[show ((es.length:Nat):Int).toNat=es.length by omega]
  let J2:Nat->St3->Gp->Prop:=λj τ G'=>∃(v3:Option T),τ=[some (.tup (W.map encR)),some (.int (k:Nat)),some (.tup (es.map encE)),v3]/\(∀i e,i<j->en W k i=some e->en W e.1 e.2=some (k,i))/\Sub G G'
  refine⟨J2,?_,?_,?_,?_⟩
  .exact xi1 _ rfl ⟨λi e h=>absurd h (lKs _),h2⟩
  .intros;trivial
  .intro j x τ G2 hx h_;apply xe1 h_;clear h_;intro v3;refine ae2 ?_;intro i1 i2;obtain⟨hj,rfl⟩:=jVb hx;have hej:es[j]? =some es[j]:=lJj hj;have hen:=jU4 he hej
   exists tSeq
   refine⟨W,k,j,_,rfl,hen,λG3 c hc s3=>⟨c,rfl,?_⟩⟩
   cases c with
   | false=>
    rw[lJc rfl];refine kk G3 false (Iff.intro (λz=>Bool.noConfusion z) λsy=> ?_) (i2.trans s3)
    exact absurd (hc.mpr (sy _ _ _ _ hen)) lJs
   | true=>
    rw[lJb (by decide)]
    refine xi1 _ rfl ⟨λi e hi h=> ?_,i2.trans s3⟩
    rcases lK9 (lQf hi) with q | rfl
    .exact i1 i e q h
    .rw[hen] at h;cases h;exact hc.mp rfl
  .intro τ G2 h_;apply xe1 h_;clear h_;intro v3;refine ae2 ?_;intro i1 i2;rw[jK3] at i1;refine xi3 _ _ _ rfl ⟨λr i e hr h=> ?_,i2⟩
   rcases lK9 (lQf hr) with q | rfl
   .exact h1 r i e q h
   .obtain⟨us,u1,u2⟩:=jK1 h;rw[he] at u1;cases u1;exact i1 i e (lJg.mp u2).1 h
 .intro τ G1 h_;apply xe3 h_;clear h_;intro v1 v2 v3;refine ae2 ?_;intro h1 h2;rw[jJ0,lJe] at h1
  exists tSeq
  exact kk G1 true (Iff.intro (λ_ r i s j h=>h1 r i (s,j) (jX0 h) h) λ_=>rfl) h2
def jXh:Sp3:=λxs G Q=>∃W:Web,xs=[encW W]/\Sz W/\∀G' c,(c=true↔IsW W)->Sub G G'->Q (.bl c) G'
noncomputable def qZg:List Str:=["thing","part"]
noncomputable def jZu:TS3:=
 (tSeq (tIfS (tOr (tNot (jJx (tCB rIsi (jJb C0 (jJb (tC (.ty "tuple")) tNil))))) (jJx (tOp rEqA (tCB qQc D0) tI0))) (tRet (tC (.bl false))) jKj)
 (tSeq (tIfS (tNot (jJx (tCB rAll (jJb (jUc [fF,tT] (iSeq C0) M1 jU6 (jJm jX5 D1)) tNil)))) (tRet (tC (.bl false))) jKj)
 (tRet (kKw (jJm jQn D0) (tOp rEqA (tCB qQc (jJb (jJm jJ5 (jJb C0 (jJb tI0 tNil))) tNil)) (tCB qQc D0))))))
theorem kVx:RdOk jXh jZu qZg:=by
 intro xs G Q h_;apply xe1 h_;clear h_;intro W;refine ae2 ?_;intro hz kk;show jZu _ [some (.tup (W.map encR)),none] G
 have hs:=sz;have hl:=hz.len
 exists jZu,rIsi,qQc,rEqA,iSeq,qUa,lenG,List.length_map
 refine⟨_,jXb (c:=0),?_⟩
 by_cases h0:W.length=0
 .rw[lJc (lJ9 h0)];exact kk G false (Iff.intro (λz=>Bool.noConfusion z) λz=>by have:=z.1;omega) (.refl _)
 rw[lJb (by simpa using (h0))]
 refine jK4 (λ_=>T.bl true) (by omega) (λ_ _=>trivial) ?_ ?_
 .intro i es he G' K K0 s hk
  exists tSeq
  exact⟨es,rfl,hz.row i es he,λG4 s4=>hk G4 s4⟩
 intro D G1 hD h1 s1;refine⟨D,_,_,rfl,h1,jX2 (f:=λ_=>true),true,by rw[lVl.mpr (λ_ _=>rfl)],?_⟩
 rw[lJb (by decide)]
 refine⟨W,rfl,hz,λG2 c hc s2=> ?_⟩
 cases c with
 | false=>
  refine⟨false,rfl,?_⟩;rw[lJb (by decide)]
  exact kk G2 false (Iff.intro (λz=>Bool.noConfusion z) λz=>absurd (hc.mpr z.2.1) lJs) (s1.trans s2)
 | true=>
  have sy:=hc.mp rfl;refine⟨true,rfl,?_⟩;rw[lJc rfl];refine⟨W,0,rfl,hz.fine sy,by omega,λd G3 P hd hG3 hk _ s3=>⟨(jQt P).length,by simp only[hG3],_,jXb,?_⟩⟩
  have hkl:(jQt P).length=(bfs W 0).length:=by rw[<-hk];simp[jQt]
  refine kk G3 _ ?_ ((s1.trans s2).trans s3);rw[lK1,hkl];exact⟨λz=>⟨by omega,sy,z⟩,λz=>z.2.2⟩
noncomputable def jXf:Sp3:=λxs G Q=>∃(b:Addr)(W:Web)(r m n:Nat),xs=[.ref b,encW W,.int r,.int m]/\BoxAt G b n/\n+2000<2^40/\Fine W/\r<W.length/\m<=1000/\∀ds es G',goW W r ds=some es->ds.length<=m->BoxAt G' b (n+2000)->Keep b G G'->Q (.tup (jJl ds)) G'
noncomputable def uQj:List Str:=["_law_box_here","_law_web_here","_law_room","_law_most","_law_way_here","_law_turn_here"]
noncomputable def kK5:TS3:=
 (tSeq (tAsg (tLst tNil) M4)
 (tSeq (tFor (jKl (jJb (jJm jJw (jJb C0 (jJb (tOp jKm C3 tI1) tNil))) tNil)) M5 (tIfS (jJx (tOp rGt (tCB rLen (jJb (tOp rIxF C1 C2) tNil)) tI0)) (tSeq (jU1 (tBM "list" jQa C4 (jJb (jJm jJw (jJb C0 (jJb (tCB rLen (jJb (tOp rIxF C1 C2) tNil)) tNil))) tNil)))
 (tAsg (tOp rIxF (tOp rIxF (tOp rIxF C1 C2) (tOp rIxF C4 (tUn rNeg tI1))) tI0) M2)) jKj))
 (tRet (tCB jKi D4))))
theorem qJc:RdOk jXf kK5 uQj:=by
 intro xs G Q h_;apply xe5 h_;clear h_;intro b W r m n;refine ae6 ?_;intro hb hn fine hr hm kk;show kK5 _ [some (.ref b),some (.tup (W.map encR)),some (.int r),some (.int m),none,none] G
 have hs:=sz;obtain⟨bo,hbo⟩:=hb.some
 exists kK5,jJv,jKl
 refine⟨lJn _,λp hp=> ?_⟩
 have hbp:=jJf hbo hp;refine⟨b,_,n,rfl,hb.gup hbp,by omega,by omega,by omega,λc G1 c0 c1 b1 k1=> ?_⟩
 refine⟨c,rfl,by omega,by omega,?_⟩
 let J1:Nat->St3->Gp->Prop:=λi τ G'=>∃(v5:Option T)(ds:List Nat)(es:List (Nat×Nat)),τ=[some (.ref b),some (.tup (W.map encR)),some (.int (jKh r es:Nat)),some (.int m),some (.ref p),v5]/\goW W r ds=some es/\ds.length<=i/\G' p=some (.lst (jJl ds))/\BoxAt G' b (n+1+i)/\Keep b G G'
 refine⟨J1,?_,?_,?_,?_⟩
 .exact⟨none,[],[],rfl,rfl,lJh _,k1 _ _ hbp.symm jJh,b1,(Keep.new hp).trans k1⟩
 .intros;trivial
 .intro i x τ G2 hx h_;apply xe3 h_;clear h_;intro v5 ds es;refine ae5 ?_;intro h1 h2 h3 h4 h5;have hi:i<c.toNat:=by have:=(lJg.mp hx).1;rw[jK3] at this;exact this
  have hl:=(jYp fine hr h1).1;obtain⟨row,hrow,hen⟩:=kYj hl;have hrl:=fine.row _ _ hrow;have hatR:=jQh hrow
  exists hatR,encR,List.length_map,jKq h3,h3
  split
  .rename_i hpos
   refine⟨b,_,_,rfl,h4,by omega,by omega,by omega,λy G3 d0 d1 b3 k3=> ?_⟩
   obtain⟨y,rfl⟩:=lK3 d0;have h3':=k3 _ _ hbp.symm h3;have hdr:y<row.length:=by omega
   have hed:row[y]? =some row[y]:=lJj hdr
   generalize row[y]=e at hed
   have heR:=kJd hed;have hg:goW W r (ds++[y])=some (es++[e]):=by rw[jUv,h1];show (en W (jKh r es) y).map _=_;rw[hen,hed];rfl
   exists h3',kXv,heR,encE,hatR,encR
   refine⟨by simp[jJl];omega,_,ds++[y],es++[e],by rw[jK8],hg,by simp;omega,by rw[jJh];simp[jJl],b3.gup hbp,(h5.trans k3).over hp⟩
  .exact⟨_,ds,es,rfl,h1,by omega,h3,h4.mono (by omega),h5⟩
 .intro τ G2 h_;apply xe3 h_;clear h_;intro v5 ds es;refine ae5 ?_;intro h1 h2 h3 h4 h5;rw[jK3] at h2 h4
  exists jJn h3
  exact kk ds es G2 h1 (by omega) (h4.mono (by omega)) h5
theorem kUm(h:G p=some (.lst xs)):jQf G (.ref p)=some xs:=by simp only[jQf,h];rfl
theorem kUn{es':List (Nat×Nat)}:jKh r (es++es')=jKh (jKh r es) es':=by
 rcases es'.eq_nil_or_concat with rfl | ⟨l,a,h⟩
 .rw[lVe];rfl
 .rw[lYq] at h;subst h;rw[<-lJq,jK8,jK8]
theorem kKd:jKh r (e::es)=jKh e.1 es:=kUn (es:=[e])
theorem uKu{W:Web}:goW W r (ds++ds')=(goW W r ds).bind λes=>(goW W (jKh r es) ds').map λes'=>es++es':=by
 refine kVm (P:=λds'=>goW W r (ds++ds')=(goW W r ds).bind λes=>(goW W (jKh r es) ds').map λes'=>es++es') ?_ ?_ ds'
 .rw[lVe];cases goW W r ds<;>simp[qUk]
 .intro ds' d ih;rw[<-lJq,jUv,ih];cases goW W r ds with
  | none=>rfl
  | some es=>
   simp only[lYp];rw[jUv];cases goW W (jKh r es) ds' with
   | none=>rfl
   | some es'=>
    simp only[lQ1,lYp,kUn];cases en W (jKh (jKh r es) es') d<;>simp
theorem jY5{W:Web}:goW W r (d::ds)=(en W r d).bind λe=>(goW W e.1 ds).map λes=>e::es:=by
 have h1:goW W r [d]=(en W r d).map λe=>[e]:=by
  rw[show [d]=[]++[d] from rfl,jUv];simp[qUk,jKh]
 rw[show d::ds=[d]++ds from rfl,uKu,h1]
 cases en W r d with
 | none=>rfl
 | some e=>rfl
noncomputable def jVw(es:List (Nat×Nat)):List Nat:=(es.map Prod.snd).reverse
theorem qJ0:jVw (es++[e])=e.2::jVw es:=by simp[jVw]
theorem qJ1:jVw (e::es)=jVw es++[e.2]:=by simp[jVw]
theorem qVq:(jVw es).length=es.length:=by simp[jVw]
theorem uQe{W:Web}(sym:Sym W)(ds:List Nat):∀es,goW W r ds=some es->∃es',goW W (jKh r es) (jVw es)=some es'/\jKh (jKh r es) es'=r/\jVw es'=ds:=by
 refine kVm (P:=λds=>∀es,goW W r ds=some es->∃es',goW W (jKh r es) (jVw es)=some es'/\jKh (jKh r es) es'=r/\jVw es'=ds) ?_ ?_ ds
 .intro es h;cases h;exact⟨[],rfl,rfl,rfl⟩
 .intro ds d ih es h;rw[jUv] at h;cases e1:goW W r ds with
  | none=>rw[e1] at h;cases h
  | some es1=>
   rw[e1] at h;simp only[lYp] at h;cases e2:en W (jKh r es1) d with
   | none=>rw[e2] at h;cases h
   | some e=>
    rw[e2] at h;cases h;obtain⟨es',a1,a2,a3⟩:=ih _ e1;refine⟨(jKh r es1,d)::es',?_,?_,?_⟩
    .rw[jK8,qJ0,jY5,sym _ _ e.1 e.2 e2];simp[a1]
    .rw[kKd];exact a2
    .rw[qJ1,a3]
theorem qUh(r:Nat)(es:List (Nat×Nat)):∃y,qYs r es= .tup [.int (jKh r es:Nat),y]:=by
 rcases es.eq_nil_or_concat with rfl | ⟨l,a,h⟩
 .exact⟨_,rfl⟩
 .rw[lYq] at h;subst h;exact⟨.int (a.2:Nat),by simp[qYs,jKh,encE]⟩
theorem uX8:es.reverse.map (λe=>T.int (e.2:Nat))=jJl (jVw es):=by
 simp only[jJl,jVw,List.map_reverse,lJz];rfl
noncomputable def jK5:Sp3:=λxs G Q=>∃(W:Web)(r:Nat)(x:T)(ds:List Nat),xs=[encW W,.int r,x]/\Fine W/\r<W.length/\seqT G x=some (jJl ds)/\ds.length<=1000/\∀G',Sub G G'->(goW W r ds=none->Q .non G')/\(∀es,goW W r ds=some es->Q (.tup (jJl (jVw es))) G')
noncomputable def qJ7:List Str:=["web","room","way","ends","end"]
noncomputable def jV5:TS3:=
 (tSeq (tAsg (jJm jUd (jJb C0 (jJb C1 D2))) M3)
 (tSeq (tIfS (jJx (tOp rIsN C3 (tC .non))) (tRet (tC .non)) jKj)
 (tRet (tCB jKi (jJb (jUc [fF,fF,fF,fF,tT] (iRev D3) M4 jU6 (tOp rIxF C4 tI1)) tNil)))))
theorem kK3:RdOk jK5 jV5 qJ7:=by
 intro xs G Q h_;apply xe4 h_;clear h_;intro W r x ds;refine ae5 ?_;intro fine hr hx hdl kk;show jV5 _ [some (encW W),some (.int r),some x,none,none] G
 have hs:=sz
 exists jV5
 refine⟨W,r,x,ds,rfl,fine,hr,hx,hdl,λG1 s1=>⟨λhn=> ?_,λes p he hp hp1=> ?_⟩⟩
 .exists tSeq
  exact (kk G1 s1).1 hn
 .obtain⟨b1,b2,b3⟩:=jYp fine hr he
  exists iRev
  refine⟨_,kUm hp1,?_⟩;rw[<-List.map_reverse];refine jK4 (λe=>T.int (e.2:Nat)) (by rw[List.length_reverse];omega) (λG' s=>kUm (s _ _ hp1)) ?_ ?_
  .intro i e hei G2 K K0 s hk
   exists encE
   exact hk G2 (.refl _)
  .intro D G2 hD h1 h2;refine⟨_,jJn h1,?_⟩;rw[uX8];exact (kk G2 (s1.trans h2)).2 es he
def kVj:Sp3:=λxs G Q=>∃W:Web,xs=[encW W]/\Fine W/\∀p G',G p=none->G' p=some (.lst ((jJ8 W).map encT))->(jJ8 W).length<=1000000->Sub G G'->Q (.ref p) G'
noncomputable def uVw:List Str:=["web","told","room","ends","door","end"]
noncomputable def kVz:TS3:=
 (tSeq (tAsg (tLst tNil) M1)
 (tSeq (tFor (iEnT D0) (gTup 2 (jKc M2 (jKc M3 gNil))) (tFor (iEnT D3) (gTup 2 (jKc M4 (jKc M5 gNil))) (tIfS (jJx (tOp rLeF (tTup (jJb C2 D4)) C5)) (jU1 (tBM "list" jQa C1 (jJb (tTup (jJb (tTup (jJb C2 D4)) D5)) tNil))) jKj)))
 (tRet C1)))
theorem qK1:RdOk kVj kVz uVw:=by
 intro xs G Q h_;apply xe1 h_;clear h_;intro W;refine ae2 ?_;intro fine kk;show kVz _ [some (.tup (W.map encR)),none,none,none,none,none] G
 have hs:=sz;have hl:=fine.len
 exists kVz,jJv,iEnT
 refine⟨lJn _,λp hp=> ?_⟩
 let J1:Nat->St3->Gp->Prop:=λk τ G'=>∃(v2 v3 v4 v5:Option T),τ=[some (.tup (W.map encR)),some (.ref p),v2,v3,v4,v5]/\G' p=some (.lst (((List.range k).flatMap (rowE W)).map encT))/\((List.range k).flatMap (rowE W)).length<=1000*k/\Sub G G'
 refine⟨J1,?_,?_,?_,?_⟩
 .exact xi4 _ _ _ _ rfl ⟨jJh,lJn _,.new hp⟩
 .intros;trivial
 .intro k x τ G1 hx h_;apply xe4 h_;clear h_;intro v2 v3 v4 v5;refine ae3 ?_;intro h1 h2 h3;obtain⟨z,hz,rfl⟩:=jYd hx;obtain⟨es,hW,rfl⟩:=jJ7 hz;have hk:k<W.length:=(lJg.mp hW).1;have hes:=fine.row k es hW
  exists jJv,iEnT,encR
  let J2:Nat->St3->Gp->Prop:=λi τ G'=>∃(v4 v5:Option T),τ=[some (.tup (W.map encR)),some (.ref p),some (.int k),some (.tup (es.map encE)),v4,v5]/\G' p=some (.lst (((List.range k).flatMap (rowE W)++(List.range i).filterMap (jUz k es)).map encT))/\((List.range k).flatMap (rowE W)++(List.range i).filterMap (jUz k es)).length<=1000*k+i/\Sub G G'
  refine⟨J2,?_,?_,?_,?_⟩
  .exact xi2 _ _ rfl ⟨by simpa using h1,by simpa using h2,h3⟩
  .intros;trivial
  .intro i x τ G2 hx h_;apply xe2 h_;clear h_;intro v4 v5;refine ae3 ?_;intro i1 i2 i3;obtain⟨z,hz,rfl⟩:=jYd hx;obtain⟨e,hE,rfl⟩:=jJ7 hz;have hi:i<es.length:=(lJg.mp hE).1
   exists kJ8,kJ7,encE,jKq i1,i1
   refine⟨by omega,?_⟩
   have hle:HT.lexLe [(k:Int),(i:Int)] [(e.1:Int),(e.2:Int)]=leE (k,i) e:=rfl;rw[hle]
   by_cases hc:leE (k,i) e=true
   .have hcell:jUz k es i=some ((k,i),e):=by unfold jUz;rw[hE];show (if _ then _ else _)=_;rw[lJc hc]
    rw[lJc hc];refine⟨by omega,by omega,by rw[lJe];omega,xi2 _ _ rfl ⟨?_,?_,i3.over hp⟩⟩
    .rw[jJh,lKv,lQ2];simp[hcell,encT,encE]
    .rw[lKv,lQ2,lJ7,lJ7];rw[lJ7] at i2;simp[hcell] at i2 ⊢; omega
   .have hcell:jUz k es i=none:=by unfold jUz;rw[hE];show (if _ then _ else _)=_;rw[lJb hc]
    rw[lJb hc];refine xi2 _ _ rfl ⟨?_,?_,i3⟩
    .rw[lKv,lQ2];simp[hcell];simpa using i1
    .rw[lKv,lQ2];simp[hcell];simp at i2;omega
  .intro τ G' h_;apply xe2 h_;clear h_;intro v4 v5;refine ae3 ?_;intro i1 i2 i3;rw[jVo,lJe] at i1 i2
   have e1:(List.range (k+1)).flatMap (rowE W)=(List.range k).flatMap (rowE W)++(List.range es.length).filterMap (jUz k es):=by
    rw[lKv,lV2]
    congr 1
    simp[rowE,hW]
   exact xi4 _ _ _ _ rfl ⟨by rw[e1];exact i1,by rw[e1];omega,i3⟩
 .intro τ G1 h_;apply xe4 h_;clear h_;intro v2 v3 v4 v5;refine ae3 ?_;intro h1 h2 h3;rw[jVo,lJe] at h1 h2
  exists tSeq
  exact kk p G1 hp h1 (by show ((List.range W.length).flatMap (rowE W)).length<=_;omega) h3
noncomputable def keyT(s:List Nat):L2.TKey:=s.map λn:Nat=>(.inl (.inl (n:Int)):L2.K2)
theorem kZt{α K:Type}{f:T->Option K}{enc:α->T}{g:α->K}(h:∀a,f (enc a)=some (g a)):∀l:List α,allK f (l.map enc)=some (l.map g)
 | []=>rfl
 | a::l=>by rw[lJw,lJw,allK,h,kZt h l]
theorem uU4(s:List Nat):jQr (jJl s)=some (keyT s):=kZt (f:=key2) (enc:=λn:Nat=>T.int (n:Nat)) (g:=λn:Nat=>(.inl (.inl (n:Int)):L2.K2)) (λn=>rfl) s
theorem kYv:∀a b:List Nat,∃c,ltK (keyT a) (keyT b)=some c/\(a=b->c=false)/\(a.length=b.length->lx b a->c=false)
 | [],[]=>⟨false,rfl,λ_=>rfl,λ_ _=>rfl⟩
 | [],_::_=>⟨true,rfl,(λh=>nomatch h),(λh=>nomatch h)⟩
 | _::_,[]=>⟨false,rfl,λ_=>rfl,λ_ _=>rfl⟩
 | x::a,y::b=>by
  obtain⟨c,h1,h2,h3⟩:=kYv a b
  by_cases e:x=y
  .subst e;refine⟨c,?_,λz=>h2 (List.cons.inj z).2,λhl z=>h3 (by simpa using hl) ?_⟩
   .show L3.lexLt _ (Sum.inl (Sum.inl (x:Int))::keyT a) (Sum.inl (Sum.inl (x:Int))::keyT b)=_
    unfold L3.lexLt;rw[lJc rfl];exact h1
   .rcases z with z | ⟨_,z⟩
    .omega
    .exact z
  .refine⟨decide (x<y),?_,λz=>absurd (List.cons.inj z).1 e,λhl z=> ?_⟩
   .show L3.lexLt _ (Sum.inl (Sum.inl (x:Int))::keyT a) (Sum.inl (Sum.inl (y:Int))::keyT b)=_
    unfold L3.lexLt;rw[lJb (by simp only[Sum.inl.injEq];omega)]
    simp[ltS,ltI]
   .rcases z with z | ⟨z,_⟩
    .simp;omega
    .exact absurd z.symm e
noncomputable def encP(p:List Nat×Nat):T:= .tup [.tup (jJl p.1),.int (p.2:Nat)]
variable {Q:VK3}
theorem uQg(h:u.length+1<=sizeLine)(q:Q (.tup (jJl (u++[j]))) G):qXo (.tup (jJl u)) (.tup [.int (j:Nat)]) G Q:=by
 have e:jJl u++[T.int (j:Nat)]=jJl (u++[j]):=by simp[jJl]
 by_cases hl:u=[]
 .subst hl;exact .inr ⟨_,rfl,rfl,q⟩
 .refine .inl ⟨.val (.tup (jJl u++[.int (j:Nat)])),?_,?_⟩
  .simp only[addR];rw[lJc ⟨by simp[jJl,hl],by simp[jJl];omega⟩]
  .rw[e];exact q
theorem qU0{W:Web}:en W r d=(row W r)[d]? :=by
 unfold en row;cases W[r]? <;>rfl
structure WS (W:Web) (r i:Nat) (Ls:List (List Nat×Nat)):Prop where
 to:∀p,p∈Ls->jX3 W r p.1 p.2/\p.1.length=i/\p.2<W.length
theorem kQ6{W:Web}{t:Nat}(h:t<W.length):W[t]? =some (row W t):=by
 unfold row;rw[lJj h];rfl
noncomputable def onW(W:Web)(p:List Nat×Nat):List (List Nat×Nat):=(List.range (row W p.2).length).map λd=>(p.1++[d],((row W p.2).getD d (0,0)).1)
theorem uJ4{W:Web}(any:AnyWeb W){p:List Nat×Nat}(hp:p.2<W.length):(onW W p).length<=6:=by
 unfold onW;rw[lJe,lK7];exact any.deg _ _ (kQ6 hp)
theorem uXi{W:Web}(fine:Fine W){Ls:List (List Nat×Nat)}(h:WS W r i Ls):WS W r (i+1) (Ls.flatMap (onW W)):=⟨λp hp=>by
 obtain⟨q,hq,hp⟩:=lX1.mp hp;obtain⟨d,hd,rfl⟩:=lJl.mp hp;obtain⟨h1,h2,h3⟩:=h.to q hq;have hdl:=lKc.mp hd;have he:en W q.2 d=some (row W q.2)[d]:=by rw[qU0,lJj hdl]
 have e2:(row W q.2).getD d (0,0)=(row W q.2)[d]:=by rw[lXb,lJj hdl];rfl
 refine⟨?_,by simp[h2],?_⟩
 .show jX3 W r (q.1++[d]) ((row W q.2).getD d (0,0)).1
  rw[e2];exact jYg (j:=((row W q.2)[d]).2) he h1
 .show ((row W q.2).getD d (0,0)).1<W.length
  rw[e2];exact fine.rng _ _ _ _ he⟩
theorem qZp{W:Web}(any:AnyWeb W):∀Ls:List (List Nat×Nat),(∀p,p∈Ls->p.2<W.length)->(Ls.flatMap (onW W)).length<=Ls.length*6
 | [],_=>by simp
 | p::Ls,h=>by
  rw[mJk,lJ7,lKk,lVj];have h1:=qZp any Ls λq hq=>h q (lKd _ hq)
  have h2:=uJ4 any (h p (lJ6 ..));omega
noncomputable def jKk:Sp3:=λxs G Q=>∃(W:Web)(r x:Nat)(w:List Nat),xs=[encW W,.int (r:Nat),.int (x:Nat),.tup (jJl w)]/\AnyWeb W/\r<W.length/\w.length<=60/\Least W r x w/\∀G',Sub G G'->Q (.bl true) G'
noncomputable def kJz:List Str:=["_law_web_here","_law_room","_law_goal","_law_least","_law_some","_law_turn_here","_law_way_here","_law_spot","_law_further","_law_door","_law_end"]
noncomputable def jQ1:TS3:=
 (tSeq (tAsg (tLst (jJb (tTup (jJb (tTup tNil) D1)) tNil)) M4)
 (tSeq (tFor (jKl (jJb (tOp qXo (tCB rLen D3) tI1) tNil)) M5 (tSeq (tFor (iSeq C4) (gTup 2 (jKc M6 (jKc M7 gNil))) (tIfS (tAnd (jJx (tOp rEqA C7 C2)) (tOr (jJx (tOp rLtT (tCB rLen D6) (tCB rLen D3))) (jJx (tOp rLtT C6 C3)))) (tRet (tC (.bl false))) jKj))
 (tSeq (tAsg (tLst tNil) M8)
 (tSeq (tFor (iSeq C4) (gTup 2 (jKc M6 (jKc M7 gNil))) (jU1 (tBM "list" kK8 C8 (jJb (jUc [fF,fF,fF,fF,fF,fF,fF,fF,fF,tT,tT] (iEnT (jJb (tOp rIxF C0 C7) tNil)) (gTup 2 (jKc M9 (jKc M10 gNil))) jU6 (tTup (jJb (tOp qXo C6 (tTup D9)) (jJb (tOp rIxF C10 tI0) tNil)))) tNil))))
 (tSeq (tIfS (tOr (jJx (tOp rEqA C5 (tCB rLen D3))) (jJx (tOp rGt (tCB rLen D8) (tC (.int 400))))) (tRet (tC (.bl true))) jKj)
 (tAsg C8 M4))))))
 (tRet (tC (.bl true)))))
theorem jX7:RdOk jKk jQ1 kJz:=by
 intro xs G Q h_;apply xe4 h_;clear h_;intro W r x w;refine ae5 ?_;intro any hr hw ls kk;show jQ1 _ [some (.tup (W.map encR)),some (.int (r:Nat)),some (.int (x:Nat)),some (.tup (jJl w)),none,none,none,none,none,none,none] G
 have hs:=sz;have fine:=any.fine;have il:∀u:List Nat,(jJl u).length=u.length:=λu=>by simp[jJl]
 exists jQ1,jJv,jKl,iSeq,il
 refine⟨by omega,by omega,by omega,λp hp=> .inl ⟨.val (.int (w.length+1:Nat)),by simp only[addR];rfl,_,rfl,by omega,by omega,?_⟩⟩
 rw[show ((w.length+1:Nat):Int).toNat=w.length+1 by omega,jQ4]
 let J:Nat->St3->Gp->Prop:=λi τ G'=>∃(lv:Addr)(Ls:List (List Nat×Nat))(v5 v6 v7 v8 v9 v10:Option T),τ=[some (.tup (W.map encR)),some (.int (r:Nat)),some (.int (x:Nat)),some (.tup (jJl w)),some (.ref lv),v5,v6,v7,v8,v9,v10]/\G' lv=some (.lst (Ls.map encP))/\WS W r i Ls/\Ls.length<=400/\Sub G G'
 refine⟨J,?_,?_,?_,?_⟩
 .exact⟨p,[([],r)],_,_,_,_,_,_,rfl,jJh,⟨λq hq=>by rw[lJ1.mp hq];exact⟨rfl,rfl,hr⟩⟩,by simp,.new hp⟩
 .intros;trivial
 .intro i y τ G1 hy h_;apply xe8 h_;clear h_;intro lv Ls v5 v6 v7 v8 v9 v10;refine ae4 ?_;intro hlv ws hLs s1;obtain⟨i',hi',rfl⟩:=jJ7 hy
  obtain⟨hi,rfl⟩:i<w.length+1/\i=i':=by
   rw[lJg] at hi';obtain⟨q1,q2⟩:=hi';simp at q1 q2;exact⟨q1,q2⟩
  exists jJv,iSeq
  refine⟨_,jJn hlv,?_⟩
  let J1:Nat->St3->Gp->Prop:=λj τ G'=>∃(v6 v7:Option T),τ=[some (.tup (W.map encR)),some (.int (r:Nat)),some (.int (x:Nat)),some (.tup (jJl w)),some (.ref lv),some (.int (i:Nat)),v6,v7,v8,v9,v10]/\G'=G1
  refine⟨J1,⟨_,_,rfl,rfl⟩,?_,?_,?_⟩
  .intro j τ G' hj h_;apply xe2 h_;clear h_;intro v6 v7 e0_;subst e0_;exact jJn hlv
  .intro j z τ G2 hz h_;apply xe2 h_;clear h_;intro v6 v7 e0_;subst e0_;obtain⟨q,hq,rfl⟩:=jJ7 hz;obtain⟨u,t⟩:=q;obtain⟨h1,h2,h3⟩:=ws.to _ (lJo hq)
   exists encP,rEqA,il
   refine⟨_,jXb,?_⟩
   by_cases e:t=x
   .subst e;have hle:=ls.le u h1;rw[lJc (by simp)]
    have h2':u.length=i:=h2;refine .inl ⟨_,_,rfl,rfl,decide ((u.length:Int)<(w.length:Nat)),rfl,?_⟩
    have nl:¬ u.length<w.length:=by
     intro hlt
     rcases hle with z | z
     .subst z;omega
     .rcases z with z | ⟨z,_⟩<;>omega
    rw[lJb (by simpa using nl)]
    obtain⟨c,k1,k2,k3⟩:=kYv u w
    have hc:c=false:=by
     rcases hle with z | z
     .exact k2 z.symm
     .rcases z with z | ⟨z,z'⟩
      .omega
      .exact k3 z.symm z'
    refine .inr ⟨_,_,_,_,c,rfl,rfl,uU4 _,uU4 _,k1,c,rfl,?_⟩;subst hc;exact⟨_,_,rfl,rfl⟩
   .rw[lJb (by simpa using e)]
    exact⟨_,_,rfl,rfl⟩
  .intro τ G2 h_;apply xe2 h_;clear h_;intro v6 v7 e0_;subst e0_
   exists jJv,iSeq
   refine⟨by omega,λp2 hp2=>⟨_,jJn (by rw[jJq (jJf hlv hp2)];exact hlv),?_⟩⟩
   have hne:lv≠p2:=jJf hlv hp2
   let J2:Nat->St3->Gp->Prop:=λk τ G'=>∃(v6 v7 v9 v10:Option T),τ=[some (.tup (W.map encR)),some (.int (r:Nat)),some (.int (x:Nat)),some (.tup (jJl w)),some (.ref lv),some (.int (i:Nat)),v6,v7,some (.ref p2),v9,v10]/\G' p2=some (.lst (((Ls.take k).flatMap (onW W)).map encP))/\Sub G2 G'
   refine⟨J2,⟨_,_,_,_,rfl,jJh,.new hp2⟩,?_,?_,?_⟩
   .intro k τ G' hk h_;apply xe4 h_;clear h_;intro v6 v7 v9 v10;refine ae2 ?_;intro hp s2;exact jJn (s2 _ _ hlv)
   .intro k z τ G3 hz h_;apply xe4 h_;clear h_;intro v6 v7 v9 v10;refine ae2 ?_;intro hp s2;obtain⟨q,hq,rfl⟩:=jJ7 hz;obtain⟨u,t⟩:=q;obtain⟨h1,h2,h3⟩:=ws.to _ (lJo hq)
    exists encP,iEnT
    have hrow:=kQ6 (W:=W) (t:=t) h3;have hrl:=any.deg _ _ hrow;have hul:u.length=i:=h2;refine⟨by rw[jKq hp];trivial,_,jQh hrow,_,rfl,?_⟩
    refine jK4 (es:=List.range ((row W t).map encE).length) (enc:=λd=>T.tup [.int (d:Nat),((row W t).map encE).getD d .non]) (λd=>encP (u++[d],((row W t).getD d (0,0)).1)) (by simp;omega) (λ_ _=>trivial) ?_ ?_
    .intro d d' hd G4 K K0 s4 hK
     obtain⟨hdl,rfl⟩:d<(row W t).length/\d=d':=by
      rw[lJg] at hd;obtain⟨q1,q2⟩:=hd;simp at q1 q2;exact⟨q1,q2⟩
     have e1:((row W t).map encE).getD d .non=encE ((row W t).getD d (0,0)):=by
      rw[lXb,lXb,lJ4,lJj hdl];rfl
     rw[e1]
     exists encE
     exact⟨by omega,uQg (u:=u) (j:=d) (by omega) ⟨by omega,hK _ (.refl _)⟩⟩
    .intro D G4 hD gD s4;simp only[lJe] at gD;refine⟨p2,D,_,_,rfl,rfl,s4 _ _ hp,gD,?_,?_⟩
     .have h5:=qZp any (Ls.take k) λp hp=>(ws.to p (lQg hp)).2.2
      have h6:=List.length_take_le' k Ls;rw[lJe,lJe,lK7];omega
     .refine⟨_,_,_,_,rfl,?_,(s2.trans s4).over hp2⟩;rw[jJh,lQe,hq];simp[onW]
   .intro τ G3 h_;apply xe4 h_;clear h_;intro v6 v7 v9 v10;refine ae2 ?_;intro hp s2
    exists rEqA,il
    rw[lJe,lQt] at hp;have wn:=uXi fine ws
    generalize Ls.flatMap (onW W)=Fs at hp wn
    refine⟨_,jXb,?_⟩
    by_cases e:i=w.length
    .rw[lJc (by simpa using e)]
     exact kk _ (s1.trans s2)
    .rw[lJb (by simpa using e)]
     refine⟨_,jJn hp,?_⟩
     by_cases e2:(400:Int)<((Fs.map encP).length:Nat)
     .rw[lJc e2];exact kk _ (s1.trans s2)
     .rw[lJb e2];exact⟨_,Fs,_,_,_,_,_,_,rfl,hp,wn,by simp at e2;omega,s1.trans s2⟩
 .intro τ G1 h_;apply xe8 h_;clear h_;intro lv Ls v5 v6 v7 v8 v9 v10;refine ae4 ?_;intro hlv ws hLs s1
  exists tSeq
  exact kk G1 s1
theorem qUi{W V:Web}{nu:List Nat}(t:Turn W.length nu)(h:Ren W nu V):∀(ds:List Nat)(r:Nat),goW V (nuF nu r) ds=(goW W r ds).map (renE nu)
 | [],r=>rfl
 | d::ds,r=>by
  rw[jY5,jY5,kJ5 t h];cases e:en W r d with
  | none=>rfl
  | some e1=>
   simp only[lQ1,lYp];rw[qUi t h ds e1.1];cases goW W e1.1 ds<;>rfl
theorem kY0:jKh (nuF nu r) (renE nu es)=nuF nu (jKh r es):=by
 rcases es.eq_nil_or_concat with rfl | ⟨l,a,h⟩
 .rfl
 .rw[lYq] at h;subst h;rw[jK8,show renE nu (l++[a])=renE nu l++[(nuF nu a.1,a.2)] by simp[renE],jK8]
theorem kZn{W V:Web}(h:Ren W nu V)(hx:x<W.length):degT V (nuF nu x)=degT W x:=by
 have e:=kQ6 hx;rw[kQp e,kQp (h.at' _ _ e)];simp[renE]
theorem qXe{W V:Web}(fine:Fine W)(h:Ren W nu V)(hr:r<W.length)(hg:goW W r ds=some es):kQ5 V (nuF nu r) (renE nu es)=kQ5 W r es:=by
 unfold kQ5;rw[kZn h hr,renE,lJz]
 congr 2
 refine lQ6 λe he=> ?_
 show T.tup [.int (e.2:Nat),degT V (nuF nu e.1)]=_
 rw[kZn h ((jYp fine hr hg).2.2 e he)]
theorem kY9{W:Web}{x:Nat}:∀{w:List Nat}{r:Nat},jX3 W r w x->∃es,goW W r w=some es/\jKh r es=x
 | [],r,h=>⟨[],rfl,h⟩
 | d::u,r,⟨s,j,h1,h2⟩=>by
  obtain⟨es,h3,h4⟩:=kY9 h2;exact⟨(s,j)::es,by rw[jY5,h1];simp[h3],by rw[kKd];exact h4⟩
theorem jXt{W V:Web}{nu:List Nat}(t:Turn W.length nu)(h:Ren W nu V):∀(u:List Nat)(r x:Nat),jX3 V (nuF nu r) u (nuF nu x)↔jX3 W r u x
 | [],r,x=>⟨λq=>kQd t q,λq=>lKl _ q⟩
 | d::u,r,x=>by
  constructor
  .rintro⟨s,j,h1,h2⟩;rw[kJ5 t h] at h1;cases e:en W r d with
   | none=>rw[e] at h1;cases h1
   | some e1=>
    rw[e] at h1;cases h1;exact⟨_,_,e,(jXt t h u _ _).mp h2⟩
  .rintro⟨s,j,h1,h2⟩;exact⟨_,j,by rw[kJ5 t h,h1];rfl,(jXt t h u _ _).mpr h2⟩
theorem qQ3{W V:Web}(t:Turn W.length nu)(h:Ren W nu V)(l:Least V (nuF nu r) (nuF nu x) w):Least W r x w:=
 ⟨(jXt t h _ _ _).mp l.to,λu hu=>l.le u ((jXt t h _ _ _).mpr hu)⟩
theorem jXz:∀{xs:List T},(∀x,x∈xs->eqT x x=true)->eqTs xs xs=true
 | [],_=>rfl
 | x::xs,h=>by
  show (eqT x x&&eqTs xs xs)=true
  rw[h x (lJ6 ..),jXz λy hy=>h y (lKd _ hy)];rfl
theorem qUu{i:Int}:eqT (.int i) (.int i)=true:=by simp[kQl]
def Pl2(x:T):Prop:=(∃i,x= .int i)\/∃i j,x= .tup [.int i,.int j]
theorem Pl2.ok{x:T}(h:Pl2 x):OkD 1 x/\eqT x x=true:=by
 rcases h with ⟨i,rfl⟩ | ⟨i,j,rfl⟩
 .exact⟨⟨okD_int.tr,okD_int.lay,lKx okD_int.dep (by omega)⟩,qUu⟩
 .refine⟨jZ0 λx hx=> ?_,jXz λx hx=> ?_⟩
  all_goals
   simp only[lKr,lJp,lQr] at hx
   rcases hx with rfl | rfl
  .exact okD_int
  .exact okD_int
  .exact qUu
  .exact qUu
theorem kZg(h:∀x,x∈xs->Pl2 x):eqG G (.tup xs) (.tup xs)=some true:=by
 have o:=jZ0 λx hx=>(h x hx).ok.1
 have e:eqOk (.tup xs)=true:=by
  unfold eqOk;rw[o.tr,o.lay,lJ9 (show (td (.tup xs)).depth<=50 by have:=o.dep;omega)];rfl
 show (if eqOk (.tup xs)=true/\eqOk (.tup xs)=true then some (eqT (.tup xs) (.tup xs)) else none)=_
 rw[lJc ⟨e,e⟩,show eqT (.tup xs) (.tup xs)=eqTs xs xs from rfl,jXz λx hx=>(h x hx).ok.2]
theorem qYx{W:Web}:eqG G (kQ5 W r es) (kQ5 W r es)=some true:=by
 refine kZg λx hx=> ?_
 rcases (lJp.mp hx) with rfl | hx
 .exact .inl ⟨_,rfl⟩
 .obtain⟨e,_,rfl⟩:=lJl.mp hx;exact .inr ⟨_,_,rfl⟩
theorem qYw:eqG G (.tup (jJl w)) (.tup (jJl w))=some true:=by
 refine kZg λx hx=> ?_
 obtain⟨e,_,rfl⟩:=lJl.mp hx;exact .inl ⟨_,rfl⟩
theorem uU1(t:Turn n nu)(h:x<n):L2.atI (jJl nu) (x:Int)=some (.int (nuF nu x:Nat)):=by
 obtain⟨y,hy,_⟩:=t.at h;rw[jQ2 hy,atN];simp[jJl,hy]
theorem nif{p:Prop}[Decidable p]{a b:Prop}(h:¬ p)(k:b):if p then a else b:=by rw[lJb h];exact k
theorem uKx:eqG G (encW A) (encW A)=some true:=by rw[kZf,lJ9 rfl]
theorem uJf{W V:Web}{b:Nat}{m:List Nat}(w:AnyWeb W)(v:AnyWeb V)(ha:a<W.length)(hb:b<V.length)(h:Tw W a V b=some m)(k:∀G',Sub G G'->Q (.tup (jJl m)) G'):jQy [encW W,.int a,encW V,.int b] G Q:=⟨W,a,V,b,rfl,w,v,ha,hb,by rw[h];exact k⟩
theorem uQy{W V:Web}(f:Fine W)(t:Turn W.length nu)(r:Ren W nu V)(k:∀G',Sub G G'->Q (encW V) G'):jKv [encW W,.tup (jJl nu)] G Q:=⟨W,nu,rfl,f,t,λV' G' r' s=>by rw[Ren.unique t r' r];exact k G' s⟩
theorem qKh{W:Web}{x:T}(f:Fine W)(hr:r<W.length)(hl:ds.length<=1000)(hg:goW W r ds=some es)(hx:kQ5 W r es=x)(k:∀G',Sub G G'->Q x G'):jUl [encW W,.int r,.tup (jJl ds)] G Q:=⟨W,r,_,ds,rfl,f,hr,rfl,hl,λG' s=>⟨λz=>absurd (hg.symm.trans z) (by simp),λes' he=>by cases he.symm.trans hg;rw[hx];exact k G' s⟩⟩
theorem jZf{W:Web}(f:Fine W)(hr:r<W.length)(hl:ds.length<=1000)(hg:goW W r ds=some es)(hn:jKh r es=n)(k:∀y G',Sub G G'->Q (.tup [.int (n:Nat),y]) G'):jKf [encW W,.int r,.tup (jJl ds)] G Q:=⟨W,r,_,ds,rfl,f,hr,rfl,hl,λG' s=>⟨λz=>absurd (hg.symm.trans z) (by simp),λes' he=>by
 cases he.symm.trans hg;obtain⟨y,g⟩:=qUh r es;rw[g,hn];exact k y G' s⟩⟩
theorem uJg{W:Web}(f:Fine W)(hr:r<W.length)(hl:ds.length<=1000)(hg:goW W r ds=some es)(k:∀G',Sub G G'->Q (.tup (jJl (jVw es))) G'):jK5 [encW W,.int r,.tup (jJl ds)] G Q:=⟨W,r,_,ds,rfl,f,hr,rfl,hl,λG' s=>⟨λz=>absurd (hg.symm.trans z) (by simp),λes' he=>by cases he.symm.trans hg;exact k G' s⟩⟩
theorem uQx{V:Web}(v:AnyWeb V)(hr:r<V.length)(hx:x<V.length)(h:∀w',Least V r x w'->w'=w)(k:∀G',Sub G G'->Q (.tup (jJl w)) G'):jKt [encW V,.int r,.int x] G Q:=⟨V,r,x,rfl,v,hr,hx,λG' w' l _ s=>by rw[h w' l];exact k G' s⟩
noncomputable def jQ8:Sp3:=λxs G Q=>∃(b:Addr)(W:Web)(r x n:Nat),xs=[.ref b,encW W,.int (r:Nat),.int (x:Nat)]/\BoxAt G b n/\n+2000<2^40/\AnyWeb W/\r<W.length/\x<W.length/\∀G',BoxAt G' b (n+2000)->Keep b G G'->Q (.bl true) G'
noncomputable def kQv:List Str:=["_law_box_here","_law_web_here","_law_room","_law_goal","_law_told","_law_numbers","_law_way_here","_law_least"]
noncomputable def jUa:TS3:=
 (tSeq (tAsg (jJm jK7 (jJb C1 D2)) M4)
 (tSeq (tAsg (jJm jQy (jJb C1 (jJb C2 (jJb C4 (jJb tI0 tNil))))) M5)
 (tSeq (tIfS (tOr (jJx (tOp qXm (jJm jXh D4) (tC (.bl true)))) (tOr (jJx (tOp rIsN C5 (tC .non))) (jJx (tOp rNeA (jJm jKv (jJb C1 D5)) C4)))) (tRet (tC (.bl false))) jKj)
 (tSeq (tAsg (jJm jXf (jJb C0 (jJb C1 (jJb C2 (jJb (tC (.int 12)) tNil))))) M6)
 (tSeq (tIfS (tOr (jJx (tOp rNeA (jJm jUl (jJb C1 (jJb C2 D6))) (jJm jUl (jJb C4 (jJb tI0 D6))))) (jJx (tOp rNeA (tOp rIxF C5 (tOp rIxF (jJm jKf (jJb C1 (jJb C2 D6))) tI0)) (tOp rIxF (jJm jKf (jJb C4 (jJb tI0 D6))) tI0)))) (tRet (tC (.bl false))) jKj)
 (tSeq (tIfS (jJx (tOp rNeA (tOp rIxF (jJm jKf (jJb C4 (jJb (tOp rIxF (jJm jKf (jJb C4 (jJb tI0 D6))) tI0) (jJb (jJm jK5 (jJb C4 (jJb tI0 D6))) tNil)))) tI0) tI0)) (tRet (tC (.bl false))) jKj)
 (tSeq (tAsg (jJm jKt (jJb C1 (jJb C2 D3))) M7)
 (tSeq (tIfS (tOr (jJx (tOp rNeA (tOp rIxF (jJm jKf (jJb C1 (jJb C2 D7))) tI0) C3)) (tOr (jJx (tOp rNeA (jJm jKt (jJb C4 (jJb tI0 (jJb (tOp rIxF C5 C3) tNil)))) C7)) (jJx (tOp rGt (tCB rLen D7) (tCB rLen D1))))) (tRet (tC (.bl false))) jKj)
 (tRet (jJm jKk (jJb C1 (jJb C2 (jJb C3 D7)))))))))))))
noncomputable def qK8:TS3:=(tSeq (tAsg (jJm jXf (jJb C0 (jJb C1 (jJb C2 (jJb (tC (.int 12)) tNil))))) M6)
 (tSeq (tIfS (tOr (jJx (tOp rNeA (jJm jUl (jJb C1 (jJb C2 D6))) (jJm jUl (jJb C4 (jJb tI0 D6))))) (jJx (tOp rNeA (tOp rIxF C5 (tOp rIxF (jJm jKf (jJb C1 (jJb C2 D6))) tI0)) (tOp rIxF (jJm jKf (jJb C4 (jJb tI0 D6))) tI0)))) (tRet (tC (.bl false))) jKj)
 (tSeq (tIfS (jJx (tOp rNeA (tOp rIxF (jJm jKf (jJb C4 (jJb (tOp rIxF (jJm jKf (jJb C4 (jJb tI0 D6))) tI0) (jJb (jJm jK5 (jJb C4 (jJb tI0 D6))) tNil)))) tI0) tI0)) (tRet (tC (.bl false))) jKj)
 (tSeq (tAsg (jJm jKt (jJb C1 (jJb C2 D3))) M7)
 (tSeq (tIfS (tOr (jJx (tOp rNeA (tOp rIxF (jJm jKf (jJb C1 (jJb C2 D7))) tI0) C3)) (tOr (jJx (tOp rNeA (jJm jKt (jJb C4 (jJb tI0 (jJb (tOp rIxF C5 C3) tNil)))) C7)) (jJx (tOp rGt (tCB rLen D7) (tCB rLen D1))))) (tRet (tC (.bl false))) jKj)
 (tRet (jJm jKk (jJb C1 (jJb C2 (jJb C3 D7))))))))))
noncomputable def qK6:TS3:=(tSeq (tIfS (jJx (tOp rNeA (tOp rIxF (jJm jKf (jJb C4 (jJb (tOp rIxF (jJm jKf (jJb C4 (jJb tI0 D6))) tI0) (jJb (jJm jK5 (jJb C4 (jJb tI0 D6))) tNil)))) tI0) tI0)) (tRet (tC (.bl false))) jKj)
 (tSeq (tAsg (jJm jKt (jJb C1 (jJb C2 D3))) M7)
 (tSeq (tIfS (tOr (jJx (tOp rNeA (tOp rIxF (jJm jKf (jJb C1 (jJb C2 D7))) tI0) C3)) (tOr (jJx (tOp rNeA (jJm jKt (jJb C4 (jJb tI0 (jJb (tOp rIxF C5 C3) tNil)))) C7)) (jJx (tOp rGt (tCB rLen D7) (tCB rLen D1))))) (tRet (tC (.bl false))) jKj)
 (tRet (jJm jKk (jJb C1 (jJb C2 (jJb C3 D7))))))))
noncomputable def qK4:TS3:=(tSeq (tAsg (jJm jKt (jJb C1 (jJb C2 D3))) M7)
 (tSeq (tIfS (tOr (jJx (tOp rNeA (tOp rIxF (jJm jKf (jJb C1 (jJb C2 D7))) tI0) C3)) (tOr (jJx (tOp rNeA (jJm jKt (jJb C4 (jJb tI0 (jJb (tOp rIxF C5 C3) tNil)))) C7)) (jJx (tOp rGt (tCB rLen D7) (tCB rLen D1))))) (tRet (tC (.bl false))) jKj)
 (tRet (jJm jKk (jJb C1 (jJb C2 (jJb C3 D7)))))))
theorem qXj:jUa=tSeq (tAsg (jJm jK7 (jJb C1 D2)) M4) (tSeq (tAsg (jJm jQy (jJb C1 (jJb C2 (jJb C4 (jJb tI0 tNil))))) M5) (tSeq (tIfS (tOr (jJx (tOp qXm (jJm jXh D4) (tC (.bl true)))) (tOr (jJx (tOp rIsN C5 (tC .non))) (jJx (tOp rNeA (jJm jKv (jJb C1 D5)) C4)))) (tRet (tC (.bl false))) jKj) qK8)):=rfl
theorem qK7:qK8=tSeq (tAsg (jJm jXf (jJb C0 (jJb C1 (jJb C2 (jJb (tC (.int 12)) tNil))))) M6) (tSeq (tIfS (tOr (jJx (tOp rNeA (jJm jUl (jJb C1 (jJb C2 D6))) (jJm jUl (jJb C4 (jJb tI0 D6))))) (jJx (tOp rNeA (tOp rIxF C5 (tOp rIxF (jJm jKf (jJb C1 (jJb C2 D6))) tI0)) (tOp rIxF (jJm jKf (jJb C4 (jJb tI0 D6))) tI0)))) (tRet (tC (.bl false))) jKj) qK6):=rfl
theorem qK5:qK6=tSeq (tIfS (jJx (tOp rNeA (tOp rIxF (jJm jKf (jJb C4 (jJb (tOp rIxF (jJm jKf (jJb C4 (jJb tI0 D6))) tI0) (jJb (jJm jK5 (jJb C4 (jJb tI0 D6))) tNil)))) tI0) tI0)) (tRet (tC (.bl false))) jKj) qK4:=rfl
structure Or (W:Web) (r:Nat) (V:Web) (nu:List Nat):Prop where
 any:AnyWeb W
 hr:r<W.length
 anyV:AnyWeb V
 iso:Iso W r V 0 nu
theorem orC{W V:Web}{b:Addr}{v6:Option T}(o:Or W r V nu)(hx:x<W.length)(kk:∀G',Sub G G'->Q (.bl true) G'):qK4 {nx:=λ_ G'=>Q .non G',rt:=Q} [some (.ref b),some (encW W),some (.int (r:Nat)),some (.int (x:Nat)),some (encW V),some (.tup (jJl nu)),v6,none] G:=by
 have hs:=sz;have any:=o.any;have hr:=o.hr;have anyV:=o.anyV;have turn:=o.iso.turn;have ren:=o.iso.ren;have fst:=o.iso.fst;have fine:=any.fine
 exists qK4,rNeA
 refine⟨W,r,x,rfl,any,hr,hx,λG13 w ls wl s13=> ?_⟩
 obtain⟨fs,f1,f2⟩:=kY9 ls.to;have wl2:=any.len;refine jZf fine hr (by omega) f1 f2 λy5 G14 s14=> ?_
 refine⟨_,at0,true,kXm,nif (by decide) ?_⟩
 refine⟨_,uU1 turn hx,?_⟩;refine uQx anyV anyV.pos (by rw[ren.len];exact kYp turn hx) (λw' l=>(qQ3 turn ren (by rw[fst];exact l)).unique ls) λG15 s15=> ?_
 refine⟨true,qYw,nif (by decide) ?_⟩
 refine⟨_,rfl,_,rfl,nif (by simp[jJl];omega) ?_⟩
 exact⟨W,r,x,w,rfl,any,hr,by omega,ls,λG16 s16=>kk G16 (((s13.trans s14).trans s15).trans s16)⟩
theorem orB{W V:Web}{b:Addr}(o:Or W r V nu)(hx:x<W.length)(hg:goW W r ds=some es)(hd:ds.length<=12)(kk:∀G',Sub G G'->Q (.bl true) G'):qK6 {nx:=λ_ G'=>Q .non G',rt:=Q} [some (.ref b),some (encW W),some (.int (r:Nat)),some (.int (x:Nat)),some (encW V),some (.tup (jJl nu)),some (.tup (jJl ds)),none] G:=by
 have anyV:=o.anyV;have turn:=o.iso.turn;have ren:=o.iso.ren;have fst:=o.iso.fst;have fine:=o.any.fine;have fineV:=anyV.fine;have hgV:goW V 0 ds=some (renE nu es):=by rw[<-fst,qUi turn ren,hg];rfl
 have lst:jKh 0 (renE nu es)=nuF nu (jKh r es):=by rw[<-fst,kY0]
 have hlV:nuF nu (jKh r es)<V.length:=by rw[ren.len];exact kYp turn (jYp fine o.hr hg).1
 have hd':ds.length<=1000:=by omega
 exists qK5,rNeA
 refine jZf fineV anyV.pos hd' hgV lst λy3 G10 s10=> ?_
 refine⟨_,at0,?_⟩;refine uJg fineV anyV.pos hd' hgV λG11 s11=> ?_
 obtain⟨es2,b1,b2,b3⟩:=uQe anyV.sym ds _ hgV;rw[lst] at b1 b2;refine jZf fineV hlV (by rw[qVq,(jYp fineV anyV.pos hgV).2.1];omega) b1 b2 λy4 G12 s12=> ?_
 refine⟨_,at0,true,kXm (a:=0),nif (by decide) ?_⟩
 exact orC o hx λG' s=>kk G' (((s10.trans s11).trans s12).trans s)
theorem orA{W V:Web}(o:Or W r V nu)(hx:x<W.length)(hb:BoxAt G b n)(hn:n+2000<2^40)(kk:∀G',BoxAt G' b (n+2000)->Keep b G G'->Q (.bl true) G'):qK8 {nx:=λ_ G'=>Q .non G',rt:=Q} [some (.ref b),some (encW W),some (.int (r:Nat)),some (.int (x:Nat)),some (encW V),some (.tup (jJl nu)),none,none] G:=by
 have anyV:=o.anyV;have turn:=o.iso.turn;have ren:=o.iso.ren;have fst:=o.iso.fst;have fine:=o.any.fine;have fineV:=anyV.fine
 exists qK7,rNeA
 refine⟨b,W,r,12,n,rfl,hb,hn,fine,o.hr,by omega,λds es G5 hg hdl hb5 k5=> ?_⟩
 have hgV:goW V 0 ds=some (renE nu es):=by rw[<-fst,qUi turn ren,hg];rfl
 have lst:jKh 0 (renE nu es)=nuF nu (jKh r es):=by rw[<-fst,kY0]
 have hl:=(jYp fine o.hr hg).1;have sn:=qXe fine ren o.hr hg;rw[fst] at sn;have hd:ds.length<=1000:=by omega
 refine qKh fine o.hr hd hg rfl λG6 s6=> ?_
 refine qKh fineV anyV.pos hd hgV sn λG7 s7=> ?_
 refine⟨true,qYx,nif (by decide) ?_⟩
 refine jZf fine o.hr hd hg rfl λy1 G8 s8=> ?_
 refine⟨_,at0,_,uU1 turn hl,?_⟩;refine jZf fineV anyV.pos hd hgV lst λy2 G9 s9=> ?_
 refine⟨_,at0,true,kXm,nif (by decide) ?_⟩
 have s59:=((s6.trans s7).trans s8).trans s9;exact orB o hx hg hdl λG' s=>kk G' (hb5.sub (s59.trans s)) (k5.trans (.sub (s59.trans s)))
theorem jYr:RdOk jQ8 jUa kQv:=by
 intro xs G Q h_;apply xe5 h_;clear h_;intro b W r x n;refine ae6 ?_;intro hb hn any hr hx kk;show jUa _ [some (.ref b),some (encW W),some (.int (r:Nat)),some (.int (x:Nat)),none,none,none,none] G
 have hs:=sz;have fine:=any.fine;have anyV:=uVs any hr;have fineV:=anyV.fine
 exists qXj,qXm,rIsN,rNeA
 refine⟨W,r,rfl,any,hr,λG1 s1=> ?_⟩
 have tfV:tf W r=tf (tf W r) 0:=(qV1 any hr).symm;have iso:=uVc any anyV hr anyV.pos tfV;have htw:=iso.tw any hr
 generalize hV:tf W r=V at anyV fineV tfV iso htw
 generalize prt W r V 0=nu at iso htw
 refine uJf any anyV hr anyV.pos htw λG2 s2=> ?_
 refine⟨V,rfl,⟨fineV.len,fineV.row⟩,λG3 c hc s3=> ?_⟩
 refine⟨c,rfl,nif (by rw[hc.mpr ⟨anyV.pos,anyV.sym,(anyV.order anyV.pos).len⟩];decide) ?_⟩
 refine nif lJs ?_;refine uQy fine iso.turn iso.ren λG4 s4=> ?_
 refine⟨true,uKx,nif (by decide) ?_⟩
 have s04:=((s1.trans s2).trans s3).trans s4;exact orA ⟨any,hr,anyV,iso⟩ hx (hb.sub s04) hn λG' b5 k5=>kk G' b5 ((Keep.sub s04).trans k5)
noncomputable def kE(p:Nat×Nat):L2.TKey:=keyT [p.1,p.2]
noncomputable def tE(p:Nat×Nat):List T×L2.TKey:=([.int (p.1:Nat),.int (p.2:Nat)],kE p)
def ltP(p q:Nat×Nat):Prop:=p.1<q.1\/(p.1=q.1/\p.2<q.2)
theorem uQ6(p:Nat×Nat):SKey true (tE p).1 (tE p).2:=⟨rfl,rfl,rfl⟩
theorem ltE(p q:Nat×Nat):∃c,ltK (kE p) (kE q)=some c/\(c=true↔ltP p q):=by
 obtain⟨a,b⟩:=p;obtain⟨c,d⟩:=q;show ∃k,L3.lexLt _ [Sum.inl (Sum.inl (a:Int)),Sum.inl (Sum.inl (b:Int))] [Sum.inl (Sum.inl (c:Int)),Sum.inl (Sum.inl (d:Int))]=some k/\(k=true↔(a<c\/(a=c/\b<d)))
 unfold L3.lexLt
 by_cases e:a=c
 .subst e;rw[lJc rfl];unfold L3.lexLt
  by_cases e2:b=d
  .subst e2;rw[lJc rfl];exact⟨false,rfl,by simp⟩
  .rw[lJb (by simp only[Sum.inl.injEq];omega)]
   exact⟨decide ((b:Int)<d),rfl,by simp⟩
 .rw[lJb (by simp only[Sum.inl.injEq];omega)]
  exact⟨decide ((a:Int)<c),rfl,by simp[e]⟩
theorem kZk{p q:Nat×Nat}(h:encE p=encE q):p=q:=by
 obtain⟨a,b⟩:=p;obtain⟨c,d⟩:=q;simp only[encE,T.tup.injEq,lYk,T.int.injEq,and_true] at h;rw[Prod.mk.injEq];omega
theorem kJ9:∀{l:List (List T×L2.TKey)},(∀e,e∈l->∃p,e=tE p)->∃L:List (Nat×Nat),l=L.map tE
 | [],_=>⟨[],rfl⟩
 | e::l,h=>by
  obtain⟨p,rfl⟩:=h e (lJ6 ..);obtain⟨L,rfl⟩:=kJ9 λe he=>h e (lKd _ he)
  exact⟨p::L,rfl⟩
variable {kys:List (List T×L2.TKey)}
theorem kQ7{ps:List (Nat×Nat)}(h:Rising (ps.map encE) ys kys):∃L:List (Nat×Nat),ys=L.map encE/\(∀e,e∈L↔e∈ps)/\L.Nodup:=by
 obtain⟨L,hL⟩:=kJ9 (l:=kys) λe he=>by
  have h1:=(h.mem (.tup e.1)).mp (by rw[h.eq];exact lJl.mpr ⟨e,he,rfl⟩)
  obtain⟨p,_,hp⟩:=lJl.mp h1;refine⟨p,?_⟩;have e1:e.1=[.int (p.1:Nat),.int (p.2:Nat)]:=(T.tup.inj hp).symm;have e2:=h.keys e he;rw[e1] at e2;exact Prod.ext e1 (lJ0 e2).symm
 have ey:ys=L.map encE:=by rw[h.eq,hL,lJz];rfl
 refine⟨L,ey,λe=> ?_,?_⟩
 .have:=h.mem (encE e);rw[ey] at this
  constructor
  .intro q;obtain⟨e',h1,h2⟩:=lJl.mp (this.mp (lJl.mpr ⟨e,q,rfl⟩));cases kZk h2;exact h1
  .intro q;obtain⟨e',h1,h2⟩:=lJl.mp (this.mpr (lJl.mpr ⟨e,q,rfl⟩));cases kZk h2;exact h1
 .have:=h.up;rw[hL,lQo] at this;refine this.imp λ{p q} hpq=> ?_
  rintro rfl;obtain⟨c,h1,h2⟩:=ltE p p;have h3:ltK (kE p) (kE p)=some true:=hpq;rw[h3] at h1;cases h1;have:=h2.mp rfl;unfold ltP at this;omega
theorem kYd:∀{a b:List (List T×L2.TKey)},a.Perm b->a.Pairwise (λx y=>ltK y.2 x.2≠some true)->b.Pairwise (λx y=>ltK x.2 y.2=some true)->a=b
 | [],b,hp,_,_=>(List.nil_perm.mp hp).symm
 | x::a,[],hp,_,_=>List.perm_nil.mp hp
 | x::a,y::b,hp,ha,hb=>by
  rw[List.pairwise_cons] at ha hb
  have e:x=y:=by
   rcases lJp.mp (hp.mem_iff.mp (lJ6 ..)) with e | hx
   .exact e
   .rcases lJp.mp (hp.mem_iff.mpr (lJ6 ..)) with e | hy
    .exact e.symm
    .exact absurd (hb.1 x hx) (ha.1 y hy)
  subst e;rw[kYd hp.cons_inv ha.2 hb.2]
theorem kYz{a b:Nat×Nat}(h:leE a b=true)(h':leE b a=true):a=b:=by
 rw[leE_iff] at h h';exact Prod.ext (by omega) (by omega)
theorem uJh{W:Web}(sym:Sym W){t u:Tie}(ht:t∈jJ8 W)(hu:u∈jJ8 W)(h:e=t.1\/e=t.2)(h':e=u.1\/e=u.2):t=u:=by
 obtain⟨⟨a,b⟩,⟨c,d⟩⟩:=t;obtain⟨⟨a',b'⟩,⟨c',d'⟩⟩:=u;obtain⟨t1,t2⟩:=endsL_mem.mp ht;obtain⟨u1,u2⟩:=endsL_mem.mp hu;simp only at t1 t2 u1 u2 h h';have t3:=sym _ _ _ _ t1;have u3:=sym _ _ _ _ u1
 rcases h with rfl | rfl<;>rcases h' with h' | h'<;>cases h'
 .cases t1.symm.trans u1;rfl
 .cases t1.symm.trans u3;cases kYz t2 u2;rfl
 .cases t3.symm.trans u1;cases kYz t2 u2;rfl
 .cases t3.symm.trans u3;rfl
structure EsOk (ts:List Tie) (E:List (Nat×Nat)):Prop where
 nd:E.Nodup
 mem:∀e,e∈E↔∃t,t∈ts/\(e=t.1\/e=t.2)
 len:E.length<=ts.length*2
noncomputable def allE(W:Web)(n:Nat):List (Nat×Nat):=(List.range n).flatMap λr=>(List.range (row W r).length).map λd=>(r,d)
theorem allE_mem{W:Web}:e∈allE W n↔e.1<n/\e.2<(row W e.1).length:=by
 unfold allE;simp only[lX1,lKc,lJl]
 constructor
 .rintro⟨r,h1,d,h2,rfl⟩;exact⟨h1,h2⟩
 .intro h;exact⟨e.1,h.1,e.2,h.2,rfl⟩
theorem kXx{W:Web}:∀n,(allE W n).Pairwise ltP
 | 0=> .nil
 | n+1=>by
  have e:allE W (n+1)=allE W n++(List.range (row W n).length).map λd=>(n,d):=by
   unfold allE;rw[lKv,lV2];simp
  rw[e,lKh];refine⟨kXx n,?_,λa ha b hb=> ?_⟩
  .rw[lQo];exact List.pairwise_lt_range.imp λh=> .inr ⟨rfl,h⟩
  .obtain⟨d,_,rfl⟩:=lJl.mp hb;exact .inl (allE_mem.mp ha).1
variable {E:List (Nat×Nat)}
theorem qY8{W:Web}(sym:Sym W)(h:EsOk (jJ8 W) E):E.Perm (allE W W.length):=by
 refine (List.perm_ext_iff_of_nodup h.nd ((kXx _).imp λ{a b} hab=> ?_)).mpr λe=> ?_
 .rintro rfl;unfold ltP at hab;omega
 .rw[h.mem,allE_mem]
  constructor
  .rintro⟨t,ht,he⟩;have h1:=(endsL_mem.mp ht).1
   have:∃x,en W e.1 e.2=some x:=by
    rcases he with rfl | rfl
    .exact⟨_,h1⟩
    .exact⟨_,sym _ _ _ _ h1⟩
   obtain⟨x,hx⟩:=this;refine⟨jX0 hx,?_⟩;rw[qU0] at hx;exact (lJg.mp hx).1
  .rintro⟨_,h2⟩;have hx:en W e.1 e.2=some (row W e.1)[e.2]:=by rw[qU0,lJj h2]
   generalize (row W e.1)[e.2]=x at hx
   by_cases hl:leE e x=true
   .exact⟨(e,x),endsL_mem.mpr ⟨hx,hl⟩,.inl rfl⟩
   .refine⟨(x,e),endsL_mem.mpr ⟨sym _ _ _ _ hx,?_⟩,.inr rfl⟩;rw[leE_iff] at hl ⊢; simp only;omega
theorem kVk{W:Web}(sym:Sym W)(h:EsOk (jJ8 W) E)(hp:kys.Perm (E.map tE))(hs:kys.Pairwise (λx y=>ltK y.2 x.2≠some true)):kys=(allE W W.length).map tE:=by
 refine kYd (hp.trans ((qY8 sym h).map _)) hs ?_;rw[lQo];refine (kXx _).imp λ{p q} hpq=> ?_
 obtain⟨c,h1,h2⟩:=ltE p q;show ltK (kE p) (kE q)=_
 rw[h1,h2.mpr hpq]
theorem qYy{q:Addr}(h1:G p=some (.lst xs))(h2:G q=some (.lst xs))(h:∀x,x∈xs->Pl2 x):eqG G (.ref p) (.ref q)=some true:=by
 obtain⟨a1,a2,a3⟩:=kV8 xs λx hx=>(h x hx).ok.1
 have e:kQm xs=true:=by
  unfold kQm;rw[a1,a2,lJ9 (show (PyData.list (tds xs)).depth<=50 by rw[PyData.depth];omega)];rfl
 have:eqG G (.ref p) (.ref q)=if kQm xs=true/\kQm xs=true then some (eqTs xs xs) else none:=by simp only[eqG,h1,h2]
 rw[this,lJc ⟨e,e⟩,jXz λx hx=>(h x hx).ok.2]
theorem qVy{α:Type}{a b:α}:∀{L:List α},L.Nodup->(∀e,e∈L->e=a\/e=b)->L.length<=2
 | [],_,_=>by simp
 | [_],_,_=>by simp
 | [_,_],_,_=>by simp
 | x::y::z::l,nd,h=>by
  have hx:=h x (by simp)
  have hy:=h y (by simp)
  have hz:=h z (by simp)
  simp only[lKz,lJp,not_or] at nd;obtain⟨⟨n1,n2,_⟩,⟨n3,_⟩,_⟩:=nd
  rcases hx with rfl | rfl<;>rcases hy with rfl | rfl<;>rcases hz with rfl | rfl<;>first | exact absurd rfl n1 | exact absurd rfl n2 | exact absurd rfl n3
theorem EsOk.next{W:Web}(sym:Sym W){t:Tie}(ht:(jJ8 W)[i]? =some t){L:List (Nat×Nat)}(h:EsOk ((jJ8 W).take i) E)(nd:L.Nodup)(hL:∀e,e∈L↔e∈[t.1,t.2]):EsOk ((jJ8 W).take (i+1)) (E++L):=by
 have tk:(jJ8 W).take (i+1)=(jJ8 W).take i++[t]:=by rw[lQe,ht];rfl
 have hi:=(lJg.mp ht).1;have hL':∀e,e∈L↔(e=t.1\/e=t.2):=λe=>by rw[hL];simp
 refine⟨lVx.mpr ⟨h.nd,nd,λa ha b hb=> ?_⟩,λe=> ?_,?_⟩
 .rintro rfl;obtain⟨u,hu,hau⟩:=(h.mem a).mp ha;have:=uJh sym (lQg hu) (lJo ht) hau ((hL' a).mp hb);subst this;obtain⟨j,hj⟩:=lJ2 hu;have hjl:=(lJg.mp hj).1;rw[lQc] at hjl;rw[lQx,lJc (by omega)] at hj
  have:=(lQ5 (by omega) kJc).mp (hj.trans ht.symm)
  omega
 .rw[lJx,h.mem,hL',tk]
  constructor
  .rintro (⟨u,hu,he⟩ | he)
   .exact⟨u,lKf _ hu,he⟩
   .exact⟨t,by simp,he⟩
  .rintro⟨u,hu,he⟩
   rcases (lJx.mp hu) with hu | hu
   .exact .inl ⟨u,hu,he⟩
   .rw[lJ1.mp hu] at he;exact .inr he
 .have h1:=h.len;have h2:=qVy nd λe he=>(hL' e).mp he
  rw[lJ7,tk,lJ7,lZy];omega
theorem kZu{W:Web}(any:AnyWeb W):∀n,(allE W n).length<=n*6
 | 0=>lJh _
 | n+1=>by
  have h1:=kZu any n
  have h2:(row W n).length<=6:=by
   rcases lKw n W.length with z | z
   .exact any.deg _ _ (kQ6 z)
   .unfold row;rw[lJ3 z];simp
  have e:allE W (n+1)=allE W n++(List.range (row W n).length).map λd=>(n,d):=by
   unfold allE;rw[lKv,lV2];simp
  rw[e,lJ7,lJe,lK7];omega
def qKp:Sp3:=λxs G Q=>∃ns:List Int,xs=[.scr (jQk ns)]/\ns.length<=63/\∀G',Q (.bl true) G'
noncomputable def uVy:List Str:=["_law_script","_law_cells","_law_k","_law_box_here","_law_web_here","_law_ends_here","_law_all_ends","_law_tie","_law_room","_law_turn_here","_law_door"]
noncomputable def kYm:TS3:=
 (tSeq (tAsg (jJm jV1 (jJb C0 (jJb (tC (.int 8)) tNil))) M1)
 (tSeq (tFor (jKl (jJb (tCB rMax (jJb (tC (.int 3)) (jJb (tCB rLen D1) tNil))) tNil)) M2 (tSeq (tAsg (jJm kKx (jJb C1 D2)) M3)
 (tSeq (tAsg (jJm jVa D3) M4)
 (tSeq (tPar 5 6 (jJb (tLst tNil) (jJb (tLst tNil) tNil)))
 (tSeq (tFor (iSeq (jJm kVj D4)) M7 (jU1 (tBM "list" kK8 C5 (jJb (qKj D7) tNil))))
 (tSeq (tFor (jKl (jJb (tCB rLen D4) tNil)) M8 (jU1 (tBM "list" kK8 C6 (jJb (jUc [fF,fF,fF,fF,fF,fF,fF,fF,fF,fF,tT] (jKl (jJb (tCB rLen (jJb (tOp rIxF C4 C8) tNil)) tNil)) M10 jU6 (tTup (jJb C8 D10))) tNil))))
 (tSeq (tIfS (jJx (tOp rNeA (tCB qQa D5) C6)) (tRet (tC (.bl false))) jKj)
 (tFor (jKl (jJb (tC (.int 3)) tNil)) M9 (tIfS (tNot (jJx (jJm jQ8 (jJb C3 (jJb C4 (jJb (jJm jJw (jJb C3 (jJb (tCB rLen D4) tNil))) (jJb (jJm jJw (jJb C3 (jJb (tCB rLen D4) tNil))) tNil))))))) (tRet (tC (.bl false))) jKj)))))))))
 (tRet (tC (.bl true)))))
theorem qXi:RdOk qKp kYm uVy:=by
 intro xs G Q h_;apply xe1 h_;clear h_;intro ns;refine ae2 ?_;intro hns kk;show kYm _ [some (.scr (jQk ns)),none,none,none,none,none,none,none,none,none,none] G
 have hs:=sz
 exists kYm,jJv,jKl,iSeq,rMax
 refine⟨ns,8,rfl,hns,by decide,by decide,λpc G1 ms hpc hpc1 hm1 hm2 s1=> ?_⟩
 refine⟨_,jJn hpc1,by split<;>omega,by simp only[lJe];split<;>omega,?_⟩
 refine⟨λk τ G'=>∃(v2 v3 v4 v5 v6 v7 v8 v9 v10:Option T),τ=[some (.scr (jQk ns)),some (.ref pc),v2,v3,v4,v5,v6,v7,v8,v9,v10]/\G' pc=some (.lst (jQk ms)),?_,?_,?_,?_⟩
 .exact⟨_,_,_,_,_,_,_,_,_,rfl,hpc1⟩
 .intros;trivial
 .intro k x τ G2 hx h_;apply xe9 h_;clear h_;intro v2 v3 v4 v5 v6 v7 v8 v9 v10 hp2
  have hk:k<63/\x= .int (k:Nat):=by
   obtain⟨z1,z2⟩:=jY0 hx;refine⟨?_,z2⟩;rw[lJe] at z1;split at z1<;>omega
  obtain⟨hk,rfl⟩:=hk
  exists jJv,jKl,iSeq
  refine⟨pc,ms,k,rfl,hp2,hm2,by omega,by omega,λb G3 hb3 bx3 s3=> ?_⟩
  have hpb:=jJf hp2 hb3;refine⟨b,0,rfl,bx3,by decide,λW G4 any bx4 k4=> ?_⟩
  have hp4:=k4 _ _ hpb (s3 _ _ hp2);have fine:=any.fine;have hW1:=any.pos;have hW2:=any.len;have hel:=kZj (d:=6) any.deg;have hel2:(jJ8 W).length<=144:=by omega
  refine⟨lJn _,λp5 h5=>⟨lJn _,λp6 h6=> ?_⟩⟩
  have n56:p5≠p6:=jJf jJh h6;have h6':G4 p6=none:=by rwa [jJq n56.symm] at h6
  refine⟨W,rfl,fine,λpt G5 hpt hpt5 _ s5=> ?_⟩
  have n5t:p5≠pt:=jJf (by rw[jJq n56];exact jJh) hpt
  have n6t:p6≠pt:=jJf jJh hpt;have s45:Sub G4 G5:=((Sub.new h5).trans (.new h6)).trans s5;refine⟨_,jJn hpt5,?_⟩
  let τ0:Option T->Option T->Option T->Option T->St3:=λv7 v8 v9 v10=>[some (.scr (jQk ns)),some (.ref pc),some (.int (k:Nat)),some (.ref b),some (encW W),some (.ref p5),some (.ref p6),v7,v8,v9,v10]
  let J1:Nat->St3->Gp->Prop:=λi τ G'=>∃(v7 v8 v9 v10:Option T)(E:List (Nat×Nat)),τ=τ0 v7 v8 v9 v10/\G' p5=some (.lst (E.map encE))/\EsOk ((jJ8 W).take i) E/\G' p6=some (.lst [])/\G' pt=some (.lst ((jJ8 W).map encT))/\Sub G4 G'
  refine⟨J1,?_,?_,?_,?_⟩
  .exact⟨_,_,_,_,[],rfl,s5 _ _ (by rw[jJq n56];exact jJh),⟨.nil,by simp,by simp⟩,s5 _ _ jJh,hpt5,s45⟩
  .intro i τ G' hi h_;apply xe5 h_;clear h_;intro v7 v8 v9 v10 E;refine ae5 ?_;intro e5 ok e6 et s4;exact jJn et
  .intro i z τ G6 hz h_;apply xe5 h_;clear h_;intro v7 v8 v9 v10 E;refine ae5 ?_;intro e5 ok e6 et s4;obtain⟨t,ht,rfl⟩:=jJ7 hz;have hi:=(lJg.mp ht).1
   exists τ0,qKj,encT,jKq e5
   refine⟨true,[tE t.1,tE t.2],rfl,⟨[kE t.1,kE t.2],by simp,?_⟩,?_,?_,λp7 ys kys hp7 ris=> ?_⟩
   .simp[tE]
   .intro e he;simp only[lJp,lKr,lQr] at he
    rcases he with rfl | rfl<;>exact uQ6 _
   .intro e he e' he';simp only[lJp,lKr,lQr] at he he'
    rcases he with rfl | rfl<;>rcases he' with rfl | rfl<;>(obtain⟨c,hc,_⟩:=ltE _ _;exact (lKl Option.isSome hc).trans rfl)
   .obtain⟨L,rfl,hL,nd⟩:=kQ7 (ps:=[t.1,t.2]) ris;have n57:=jJf e5 hp7;have n67:=jJf e6 hp7;have nt7:=jJf et hp7;have ok':=ok.next any.sym ht nd hL;have hl:=ok'.len;rw[lJ7,lQc] at hl;refine⟨p5,p7,_,_,rfl,rfl,by rw[jJq n57];exact e5,jJh,by rw[lJe,lJe];omega,_,_,_,_,E++L,rfl,by rw[jJh,lQv],ok',?_,?_,(s4.trans (.new hp7)).over h5⟩
    .rw[jJq n56.symm,jJq n67];exact e6
    .rw[jJq n5t.symm,jJq nt7];exact et
  .intro τ G6 h_;apply xe5 h_;clear h_;intro v7 v8 v9 v10 E;refine ae5 ?_;intro e5 ok e6 et s4;rw[lJe,lQt] at ok
   exists τ0,jJv,jKl
   have wl:((W.map encR).length:Int)=W.length:=by simp
   refine⟨_,rfl,by rw[wl];omega,by rw[wl];omega,?_⟩
   rw[show (((W.map encR).length:Nat):Int).toNat=W.length by simp,jQ4]
   let J2:Nat->St3->Gp->Prop:=λi τ G'=>∃(v7 v8 v9 v10:Option T),τ=τ0 v7 v8 v9 v10/\G' p6=some (.lst ((allE W i).map encE))/\G' p5=some (.lst (E.map encE))/\Sub G4 G'
   refine⟨J2,?_,?_,?_,?_⟩
   .exact⟨_,_,_,_,rfl,e6,e5,s4⟩
   .intros;trivial
   .intro i z τ G7 hz h_;apply xe4 h_;clear h_;intro v7 v8 v9 v10;refine ae3 ?_;intro f6 f5 s7;obtain⟨i',hi',rfl⟩:=jJ7 hz
    obtain⟨hi,rfl⟩:i<W.length/\i=i':=by
     rw[lJg] at hi';obtain⟨q1,q2⟩:=hi';simp at q1 q2;exact⟨q1,q2⟩
    have hrow:=kQ6 hi;have hrl:=any.deg _ _ hrow
    exists τ0,jKl,jKq f6,encW,jQh hrow,encR
    have rl:(((row W i).map encE).length:Int)=(row W i).length:=by simp
    refine⟨by rw[rl];omega,by rw[rl];omega,?_⟩
    rw[show ((((row W i).map encE).length:Nat):Int).toNat=(row W i).length by simp,jQ4]
    refine jK4 (es:=List.range (row W i).length) (enc:=λd=>T.int (d:Nat)) (λd=>encE (i,d)) (by simp;omega) (λ_ _=>trivial) ?_ ?_
    .intro d d' hd G8 K K0 s8 hK
     exists tSeq
     exact⟨by omega,hK _ (.refl _)⟩
    .intro D G8 hD gD s8;have hl:=kZu any i;refine⟨p6,D,_,_,rfl,rfl,s8 _ _ f6,gD,by rw[lJe,lJe,lK7];omega,_,_,_,_,rfl,?_,?_,(s7.trans s8).over h6'⟩
     .rw[jJh,show allE W (i+1)=allE W i++(List.range (row W i).length).map λd=>(i,d) by unfold allE;rw[lKv,lV2];simp,lQv,lJz];rfl
     .rw[jJq n56];exact s8 _ _ f5
   .intro τ G7 h_;apply xe4 h_;clear h_;intro v7 v8 v9 v10;refine ae3 ?_;intro f6 f5 s7;rw[lJe,lK7] at f6
    exists τ0,jJv,jKl,qQa,rNeA
    have el:=ok.len;refine⟨true,E.map tE,?_,by rw[lJe];omega,?_,?_,λp8 kys hp8 hpm hpw=> ?_⟩
    .simp only[jQf,f5,asL,lJz];rfl
    .intro e he;obtain⟨x,_,rfl⟩:=lJl.mp he;exact uQ6 x
    .intro e he e' he';obtain⟨x,_,rfl⟩:=lJl.mp he;obtain⟨x',_,rfl⟩:=lJl.mp he';obtain⟨c,hc,_⟩:=ltE x x';exact (lKl Option.isSome hc).trans rfl
    .rw[kVk any.sym ok hpm hpw,lJz];have n68:=jJf f6 hp8;refine⟨_,qYy jJh (by rw[jJq n68];exact f6) λx hx=> ?_,?_⟩
     .obtain⟨e,_,rfl⟩:=lJl.mp hx;exact .inr ⟨_,_,rfl⟩
     rw[lJb (by decide)]
     have sub8:Sub G4 (gup G7 p8 (.lst ((allE W W.length).map ((λe=>T.tup e.1)∘tE)))):=s7.trans (.new hp8)
     generalize gup G7 p8 (.lst ((allE W W.length).map ((λe=>T.tup e.1)∘tE)))=G8 at sub8
     refine⟨by omega,by omega,λi τ G'=>∃(v7 v8 v9 v10:Option T),τ=τ0 v7 v8 v9 v10/\G' pc=some (.lst (jQk ms))/\BoxAt G' b (1000+3000*i),?_,?_,?_,?_⟩
     .exact⟨_,_,_,_,rfl,sub8 _ _ hp4,bx4.sub sub8⟩
     .intros;trivial
     .intro i z τ G9 hz h_;apply xe4 h_;clear h_;intro v7 v8 v9 v10;refine ae2 ?_;intro g1 g2;obtain⟨hi,rfl⟩:=jY0 hz;have hi3:i<3:=by have:(3:Int).toNat=3:=rfl;omega
      exists τ0,encW,wl
      refine⟨b,_,_,rfl,g2,by omega,by omega,by omega,λr G10 r0 r1 b10 k10=> ?_⟩
      refine⟨b,_,_,rfl,b10,by omega,by omega,by omega,λx G11 x0 x1 b11 k11=> ?_⟩
      obtain⟨r,rfl⟩:=lK3 r0;obtain⟨x,rfl⟩:=lK3 x0;refine⟨b,W,r,x,_,rfl,b11,by omega,any,by omega,by omega,λG12 b12 k12=> ?_⟩
      refine⟨true,rfl,?_⟩;rw[lJb (by decide)]
      exact⟨k12 _ _ hpb (k11 _ _ hpb (k10 _ _ hpb g1)),b12.mono (by omega)⟩
     .intro τ G9 h_;apply xe4 h_;clear h_;intro v7 v8 v9 v10;refine ae2 ?_;intro g1 g2;exact⟨_,_,_,_,_,_,_,_,_,rfl,g1⟩
 .intro τ G1 h_;apply xe9 h_;clear h_;intro v2 v3 v4 v5 v6 v7 v8 v9 v10 hp2
  exists tSeq
  exact kk _
end W
namespace W
open PySem PySem.Spec PyProof.Rows L2 L3
theorem ln1{α:Type}{us:List α}{C:List α->Prop}(h:us.length=1)(k:∀a0,C [a0]):C us:=by
 obtain⟨a0,us,rfl⟩:=lQ8 h
 replace h:=lQ9 h
 cases lVk.mp h;exact k a0
theorem ln2{α:Type}{us:List α}{C:List α->Prop}(h:us.length=2)(k:∀a0 a1,C [a0,a1]):C us:=by
 obtain⟨a0,us,rfl⟩:=lQ8 h
 replace h:=lQ9 h
 obtain⟨a1,us,rfl⟩:=lQ8 h
 replace h:=lQ9 h
 cases lVk.mp h;exact k a0 a1
theorem ln3{α:Type}{us:List α}{C:List α->Prop}(h:us.length=3)(k:∀a0 a1 a2,C [a0,a1,a2]):C us:=by
 obtain⟨a0,us,rfl⟩:=lQ8 h
 replace h:=lQ9 h
 obtain⟨a1,us,rfl⟩:=lQ8 h
 replace h:=lQ9 h
 obtain⟨a2,us,rfl⟩:=lQ8 h
 replace h:=lQ9 h
 cases lVk.mp h;exact k a0 a1 a2
theorem ln4{α:Type}{us:List α}{C:List α->Prop}(h:us.length=4)(k:∀a0 a1 a2 a3,C [a0,a1,a2,a3]):C us:=by
 obtain⟨a0,us,rfl⟩:=lQ8 h
 replace h:=lQ9 h
 obtain⟨a1,us,rfl⟩:=lQ8 h
 replace h:=lQ9 h
 obtain⟨a2,us,rfl⟩:=lQ8 h
 replace h:=lQ9 h
 obtain⟨a3,us,rfl⟩:=lQ8 h
 replace h:=lQ9 h
 cases lVk.mp h;exact k a0 a1 a2 a3
noncomputable def top(i:Nat):Stmt:=PySem.Challenge.pw_stonewalker_k10_whole_webs_walked.main.body.getD i (.Pass ⟨0,0,0,0⟩)
def FnAt(K:PySem.W.Frag)(mg:Str->Option Value)(x:Str)(i:Nat):Prop:=∃f fd,mg x=some (.ref f)/\Fun K x x (top i) f fd
structure Txt (K:PySem.W.Frag) (mg:Str->Option Value):Prop where
 n_abs:mg "abs"=none
 n_all:mg "all"=none
 n_bool:mg "bool"=none
 n_dict:mg "dict"=none
 n_divmod:mg "divmod"=none
 n_enumerate:mg "enumerate"=none
 n_int:mg "int"=none
 n_isinstance:mg "isinstance"=none
 n_len:mg "len"=none
 n_list:mg "list"=none
 n_max:mg "max"=none
 n_range:mg "range"=none
 n_reversed:mg "reversed"=none
 n_set:mg "set"=none
 n_sorted:mg "sorted"=none
 n_tuple:mg "tuple"=none
 n_zip:mg "zip"=none
 f_is_number:FnAt K mg "is_number" 1
 f_is_number_of_room:FnAt K mg "is_number_of_room" 2
 f_is_end:FnAt K mg "is_end" 3
 f_is_room:FnAt K mg "is_room" 4
 f_leads_back:FnAt K mg "leads_back" 5
 f_all_lead_back:FnAt K mg "all_lead_back" 6
 f_first_comings:FnAt K mg "first_comings" 7
 f_is_web:FnAt K mg "is_web" 8
 f_ties:FnAt K mg "ties" 9
 f_ends_on:FnAt K mg "ends_on" 10
 f_gone:FnAt K mg "gone" 11
 f_seen:FnAt K mg "seen" 12
 f_back_way:FnAt K mg "back_way" 13
 f_way_to:FnAt K mg "way_to" 14
 f_ends_by:FnAt K mg "ends_by" 16
 f_renumbered:FnAt K mg "renumbered" 17
 f_told_from:FnAt K mg "told_from" 18
 f_same_web:FnAt K mg "same_web" 19
 f_l_box:FnAt K mg "_law_box" 21
 f_l_take:FnAt K mg "_law_take" 22
 f_l_folded:FnAt K mg "_law_folded" 23
 f_l_joined:FnAt K mg "_law_joined" 24
 f_l_doors_put:FnAt K mg "_law_doors_put" 25
 f_l_web:FnAt K mg "_law_web" 26
 f_l_ring:FnAt K mg "_law_ring" 27
 f_l_ends:FnAt K mg "_law_ends" 28
 f_l_reached:FnAt K mg "_law_reached" 29
 f_l_sheeted:FnAt K mg "_law_sheeted" 30
 f_l_turn:FnAt K mg "_law_turn" 31
 f_l_covered:FnAt K mg "_law_covered" 32
 f_l_any_web:FnAt K mg "_law_any_web" 33
 f_l_way:FnAt K mg "_law_way" 34
 f_l_none_ahead:FnAt K mg "_law_none_ahead" 36
 f_l_one_right:FnAt K mg "_law_one_right" 35
 f_law:FnAt K mg "law" 37
variable {w:World}{K:PySem.W.Frag}{mg:Str->Option Value}
variable {P:Program}{base:Heap}
variable {x:Str}{i:Nat}
theorem cal3{k:Nat}{N ps:List Str}{sp:Sp3}{t:TS3}(F:FnAt K mg x i)(h:∀xs G Q,sp xs G Q->t {nx:=λ_ G'=>Q .non G',rt:=Q} (jZh N xs) G)(d:∀(f:Addr)(cdv:Value)(A:Around)(outer:List Env)(s:Shared)(H:Hp)(E:XK),Room k (A.deeper (envOfC x (jKa (top i)) s.heap.objs.size f cdv))->(A.deeper (envOfC x (jKa (top i)) s.heap.objs.size f cdv)).units+20<cLine->N.Nodup->PSs3 (cxOf CX0 P w K mg base N x (jKa (top i)) f cdv A outer s H E).nox (jUy (top i)) t)(S:FnScope N ps (jKa (top i)):=by exact⟨rfl,rfl,rfl,by decide +kernel,rfl,by decide +kernel,by decide +kernel⟩)(b:∀(kV doc pm:Value)(an:Option Addr)(cdv ct:Value)(us:List Value),us.length=ps.length->bindArgs (PySem.W.fnOf x x (jYk (top i)) (jUy (top i)) (jKa (top i)) .none kV doc pm an cdv ct) ⟨us,[]⟩=pure (ps.zip us):=by (intro _ _ _ _ _ _ us hl;first | (apply ln1 hl;intros;rfl) | (apply ln2 hl;intros;rfl) | (apply ln3 hl;intros;rfl) | (apply ln4 hl;intros;rfl)))(m:Mono sp:=by (intro xs G Q Q' hq;(repeat' (first | (refine Exists.imp λ_=> ?_) | (refine And.imp_right ?_)));intro k;intros;apply hq;apply k<;>assumption))(n:∀xs G Q,sp xs G Q->xs.length=ps.length:=by (intro xs G Q h;repeat (first | exact (lKl List.length h.1).trans rfl | obtain⟨_,h⟩:=h))):Cal P w K mg base (k+1) x ps sp:=by
 obtain⟨f,fd,a,F⟩:=F;exact⟨⟨f,fd,fn3 F S λcdv A outer s H E hr=>⟨t,d f cdv A outer s H E hr (uVg hr) S.nd,h⟩,a,F.kp,F.binds b⟩,m,n⟩
theorem jVk(T:Txt K mg):Cal P w K mg base 1 "is_number" ["thing"] jQi:=
 cal3 T.f_is_number kJs λ_ _ _ _ _ _ _ hr hu nd=>
  (jJi (jJy (kXn (jJp qVj (by rfl) T.n_isinstance rfl (jJa (jJc 0) (jJa (e_ty rfl T.n_int rfl) jJd))) (qU2 (uX3 (jJp qVj (by rfl) T.n_isinstance rfl (jJa (jJc 0) (jJa (e_ty rfl T.n_bool rfl) jJd))))))))
theorem jVv(T:Txt K mg):Cal P w K mg base 2 "is_number_of_room" ["web","thing"] jKy:=
 cal3 T.f_is_number_of_room jU2 λ_ _ _ _ _ _ _ hr hu nd=>
  (jJi (jJy (kXn (jJu (jVk T) (hr.mono (by decide)) (jJa (jJc 1) jJd)) (qU2 (uK1 (qJi hu) o_lt jJk (jJc 1) (jJp jKp (by rfl) T.n_len lJu (jJa (jJc 0) jJd)))))))
theorem qQv(T:Txt K mg):Cal P w K mg base 2 "is_end" ["thing"] jZk:=
 cal3 T.f_is_end kVy λ_ _ _ _ _ _ _ hr hu nd=>
  (jJi (jJy (kXn (jJp qVj (by rfl) T.n_isinstance rfl (jJa (jJc 0) (jJa (e_ty rfl T.n_tuple rfl) jJd))) (kXn (qJx (jZ1 hr.units) (jJp jKp (by rfl) T.n_len lJu (jJa (jJc 0) jJd)) jJk (jJr _)) (kXn (jJu (jVk T) (hr.mono (by decide)) (jJa (e_ix (ix_F hu) (jJc 0) jJk (λ_ _=>rfl)) jJd)) (qU2 (jJu (jVk T) (hr.mono (by decide)) (jJa (e_ix (ix_F hu) (jJc 0) jJk (λ_ _=>rfl)) jJd))))))))
theorem qJg(T:Txt K mg):Cal P w K mg base 3 "is_room" ["thing"] jX5:=
 cal3 T.f_is_room kQ9 λ_ _ _ _ _ _ _ hr hu nd=>
  (jJi (jJy (kXn (jJp qVj (by rfl) T.n_isinstance rfl (jJa (jJc 0) (jJa (e_ty rfl T.n_tuple rfl) jJd))) (qU2 (jJp (uQd rfl) (by rfl) T.n_all rfl (jJa (jUh (mask:=[fF,tT]) rfl ⟨rfl,rfl,rfl,rfl,rfl,rfl,rfl⟩ (jUt (jJc 0)) jKn (λC fp s H=>(jJo (i:=1) nd)) (λC fp s H=>jQ3) (λC fp s H=>(jJu (qQv T) (hr.mono (by decide)) (jJa (jJc 1) jJd)))) jJd))))))
theorem kQb(T:Txt K mg):Cal P w K mg base 3 "leads_back" ["rooms","room","door"] jUm:=
 cal3 T.f_leads_back jZo λ_ _ _ _ _ _ _ hr hu nd=>
  (jJe (jJ1 (i:=3) nd (e_ix (ix_F hu) (e_ix (ix_F hu) (jJc 0) (jJc 1) (λ_ _=>rfl)) (jJc 2) (λ_ _=>rfl)))
   (jJe (s_if (kQ1 (kZ4 (jJu (jVv T) (hr.mono (by decide)) (jJa (jJc 0) (jJa (e_ix (ix_F hu) (jJc 3) jJk (λ_ _=>rfl)) jJd))))) (jJi (jJy e_bl)) jKb)
   (jJe (s_if (kQ1 (qKi (qJi hu) o_lt jJk (e_ix (ix_F hu) (jJc 3) jJk (λ_ _=>rfl)) (jJp jKp (by rfl) T.n_len lJu (jJa (e_ix (ix_F hu) (jJc 0) (e_ix (ix_F hu) (jJc 3) jJk (λ_ _=>rfl)) (λ_ _=>rfl)) jJd)))) (jJi (jJy e_bl)) jKb)
   (jJi (jJy (qJx (jZ1 hr.units) (e_ix (ix_F hu) (e_ix (ix_F hu) (jJc 0) (e_ix (ix_F hu) (jJc 3) jJk (λ_ _=>rfl)) (λ_ _=>rfl)) (e_ix (ix_F hu) (jJc 3) jJk (λ_ _=>rfl)) (λ_ _=>rfl)) (jQd (jJa (jJc 1) (jJa (jJc 2) jJd))) (jJr _)))))))
theorem jYu(T:Txt K mg):Cal P w K mg base 4 "all_lead_back" ["rooms"] jQn:=
 cal3 T.f_all_lead_back jXn λ_ _ _ _ _ _ _ hr hu nd=>
  (jJe (jKu lJy rfl (qJu rfl T.n_enumerate rfl (jJa (jJc 0) jJd)) (jUw rfl (jJt (jJo (i:=1) nd) (jJt (jJo (i:=2) nd) jQc))) (jJi (jKu lJy rfl (jJ6 rfl T.n_range (jJa (jJp jKp (by rfl) T.n_len lJu (jJa (jJc 2) jJd)) jJd)) (jJo (i:=3) nd) (jJi (s_if (kQ1 (kZ4 (jJu (kQb T) (hr.mono (by decide)) (jJa (jJc 0) (jJa (jJc 1) (jJa (jJc 3) jJd)))))) (jJi (jJy e_bl)) jKb)))))
   (jJi (jJy e_bl)))
theorem jKo(T:Txt K mg):Cal P w K mg base 1 "first_comings" ["web","room"] jJ5:=
 cal3 T.f_first_comings jXm λ_ _ _ _ _ _ _ hr hu nd=>
  (jJe (jJ1 (i:=2) nd (uK0 (jJc 1) jYj))
   (jJe (jJ1 (i:=3) nd (jQq (jJa (jJc 1) jJd)))
   (jJe (kVn lJy (uJk kVf (jJc 3)) (jJe (jJ1 (i:=4) nd (jQq jJd))
   (jJe (jKu lJy rfl (jUt (jJc 3)) (jJo (i:=5) nd) (jJi (jKu lJy rfl (qJu rfl T.n_enumerate rfl (jJa (e_ix (ix_F hu) (jJc 0) (jJc 5) (λ_ _=>rfl)) jJd)) (jUw rfl (jJt (jJo (i:=6) nd) (jJt (jJo (i:=7) nd) jQc))) (jJi (s_if (jKr (kUk hu) (e_ix (ix_F hu) (jJc 7) jJk (λ_ _=>rfl)) (jJc 2) (jJr _)) (jJe (jXk (jQd (jJa (jJc 5) (jJa (jJc 6) jJd))) (jXw (jJc 2) (e_ix (ix_F hu) (jJc 7) jJk (λ_ _=>rfl)) (s_F hu)))
   (jJi (jQz (e_bm lK0 lVa lVb jQb (jJc 4) (jJa (e_ix (ix_F hu) (jJc 7) jJk (λ_ _=>rfl)) jJd))))) jKb)))))
   (jJi (jJ1 (i:=3) nd (jJc 4))))))
   (jJi (jJy (jJc 2))))))
theorem qQu(T:Txt K mg):Cal P w K mg base 5 "is_web" ["thing"] jXh:=
 cal3 T.f_is_web kVx λ_ _ _ _ _ _ _ hr hu nd=>
  (jJe (s_if (PW3.pt (w_or (kQ1 (kZ4 (jJp qVj (by rfl) T.n_isinstance rfl (jJa (jJc 0) (jJa (e_ty rfl T.n_tuple rfl) jJd))))) (kZz (jKr (jZ1 hr.units) (jJp qVi (by rfl) T.n_len lJu (jJa (jJc 0) jJd)) jJk (jJr _))))) (jJi (jJy e_bl)) jKb)
   (jJe (s_if (kQ1 (kZ4 (jJp (uQd rfl) (by rfl) T.n_all rfl (jJa (jUh (mask:=[fF,tT]) rfl ⟨rfl,rfl,rfl,rfl,rfl,rfl,rfl⟩ (jUt (jJc 0)) jKn (λC fp s H=>(jJo (i:=1) nd)) (λC fp s H=>jQ3) (λC fp s H=>(jJu (qJg T) (hr.mono (by decide)) (jJa (jJc 1) jJd)))) jJd)))) (jJi (jJy e_bl)) jKb)
   (jJi (jJy (kXn (jJu (jYu T) (hr.mono (by decide)) (jJa (jJc 0) jJd)) (qU2 (qJx (jZ1 hr.units) (jJp qVi (by rfl) T.n_len lJu (jJa (jJu (jKo T) (hr.mono (by decide)) (jJa (jJc 0) (jJa jJk jJd))) jJd)) (jJp qVi (by rfl) T.n_len lJu (jJa (jJc 0) jJd)) (jJr _))))))))
theorem uJ5(T:Txt K mg):Cal P w K mg base 1 "ties" ["web"] kVj:=
 cal3 T.f_ties qK1 λ_ _ _ _ _ _ _ hr hu nd=>
  (jJe (jJ1 (i:=1) nd (jQq jJd))
   (jJe (jKu lJy rfl (qJu rfl T.n_enumerate rfl (jJa (jJc 0) jJd)) (jUw rfl (jJt (jJo (i:=2) nd) (jJt (jJo (i:=3) nd) jQc))) (jJi (jKu lJy rfl (qJu rfl T.n_enumerate rfl (jJa (jJc 3) jJd)) (jUw rfl (jJt (jJo (i:=4) nd) (jJt (jJo (i:=5) nd) jQc))) (jJi (s_if (jKr (qJi hu) (jQd (jJa (jJc 2) (jJa (jJc 4) jJd))) (jJc 5) (jJr _)) (jJi (jQz (e_bm lK0 lVa lVb jQb (jJc 1) (jJa (jQd (jJa (jQd (jJa (jJc 2) (jJa (jJc 4) jJd))) (jJa (jJc 5) jJd))) jJd)))) jKb)))))
   (jJi (jJy (jJc 1)))))
theorem jYb(T:Txt K mg):Cal P w K mg base 1 "ends_on" ["web","room","way"] jUd:=
 cal3 T.f_ends_on kUa (λ_ _ _ _ _ _ _ hr hu nd=>
  (jJe (jJ1 (i:=3) nd (jQq jJd))
   (jJe (jJ1 (i:=4) nd (jJc 1))
   (jJe (jKu lJy rfl (jUt (jJc 2)) (jJo (i:=5) nd) (jJe (s_if (kQ1 (qKi (qJi hu) o_lt jJk (jJc 5) (jJp jKp (by rfl) T.n_len lJu (jJa (e_ix (ix_F hu) (jJc 0) (jJc 4) (λ_ _=>rfl)) jJd)))) (jJi (jJy jYj)) jKb)
   (jJe (jJ1 (i:=6) nd (e_ix (ix_F hu) (e_ix (ix_F hu) (jJc 0) (jJc 4) (λ_ _=>rfl)) (jJc 5) (λ_ _=>rfl)))
   (jJe (jQz (e_bm lK0 lVa lVb jQb (jJc 3) (jJa (jJc 6) jJd)))
   (jJi (jJ1 (i:=4) nd (e_ix (ix_F hu) (jJc 6) jJk (λ_ _=>rfl))))))))
   (jJi (jJy (jJc 3))))))) (m:=by (intro xs G Q Q' hq;(repeat' (first | (refine Exists.imp λ_=> ?_) | (refine And.imp_right ?_)));intro k G' s;refine⟨λa=>hq _ _ ((k G' s).1 a),?_⟩;intros;apply hq;apply (k G' s).2<;>assumption))
theorem jZz(T:Txt K mg):Cal P w K mg base 2 "gone" ["web","room","way"] jKf:=
 cal3 T.f_gone qK3 (λ_ _ _ _ _ _ _ hr hu nd=>
  (jJe (jJ1 (i:=3) nd (jJu (jYb T) (hr.mono (by decide)) (jJa (jJc 0) (jJa (jJc 1) (jJa (jJc 2) jJd)))))
   (jJe (s_if (jKr qXx (jJc 3) jYj (jJr _)) (jJi (jJy jYj)) jKb)
   (jJi (jJy (qU3 (uJk kVf (jJc 3)) (e_ix (ix_F hu) (jJc 3) (e_un uJd jJk) (λ_ _=>rfl)) (jQd (jJa (jJc 1) (jJa jYj jJd))))))))) (m:=by (intro xs G Q Q' hq;(repeat' (first | (refine Exists.imp λ_=> ?_) | (refine And.imp_right ?_)));intro k G' s;refine⟨λa=>hq _ _ ((k G' s).1 a),?_⟩;intros;apply hq;apply (k G' s).2<;>assumption))
theorem qQr(T:Txt K mg):Cal P w K mg base 2 "seen" ["web","room","way"] jUl:=
 cal3 T.f_seen qK2 (λ_ _ _ _ _ _ _ hr hu nd=>
  (jJe (jJ1 (i:=3) nd (jJu (jYb T) (hr.mono (by decide)) (jJa (jJc 0) (jJa (jJc 1) (jJa (jJc 2) jJd)))))
   (jJe (s_if (jKr qXx (jJc 3) jYj (jJr _)) (jJi (jJy jYj)) jKb)
   (jJi (jJy (jJ4 jQe (by rfl) T.n_tuple rfl (jJa (e_op o_addF (jQq (jJa (jJp jKp (by rfl) T.n_len lJu (jJa (e_ix (ix_F hu) (jJc 0) (jJc 1) (λ_ _=>rfl)) jJd)) jJd)) (jUh (mask:=[fF,fF,fF,fF,tT]) rfl ⟨rfl,rfl,rfl,rfl,rfl,rfl,rfl⟩ (jUt (jJc 3)) jKn (λC fp s H=>(jJo (i:=4) nd)) (λC fp s H=>jQ3) (λC fp s H=>(jQd (jJa (e_ix (ix_F hu) (jJc 4) jJk (λ_ _=>rfl)) (jJa (jJp jKp (by rfl) T.n_len lJu (jJa (e_ix (ix_F hu) (jJc 0) (e_ix (ix_F hu) (jJc 4) jJk (λ_ _=>rfl)) (λ_ _=>rfl)) jJd)) jJd)))))) jJd))))))) (m:=by (intro xs G Q Q' hq;(repeat' (first | (refine Exists.imp λ_=> ?_) | (refine And.imp_right ?_)));intro k G' s;refine⟨λa=>hq _ _ ((k G' s).1 a),?_⟩;intros;apply hq;apply (k G' s).2<;>assumption))
theorem kV7(T:Txt K mg):Cal P w K mg base 2 "back_way" ["web","room","way"] jK5:=
 cal3 T.f_back_way kK3 (λ_ _ _ _ _ _ _ hr hu nd=>
  (jJe (jJ1 (i:=3) nd (jJu (jYb T) (hr.mono (by decide)) (jJa (jJc 0) (jJa (jJc 1) (jJa (jJc 2) jJd)))))
   (jJe (s_if (jKr qXx (jJc 3) jYj (jJr _)) (jJi (jJy jYj)) jKb)
   (jJi (jJy (jJ4 jQe (by rfl) T.n_tuple rfl (jJa (jUh (mask:=[fF,fF,fF,fF,tT]) rfl ⟨rfl,rfl,rfl,rfl,rfl,rfl,rfl⟩ (qJt rfl T.n_reversed rfl (jJa (jJc 3) jJd)) jKn (λC fp s H=>(jJo (i:=4) nd)) (λC fp s H=>jQ3) (λC fp s H=>(e_ix (ix_F hu) (jJc 4) jJk (λ_ _=>rfl)))) jJd))))))) (m:=by (intro xs G Q Q' hq;(repeat' (first | (refine Exists.imp λ_=> ?_) | (refine And.imp_right ?_)));intro k G' s;refine⟨λa=>hq _ _ ((k G' s).1 a),?_⟩;intros;apply hq;apply (k G' s).2<;>assumption))
theorem kUe(T:Txt K mg):Cal P w K mg base 2 "way_to" ["web","one","other"] jKt:=
 cal3 T.f_way_to kVs λ_ _ _ _ _ _ _ hr hu nd=>
  (jJe (jJ1 (i:=3) nd (jJu (jKo T) (hr.mono (by decide)) (jJa (jJc 0) (jJa (jJc 1) jJd))))
   (jJe (jJ1 (i:=4) nd (jQq jJd))
   (jJe (jJ1 (i:=5) nd (e_ix (ix_F hu) (jJc 3) (jJc 2) (λ_ _=>rfl)))
   (jJe (kVn lJy (jKr uUv (jJc 5) jYj (jJr _)) (jJe (jQz (e_bm lK0 lVa lVb jQb (jJc 4) (jJa (e_ix (ix_F hu) (jJc 5) jJk (λ_ _=>rfl)) jJd)))
   (jJi (jJ1 (i:=5) nd (e_ix (ix_F hu) (jJc 3) (e_ix (ix_F hu) (jJc 5) jJk (λ_ _=>rfl)) (λ_ _=>rfl))))))
   (jJi (jJy (uVo rfl rfl T.n_tuple rfl T.n_reversed rfl (jJa (jJc 4) jJd))))))))
theorem qJh(T:Txt K mg):Cal P w K mg base 1 "ends_by" ["ends","numbers"] jX6:=
 cal3 T.f_ends_by kUb λ_ _ _ _ _ _ _ hr hu nd=>
  (jJi (jJy (jJ4 jQe (by rfl) T.n_tuple rfl (jJa (jUh (mask:=[fF,fF,tT]) rfl ⟨rfl,rfl,rfl,rfl,rfl,rfl,rfl⟩ (jUt (jJc 0)) jKn (λC fp s H=>(jJo (i:=2) nd)) (λC fp s H=>jQ3) (λC fp s H=>(jQd (jJa (e_ix (ix_F hu) (jJc 1) (e_ix (ix_F hu) (jJc 2) jJk (λ_ _=>rfl)) (λ_ _=>rfl)) (jJa (e_ix (ix_F hu) (jJc 2) jJk (λ_ _=>rfl)) jJd))))) jJd))))
theorem jXq(T:Txt K mg):Cal P w K mg base 2 "renumbered" ["web","numbers"] jKv:=
 cal3 T.f_renumbered jZn λ_ _ _ _ _ _ _ hr hu nd=>
  (jJe (jJ1 (i:=2) nd (jJ4 qVh (by rfl) T.n_list rfl (jJa (jJc 0) jJd)))
   (jJe (jKu lJy rfl (qJu rfl T.n_enumerate rfl (jJa (jJc 0) jJd)) (jUw rfl (jJt (jJo (i:=3) nd) (jJt (jJo (i:=4) nd) jQc))) (jJi (jXk (jJu (qJh T) (hr.mono (by decide)) (jJa (jJc 4) (jJa (jJc 1) jJd))) (jXw (jJc 2) (e_ix (ix_F hu) (jJc 1) (jJc 3) (λ_ _=>rfl)) (s_F hu)))))
   (jJi (jJy (jJ4 jQe (by rfl) T.n_tuple rfl (jJa (jJc 2) jJd))))))
theorem jVj(T:Txt K mg):Cal P w K mg base 3 "told_from" ["web","room"] jK7:=
 cal3 T.f_told_from kJn λ_ _ _ _ _ _ _ hr hu nd=>
  (jJe (jJ1 (i:=2) nd (kJe rfl T.n_list rfl T.n_range rfl (jJa (jJp jKp (by rfl) T.n_len lJu (jJa (jJc 0) jJd)) jJd)))
   (jJe (jKu lJy rfl (kUr rfl T.n_enumerate rfl (jJa (jJ4 (kXu rfl) (by rfl) T.n_list rfl (jJa (jJu (jKo T) (hr.mono (by decide)) (jJa (jJc 0) (jJa (jJc 1) jJd))) jJd)) jJd)) (jUw rfl (jJt (jJo (i:=3) nd) (jJt (jJo (i:=4) nd) jQc))) (jJi (jXk (jJc 3) (jXw (jJc 2) (jJc 4) (s_F hu)))))
   (jJi (jJy (jJu (jXq T) (hr.mono (by decide)) (jJa (jJc 0) (jJa (jJ4 jQe (by rfl) T.n_tuple rfl (jJa (jJc 2) jJd)) jJd)))))))
theorem kV4(T:Txt K mg):Cal P w K mg base 4 "same_web" ["one","a","other","b"] jQy:=
 cal3 T.f_same_web kK0 λ_ _ _ _ _ _ _ hr hu nd=>
  (jJe (s_if (jKr (kUl hr.units) (jJu (jVj T) (hr.mono (by decide)) (jJa (jJc 0) (jJa (jJc 1) jJd))) (jJu (jVj T) (hr.mono (by decide)) (jJa (jJc 2) (jJa (jJc 3) jJd))) (jJr _)) (jJi (jJy jYj)) jKb)
   (jJe (jJ1 (i:=4) nd (uVp rfl (by rfl) T.n_dict rfl (by rfl) T.n_zip rfl (jJa (jJ4 (kXu rfl) (by rfl) T.n_list rfl (jJa (jJu (jKo T) (hr.mono (by decide)) (jJa (jJc 0) (jJa (jJc 1) jJd))) jJd)) (jJa (jJ4 (kXu rfl) (by rfl) T.n_list rfl (jJa (jJu (jKo T) (hr.mono (by decide)) (jJa (jJc 2) (jJa (jJc 3) jJd))) jJd)) jJd))))
   (jJi (jJy (jJ4 jQe (by rfl) T.n_tuple rfl (jJa (jUh (mask:=[fF,fF,fF,fF,fF,tT]) rfl ⟨rfl,rfl,rfl,rfl,rfl,rfl,rfl⟩ (jJ6 rfl T.n_range (jJa (jJp jKp (by rfl) T.n_len lJu (jJa (jJc 0) jJd)) jJd)) jKn (λC fp s H=>(jJo (i:=5) nd)) (λC fp s H=>jQ3) (λC fp s H=>(e_ix (ix_F hu) (jJc 4) (jJc 5) (λ_ _=>rfl)))) jJd))))))
theorem qXw(T:Txt K mg):Cal P w K mg base 1 "_law_box" ["_law_script","_law_k"] kKx:=
 cal3 T.f_l_box qJd λ_ _ _ _ _ _ _ hr hu nd=>
  (jJe (jJ1 (i:=2) nd (e_ix (ix_F hu) (e_op o_addF (jJc 0) (e_op jQ6 (jQq (jJa jJk jJd)) (e_op o_addF (jJc 1) jJk))) (jJc 1) (λ_ _=>rfl)))
   (jJi (jJy (jQq (jJa (e_op jQ6 (jJp uVr (by rfl) T.n_abs rfl (jJa (jJc 2) jJd)) (jJ4 uX7 (by rfl) T.n_int rfl (jJa (qJx o_ge (jJp uVr (by rfl) T.n_abs rfl (jJa (jJc 2) jJd)) (e_op uXk jJk jJk) (jJr _)) jJd))) (jJa (e_op jYc (e_op jQ6 (e_op o_addF (e_op o_addF (e_op jYc (jJc 2) jJk) (e_op jQ6 jJk (jJc 1))) jJk) jJk) jJk) (jJa jJk jJd)))))))
theorem jJz(T:Txt K mg):Cal P w K mg base 1 "_law_take" ["_law_box_here","_law_many"] jJw:=
 cal3 T.f_l_take kVu λ_ _ _ _ _ _ _ hr hu nd=>
  (jJe (s_if (jKr o_gt (e_ix (ix_F hu) (jJc 0) jJk (λ_ _=>rfl)) jJk (jJr _)) (jJe (jXk (jJp qY7 (by rfl) T.n_divmod rfl (jJa (e_ix (ix_F hu) (jJc 0) jJk (λ_ _=>rfl)) (jJa (jJc 1) jJd))) (jUw rfl (jJt (jXw (jJc 0) jJk (s_F hu)) (jJt (jJo (i:=2) nd) jQc))))
   (jJi (jJy (jJc 2)))) jKb)
   (jJe (jXk (e_op o_addF (e_ix (ix_F hu) (jJc 0) jJk (λ_ _=>rfl)) jJk) (jXw (jJc 0) jJk (s_F hu)))
   (jJe (jJ1 (i:=3) nd (e_op jYc (e_op jQ6 (e_op o_addF (e_ix (ix_F hu) (jJc 0) jJk (λ_ _=>rfl)) (e_op jQ6 jJk (e_ix (ix_F hu) (jJc 0) jJk (λ_ _=>rfl)))) (e_op o_addF jJk (e_ix (ix_F hu) (jJc 0) jJk (λ_ _=>rfl)))) jJk))
   (jJe (jXk (e_op jYc (e_op o_addF (e_op jQ6 (jJc 3) (e_op o_addF (e_op jYc (jJc 3) jJk) jJk)) (e_ix (ix_F hu) (jJc 0) jJk (λ_ _=>rfl))) jJk) (jXw (jJc 0) jJk (s_F hu)))
   (jJi (jJy (e_op jYc (e_op uUy (e_op jYc (e_op jQ6 (e_ix (ix_F hu) (jJc 0) jJk (λ_ _=>rfl)) (e_op o_addF (e_op jYc (e_ix (ix_F hu) (jJc 0) jJk (λ_ _=>rfl)) jJk) jJk)) jJk) jJk) (jJc 1))))))))
theorem kV6(T:Txt K mg):Cal P w K mg base 1 "_law_folded" ["_law_script","_law_many"] jV1:=
 cal3 T.f_l_folded kK2 λ_ _ _ _ _ _ _ hr hu nd=>
  (jJe (jJ1 (i:=2) nd (jJ4 qVh (by rfl) T.n_list rfl (jJa (qU1 sl_F (jJc 0) uUl (qQn (jJc 1))) jJd)))
   (jJe (jKu lJy rfl (kUr rfl T.n_enumerate rfl (jJa (qU1 sl_F (jJc 0) (qQn (jJc 1)) (qQn jJk)) jJd)) (jUw rfl (jJt (jJo (i:=3) nd) (jJt (jJo (i:=4) nd) jQc))) (jJi (jXk (e_op o_addF (e_ix (ix_F hu) (jJc 2) (e_op jYc (jJc 3) (jJc 1)) (λ_ _=>rfl)) (e_op jQ6 (jJc 4) (e_op o_addF (jJc 3) jJk))) (jXw (jJc 2) (e_op jYc (jJc 3) (jJc 1)) (s_F hu)))))
   (jJi (jJy (jJc 2)))))
theorem kV5(T:Txt K mg):Cal P w K mg base 1 "_law_joined" ["_law_halves"] jV0:=
 cal3 T.f_l_joined kK1 λ_ _ _ _ _ _ _ hr hu nd=>
  (jJe (jJ1 (i:=1) nd uX4)
   (jJe (jKu lJy rfl (jJ6 rfl T.n_range (jJa (jJp jKp (by rfl) T.n_len lJu (jJa (jJc 0) jJd)) jJd)) (jJo (i:=2) nd) (jJi (jKu lJy rfl (kUr rfl T.n_enumerate rfl (jJa (e_ix (ix_F hu) (jJc 0) (jJc 2) (λ_ _=>rfl)) jJd)) (jUw rfl (jJt (jJo (i:=3) nd) (jJt (jJo (i:=4) nd) jQc))) (jJi (jXk (jQd (jJa (jJc 2) (jJa (jJc 3) jJd))) (jXw (jJc 1) (jJc 4) (s_F hu)))))))
   (jJe (jJ1 (i:=5) nd (jQq jJd))
   (jJe (jKu lJy rfl (jUt (jJc 0)) (jJo (i:=6) nd) (jJi (jQz (e_bm lK0 lVa lVb jQb (jJc 5) (jJa (jJ4 jQe (by rfl) T.n_tuple rfl (jJa (jUh (mask:=[fF,fF,fF,fF,fF,fF,fF,tT,tT]) rfl ⟨rfl,rfl,rfl,rfl,rfl,rfl,rfl⟩ (jUt (jJc 6)) (qZ1 (kQh jKn jYi (kQh jKn jYi qZ2 kZb) (qUl jYi kZb))) (λC fp s H=>(jUw rfl (jJt (jJo (i:=7) nd) (jJt (jJo (i:=8) nd) jQc)))) (λC fp s H=>jQ3) (λC fp s H=>(e_ix (ix_F hu) (jJc 1) (jQd (jJa (jJc 7) (jJa (e_ix (ix_F hu) (jQq (jJa jJk (jJa jJk (jJa jJk jJd)))) (jJc 8) (λ_ _=>rfl)) jJd))) (λ_ _=>rfl)))) jJd)) jJd)))))
   (jJi (jJy (jJ4 jQe (by rfl) T.n_tuple rfl (jJa (jJc 5) jJd))))))))
theorem kJu(T:Txt K mg):Cal P w K mg base 2 "_law_doors_put" ["_law_box_here","_law_pairs","_law_many"] jQ9:=
 cal3 T.f_l_doors_put jYs λ_ _ _ _ _ _ _ hr hu nd=>
  (jJe (kYh (i:=3) (mask:=[fF,fF,fF,fF,fF,fF,fF,fF,tT,fF]) rfl nd ⟨rfl,rfl,rfl,rfl,rfl,rfl,rfl⟩ (jJ6 rfl T.n_range (jJa (jJc 2) jJd)) jKn (λC fp s H=>(jJo (i:=8) nd)) (λC fp s H=>jQ3) (λC fp s H=>(jQq jJd)))
   (jJe (jKu lJy rfl (kUr rfl T.n_enumerate rfl (jJa (jJc 1) jJd)) (jUw rfl (jJt (jJo (i:=4) nd) (jJt (jUw rfl (jJt (jJo (i:=5) nd) (jJt (jJo (i:=6) nd) jQc))) jQc))) (jJe (jJ1 (i:=7) nd (qU3 (jKr (jZ1 hr.units) (jJc 6) (jJc 2) (jJr _)) (jQq (jJa (jQd (jJa (jJc 5) (jJa jJk jJd))) jJd)) (jQq (jJa (jQd (jJa (jJc 5) (jJa jJk jJd))) (jJa (jQd (jJa (jJc 6) (jJa jJk jJd))) jJd)))))
   (jJi (jKu lJy rfl (jUt (jJc 7)) (jUw rfl (jJt (jJo (i:=8) nd) (jJt (jJo (i:=9) nd) jQc))) (jJi (jQz (e_bm lK0 PySem.F.slot_list_insert PySem.F.type_list_insert kYs (e_ix (ix_F hu) (jJc 3) (jJc 8) (λ_ _=>rfl)) (jJa (jJu (jJz T) (hr.mono (by decide)) (jJa (jJc 0) (jJa (e_op o_addF (jJp jKp (by rfl) T.n_len lJu (jJa (e_ix (ix_F hu) (jJc 3) (jJc 8) (λ_ _=>rfl)) jJd)) jJk) jJd))) (jJa (jQd (jJa (jJc 4) (jJa (jJc 9) jJd))) jJd)))))))))
   (jJi (jJy (jJu (kV5 T) (hr.mono (by decide)) (jJa (jJc 3) jJd))))))
theorem kQc(T:Txt K mg):Cal P w K mg base 3 "_law_web" ["_law_box_here","_law_many","_law_most"] jXe:=
 cal3 T.f_l_web qJb λ_ _ _ _ _ _ _ hr hu nd=>
  (jJe (jJ1 (i:=3) nd (e_op jQ6 (jQq (jJa jJk jJd)) (jJc 1)))
   (jJe (jJ1 (i:=4) nd (jQq jJd))
   (jJe (jKu lJy rfl (qYl rfl T.n_range (jJa jJk (jJa (jJc 1) jJd))) (jJo (i:=5) nd) (jJe (kYh (i:=6) (mask:=[fF,fF,fF,fF,fF,fF,fF,fF,fF,fF,fF,tT]) rfl nd ⟨rfl,rfl,rfl,rfl,rfl,rfl,rfl⟩ (jJ6 rfl T.n_range (jJa (jJc 5) jJd)) jKn (λC fp s H=>(jJo (i:=11) nd)) (λC fp s H=>(qZy (jKr o_lt (e_ix (ix_F hu) (jJc 3) (jJc 11) (λ_ _=>rfl)) (jJc 2) (jJr _)))) (λC fp s H=>(jJc 11)))
   (jJe (jQz (e_bm lK0 lVa lVb jQb (jJc 4) (jJa (jQd (jJa (e_ix (ix_F hu) (jJc 6) (jJu (jJz T) (hr.mono (by decide)) (jJa (jJc 0) (jJa (jJp jKp (by rfl) T.n_len lJu (jJa (jJc 6) jJd)) jJd))) (λ_ _=>rfl)) (jJa (jJc 5) jJd))) jJd)))
   (jJi (jKu lJy rfl (jUt (e_ix (ix_F hu) (jJc 4) (e_un uJd jJk) (λ_ _=>rfl))) (jJo (i:=7) nd) (jJi (jXk (e_op o_addF (e_ix (ix_F hu) (jJc 3) (jJc 7) (λ_ _=>rfl)) jJk) (jXw (jJc 3) (jJc 7) (s_F hu)))))))))
   (jJe (jKu lJy rfl (jJ6 rfl T.n_range (jJa (jJu (jJz T) (hr.mono (by decide)) (jJa (jJc 0) (jJa (e_op o_addF (jJc 1) jJk) jJd))) jJd)) (jJo (i:=8) nd) (jJe (jJ1 (i:=9) nd (jQd (jJa (jJu (jJz T) (hr.mono (by decide)) (jJa (jJc 0) (jJa (jJc 1) jJd))) (jJa (jJu (jJz T) (hr.mono (by decide)) (jJa (jJc 0) (jJa (e_op o_addF (jJc 1) jJk) jJd))) jJd))))
   (jJe (jJ1 (i:=10) nd (jUh (mask:=[fF,fF,fF,fF,fF,fF,fF,tT,fF,fF,fF,fF]) rfl ⟨rfl,rfl,rfl,rfl,rfl,rfl,rfl⟩ (jUt (jJc 9)) jKn (λC fp s H=>(jJo (i:=7) nd)) (λC fp s H=>(qZy (jKr o_lt (jJc 7) (jJc 1) (jJr _)))) (λC fp s H=>(jJc 7))))
   (jJi (s_if (kZ4 (jJp (uQd rfl) (by rfl) T.n_all rfl (jJa (jUh (mask:=[fF,fF,fF,fF,fF,fF,fF,tT,fF,fF,fF,fF]) rfl ⟨rfl,rfl,rfl,rfl,rfl,rfl,rfl⟩ (jUt (jJc 10)) jKn (λC fp s H=>(jJo (i:=7) nd)) (λC fp s H=>jQ3) (λC fp s H=>(qJx (qJi hu) (e_op o_addF (e_ix (ix_F hu) (jJc 3) (jJc 7) (λ_ _=>rfl)) (e_bm lK0 PySem.F.slot_list_count PySem.F.type_list_count uKb (jJc 10) (jJa (jJc 7) jJd))) (jJc 2) (jJr _)))) jJd))) (jJe (jQz (e_bm lK0 lVa lVb jQb (jJc 4) (jJa (jJc 9) jJd)))
   (jJi (jKu lJy rfl (jUt (jJc 10)) (jJo (i:=7) nd) (jJi (jXk (e_op o_addF (e_ix (ix_F hu) (jJc 3) (jJc 7) (λ_ _=>rfl)) jJk) (jXw (jJc 3) (jJc 7) (s_F hu))))))) jKb)))))
   (jJi (jJy (jJu (kJu T) (hr.mono (by decide)) (jJa (jJc 0) (jJa (jJc 4) (jJa (jJc 1) jJd))))))))))
theorem qQt(T:Txt K mg):Cal P w K mg base 1 "_law_ring" ["_law_many"] jZj:=
 cal3 T.f_l_ring kVv λ_ _ _ _ _ _ _ hr hu nd=>
  (jJi (jJy (jJ4 jQe (by rfl) T.n_tuple rfl (jJa (jUh (mask:=[fF,tT]) rfl ⟨rfl,rfl,rfl,rfl,rfl,rfl,rfl⟩ (jJ6 rfl T.n_range (jJa (jJc 0) jJd)) jKn (λC fp s H=>(jJo (i:=1) nd)) (λC fp s H=>jQ3) (λC fp s H=>(jQd (jJa (jQd (jJa (e_op jYc (e_op o_addF (jJc 1) jJk) (jJc 0)) (jJa jJk jJd))) (jJa (jQd (jJa (e_op jYc (e_op uJ8 (jJc 1) jJk) (jJc 0)) (jJa jJk jJd))) jJd))))) jJd))))
theorem kUh(T:Txt K mg):Cal P w K mg base 1 "_law_ends" ["_law_web_here"] jXg:=
 cal3 T.f_l_ends kVw λ_ _ _ _ _ _ _ hr hu nd=>
  (jJe (jJ1 (i:=1) nd (jQq jJd))
   (jJe (jKu lJy rfl (jJ6 rfl T.n_range (jJa (jJp jKp (by rfl) T.n_len lJu (jJa (jJc 0) jJd)) jJd)) (jJo (i:=2) nd) (jJi (jKu lJy rfl (jJ6 rfl T.n_range (jJa (jJp jKp (by rfl) T.n_len lJu (jJa (e_ix (ix_F hu) (jJc 0) (jJc 2) (λ_ _=>rfl)) jJd)) jJd)) (jJo (i:=3) nd) (jJi (s_if (jKr (qJi hu) (jQd (jJa (jJc 2) (jJa (jJc 3) jJd))) (e_ix (ix_F hu) (e_ix (ix_F hu) (jJc 0) (jJc 2) (λ_ _=>rfl)) (jJc 3) (λ_ _=>rfl)) (jJr _)) (jJi (jQz (e_bm lK0 lVa lVb jQb (jJc 1) (jJa (jQd (jJa (jQd (jJa (jJc 2) (jJa (jJc 3) jJd))) (jJa (e_ix (ix_F hu) (e_ix (ix_F hu) (jJc 0) (jJc 2) (λ_ _=>rfl)) (jJc 3) (λ_ _=>rfl)) jJd))) jJd)))) jKb)))))
   (jJi (jJy (jJc 1)))))
theorem kUg(T:Txt K mg):Cal P w K mg base 1 "_law_reached" ["_law_web_here","_law_room"] jU8:=
 cal3 T.f_l_reached kJp λ_ _ _ _ _ _ _ hr hu nd=>
  (jJe (jJ1 (i:=2) nd (jQq (jJa (jJc 1) jJd)))
   (jJe (jJ1 (i:=3) nd jJk)
   (jJe (kVn lJy (jKr o_lt (jJc 3) (jJp jKp (by rfl) T.n_len lJu (jJa (jJc 2) jJd)) (jJr _)) (jJe (jKu lJy rfl (jUt (e_ix (ix_F hu) (jJc 0) (e_ix (ix_F hu) (jJc 2) (jJc 3) (λ_ _=>rfl)) (λ_ _=>rfl))) (jUw rfl (jJt (jJo (i:=4) nd) (jJt (jJo (i:=5) nd) jQc))) (jJi (s_if (jKr (kUk hu) (jJc 4) (jJc 2) (jJr _)) (jJi (jQz (e_bm lK0 lVa lVb jQb (jJc 2) (jJa (jJc 4) jJd)))) jKb)))
   (jJi (jJ1 (i:=3) nd (e_op o_addF (jJc 3) jJk)))))
   (jJi (jJy (jJc 2))))))
theorem kUf(T:Txt K mg):Cal P w K mg base 2 "_law_sheeted" ["_law_web_here","_law_turns","_law_many"] jU7:=
 cal3 T.f_l_sheeted kJo λ_ _ _ _ _ _ _ hr hu nd=>
  (jJe (kYh (i:=3) (mask:=[fF,fF,fF,fF,fF,fF,fF,fF,fF,fF,tT,fF]) rfl nd ⟨rfl,rfl,rfl,rfl,rfl,rfl,rfl⟩ (jJ6 rfl T.n_range (jJa (e_op jQ6 (jJc 2) (jJp jKp (by rfl) T.n_len lJu (jJa (jJc 0) jJd))) jJd)) jKn (λC fp s H=>(jJo (i:=10) nd)) (λC fp s H=>jQ3) (λC fp s H=>(e_op jQ6 (jQq (jJa jYj jJd)) (jJp jKp (by rfl) T.n_len lJu (jJa (e_ix (ix_F hu) (jJc 0) (e_op jYc (jJc 10) (jJp jKp (by rfl) T.n_len lJu (jJa (jJc 0) jJd))) (λ_ _=>rfl)) jJd)))))
   (jJe (jKu lJy rfl (kUr rfl T.n_enumerate rfl (jJa (jJu (kUh T) (hr.mono (by decide)) (jJa (jJc 0) jJd)) jJd)) (jUw rfl (jJt (jJo (i:=4) nd) (jJt (jUw rfl (jJt (jJo (i:=5) nd) (jJt (jJo (i:=6) nd) jQc))) jQc))) (jJi (jKu lJy rfl (jJ6 rfl T.n_range (jJa (jJc 2) jJd)) (jJo (i:=7) nd) (jJe (jJ1 (i:=8) nd (e_op o_addF (e_ix (ix_F hu) (jJc 5) jJk (λ_ _=>rfl)) (e_op jQ6 (jJc 7) (jJp jKp (by rfl) T.n_len lJu (jJa (jJc 0) jJd)))))
   (jJe (jJ1 (i:=9) nd (e_op o_addF (e_ix (ix_F hu) (jJc 6) jJk (λ_ _=>rfl)) (e_op jQ6 (e_ix (ix_F hu) (e_ix (ix_F hu) (jJc 1) (jJc 4) (λ_ _=>rfl)) (jJc 7) (λ_ _=>rfl)) (jJp jKp (by rfl) T.n_len lJu (jJa (jJc 0) jJd)))))
   (jJe (jXk (jQd (jJa (jJc 9) (jJa (e_ix (ix_F hu) (jJc 6) jJk (λ_ _=>rfl)) jJd))) (jXw (e_ix (ix_F hu) (jJc 3) (jJc 8) (λ_ _=>rfl)) (e_ix (ix_F hu) (jJc 5) jJk (λ_ _=>rfl)) (s_F hu)))
   (jJi (jXk (jQd (jJa (jJc 8) (jJa (e_ix (ix_F hu) (jJc 5) jJk (λ_ _=>rfl)) jJd))) (jXw (e_ix (ix_F hu) (jJc 3) (jJc 9) (λ_ _=>rfl)) (e_ix (ix_F hu) (jJc 6) jJk (λ_ _=>rfl)) (s_F hu))))))))))
   (jJi (jJy (jJ4 jQe (by rfl) T.n_tuple rfl (jJa (jUh (mask:=[fF,fF,fF,fF,fF,fF,fF,fF,fF,fF,fF,tT]) rfl ⟨rfl,rfl,rfl,rfl,rfl,rfl,rfl⟩ (jUt (jJc 3)) jKn (λC fp s H=>(jJo (i:=11) nd)) (λC fp s H=>jQ3) (λC fp s H=>(jJ4 jQe (by rfl) T.n_tuple rfl (jJa (jJc 11) jJd)))) jJd))))))
theorem qQs(T:Txt K mg):Cal P w K mg base 2 "_law_turn" ["_law_box_here","_law_many","_law_own"] jZi:=
 cal3 T.f_l_turn kVt λ_ _ _ _ _ _ _ hr hu nd=>
  (jJe (jJ1 (i:=3) nd (jQq jJd))
   (jJe (jKu lJy rfl (jJ6 rfl T.n_range (jJa (jJc 1) jJd)) (jJo (i:=4) nd) (jJi (jQz (e_bm lK0 PySem.F.slot_list_insert PySem.F.type_list_insert kYs (jJc 3) (jJa (jJu (jJz T) (hr.mono (by decide)) (jJa (jJc 0) (jJa (e_op o_addF (jJc 4) jJk) jJd))) (jJa (jJc 4) jJd))))))
   (jJe (s_if (kQ1 (uJk kVf (jJc 2))) (jJi (jJy (jJ4 jQe (by rfl) T.n_tuple rfl (jJa (jJc 3) jJd)))) jKb)
   (jJe (jJ1 (i:=5) nd (kJe rfl T.n_list rfl T.n_range rfl (jJa (jJc 1) jJd)))
   (jJe (jKu lJy rfl (qYk rfl T.n_range (jJa jJk (jJa (e_op uJ8 (jJc 1) jJk) (jJa jJk jJd)))) (jJo (i:=4) nd) (jJe (uQ8 (i:=6) (j:=7) rfl nd (by decide) (jJa (e_ix (ix_F hu) (jJc 3) (jJc 4) (λ_ _=>rfl)) (jJa (e_ix (ix_F hu) (jJc 3) (e_op o_addF (jJc 4) jJk) (λ_ _=>rfl)) jJd)))
   (jJe (jXk (jJc 7) (jXw (jJc 5) (jJc 6) (s_F hu)))
   (jJi (jXk (jJc 6) (jXw (jJc 5) (jJc 7) (s_F hu)))))))
   (jJi (jJy (jJ4 jQe (by rfl) T.n_tuple rfl (jJa (jJc 5) jJd)))))))))
theorem kUi(T:Txt K mg):Cal P w K mg base 3 "_law_covered" ["_law_box_here","_law_web_here","_law_many"] jU9:=
 cal3 T.f_l_covered kJq λ_ _ _ _ _ _ _ hr hu nd=>
  (jJe (jKu lJy rfl (jJ6 rfl T.n_range (jJa jJk jJd)) (jJo (i:=3) nd) (jJe (kYh (i:=4) (mask:=[fF,fF,fF,fF,fF,fF,tT]) rfl nd ⟨rfl,rfl,rfl,rfl,rfl,rfl,rfl⟩ (jUt (jJu (kUh T) (hr.mono (by decide)) (jJa (jJc 1) jJd))) jKn (λC fp s H=>(jJo (i:=6) nd)) (λC fp s H=>jQ3) (λC fp s H=>(jJu (qQs T) (hr.mono (by decide)) (jJa (jJc 0) (jJa (jJc 2) (jJa (qJx (jZ1 hr.units) (e_ix (ix_F hu) (jJc 6) jJk (λ_ _=>rfl)) (e_ix (ix_F hu) (jJc 6) jJk (λ_ _=>rfl)) (jJr _)) jJd))))))
   (jJe (jJ1 (i:=5) nd (jJu (kUf T) (hr.mono (by decide)) (jJa (jJc 1) (jJa (jJc 4) (jJa (jJc 2) jJd)))))
   (jJi (s_if (jKr (jZ1 hr.units) (jJp jKp (by rfl) T.n_len lJu (jJa (jJu (kUg T) (hr.mono (by decide)) (jJa (jJc 5) (jJa jJk jJd))) jJd)) (jJp jKp (by rfl) T.n_len lJu (jJa (jJc 5) jJd)) (jJr _)) (jJi (jJy (jJc 5))) jKb)))))
   (jJi (jJy (jJc 1))))
theorem kUj(T:Txt K mg):Cal P w K mg base 4 "_law_any_web" ["_law_box_here"] jVa:=
 cal3 T.f_l_any_web kJr λ_ _ _ _ _ _ _ hr hu nd=>
  (jJe (jJ1 (i:=1) nd (jJu (jJz T) (hr.mono (by decide)) (jJa (jJc 0) (jJa jJk jJd))))
   (jJe (s_if (jKr (jZ1 hr.units) (jJc 1) jJk (jJr _)) (jJi (jJy (jJu (kQc T) (hr.mono (by decide)) (jJa (jJc 0) (jJa (e_op o_addF jJk (jJu (jJz T) (hr.mono (by decide)) (jJa (jJc 0) (jJa jJk jJd)))) (jJa (e_op o_addF jJk (jJu (jJz T) (hr.mono (by decide)) (jJa (jJc 0) (jJa jJk jJd)))) jJd)))))) jKb)
   (jJe (s_if (jKr o_lt (jJc 1) jJk (jJr _)) (jJi (jJy (jJu (kQc T) (hr.mono (by decide)) (jJa (jJc 0) (jJa (e_op o_addF jJk (jJu (jJz T) (hr.mono (by decide)) (jJa (jJc 0) (jJa jJk jJd)))) (jJa (e_op o_addF jJk (jJu (jJz T) (hr.mono (by decide)) (jJa (jJc 0) (jJa jJk jJd)))) jJd)))))) jKb)
   (jJe (s_if (jKr (jZ1 hr.units) (jJc 1) jJk (jJr _)) (jJi (jJy (jJu (qQt T) (hr.mono (by decide)) (jJa (e_op o_addF jJk (jJu (jJz T) (hr.mono (by decide)) (jJa (jJc 0) (jJa jJk jJd)))) jJd)))) jKb)
   (jJe (jJ1 (i:=2) nd (jJu (kQc T) (hr.mono (by decide)) (jJa (jJc 0) (jJa (e_op o_addF jJk (jJu (jJz T) (hr.mono (by decide)) (jJa (jJc 0) (jJa jJk jJd)))) (jJa (e_op o_addF jJk (jJu (jJz T) (hr.mono (by decide)) (jJa (jJc 0) (jJa jJk jJd)))) jJd)))))
   (jJe (jJ1 (i:=3) nd (e_op o_addF jJk (jJu (jJz T) (hr.mono (by decide)) (jJa (jJc 0) (jJa (e_ix (ix_F hu) (jQq (jJa jJk (jJa jJk (jJa jJk (jJa jJk jJd))))) (e_op uJ8 (jJp jKp (by rfl) T.n_len lJu (jJa (jJc 2) jJd)) jJk) (λ_ _=>rfl)) jJd)))))
   (jJi (jJy (jJu (kUi T) (hr.mono (by decide)) (jJa (jJc 0) (jJa (jJc 2) (jJa (jJc 3) jJd))))))))))))
theorem qXv(T:Txt K mg):Cal P w K mg base 2 "_law_way" ["_law_box_here","_law_web_here","_law_room","_law_most"] jXf:=
 cal3 T.f_l_way qJc λ_ _ _ _ _ _ _ hr hu nd=>
  (jJe (jJ1 (i:=4) nd (jQq jJd))
   (jJe (jKu lJy rfl (jJ6 rfl T.n_range (jJa (jJu (jJz T) (hr.mono (by decide)) (jJa (jJc 0) (jJa (e_op o_addF (jJc 3) jJk) jJd))) jJd)) (jJo (i:=5) nd) (jJi (s_if (jKr o_gt (jJp jKp (by rfl) T.n_len lJu (jJa (e_ix (ix_F hu) (jJc 1) (jJc 2) (λ_ _=>rfl)) jJd)) jJk (jJr _)) (jJe (jQz (e_bm lK0 lVa lVb jQb (jJc 4) (jJa (jJu (jJz T) (hr.mono (by decide)) (jJa (jJc 0) (jJa (jJp jKp (by rfl) T.n_len lJu (jJa (e_ix (ix_F hu) (jJc 1) (jJc 2) (λ_ _=>rfl)) jJd)) jJd))) jJd)))
   (jJi (jJ1 (i:=2) nd (e_ix (ix_F hu) (e_ix (ix_F hu) (e_ix (ix_F hu) (jJc 1) (jJc 2) (λ_ _=>rfl)) (e_ix (ix_F hu) (jJc 4) (e_un uJd jJk) (λ_ _=>rfl)) (λ_ _=>rfl)) jJk (λ_ _=>rfl))))) jKb)))
   (jJi (jJy (jJ4 jQe (by rfl) T.n_tuple rfl (jJa (jJc 4) jJd))))))
theorem jZy(T:Txt K mg):Cal P w K mg base 1 "_law_none_ahead" ["_law_web_here","_law_room","_law_goal","_law_least"] jKk:=
 cal3 T.f_l_none_ahead jX7 λ_ _ _ _ _ _ _ hr hu nd=>
  (jJe (jJ1 (i:=4) nd (jQq (jJa (jQd (jJa (jQd jJd) (jJa (jJc 1) jJd))) jJd)))
   (jJe (jKu lJy rfl (jJ6 rfl T.n_range (jJa (e_op qZs (jJp jKp (by rfl) T.n_len lJu (jJa (jJc 3) jJd)) jJk) jJd)) (jJo (i:=5) nd) (jJe (jKu lJy rfl (jUt (jJc 4)) (jUw rfl (jJt (jJo (i:=6) nd) (jJt (jJo (i:=7) nd) jQc))) (jJi (s_if (PW3.pt (uV3 (jKr (jZ1 hr.units) (jJc 7) (jJc 2) (jJr _)) (uQp (PW3.pt (w_or (jKr (uUx hu) (jJp jKp (by rfl) T.n_len lJu (jJa (jJc 6) jJd)) (jJp jKp (by rfl) T.n_len lJu (jJa (jJc 3) jJd)) (jJr _)) (kZz (jKr (uUx hu) (jJc 6) (jJc 3) (jJr _)))))))) (jJi (jJy e_bl)) jKb)))
   (jJe (jJ1 (i:=8) nd (jQq jJd))
   (jJe (jKu lJy rfl (jUt (jJc 4)) (jUw rfl (jJt (jJo (i:=6) nd) (jJt (jJo (i:=7) nd) jQc))) (jJi (jQz (e_bm lK0 mJn mJo kQe (jJc 8) (jJa (jUh (mask:=[fF,fF,fF,fF,fF,fF,fF,fF,fF,tT,tT]) rfl ⟨rfl,rfl,rfl,rfl,rfl,rfl,rfl⟩ (qJu rfl T.n_enumerate rfl (jJa (e_ix (ix_F hu) (jJc 0) (jJc 7) (λ_ _=>rfl)) jJd)) (qZ1 (kQh jKn jYi (kQh jKn jYi qZ2 kZb) (qUl jYi kZb))) (λC fp s H=>(jUw rfl (jJt (jJo (i:=9) nd) (jJt (jJo (i:=10) nd) jQc)))) (λC fp s H=>jQ3) (λC fp s H=>(jQd (jJa (e_op qZs (jJc 6) (jQd (jJa (jJc 9) jJd))) (jJa (e_ix (ix_F hu) (jJc 10) jJk (λ_ _=>rfl)) jJd))))) jJd)))))
   (jJe (s_if (PW3.pt (w_or (jKr (jZ1 hr.units) (jJc 5) (jJp jKp (by rfl) T.n_len lJu (jJa (jJc 3) jJd)) (jJr _)) (kZz (jKr o_gt (jJp jKp (by rfl) T.n_len lJu (jJa (jJc 8) jJd)) jJk (jJr _))))) (jJi (jJy e_bl)) jKb)
   (jJi (jJ1 (i:=4) nd (jJc 8))))))))
   (jJi (jJy e_bl))))
theorem kJt(T:Txt K mg):Cal P w K mg base 6 "_law_one_right" ["_law_box_here","_law_web_here","_law_room","_law_goal"] jQ8:=
 cal3 T.f_l_one_right jYr λ_ _ _ _ _ _ _ hr hu nd=>
  (jJe (jJ1 (i:=4) nd (jJu (jVj T) (hr.mono (by decide)) (jJa (jJc 1) (jJa (jJc 2) jJd))))
   (jJe (jJ1 (i:=5) nd (jJu (kV4 T) (hr.mono (by decide)) (jJa (jJc 1) (jJa (jJc 2) (jJa (jJc 4) (jJa jJk jJd))))))
   (jJe (s_if (PW3.pt (w_or (jKr uUw (jJu (qQu T) (hr.mono (by decide)) (jJa (jJc 4) jJd)) e_bl (jJr _)) (w_or (jKr qXx (jJc 5) jYj (jJr _)) (kZz (jKr (kUl hr.units) (jJu (jXq T) (hr.mono (by decide)) (jJa (jJc 1) (jJa (jJc 5) jJd))) (jJc 4) (jJr _)))))) (jJi (jJy e_bl)) jKb)
   (jJe (jJ1 (i:=6) nd (jJu (qXv T) (hr.mono (by decide)) (jJa (jJc 0) (jJa (jJc 1) (jJa (jJc 2) (jJa jJk jJd))))))
   (jJe (s_if (PW3.pt (w_or (jKr (kUl hr.units) (jJu (qQr T) (hr.mono (by decide)) (jJa (jJc 1) (jJa (jJc 2) (jJa (jJc 6) jJd)))) (jJu (qQr T) (hr.mono (by decide)) (jJa (jJc 4) (jJa jJk (jJa (jJc 6) jJd)))) (jJr _)) (kZz (jKr (kUl hr.units) (e_ix (ix_F hu) (jJc 5) (e_ix (ix_F hu) (jJu (jZz T) (hr.mono (by decide)) (jJa (jJc 1) (jJa (jJc 2) (jJa (jJc 6) jJd)))) jJk (λ_ _=>rfl)) (λ_ _=>rfl)) (e_ix (ix_F hu) (jJu (jZz T) (hr.mono (by decide)) (jJa (jJc 4) (jJa jJk (jJa (jJc 6) jJd)))) jJk (λ_ _=>rfl)) (jJr _))))) (jJi (jJy e_bl)) jKb)
   (jJe (s_if (jKr (kUl hr.units) (e_ix (ix_F hu) (jJu (jZz T) (hr.mono (by decide)) (jJa (jJc 4) (jJa (e_ix (ix_F hu) (jJu (jZz T) (hr.mono (by decide)) (jJa (jJc 4) (jJa jJk (jJa (jJc 6) jJd)))) jJk (λ_ _=>rfl)) (jJa (jJu (kV7 T) (hr.mono (by decide)) (jJa (jJc 4) (jJa jJk (jJa (jJc 6) jJd)))) jJd)))) jJk (λ_ _=>rfl)) jJk (jJr _)) (jJi (jJy e_bl)) jKb)
   (jJe (jJ1 (i:=7) nd (jJu (kUe T) (hr.mono (by decide)) (jJa (jJc 1) (jJa (jJc 2) (jJa (jJc 3) jJd)))))
   (jJe (s_if (PW3.pt (w_or (jKr (kUl hr.units) (e_ix (ix_F hu) (jJu (jZz T) (hr.mono (by decide)) (jJa (jJc 1) (jJa (jJc 2) (jJa (jJc 7) jJd)))) jJk (λ_ _=>rfl)) (jJc 3) (jJr _)) (w_or (jKr (kUl hr.units) (jJu (kUe T) (hr.mono (by decide)) (jJa (jJc 4) (jJa jJk (jJa (e_ix (ix_F hu) (jJc 5) (jJc 3) (λ_ _=>rfl)) jJd)))) (jJc 7) (jJr _)) (kZz (jKr o_gt (jJp jKp (by rfl) T.n_len lJu (jJa (jJc 7) jJd)) (jJp jKp (by rfl) T.n_len lJu (jJa (jJc 1) jJd)) (jJr _)))))) (jJi (jJy e_bl)) jKb)
   (jJi (jJy (jJu (jZy T) (hr.mono (by decide)) (jJa (jJc 1) (jJa (jJc 2) (jJa (jJc 3) (jJa (jJc 7) jJd)))))))))))))))
variable {f:Addr}
theorem uUu(T:Txt K mg){fd:FuncData}(F:Fun K "law" "law" (top 37) f fd):Fn3 P w K mg base 7 f fd ["_law_script"] qKp:=by
 have S:FnScope uVy ["_law_script"] (jKa (top 37)):=⟨rfl,rfl,rfl,by decide +kernel,rfl,by decide +kernel,by decide +kernel⟩
 refine fn3 F S λcdv A outer s H E hr=>⟨kYm,?_,qXi⟩
 have hu:=uVg hr;have nd:=S.nd
 exact (jJe (jJ1 (i:=1) nd (jJu (kV6 T) (hr.mono (by decide)) (jJa (jJc 0) (jJa jJk jJd))))
   (jJe (jKu lJy rfl (jJ6 rfl T.n_range (jJa (jJp (uX6 rfl) (by rfl) T.n_max rfl (jJa jJk (jJa (jJp jKp (by rfl) T.n_len lJu (jJa (jJc 1) jJd)) jJd))) jJd)) (jJo (i:=2) nd) (jJe (jJ1 (i:=3) nd (jJu (qXw T) (hr.mono (by decide)) (jJa (jJc 1) (jJa (jJc 2) jJd))))
   (jJe (jJ1 (i:=4) nd (jJu (kUj T) (hr.mono (by decide)) (jJa (jJc 3) jJd)))
   (jJe (uQ8 (i:=5) (j:=6) rfl nd (by decide) (jJa (jQq jJd) (jJa (jQq jJd) jJd)))
   (jJe (jKu lJy rfl (jUt (jJu (uJ5 T) (hr.mono (by decide)) (jJa (jJc 4) jJd))) (jJo (i:=7) nd) (jJi (jQz (e_bm lK0 mJn mJo kQe (jJc 5) (jJa (uKz rfl hu (by rfl) T.n_sorted rfl (by rfl) T.n_set rfl (jJa (jJc 7) jJd)) jJd)))))
   (jJe (jKu lJy rfl (jJ6 rfl T.n_range (jJa (jJp jKp (by rfl) T.n_len lJu (jJa (jJc 4) jJd)) jJd)) (jJo (i:=8) nd) (jJi (jQz (e_bm lK0 mJn mJo kQe (jJc 6) (jJa (jUh (mask:=[fF,fF,fF,fF,fF,fF,fF,fF,fF,fF,tT]) rfl ⟨rfl,rfl,rfl,rfl,rfl,rfl,rfl⟩ (jJ6 rfl T.n_range (jJa (jJp jKp (by rfl) T.n_len lJu (jJa (e_ix (ix_F hu) (jJc 4) (jJc 8) (λ_ _=>rfl)) jJd)) jJd)) jKn (λC fp s H=>(jJo (i:=10) nd)) (λC fp s H=>jQ3) (λC fp s H=>(jQd (jJa (jJc 8) (jJa (jJc 10) jJd))))) jJd)))))
   (jJe (s_if (jKr (kUl hr.units) (jJp (uQc hu) (by rfl) T.n_sorted rfl (jJa (jJc 5) jJd)) (jJc 6) (jJr _)) (jJi (jJy e_bl)) jKb)
   (jJi (jKu lJy rfl (jJ6 rfl T.n_range (jJa jJk jJd)) (jJo (i:=9) nd) (jJi (s_if (kQ1 (kZ4 (jJu (kJt T) (hr.mono (by decide)) (jJa (jJc 3) (jJa (jJc 4) (jJa (jJu (jJz T) (hr.mono (by decide)) (jJa (jJc 3) (jJa (jJp jKp (by rfl) T.n_len lJu (jJa (jJc 4) jJd)) jJd))) (jJa (jJu (jJz T) (hr.mono (by decide)) (jJa (jJc 3) (jJa (jJp jKp (by rfl) T.n_len lJu (jJa (jJc 4) jJd)) jJd))) jJd))))))) (jJi (jJy e_bl)) jKb)))))))))))
   (jJi (jJy e_bl))))
def uJo(K:PySem.W.Frag):Sp:=dn K 1 qKp
theorem fn_at{h:Heap}{oc:Value}{od an:Option Addr}{osl:Array (Option Value)}{kV doc pm cdv ct:Value}(X:K.In h)(G:h.Ns mainGlobals mg)(a:PySem.W.nsIn K mainGlobals x=some (some (.ref f)))(l:K.lookup f=some ⟨oc,od,.func (PySem.W.fnOf x x (jYk (top i)) (jUy (top i)) (jKa (top i)) .none kV doc pm an cdv ct),osl⟩)(c:PySem.W.codeIn K cdv x=true)(k:PySem.W.keepIn K (.ref f)=true):FnAt K mg x i:=⟨f,_,PySem.W.mg_of X G a,uVh l c k⟩
variable {l:PySem.W.OpenLaw}
theorem all_mk{fa:Addr}(hfa:mg "law"=some (.ref fa))(T:Txt K mg):
  ∃fd:FuncData,(∀(s:Shared)(v:Value),BindsTo s fd ⟨[v],[]⟩ [("_law_script",v)])/\∀base:Heap,K.In base->base.Ns mainGlobals mg->FnOk l.prog w K mg base CX0 7 fa fd ["_law_script"] (uJo K):=by
 obtain⟨f,fd,a,F⟩:=T.f_law;cases hfa.symm.trans a;refine⟨fd,λs v=> ?_,λbase _ _=>uUu T F⟩
 obtain⟨_,_,kV,doc,pm,an,cdv,ct,_,e,_⟩:=F.ex;subst e;exact .of_eq rfl
theorem uXv{H:Hp}{a:Addr}{xs:List V}(hO:Only H)(hS:SqL K H a xs):FrL K H a xs:=by
 rcases hS with h | h
 .rcases h with h | ⟨ob,h⟩
  .rcases hO a with z | ⟨o,ys,z⟩
   .rw[z] at h;cases h
   .rw[z] at h;cases h
  .exact .inl ⟨ob,h⟩
 .exact .inr h
theorem jQ0{K:PySem.W.Frag}{H:Hp}:∀ns:List Int,Reps K H (jQk ns) (ns.map V.int)
 | []=>rfl
 | n::ns=>⟨_,_,rfl,rfl,jQ0 ns⟩
theorem walk{q:Program}{loose:List Str}{XP:(Str->Option Value)->Heap->Prop}{YP:World->Heap->Prop}{d:DefRec}{K:Params->PySem.W.Frag}(hn:l.most=some 63)(hdf:d.params.defaults=[])(hY:∀(w:World)(h:Heap),YP w h->(K w.params).In h)(F:∀(w:World)(mg:Str->Option Value)(fa:Addr)(h:Heap),(K w.params).In h->h.Ns mainGlobals mg->mg d.name=some (.ref fa)->
   ∃fd:FuncData,(∀(s:Shared)(u:Value),BindsTo s fd ⟨[u],[]⟩ [("_law_script",u)])/\∀base:Heap,(K w.params).In base->base.Ns mainGlobals mg->FnOk l.prog w (K w.params) mg base CX0 7 fa fd ["_law_script"] (uJo (K w.params))):
  PySem.W.WalkO q loose XP YP l.row.toRowW d [] (λf vs=>PySem.call f vs):=
 L2.walk_of (n:=63) (k:=7) (x:="_law_script") (CX:=λ_=>CX0) (sp:=λw=>uJo (K w.params)) hn (by decide) hdf ⟨rfl,rfl,by decide,by decide⟩ hY F
  (λ_ _ a ns hl hO hS=>⟨rfl,[.scr (jQk ns)],λ_=>none,⟨_,_,rfl,⟨a,_,rfl,uXv hO hS,jQ0 ns⟩,rfl⟩,(λ_ _ h=>nomatch h),ns,rfl,hl,λG' v H' _ _ r=>r⟩) λ_ _ _ _ _ z=>z
end W
inductive PySem.W.Fast:Prop|tw10771111805232740528|tw17592805681656677820|tw10413159613599561779|tw13031966143430700609|tw2331395371150143085|tw9147016886464485570|tw1277327885055987755|tw16436572625333589844|tw14852942519649732482|tw11580811528196307299|tw11536193852511414961|tw13082528116548974296|tw5397569503817092959|tw9437119607250420443|tw719498049185381904|tw2524553229784638285|tw12442651901686761944|tw16068184549163845375|tw13711141578339736601|tw9530944231183683642|tw14802937091766645677|tw9854758780257788758|tw7699517674752319623|tw16993663927151055493|tw2396235205276704978|tw9101007236973613951|tw5433770133750187779|tw9859626821025054696|tw17515776491199149716|tw13094692777669124926|tw12015341406514903861|tw16908176191601240173|tw5064568591694019450|tw3203341527374899654|tw12399155998343028177|tw3933818105108124041|tw11649241924198851887|tw1389412452325536032|tw7080078027170779657|tw1262555831131259043|tw7898526825741294506|tw4430937935764361652|tw8104756420678518261|tw15768064377638547064|tw18084361947146960015|tw9804115943846376290|tw16771810759747795941|tw2964340082685988729|tw329244086192809765|tw7576863161319143771|tw8928017223594252369|tw17089043104215508344|tw15758621698554634901|tw13571870065750752386|tw3654429328619937511|tw9878688130052880853|tw2165215260941035362|tw3399824354409007976|tw18050551265536943692|tw15203342830106707570|tw6086529555450400808|tw9271773064214177430|tw733854259566812894|tw13711484458056866422|tw15259854002944325273|tw12496632286259711240|tw6924163651256439577|tw9608005215250259975|tw323222566959200589|tw2460191976850675273|tw5525635887224763754|tw9088777583596141074|tw1334253079662120861|tw16576566589336833229|tw17207183185244101387|tw11736273788091622355|tw7204281625252100303|tw1404598458209041047|tw7652958240168198790|tw10333524007166963373|tw9057429607112133250|tw9286693494302895177|tw13583414594348586998|tw14976729075467358646|tw699881643827594133|tw13075960376877747234|tw7058665132119390742|tw3766945147897704927|tw10093844460139119763|tw864069265863343616|tw4499811377376255059|tw13278880361735754020|tw1612893470797596817|tw9739804350108741288|tw9267437590787815196|tw11830015849122325917|tw12584996904359048894|tw5319541018226079153|tw16999883071600048545|tw17178898845064295726|tw5812564465812467806|tw10297440984327320156
open PySem PySem.W PyProof.Rows
set_option maxRecDepth 100000 in
set_option maxHeartbeats 0 in
theorem PySem.Challenge.cw_stonewalker_k10_whole_webs_walked_holds : PySem.Challenge.rw_stonewalker_k10_whole_webs_walked.Holds := by
 w_on;o_law;k_head;(case hw=>w_witness2)
 k_fill
 refine W.walk (l:=PySem.Challenge.rw_stonewalker_k10_whole_webs_walked) rfl rfl (fun w h Y=>PySem.W.kIn_of Y) ?F
 case F=>
  intro w mg fa h KX G hmg
  refine W.all_mk hmg ?T
  constructor
  iterate 17 (refine PySem.W.mg_none_of KX G ?_;k_is)
  iterate 35 (refine' W.fn_at KX G ?a ?l ?c ?k;(case a=>k_is);(case l=>k_is);(case c=>k_is);(case k=>k_is))
