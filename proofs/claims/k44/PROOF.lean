import PyProof.Rows.All
import Wide.All
import OpenK.AllK
import Wide.FinOn
import Lean
import PyProof.EqAt
import PyProof.EqKinds
import PyProof.TupleCall
import PySem.Challenge.RW_stonewalker_k44_missed_webs_looked_at
set_option linter.all false
set_option compiler.extract_closed false
set_option bootstrap.genMatcherCode false
set_option genSizeOf false
noncomputable section
def lJa:=@if_neg
def lJb:=@PySem.wpAny_bind
def lJc:=@if_pos
def lJd:=@List.length_map
def lJe:=@PySem.wpAny_pure
def lJf:=@PyProof.Rows.wpS_bind
def lJg:=@PyProof.Rows.wpS_pure
def lJh:=@Nat.le_refl
def lJi:=@PySem.Heap.lt_size
def lJj:=@List.mem_map
def lJk:=@List.getElem?_eq_some_iff
def lJl:=@List.getElem?_eq_getElem
def lJm:=@PySem.Heap.get?_push_of_some
def lJn:=@List.mem_append
def lJo:=@List.map_cons
def lJp:=@List.mem_cons
def lJq:=@decide_eq_true
def lJr:=@Nat.ne_of_lt
def lJs:=@List.mem_of_getElem?
def lJt:=@List.append_assoc
def lJu:=@Bool.false_ne_true
def lJv:=@List.mem_cons_self
def lJw:=@List.mem_cons_of_mem
def lJx:=@List.size_toArray
def lJy:=@decide_eq_false
def lJz:=@List.mem_singleton
def lJ0:=@List.getElem?_map
def lJ1:=@List.map_map
def lJ2:=@PySem.boot_len
def lJ3:=@Option.some.inj
def lJ4:=@List.length_append
def lJ5:=@decide_eq_true_eq
def lJ6:=@Nat.zero_le
def lJ7:=@List.mem_append_right
def lJ8:=@List.length_cons
def lJ9:=@List.getElem?_of_mem
def lKa:=@congrArg
def lKb:=@List.mem_range
def lKc:=@Nat.lt_of_lt_of_le
def lKd:=@PySem.Heap.get?_push_size
def lKe:=@List.length_take
def lKf:=@Array.getElem?_toList
def lKg:=@Array.length_toList
def lKh:=@List.pairwise_append
def lKi:=@if_false
def lKj:=@List.getElem?_eq_none
def lKk:=@List.mem_append_left
def lKl:=@PySem.PassesOwn.never
def lKm:=@if_true
def lKn:=@PyProof.Rows.wpS_modify
def lKo:=@List.all_eq_true
def lKp:=@List.map_append
def lKq:=@PyProof.Rows.wpS_mono
def lKr:=@PyProof.Rows.wpS_forRange
def lKs:=@Bool.false_eq_true
def lKt:=@List.lookup_cons
def lKu:=@Int.eq_ofNat_of_zero_le
def lKv:=@Bool.and_eq_true
def lKw:=@PySem.sizeLine_eq
def lKx:=@Nat.le_trans
def lKy:=@List.not_mem_nil
def lKz:=@PySem.wpAny_holding
def lK0:=@Nat.not_lt_zero
def lK1:=@List.length_range
def lK2:=@Nat.lt_or_eq_of_le
def lK3:=@PySem.wpAny_newObj_type
def lK4:=@List.nodup_cons
def lK5:=@PySem.mem_of_lookup
def lK6:=@List.getElem?_append_left
def lK7:=@Array.getElem?_eq_getElem
def lK8:=@Nat.le_of_lt_succ
def lK9:=@List.take_append_drop
def lQa:=@List.mem_of_mem_take
def lQb:=@List.getElem?_append_right
def lQc:=@PySem.wpAny_rule
def lQd:=@List.append_nil
def lQe:=@List.filterMap_cons
def lQf:=@List.length_drop
def lQg:=@Option.map_eq_some_iff
def lQh:=@List.length_eq_zero_iff
def lQi:=@List.getElem_mem
def lQj:=@PyProof.Rows.wpS_get
def lQk:=@Nat.lt_or_ge
def lQl:=@Nat.ne_of_gt
def lQm:=@List.take_of_length_le
def lQn:=@PySem.wpAny_call_entry
def lQo:=@List.any_cons
def lQp:=@List.length_nil
def lQq:=@Option.map_some
def lQr:=@List.take_succ
def lQs:=@List.mem_of_mem_drop
def lQt:=@Array.toList_append
def lQu:=@PySem.F.plainAttrs_list
def lQv:=@PySem.wpAny_mono
def lQw:=@or_false
def lQx:=@Nat.lt_irrefl
def lQy:=@List.all_cons
def lQz:=@List.take_length
def lQ0:=@List.getElem?_take
def lQ1:=@List.exists_cons_of_length_eq_add_one
def lQ2:=@Nat.succ.inj
def lQ3:=@PySem.call_meets
def lQ4:=@PySem.codeAny_builtin
def lQ5:=@List.ext_getElem?
def lQ6:=@PySem.Around.in1_units
def lQ7:=@PySem.Paired.length
def lQ8:=@List.take_sublist
def lQ9:=@PyProof.Rows.slot_tuple_getitem
def lVa:=@List.find?_cons
def lVb:=@PyProof.Rows.callWith_type1
def lVc:=@Array.getElem?_eq_none
def lVd:=@List.drop_sublist
def lVe:=@Int.emod_nonneg
def lVf:=@PySem.Around.under_plainId
def lVg:=@List.cons.injEq
def lVh:=@List.mem_reverse
def lVi:=@PySem.wpAny_truthy_bool
def lVj:=@PySem.wpAny_field
def lVk:=@PySem.wpAny_typeOf
def lVl:=@PySem.plainId_quiet
def lVm:=@PyProof.Rows.reverseSlice'_eq
def lVn:=@Option.isSome_iff_exists
def lVo:=@Int.emod_lt_of_pos
def lVp:=@Nat.mod_lt
def lVq:=@PySem.F.called_set
def lVr:=@List.drop_of_length_le
def lVs:=@List.take_append_of_le_length
def lVt:=@PySem.wpAny_callSpecial?_slot
def lVu:=@PyProof.Rows.wpS_lift
def lVv:=@decide_eq_false_iff_not
def lVw:=@Classical.byContradiction
def lVx:=@Nat.le_of_lt
def lVy:=@List.getElem?_set_self
def lVz:=@List.map_nil
def lV0:=@Nat.lt_trans
def lV1:=@PySem.Heap.size_push
def lV2:=@Nat.zero_add
def lV3:=@List.nodup_range
def lV4:=@List.pairwise_map
def lV5:=@List.Perm.append_left
def lV6:=@List.map_take
def lV7:=@List.map_congr_left
def lV8:=@PySem.wpAny_loadPart'
def lV9:=@PySem.wpAny_passesOwn
def lXa:=@of_decide_eq_true
def lXb:=@List.getElem?_set_ne
def lXc:=@List.replicate_succ
def lXd:=@List.foldl_cons
def lXe:=@List.nil_append
def lXf:=@Nat.succ_pos
def lXg:=@Nat.add_zero
def lXh:=@List.getElem_of_mem
def lXi:=@List.getElem?_range
def lXj:=@Array.getD_eq_getD_getElem?
def lXk:=@List.getElem?_drop
def lXl:=@PySem.F.slot_list_append
def lXm:=@PySem.F.type_list_append
def lXn:=@List.mem_filter
def lXo:=@PySem.Heap.get?_update_self
def lXp:=@List.flatten_cons
def lXq:=@Nat.succ_le_succ
def lXr:=@Nat.succ_mul
def lXs:=@Nat.add_comm
def lXt:=@List.getElem?_zipWith
def lXu:=@List.zip_cons_cons
def lXv:=@List.all_map
def lXw:=@PySem.Heap.SameBut.update
def lXx:=@List.nodup_append
def lXy:=@List.nodup_nil
def lXz:=@List.reverse_cons
def lX0:=@Bool.or_eq_true
def lX1:=@Nat.le_of_succ_le
def lX2:=@List.filterMap_cons_some
def lX3:=@List.range_succ
def lX4:=@List.length_zip
def lX5:=@List.map_drop
def lX6:=@PySem.Heap.get?_update_ne
def lX7:=@List.eraseIdx_eq_take_drop_succ
def lX8:=@Bool.not_eq_true'
def lX9:=@List.Perm.append_right
def lYa:=@List.drop_eq_getElem_cons
def lYb:=@List.drop_zero
def lYc:=@Int.toNat_of_nonneg
def lYd:=@List.length_filter_le
def lYe:=@PySem.codeAny_mono
def lYf:=@PySem.typeIs_int
def lYg:=@PySem.wpAny_pyIter_list
def lYh:=@PySem.wpAny_attempt
def lYi:=@PySem.wpAny_askSetting
def lYj:=@PySem.intKind_is
def lYk:=@Bool.not_true
def lYl:=@List.mem_filterMap
def lYm:=@List.filterMap_map
def lYn:=@PySem.Heap.get?_update_other
def lYo:=@List.length_set
def lYp:=@Nat.mul_comm
def lYq:=@List.getElem?_zip_eq_some
def lYr:=@Int.toNat_natCast
def lYs:=@PySem.F.slot_tuple_mul
def lYt:=@Nat.lt_trichotomy
def lYu:=@List.getElem_take
def lYv:=@List.contains_iff_mem
def lYw:=@Array.getElem?_setIfInBounds
def lYx:=@Option.some.injEq
def lYy:=@List.perm_middle
def lYz:=@PyProof.Rows.F.plain_set_update_loop
def lY0:=@Nat.le_add_right
def lY1:=@Nat.add_sub_cancel
def lY2:=@List.any_eq_true
def lY3:=@List.perm_append_comm
def lY4:=@List.drop_append_of_le_length
def lY5:=@Nat.add_sub_cancel_left
def lY6:=@List.foldl_append
def lY7:=@List.nodup_iff_pairwise_ne
def lY8:=@Option.bind_some
def lY9:=@List.mem_flatMap
def lZa:=@Int.natCast_nonneg
def lZb:=@List.flatMap_append
def lZc:=@List.filter_cons
def lZd:=@PySem.wpAny_forIn_list
def lZe:=@PySem.wpAny_isInstance
def lZf:=@PyProof.Rows.slicePart_none
def lZg:=@PySem.wpAny_Call_Name_kw
def lZh:=@PySem.wpAny_execs_nil
def lZi:=@PySem.wpAny_standAt
def lZj:=@PySem.wpAny_pyIter_enum
def lZk:=@beq_self_eq_true
def lZl:=@PyProof.Rows.get?_update_seq
def lZm:=@List.of_mem_zip
def lZn:=@PySem.F.slot_tuple_add
def lZo:=@PySem.F.entry_tuple_add
def lZp:=@PySem.F.args_tuple_add_2
def lZq:=@Option.isSome_map
def lZr:=@Nat.lt_of_le_of_lt
def lZs:=@PyProof.Rows.callWith_builtin1
def lZt:=@PySem.sizeLine_eq
def lZu:=@Nat.eq_zero_or_pos
def lZv:=@List.pairwise_iff_getElem
def lZw:=@List.getElem_drop
def lZx:=@List.filterMap_cons_none
def lZy:=@Array.size_setIfInBounds
def lZz:=@PySem.F.slot_list_getattribute
def lZ0:=@List.length_reverse
def lZ1:=@Bool.not_eq_false'
def lZ2:=@Array.size_append
def lZ3:=@Array.toList_reverse
def lZ4:=@List.drop_append
def lZ5:=@List.take_length_add_append
def lZ6:=@Bool.eq_iff_iff
def lZ7:=@List.getElem?_inj
def lZ8:=@List.idxOf_lt_length_of_mem
def lZ9:=@Bool.not_eq_true
def mJa:=@Nat.mul_le_mul_right
def mJb:=@PySem.F.slot_list_extend
def mJc:=@PySem.F.type_list_extend
def mJd:=@PySem.wpAny_specialOf
def mJe:=@PySem.wpAny_pyNext_list_item
def mJf:=@PySem.wpAny_pyNext_list_end
def mJg:=@PySem.noFill_tuple_add
def mJh:=@PySem.wpAny_sequenceKey
def mJi:=@PyProof.Rows.entry_tuple_getitem
def mJj:=@PyProof.Rows.args_tuple_getitem
def mJk:=@PyProof.Rows.assignInOrder_cons
def mJl:=@PySem.wpAny_pyIter_tuple
def mJm:=@PySem.wpAny_comprehension_free
def mJn:=@PySem.typeLookup_type
def mJo:=@PySem.builtinLookup_eq_fast
def mJp:=@PySem.wpAny_ite_split
def mJq:=@PySem.wpAny_setField_rec
def mJr:=@PySem.F.slot_tuple_iterator_next
def mJs:=@List.eq_nil_of_length_eq_zero
def mJt:=@Array.getElem?_eq_some_iff
def mJu:=@PyProof.Rows.F.entry_set_update_loop
def mJv:=@PySem.F.kt_typeCall_dict_1
def mJw:=@Array.perm_iff_toList_perm
def mJx:=@List.getD_eq_getElem?_getD
def mJy:=@PySem.wpAny_letOwnedTupleGo_enum
local macro_rules
 | `(tactic| omega) => `(tactic| lia)
set_option Elab.async false
set_option linter.all false
set_option maxRecDepth 100000
namespace L2
open PySem PySem.Spec PyProof.Rows
abbrev Key:=Sum Int Str
noncomputable def jZb:Key->Value->Bool
 | .inl k,v=>Value.isInt k v
 | .inr x,v=>Value.isStrOf x v
noncomputable def keyH(w:World):Key->Int
 | .inl k=>hashInt k
 | .inr x=>hashStr w x
theorem jJs:∀{k:Key}{v:Value},jZb k v=true->(∃i t,k=Sum.inl i/\v=Value.int i t)\/(∃x t,k=Sum.inr x/\v=Value.str x t)
 | .inl i,v,h=>by
  obtain⟨t,e⟩:=Value.isInt_shape (k:=i) (v:=v) h;exact .inl ⟨i,t,rfl,e⟩
 | .inr x,v,h=>by
  obtain⟨t,e⟩:=Value.isStrOf_shape (x:=x) (v:=v) h;exact .inr ⟨x,t,rfl,e⟩
theorem qU8(i:Int)(t:Tok):jZb (.inl i) (.int i t)=true:=by simp[jZb,Value.isInt]
theorem qU7(x:Str)(t:Tok):jZb (.inr x) (.str x t)=true:=by simp[jZb,Value.isStrOf]
theorem uXd(a b:Int):decide ((Sum.inl a:Key)=Sum.inl b)=(a == b):=by
 by_cases e:a=b
 .subst e;simp
 .have h:¬ (Sum.inl a:Key)=Sum.inl b:=λq=>e (Sum.inl.inj q)
  rw[lJy h];exact (beq_eq_false_iff_ne.mpr e).symm
theorem uXa(a b:Str):decide ((Sum.inr a:Key)=Sum.inr b)=decide (a=b):=by
 by_cases e:a=b
 .subst e;simp
 .have h:¬ (Sum.inr a:Key)=Sum.inr b:=λq=>e (Sum.inr.inj q)
  rw[lJy h,lJy e]
theorem uXc(a:Int)(b:Str):decide ((Sum.inl a:Key)=Sum.inr b)=false:=lJy (λq=>nomatch q)
theorem uXb(a:Str)(b:Int):decide ((Sum.inr a:Key)=Sum.inl b)=false:=lJy (λq=>nomatch q)
noncomputable def jJ8(prog:Program)(w:World):PySem.KeyKind prog w Key where
 is:=jZb
 hash:=keyH w
 inj:=λv a b ha hb=>by
  rcases jJs ha with ⟨i,t,rfl,rfl⟩ | ⟨x,t,rfl,rfl⟩
  .rcases jJs hb with ⟨j,u,rfl,e⟩ | ⟨y,u,rfl,e⟩
   .injection e with e1 _;rw[e1]
   .exact nomatch e
  .rcases jJs hb with ⟨j,u,rfl,e⟩ | ⟨y,u,rfl,e⟩
   .exact nomatch e
   .injection e with e1 _;rw[e1]
 byValue:=λk v h=>by
  rcases jJs h with ⟨i,t,rfl,rfl⟩ | ⟨x,t,rfl,rfl⟩<;>rfl
 pyHash:=λhv h=>by
  rcases jJs hv with ⟨i,t,rfl,rfl⟩ | ⟨x,t,rfl,rfl⟩
  .exact wpAny_pyHash_int h
  .exact wpAny_pyHash_str h
 eqBool:=λhu hv h=>by
  rcases jJs hu with ⟨i,t,rfl,rfl⟩ | ⟨x,t,rfl,rfl⟩
  .rcases jJs hv with ⟨j,u,rfl,rfl⟩ | ⟨y,u,rfl,rfl⟩
   .rw[uXd] at h;exact wpAny_eqBool_int h
   .rw[uXc] at h;exact SeqAt.EqAt.int_str i t y u _ _ _ _ h
  .rcases jJs hv with ⟨j,u,rfl,rfl⟩ | ⟨y,u,rfl,rfl⟩
   .rw[uXb] at h;exact SeqAt.EqAt.str_int x t j u _ _ _ _ h
   .rw[uXa] at h;exact wpAny_eqBool_str h
 «strs» :=λk x t v h=>by
  rcases jJs h with ⟨i,u,rfl,e⟩ | ⟨y,u,rfl,e⟩
  .exact nomatch e
  .injection e with e1 _
   subst e1;cases v<;>rfl
theorem kJ8(prog:Program)(w:World)(i:Int)(t:Tok):(jJ8 prog w).is (.inl i) (.int i t)=true:=qU8 i t
theorem kYd(prog:Program)(w:World)(x:Str)(t:Tok):(jJ8 prog w).is (.inr x) (.str x t)=true:=qU7 x t
end L2
set_option synthInstance.maxSize 1000
namespace L2
open PySem PySem.Spec PyProof.Rows
structure KeyV (prog:Program) (w:World) (K:Type) [DecidableEq K] (c:Nat) where
 is:Heap->K->Value->Prop
 hash:K->Int
 draws:K->Nat
 inj:∀{h:Heap}{v:Value}{x y:K},is h x v->is h y v->x=y
 keeps:∀{h h':Heap}{k:K}{v:Value}{d:Addr}{o:Obj}{es:Array DictEntry}{ep:Nat},is h k v->h.get? d=some o->o.data= .dict es ep->Heap.SameBut d h h'->is h' k v
 hashed:∀{A:Around}{E:Value->Shared->Prop}{s:Shared}{k:K}{v:Value}{Q:Int->Shared->Prop},A.units+c<cLine->is s.heap k v->Q (hash k) {s with toks:=s.toks+draws k}->wpAny (model prog w) A (PySem.pyHash v) Q E s
 eqAt:∀{A:Around}{s:Shared}{x y:K}{u v:Value},A.units+c<cLine->is s.heap x u->is s.heap y v->SeqAt.EqAt A s u v (decide (x=y))
 quiet:∀{A:Around}{E:Value->Shared->Prop}{s:Shared}{k:K}{v:Value}{Q:Bool->Shared->Prop}(n:Nat),c<=n->is s.heap k v->Q true s->wpAny (model prog w) A (eqIsQuiet n v) Q E s
noncomputable def kQo(prog:Program)(w:World):KeyV prog w Key 0 where
 is:=λ_ k v=>jZb k v=true
 hash:=keyH w
 draws:=λ_=>1
 inj:=λhx hy=>(jJ8 prog w).inj _ _ _ hx hy
 keeps:=λx _ _ _=>x
 hashed:=λ_ hv h=>(jJ8 prog w).pyHash hv h
 eqAt:=λ_ hx hy prog' w' _ _ h=>(jJ8 prog' w').eqBool hx hy h
 quiet:=λn _ hv h=>by rw[eqIsQuiet_byValue n ((jJ8 prog w).byValue _ _ hv)];exact lJe h
variable {prog:Program}{w:World}{h h':Heap}{vs:List Value}
section
variable {K:Type}[DecidableEq K]{c:Nat}
inductive ItemsV (V:KeyV prog w K c) (h:Heap):List K->List Value->Prop
 | nil:ItemsV V h [] []
 | cons {k:K} {v:Value} {ks:List K} {vs:List Value}:V.is h k v->ItemsV V h ks vs->ItemsV V h (k::ks) (v::vs)
theorem ItemsV.inj{V:KeyV prog w K c}{x:List K}(hx:ItemsV V h x vs):∀{y:List K},ItemsV V h y vs->x=y:=by
 induction hx with
 | nil=>intro y hy;cases hy;rfl
 | cons a _ ih=>intro y hy;cases hy with | cons b t=>rw[V.inj a b,ih t]
theorem ItemsV.length{V:KeyV prog w K c}{x:List K}(hx:ItemsV V h x vs):x.length=vs.length:=by
 induction hx with
 | nil=>rfl
 | cons _ _ ih=>simp[ih]
theorem ItemsV.get{V:KeyV prog w K c}{x:List K}(hx:ItemsV V h x vs):∀{j:Nat}{v:Value},vs[j]? =some v->∃k,x[j]? =some k/\V.is h k v:=by
 induction hx with
 | nil=>intro j v e;simp at e
 | cons a _ ih=>
  intro j v e;cases j with
  | zero=>simp at e;subst e;exact⟨_,rfl,a⟩
  | succ j=>obtain⟨k,h1,h2⟩:=ih (j:=j) (v:=v) (by simpa using e);exact⟨k,by simpa using h1,h2⟩
theorem ItemsV.keeps{V:KeyV prog w K c}{x:List K}{d:Addr}{o:Obj}{es:Array DictEntry}{ep:Nat}(hx:ItemsV V h x vs)(ho:h.get? d=some o)(hd:o.data= .dict es ep)(hs:Heap.SameBut d h h'):ItemsV V h' x vs:=by
 induction hx with
 | nil=>exact .nil
 | cons a _ ih=>exact .cons (V.keeps a ho hd hs) ih
def kKr(V:KeyV prog w K c)(h:Heap)(ks:List K)(v:Value):Prop:=∃(a:Addr)(o:Obj)(items:Array Value)(n:Nat),v= .ref a/\h.get? a=some o/\o.cls= .type "tuple"/\o.data= .seq items n/\ItemsV V h ks items.toList
theorem uYa:∀(x y:List K),((List.range (min x.length y.length)).all (λj=>decide (x[j]? =y[j]?))&&x.length == y.length)=decide (x=y):=by
 intro x y
 by_cases e:x=y
 .subst e;simp
 .rw[lJy e,Bool.and_eq_false_iff]
  by_cases l:x.length=y.length
  .left
   rw[List.all_eq_false]
   have:∃j:Nat,x[j]? ≠y[j]? :=by
    apply lVw;intro q;exact e (lQ5 λj=>lVw λz=>q ⟨j,z⟩)
   obtain⟨j,hj⟩:=this;refine⟨j,lKb.mpr ?_,by simpa using hj⟩
   rcases lQk j (min x.length y.length) with z | z
   .exact z
   .exact absurd (by rw[lKj (by omega),lKj (by omega)]) hj
  .right;simpa using l
noncomputable def jVt(V:KeyV prog w K c):KeyV prog w (List K) (c+2) where
 is:=kKr V
 hash:=λks=>reduceHash (Builtin.Tuple.tupleHashOf (ks.map V.hash))
 draws:=λks=>(ks.map V.draws).sum+1
 inj:=by
  rintro h v x y ⟨a,o,items,n,rfl,ho,_,hd,hi⟩ ⟨a',o',items',n',e,ho',_,hd',hi'⟩;cases e;rw[ho] at ho';cases ho';rw[hd] at hd';cases hd';exact hi.inj hi'
 keeps:=by
  rintro h h' k v d o es ep ⟨a,o',items,n,rfl,ho',hc,hd',hi⟩ ho hd hs
  have ne:a≠d:=by
   rintro rfl;rw[ho] at ho';cases ho';rw[hd] at hd';cases hd'
  exact⟨a,o',items,n,rfl,(hs.2 a ne).trans ho',hc,hd',hi.keeps ho hd hs⟩
 hashed:=by
  rintro A E s ks v Q hu ⟨a,o,items,n,rfl,ho,hc,hd,hi⟩ h;refine PySem.W.pyHash_slot (T:="tuple") ⟨o,ho,hc⟩ F.slot_tuple_hash F.entry_tuple_hash (F.args_tuple_hash_1 _) (beq_builtin_none _) (.inr (by omega)) ?_
  refine (show wpAny _ _ (Builtin.Tuple.tupleItemsOf (.ref a) >>= _) _ _ s from lJb (wpAny_tupleItemsOf ho hd (lJb ?_)))
  rw[<-Array.forIn_toList];refine lZd _ (λrest (b:Array Int) z=>∃done left,ks=done++left/\ItemsV V s.heap left rest/\b.toList=done.map V.hash/\z={s with toks:=s.toks+(done.map V.draws).sum}) _ ?_ ?_ _ _ ⟨[],ks,rfl,hi,rfl,rfl⟩
  .rintro x rest b z ⟨done,left,rfl,hl,hb,rfl⟩;cases hl with
   | @cons k _ ks' _ h1 hl'=>
    refine lJb (V.hashed (by rw[lQ6];omega) h1 ?_)
    first
     | exact lJe ⟨done++[k],ks',by simp,hl',by simp[hb],(by simp[Nat.add_assoc])⟩
     | exact lJb (lJe (lJe ⟨done++[k],ks',by simp,hl',by simp[hb],(by simp[Nat.add_assoc])⟩))
  .rintro b z ⟨done,left,rfl,hl,hb,rfl⟩;cases hl;rw[lQd] at h;refine (show wpAny _ _ (retInt (Builtin.Tuple.tupleHashOf b.toList)) _ _ _ from ?_)
   rw[hb];exact lJb (wpAny_mkInt (lJe ⟨_,_,rfl,by simpa[Nat.add_assoc] using h⟩))
 eqAt:=by
  rintro A s x y u v hu ⟨a,o,items,n,rfl,ho,hc,hd,hi⟩ ⟨a',o',items',n',rfl,ho',hc',hd',hi'⟩
  by_cases e:a=a'
  .subst e;rw[ho] at ho';cases ho';rw[hd] at hd';cases hd';rw[hi.inj hi',lJq rfl];exact SeqAt.EqAt.same _
  .have R:=SeqAt.RcAt.tuples (A:=A) (s:=s) (l:=a) (b:=a') (e:=λj=>decide (x[j]? =y[j]?)) ⟨o,ho,hc,n,hd⟩ ⟨o',ho',hc',n',hd'⟩ (by omega) (λj j1 j2=> ?_)
   .have l1:=hi.length;have l2:=hi'.length;rw[<-uYa x y,l1,l2];have R':=SeqAt.EqAt.of_refs e R
    simpa using R'
   .obtain⟨k,h1,h2⟩:=hi.get (j:=j) (v:=items[j]) (by simp[j1])
    obtain⟨k',h1',h2'⟩:=hi'.get (j:=j) (v:=items'[j]) (by simp[j2])
    have:=V.eqAt (A:=A.in1) (s:=s) (by rw[lQ6];omega) h2 h2'
    rw[h1,h1']
    simpa using this
 quiet:=by
  rintro A E s ks v Q n hn ⟨a,o,items,m,rfl,ho,hc,hd,hi⟩ h;obtain⟨n,rfl⟩:∃nn,n=nn+1:=⟨n-1,by omega⟩
  have hT:s.TypeIs (.ref a) "tuple":=⟨o,ho,hc⟩;unfold eqIsQuiet;refine lJb (mJd hT F.slot_tuple_eq.lookup ?_);refine (show wpAny _ _ (isInstance (.ref a) (.type "tuple") >>= _) _ _ s from lJb (lZe hT isSubtype_tuple_tuple ?_))
  simp only[lKi,lYk,lKs];refine lJb (wpAny_seqItems ho hd (lJb ?_));refine (show wpAny _ _ (forIn items _ _) _ _ s from ?_)
  rw[<-Array.forIn_toList];refine lZd _ (λrest r z=>r.1=none/\z=s/\∃left,ItemsV V s.heap left rest) _ ?_ ?_ _ _ ⟨rfl,rfl,ks,hi⟩
  .rintro x rest r z ⟨hr,rfl,left,hl⟩;cases hl with
   | cons h1 hl'=>
    refine lJb (V.quiet n (by omega) h1 ?_)
    simp only[lKi,lYk,lKs];exact lJe ⟨rfl,rfl,_,hl'⟩
  .rintro⟨r1,r2⟩ z ⟨hr,rfl,_⟩;simp only at hr;subst hr;exact lJe h
theorem uQ1{α β:Type}[DecidableEq α][DecidableEq β](a b:α):decide ((Sum.inl a:α ⊕ β)=Sum.inl b)=decide (a=b):=by
 by_cases e:a=b
 .simp[e]
 .rw[lJy e,lJy λz=>e (Sum.inl.inj z)]
theorem uQ0{α β:Type}[DecidableEq α][DecidableEq β](a b:β):decide ((Sum.inr a:α ⊕ β)=Sum.inr b)=decide (a=b):=by
 by_cases e:a=b
 .simp[e]
 .rw[lJy e,lJy λz=>e (Sum.inr.inj z)]
noncomputable def qXy(V:KeyV prog w K c):KeyV prog w (Key ⊕ List K) (c+2) where
 is:=λh k v=>match k with
  | .inl k=>jZb k v=true
  | .inr ks=>kKr V h ks v
 hash:=λk=>match k with
  | .inl k=>keyH w k
  | .inr ks=>(jVt V).hash ks
 draws:=λk=>match k with
  | .inl _=>1
  | .inr ks=>(jVt V).draws ks
 inj:=by
  rintro h v (x | x) (y | y) hx hy
  .rw[(jJ8 prog w).inj _ _ _ hx hy]
  .obtain⟨a,_,_,_,rfl,_⟩:=hy
   rcases jJs hx with ⟨i,t,_,e⟩ | ⟨i,t,_,e⟩<;>cases e
  .obtain⟨a,_,_,_,rfl,_⟩:=hx
   rcases jJs hy with ⟨i,t,_,e⟩ | ⟨i,t,_,e⟩<;>cases e
  .rw[(jVt V).inj hx hy]
 keeps:=by
  rintro h h' (k | k) v d o es ep hx ho hd hs
  .exact hx
  .exact (jVt V).keeps hx ho hd hs
 hashed:=by
  rintro A E s (k | k) v Q hu hx h
  .exact (jJ8 prog w).pyHash hx h
  .exact (jVt V).hashed hu hx h
 eqAt:=by
  rintro A s (x | x) (y | y) u v hu hx hy
  .rw[uQ1];exact (kQo prog w).eqAt (by omega) hx hy
  .rw[lJy λz=>nomatch z]
   obtain⟨a,o,items,n,rfl,ho,hc,hd,_⟩:=hy
   rcases jJs hx with ⟨i,t,_,rfl⟩ | ⟨i,t,_,rfl⟩
   .exact SeqAt.EqAt.int_tuple i t ⟨o,ho,hc,n,hd⟩ (by omega)
   .exact SeqAt.EqAt.str_tuple i t ⟨o,ho,hc,n,hd⟩ (by omega)
  .rw[lJy λz=>nomatch z]
   obtain⟨a,o,items,n,rfl,ho,hc,hd,_⟩:=hx
   rcases jJs hy with ⟨i,t,_,rfl⟩ | ⟨i,t,_,rfl⟩
   .exact SeqAt.EqAt.tuple_int i t ⟨o,ho,hc,n,hd⟩ (by omega)
   .exact SeqAt.EqAt.tuple_str i t ⟨o,ho,hc,n,hd⟩ (by omega)
  .rw[uQ0];exact (jVt V).eqAt hu hx hy
 quiet:=by
  rintro A E s (k | k) v Q n hn hx h
  .exact (kQo prog w).quiet n (lJ6 _) hx h
  .exact (jVt V).quiet n hn hx h
end
abbrev K1:=Key ⊕ List Key
abbrev K2:=Key ⊕ List K1
abbrev TKey:=List K2
def vk1(prog:Program)(w:World):KeyV prog w K1 2:=qXy (kQo prog w)
def vk2(prog:Program)(w:World):KeyV prog w K2 4:=qXy (vk1 prog w)
noncomputable def jJu(prog:Program)(w:World):HeapKind prog w TKey where
 is:=λh ks a=>(jVt (vk2 prog w)).is h ks (.ref a)
 hash:=(jVt (vk2 prog w)).hash
 draws:=(jVt (vk2 prog w)).draws
 room:=λA=>A.units+6<cLine
 inj:=λhx hy=>(jVt (vk2 prog w)).inj hx hy
 keeps:=λx ho hd hs=>(jVt (vk2 prog w)).keeps x ho hd hs
 pyHash:=λhu hk h=>(jVt (vk2 prog w)).hashed hu hk h
 eqBool:=λhu hx hy h=>(jVt (vk2 prog w)).eqAt hu hx hy _ _ _ _ h
 quiet:=λhk h=>(jVt (vk2 prog w)).quiet 8 (by decide) hk h
variable {A:Around}
theorem jQh(hu:A.units+20<cLine):(jJu prog w).room A.in1:=by
 show A.in1.units+6<cLine
 rw[lQ6];omega
inductive V where
 | non | bl (b:Bool) | int (i:Int) | str (x:Str) | byt (b:Array UInt8) | flt (b:UInt64) | ref (a:Addr) | ty (n:String)
 deriving DecidableEq
noncomputable def RelV:V->Value->Prop
 | .non,u=>u=Value.none
 | .bl b,u=>u=Value.bool b
 | .int i,u=>∃t,u=Value.int i t
 | .str x,u=>∃t,u=Value.str x t
 | .byt b,u=>∃t,u=Value.bytes b t
 | .flt b,u=>∃t,u=Value.float b t
 | .ref a,u=>u=Value.ref a
 | .ty n,u=>u=Value.type n
abbrev Vals:List V->List Value->Prop:=Paired RelV
variable {us:List Value}
theorem Vals.length{xs:List V}(r:Vals xs us):xs.length=us.length:=lQ7 r
theorem Vals.get:∀{xs:List V}{us:List Value}{i:Nat}{x:V},Vals xs us->xs[i]? =some x->∃u,us[i]? =some u/\RelV x u
 | _,_,_,_,.nil,e=>by simp at e
 | _,_,0,_,.cons r _,e=>by simp at e;subst e;exact⟨_,rfl,r⟩
 | _,_,i+1,x,.cons _ t,e=>by
  obtain⟨u,h1,h2⟩:=Vals.get (i:=i) (x:=x) t (by simpa using e)
  exact⟨u,by simpa using h1,h2⟩
theorem Vals.set{x:V}{u:Value}(r:RelV x u):∀{xs:List V}{us:List Value}(i:Nat),Vals xs us->Vals (xs.set i x) (us.set i u)
 | _,_,_,.nil=> .nil
 | _,_,0,.cons _ t=> .cons r t
 | _,_,i+1,.cons q t=> .cons q (Vals.set r i t)
theorem Vals.append:∀{xs ys:List V}{us ws:List Value},Vals xs us->Vals ys ws->Vals (xs++ys) (us++ws)
 | _,_,_,_,.nil,s=>s
 | _,_,_,_,.cons r t,s=> .cons r (Vals.append t s)
theorem Vals.take:∀{xs:List V}{us:List Value}(n:Nat),Vals xs us->Vals (xs.take n) (us.take n)
 | _,_,0,_=> .nil
 | _,_,_+1,.nil=> .nil
 | _,_,n+1,.cons r t=> .cons r (Vals.take n t)
theorem Vals.drop:∀{xs:List V}{us:List Value}(n:Nat),Vals xs us->Vals (xs.drop n) (us.drop n)
 | _,_,0,r=>r
 | _,_,_+1,.nil=> .nil
 | _,_,n+1,.cons _ t=>Vals.drop n t
def RelO:Option V->Option Value->Prop
 | some v,some u=>RelV v u
 | none,none=>True
 | _,_=>False
def KV{κ:Type}:List (κ×V)->List (κ×Value)->Prop:=Paired λ(p:κ×V)(q:κ×Value)=>p.1=q.1/\RelV p.2 q.2
noncomputable def kV:Key->V
 | .inl i=> .int i
 | .inr x=> .str x
inductive HO where
  | lst (xs:List V)
  | tup (xs:List V)
  | dK (kvs:List (Key×V)) | dT (kvs:List (TKey×V))
  | set (S:Int->Bool) (n:Nat)
  | ins (C dx:Addr) (fs:List (Str×V))
  | own (x:Addr)
  | xd (fs:List (Str×V))
  | met (f x:Addr)
  | rng (lo hi:Int)
  | frz (o:Obj) (u:HO)
  | tbl (ps:Array Value)
  | ext (φ:Heap->Prop)
abbrev Hp:=Addr->Option HO
noncomputable def upd(H:Hp)(a:Addr)(o:HO):Hp:=λb=>if b=a then some o else H b
variable {H:Hp}{a:Addr}{o:HO}
theorem jK9:upd H a o a=some o:=by unfold upd;rw[lJc rfl]
variable {b:Addr}
theorem jKf(h:b≠a):upd H a o b=H b:=by unfold upd;rw[lJa h]
theorem uY7{u:HO}(h:H a=some o)(h':H b=some u)(d:o≠u):a≠b:=by
 intro e;subst e;rw[h] at h';exact d (lJ3 h')
theorem jU1(h:H a=some o)(h':H b=none):a≠b:=by
 intro e;subst e;rw[h] at h';cases h'
def Rk1(H:Hp)(k:K1)(v:V):Prop:=match k with
 | .inl k=>v=kV k
 | .inr ks=>∃p vs,v= .ref p/\H p=some (.tup vs)/\Paired (λk v=>v=kV k) ks vs
def Rk2(H:Hp)(k:K2)(v:V):Prop:=match k with
 | .inl k=>v=kV k
 | .inr ks=>∃p vs,v= .ref p/\H p=some (.tup vs)/\Paired (Rk1 H) ks vs
def TKeyAt(H:Hp)(ks:TKey)(a:Addr):Prop:=∃vs,H a=some (.tup vs)/\Paired (Rk2 H) ks vs
theorem jX4{α β:Type}{F G:α->β->Prop}(f:∀a b,F a b->G a b):∀{l:List α}{m:List β},Paired F l m->Paired G l m
 | _,_,.nil=> .nil
 | _,_,.cons r t=> .cons (f _ _ r) (jX4 f t)
variable {H':Hp}
theorem Rk1.mono(ht:∀b ys,H b=some (.tup ys)->H' b=some (.tup ys))(k:K1)(v:V)(r:Rk1 H k v):Rk1 H' k v:=by
 cases k with
 | inl k=>exact r
 | inr ks=>obtain⟨p,vs,e,h,t⟩:=r;exact⟨p,vs,e,ht _ _ h,t⟩
theorem Rk2.mono(ht:∀b ys,H b=some (.tup ys)->H' b=some (.tup ys))(k:K2)(v:V)(r:Rk2 H k v):Rk2 H' k v:=by
 cases k with
 | inl k=>exact r
 | inr ks=>obtain⟨p,vs,e,h,t⟩:=r;exact⟨p,vs,e,ht _ _ h,jX4 (Rk1.mono ht) t⟩
theorem TKeyAt.mono{ks:TKey}(r:TKeyAt H ks a)(ht:∀b ys,H b=some (.tup ys)->H' b=some (.tup ys)):TKeyAt H' ks a:=by
 obtain⟨vs,h,t⟩:=r;exact⟨vs,ht _ _ h,jX4 (Rk2.mono ht) t⟩
section
variable (P:Program)(w:World)
def TupD(h:Heap)(a:Addr)(items:Array Value):Prop:=∃o,h.get? a=some o/\o.cls= .type "tuple"/\∃n,o.data= .seq items n/\o.dict=none
theorem TupD.is{items:Array Value}(x:TupD h a items):IsTup h a items:=let ⟨o,e,c,n,d,_⟩:=x;⟨o,e,c,n,d⟩
theorem TupD.new(h:Heap)(items:Array Value):TupD (h.push {cls:= .type "tuple",data:= .seq items}) h.objs.size items:=⟨_,lKd _ rfl,rfl,_,rfl,rfl⟩
noncomputable def ObjOk(H:Hp)(h:Heap)(a:Addr):HO->Prop
 | .lst xs=>xs.length<=sizeLine/\∃(its:List Value)(n:Nat),Vals xs its/\h.get? a=some {cls:= .type "list",data:= .seq its.toArray n}
 | .tup xs=>xs.length<=sizeLine/\∃its:List Value,Vals xs its/\TupD h a its.toArray
 | .dK kvs=>kvs.length<=sizeLine/\(a == sysModules)=false/\∃vs,KV kvs vs/\h.DictOf (jJ8 P w) a vs
 | .dT kvs=>kvs.length<=sizeLine/\(a == sysModules)=false/\∃xs:List (TKey×Addr×Value),
   Paired (λ(p:TKey×V)(q:TKey×Addr×Value)=>p.1=q.1/\TKeyAt H p.1 q.2.1/\RelV p.2 q.2.2) kvs xs/\
   ∃o es ep,h.get? a=some o/\o.ExactDict/\o.data= .dict es ep/\es.toList=xs.map (entryOfKey (jJu P w))/\(xs.map (·.1)).Nodup
 | .set S n=>h.SetOf (intKind P w) a S n
 | .ins C dx fs=>H dx=some (.own a)/\fs.length<=1000/\dx≠a/\h.get? a=some (PySem.W.instObj C dx)/\
   ∃mA,h.Ns1 dx mA/\(∀f,RelO (fs.lookup f) (mA f))/\PySem.Within mA (fs.map (·.1))
 | .own _=>∃o,h.get? a=some o
 | .xd fs=>∃mA,h.Ns1 a mA/\∀f,RelO (fs.lookup f) (mA f)
 | .rng lo hi=>∃t u v,h.get? a=some {cls:= .type "range",data:= .fields #[.int lo t,.int hi u,.int 1 v]}
 | .frz o u=>h.get? a=some o/\ObjOk H h a u
 | .tbl ps=>h.get? a=some {cls:= .none,data:= .fields ps}
 | .met f x=>h.get? a=some (PySem.W.methodObj (.ref f) (.ref x))
 | .ext φ=>φ h/\(∃o,h.get? a=some o)/\∀h1 h2:Heap,φ h1->(∀o,h1.get? a=some o->h2.get? a=some o)->φ h2
def HOk(H:Hp)(h:Heap):Prop:=∀a o,H a=some o->ObjOk P w H h a o
end
variable {P:Program}
theorem ObjOk.lt(x:ObjOk P w H h a o):a<h.objs.size:=by
 cases o with
 | lst xs=>obtain⟨_,_,_,_,e⟩:=x;exact lJi e
 | tup xs=>obtain⟨_,_,_,p⟩:=x;exact p.is.lt
 | dK kvs=>obtain⟨_,_,_,_,o,_,_,e,_⟩:=x;exact lJi e
 | dT kvs=>obtain⟨_,_,_,_,o,_,_,e,_⟩:=x;exact lJi e
 | set S n=>obtain⟨o,_,_,_,e,_⟩:=x;exact lJi e
 | ins C dx fs=>obtain⟨_,_,_,e,_⟩:=x;exact lJi e
 | own y=>obtain⟨_,e⟩:=x;exact lJi e
 | xd fs=>obtain⟨_,⟨_,_,_,e,_⟩,_⟩:=x;exact lJi e
 | rng lo hi=>obtain⟨_,_,_,e⟩:=x;exact lJi e
 | frz ob u=>obtain⟨e,_⟩:=x;exact lJi e
 | tbl ps=>exact lJi (show h.get? a=some _ from x)
 | met f y=>exact lJi (show h.get? a=some _ from x)
 | ext φ=>obtain⟨_,⟨_,e⟩,_⟩:=x;exact lJi e
theorem Paired.mapP{α β:Type}{F G:α->β->Prop}:∀{l₁:List α}{l₂:List β},Paired F l₁ l₂->(∀a b,F a b->G a b)->Paired G l₁ l₂
 | _,_,.nil,_=> .nil
 | _,_,.cons r t,f=> .cons (f _ _ r) (Paired.mapP t f)
theorem ObjOk.stay(x:ObjOk P w H h a o)(k:∀b u,(b=a\/H b=some (.own a))->h.get? b=some u->h'.get? b=some u)(ho:∀b,H b=some (.own a)->H' b=some (.own a))(ht:∀b xs,H b=some (.tup xs)->H' b=some (.tup xs)):ObjOk P w H' h' a o:=by
 induction o with
 | lst xs=>obtain⟨z,its,n,r,e⟩:=x;exact⟨z,its,n,r,k _ _ (.inl rfl) e⟩
 | tup xs=>obtain⟨z,its,r,ob,e,c⟩:=x;exact⟨z,its,r,ob,k _ _ (.inl rfl) e,c⟩
 | dK kvs=>obtain⟨z,y,vs,r,ob,es,ep,e,c⟩:=x;exact⟨z,y,vs,r,ob,es,ep,k _ _ (.inl rfl) e,c⟩
 | dT kvs=>
  obtain⟨z,y,xs,r,ob,es,ep,e,c⟩:=x;exact⟨z,y,xs,Paired.mapP r λp q z=>⟨z.1,z.2.1.mono ht,z.2.2⟩,ob,es,ep,k _ _ (.inl rfl) e,c⟩
 | set S n=>obtain⟨ob,es,ep,t,e,c⟩:=x;exact⟨ob,es,ep,t,k _ _ (.inl rfl) e,c⟩
 | ins C dx fs=>
  obtain⟨d,z,ne,e,mA,⟨od,es,ep,e2,c⟩,r⟩:=x;exact⟨ho _ d,z,ne,k _ _ (.inl rfl) e,mA,⟨od,es,ep,k _ _ (.inr d) e2,c⟩,r⟩
 | own y=>obtain⟨ob,e⟩:=x;exact⟨ob,k _ _ (.inl rfl) e⟩
 | xd fs=>obtain⟨mA,⟨od,es,ep,e,c⟩,r⟩:=x;exact⟨mA,⟨od,es,ep,k _ _ (.inl rfl) e,c⟩,r⟩
 | rng lo hi=>obtain⟨t,u,v,e⟩:=x;exact⟨t,u,v,k _ _ (.inl rfl) e⟩
 | frz ob u ih=>obtain⟨e,q⟩:=x;exact⟨k _ _ (.inl rfl) e,ih q⟩
 | tbl ps=>
  have e:h.get? a=some {cls:= .none,data:= .fields ps}:=x;show h'.get? a=some {cls:= .none,data:= .fields ps}
  exact k a _ (.inl rfl) e
 | met f y=>
  have e:h.get? a=some (PySem.W.methodObj (.ref f) (.ref y)):=x;show h'.get? a=some (PySem.W.methodObj (.ref f) (.ref y))
  exact k a _ (.inl rfl) e
 | ext φ=>obtain⟨p,⟨o,e⟩,st⟩:=x;exact⟨st _ _ p λo q=>k _ _ (.inl rfl) q,⟨o,k _ _ (.inl rfl) e⟩,st⟩
theorem HOk.lt(x:HOk P w H h)(e:H a=some o):a<h.objs.size:=(x a o e).lt
theorem HOk.fresh(x:HOk P w H h)(e:h.objs.size<=a):H a=none:=by
 cases q:H a with
 | none=>rfl
 | some u=>exact absurd (lKc (x.lt q) e) (lQx _)
theorem HOk.kept(x:HOk P w H h)(k:∀b u,h.get? b=some u->h'.get? b=some u):HOk P w H h':=λa o e=>
 (x a o e).stay (λb u _ q=>k b u q) (λ_ q=>q) λ_ _ q=>q
theorem HOk.laid(x:HOk P w H h)(k:∀b u,h.get? b=some u->h'.get? b=some u)(hp:h.objs.size<=a)(new:ObjOk P w (upd H a o) h' a o):HOk P w (upd H a o) h':=λb u e=>by
 have hn:=x.fresh hp
 by_cases hb:b=a
 .subst hb;rw[jK9] at e;cases e;exact new
 .rw[jKf hb] at e;exact (x b u e).stay (λc v _ q=>k c v q) (λc q=>by rw[jKf (jU1 q hn)];exact q) λc xs q=>by rw[jKf (jU1 q hn)];exact q
def Rd(H:Hp)(a:Addr)(u:HO):Prop:=H a=some u\/∃o,H a=some (.frz o u)
theorem Rd.ok{u:HO}(r:Rd H a u)(x:HOk P w H h):ObjOk P w H h a u:=by
 rcases r with r | ⟨o,r⟩
 .exact x a u r
 .obtain⟨_,q⟩:=x a _ r;exact q
def Mut:Option HO->Prop
 | some (.lst _)=>True
 | some (.dK _)=>True
 | some (.dT _)=>True
 | some (.set _ _)=>True
 | some (.ins _ _ _)=>True
 | some (.ext _)=>True
 | _=>False
section
variable {x e:Addr}{o':HO}
theorem HOk.write(ok:HOk P w H h)(mu:Mut (H x))(he:e=x\/H e=some (.own x))(k:∀b u,b≠e->h.get? b=some u->h'.get? b=some u)(heo:∃u,h'.get? e=some u)(new:ObjOk P w (upd H x o') h' x o'):HOk P w (upd H x o') h':=λb u q=>by
 have nown:∀c y,H c=some (.own y)->c≠x:=λc y r z=>by subst z;rw[r] at mu;exact mu
 have ntup:∀c xs,H c=some (.tup xs)->c≠x:=λc xs r z=>by subst z;rw[r] at mu;exact mu
 by_cases hb:b=x
 .subst hb;rw[jK9] at q;cases q;exact new
 .rw[jKf hb] at q
  by_cases hbe:b=e
  .have q':H b=some (.own x):=by
    rcases he with z | z
    .exact absurd (hbe.trans z) hb
    .rw[hbe];exact z
   rw[q] at q';cases q';obtain⟨v,hv⟩:=heo;exact⟨v,by rw[hbe];exact hv⟩
  .refine (ok b u q).stay (λc v hc r=>k c v ?_ r) (λc r=>by rw[jKf (nown c b r)];exact r) λc xs r=>by rw[jKf (ntup c xs r)];exact r
   rcases hc with rfl | hc
   .exact hbe
   .rintro rfl
    rcases he with z | z
    .exact nown c b hc z
    .rw[hc] at z;cases z;exact hb rfl
end
structure Un (fs ex:List Addr) (H H':Hp) (h h':Heap):Prop where
 keep:∀b o,h.get? b=some o->H b=none->b∉fs->b∉ex->h'.get? b=some o
 slot:∀b o,h.get? b=some o->H b=none->b∈fs->b∉ex->∃sl,h'.get? b=some {o with slots:=sl}
 free:∀b o,h.get? b=some o->H b=none->b∉ex->H' b=none
 there:∀b o,h.get? b=some o->b∉ex->∃o',h'.get? b=some o'
 tups:∀b xs,H b=some (.tup xs)->H' b=some (.tup xs)
 frzs:∀b o u,H b=some (.frz o u)->H' b=some (.frz o u)
 tbls:∀b ps,H b=some (.tbl ps)->∃more,H' b=some (.tbl (ps++more))
section
variable {fs fs' ex ex':List Addr}{H1 H2:Hp}{h1 h2:Heap}{x e:Addr}
theorem Un.any(u:Un fs ex H H1 h h1){ob:Obj}(q:h.get? b=some ob)(n:H b=none)(hx:b∉ex):∃sl,h1.get? b=some {ob with slots:=sl}:=by
 by_cases hb:b∈fs
 .exact u.slot b ob q n hb hx
 .exact⟨ob.slots,u.keep b ob q n hb hx⟩
theorem Un.kept(k:∀b u,h.get? b=some u->h'.get? b=some u):Un fs ex H H h h':=
 ⟨λb ob q _ _ _=>k b ob q,λb ob q _ _ _=>⟨ob.slots,k b ob q⟩,λ_ _ _ n _=>n,λb ob q _=>⟨ob,k b ob q⟩,λ_ _ q=>q,λ_ _ _ q=>q,λ_ ps q=>⟨#[],by rw[q];simp⟩⟩
theorem Un.refl:Un fs ex H H h h:=Un.kept λ_ _ q=>q
theorem Un.laid(k:∀b u,h.get? b=some u->h'.get? b=some u)(hp:h.objs.size<=a)(hn:H a=none):Un fs ex H (upd H a o) h h' where
 keep:=λb u q _ _ _=>k b u q
 slot:=λb u q _ _ _=>⟨u.slots,k b u q⟩
 free:=λb u q n _=>by rw[jKf (lJr (lKc (lJi q) hp))];exact n
 there:=λb u q _=>⟨u,k b u q⟩
 tups:=λb xs q=>by rw[jKf (jU1 q hn)];exact q
 frzs:=λb u xs q=>by rw[jKf (jU1 q hn)];exact q
 tbls:=λb ps q=>⟨#[],by rw[jKf (jU1 q hn),q];simp⟩
theorem Un.write(mu:Mut (H x))(he:e=x\/H e=some (.own x))(k:∀b u,b≠e->h.get? b=some u->h'.get? b=some u)(heo:∃u,h'.get? e=some u):Un fs ex H (upd H x o) h h':=by
 have hx:∀b,H b=none->b≠x:=λb n z=>by subst z;rw[n] at mu;exact mu
 have hb:∀b,H b=none->b≠e:=λb n z=>by
  subst z
  rcases he with r | r
  .exact hx b n r
  .rw[n] at r;cases r
 have hm:∀b u,H b=some u->¬ Mut (some u)->b≠x:=λb u q nm z=>by subst z;rw[q] at mu;exact nm mu
 refine⟨λb u q n _ _=>k b u (hb b n) q,λb u q n _ _=>⟨u.slots,k b u (hb b n) q⟩,λb u q n _=>by rw[jKf (hx b n)];exact n,λb u q _=> ?_,
  λb xs q=>by rw[jKf (hm b _ q λz=>z)];exact q,λb u xs q=>by rw[jKf (hm b _ q λz=>z)];exact q,λb ps q=>⟨#[],by rw[jKf (hm b _ q λz=>z),q];simp⟩⟩
 by_cases hbe:b=e
 .subst hbe;exact heo
 .exact⟨u,k b u hbe q⟩
end
noncomputable def trk(h:Heap)(H:Hp):List Addr:=(List.range h.objs.size).filter λa=>(H a).isSome
noncomputable def hidT(h:Heap)(H:Hp):Heap:=PySem.W.hideAll h (trk h H)
theorem qVg(h:Heap)(H:Hp):(hidT h H).objs.size=h.objs.size:=PySem.W.hideAll_size _ _
theorem qZf{o:Obj}(e:h.get? b=some o)(n:H b=none):(hidT h H).get? b=some o:=
 PySem.W.hideAll_get _ e λhm=>by
  have q:(H b).isSome=true:=(lXn.mp hm).2;rw[n] at q;simp at q
theorem uKn{o:Obj}(e:(hidT h H).get? b=some o):h.get? b=some o/\H b=none:=by
 have e':h.get? b=some o:=PySem.W.of_hideAll (trk h H) e;refine⟨e',?_⟩;cases q:H b with
 | none=>rfl
 | some x=>
  have hm:b∈trk h H:=lXn.mpr ⟨lKb.mpr (lJi e'),by simp[q]⟩
  have z:(hidT h H).get? b=none:=PySem.W.hideAll_none (trk h H) hm;rw[z] at e;cases e
noncomputable def uQ9(g h:Heap)(L:Addr):List (Addr×Obj):=(List.range h.objs.size).filterMap λa=>if a=L\/(g.get? a).isSome=true then none else (h.get? a).map λo=>(a,o)
noncomputable def rest(g h:Heap)(L d:Addr):List (Addr×Obj):=(uQ9 g h L).filter λp=>decide (p.1≠d)
structure Mod (K:PySem.W.Frag) (mg:Str->Option Value) (base:Heap):Prop where
 kin:K.In base
 glob:base.Ns mainGlobals mg
 blt:∃mb,base.Ns builtinsNs mb/\∀x:Str,x≠"__name__"->mb x=bootBuiltins x
 nolimit:base.NoLimit
structure Cx where
 prog:Program
 w:World
 K:PySem.W.Frag
 mg:Str->Option Value
 base:Heap
 A:Around
 N:List Str
 s₀:Shared
 H₀:Hp
 env:Env
 outer:List Env
 stack:List Env
 ex:List Addr
 fn:Str->Bool
 calm:Bool
 pn:List (Addr×Obj)
 xe:Value->Shared->Prop
noncomputable def frs(l:List Env):List Addr:=l.filterMap (·.frame)
noncomputable abbrev Cx.fs(X:Cx):List Addr:=frs X.outer
def Vis(sc:Scope)(x:Str):Prop:=sc.names.lookup x=some .local\/sc.names.lookup x=some .cell\/sc.names.lookup x=some .free
def Loc(sc:Scope)(x:Str):Prop:=sc.names.lookup x=some .local\/sc.names.lookup x=some .cell
def Look(env:Env)(h:Heap)(m:Str->Option Value)(x:Str)(u:Value):Prop:=
 (env.kindOf x=some .local/\m x=some u)\/((env.kindOf x=some .cell\/env.kindOf x=some .free)/\∃c,env.cells.lookup x=some c/\h.IsCell c (some u))
structure Cx.Ok (X:Cx):Prop where
 mod:Mod X.K X.mg X.base
 kind:X.env.scope.kind= .function
 glob:X.env.globals=mainGlobals
 blt:X.env.builtins=builtinsNs
 above:X.s₀.heap.objs.size<=X.env.locals
 inj:∀x y c,X.env.cells.lookup x=some c->X.env.cells.lookup y=some c->x=y
 has:∀x,(X.env.kindOf x=some .cell\/X.env.kindOf x=some .free)->∃c,X.env.cells.lookup x=some c
 cab:∀x c,X.fn x=true->X.env.cells.lookup x=some c->X.s₀.heap.objs.size<=c
 hd:X.calm=true->X.A.handled=none
 gd:X.calm=true->X.A.guards=some []
 frames:X.A.frames=some X.stack
 stk:X.stack=X.outer\/(X.stack=X.env::X.outer/\X.env.frame=some X.env.locals)
 exf:∀b∈X.ex,b≠X.env.locals/\∀x c,X.env.cells.lookup x=some c->c≠b
 bs:∀b o,X.base.get? b=some o->X.s₀.heap.get? b=some o/\X.H₀ b=none
 bsz:X.base.objs.size<=X.s₀.heap.objs.size
 noex:∀b o,X.base.get? b=some o->b∉X.ex
 exfs:∀b∈X.ex,b∉X.fs
 funs:X.s₀.heap.FunFrames X.base X.outer
 frf:∀b∈X.fs,X.H₀ b=none
structure Inv (X:Cx) (pins:List (Addr×Obj)) (σ:List (Option V)) (H:Hp) (s:Shared):Prop where
 ok:X.Ok
 os:s.os=X.s₀.os
 bare:AllBare s.gens
 base:Un X.fs X.ex X.H₀ H X.s₀.heap s.heap
 loc:∃m,s.heap.Ns X.env.locals m/\∀(i:Nat)(x:Str)(v:V),X.N[i]? =some x->σ[i]? =some (some v)->Vis X.env.scope x->∃u,RelV v u/\Look X.env s.heap m x u
 cell:∀x c,X.env.cells.lookup x=some c->∃v,s.heap.IsCell c v
 free:H X.env.locals=none
 freeC:∀x c,X.env.cells.lookup x=some c->H c=none
 pin:∀p∈X.pn++pins,s.heap.get? p.1=some p.2/\H p.1=none/\p.1≠X.env.locals/\p.1∉X.fs/\∀v,p.2.data≠ .cell v
 hok:HOk X.prog X.w H s.heap
 len:σ.length=X.N.length
variable {X:Cx}{pins:List (Addr×Obj)}{s s':Shared}{g':Array GenState}{ch:List Addr}{it:Addr}{N:List Str}{i j:Nat}{x:Str}{M:Model}{E:Value->Shared->Prop}{u:Value}{Q:Unit->Shared->Prop}
section
variable {σ:List (Option V)}
theorem Cx.Ok.nofr(ok:X.Ok){o:Obj}(e:X.base.get? b=some o):b∉X.fs:=λhb=>by
 have:=(ok.funs.mem hb).1;rw[e] at this;cases this
theorem Inv.bs(I:Inv X pins σ H s):∀b o,X.base.get? b=some o->s.heap.get? b=some o/\H b=none:=λb o e=>
 ⟨I.base.keep b o (I.ok.bs b o e).1 (I.ok.bs b o e).2 (I.ok.nofr e) (I.ok.noex b o e),I.base.free b o (I.ok.bs b o e).1 (I.ok.bs b o e).2 (I.ok.noex b o e)⟩
theorem Inv.bk(I:Inv X pins σ H s):∀b o,X.base.get? b=some o->s.heap.get? b=some o:=λb o e=>(I.bs b o e).1
theorem Inv.mod(I:Inv X pins σ H s):Mod X.K X.mg X.base:=I.ok.mod
theorem Inv.kIn(I:Inv X pins σ H s):X.K.In s.heap:=I.ok.mod.kin.keeps I.bk
theorem Inv.lt(I:Inv X pins σ H s):X.env.locals<s.heap.objs.size:=let ⟨_,hn,_⟩:=I.loc;hn.lt
theorem Inv.sz(I:Inv X pins σ H s):X.s₀.heap.objs.size<=s.heap.objs.size:=lKx I.ok.above (lVx I.lt)
theorem Inv.nofs(I:Inv X pins σ H s)(h:s.heap.objs.size<=a):a∉X.fs:=λhb=>by
 obtain⟨_,o,ho,_⟩:=I.ok.funs.mem hb;exact absurd (lKc (lJi ho) (lKx I.sz h)) (lQx _)
theorem Inv.cne(I:Inv X pins σ H s):∀x c,X.env.cells.lookup x=some c->c≠X.env.locals:=λx c e z=>by
 obtain⟨v,o,ho,hd⟩:=I.cell x c e;obtain⟨m,⟨o',es,ep,ho',hd',_⟩,_⟩:=I.loc;rw[z,ho'] at ho;cases ho;rw[hd'] at hd;cases hd
theorem Inv.funs(I:Inv X pins σ H s):s.heap.FunFrames X.base X.outer:=by
 have all:∀(l:List Env),(∀b∈frs l,b∈X.fs)->X.s₀.heap.FunFrames X.base l->s.heap.FunFrames X.base l:=by
  intro l
  induction l with
  | nil=>intro _ _;trivial
  | cons env r ih=>
   intro hs hl;obtain⟨hk,⟨L,o,hf,hn,ho,hd⟩,hr⟩:=hl;have hL:L∈X.fs:=hs L (by unfold frs;rw[lQe,hf];exact lJv)
   obtain⟨sl,e⟩:=I.base.slot L o ho (I.ok.frf L hL) hL λz=>I.ok.exfs L z hL
   exact⟨hk,⟨L,_,hf,hn,e,hd⟩,ih (λb hb=>hs b (by unfold frs;rw[lQe,hf];exact lJw _ hb)) hr⟩
 exact all X.outer (λ_ hb=>hb) I.ok.funs
theorem Inv.stack(I:Inv X pins σ H s):s.heap.FunFrames X.base X.stack:=by
 rcases I.ok.stk with e | ⟨e,hf⟩
 .rw[e];exact I.funs
 .rw[e];obtain⟨m,hn,_⟩:=I.loc;refine .cons (by rw[I.ok.kind];decide) hf hn ?_ I.funs
  exact Heap.get?_none_of_le (lKx I.ok.bsz I.ok.above)
theorem Inv.stkSub(I:Inv X pins σ H s):∀b∈frs X.stack,b∈X.env.locals::X.fs:=λb hb=>by
 rcases I.ok.stk with e | ⟨e,hf⟩
 .rw[e] at hb;exact lJw _ hb
 .rw[e] at hb;unfold frs at hb;rw[lQe,hf] at hb;exact hb
theorem Inv.stkFree(I:Inv X pins σ H s):∀b∈frs X.stack,H b=none:=λb hb=>by
 rcases lJp.mp (I.stkSub b hb) with e | hb
 .rw[e];exact I.free
 .obtain⟨_,o,ho,_⟩:=I.ok.funs.mem hb;exact I.base.free b o ho (I.ok.frf b hb) λz=>I.ok.exfs b z hb
theorem Inv.step{t':Nat}{d':Drawn}(I:Inv X pins σ H s)(hch:∀b∈ch,(b∈X.ex\/X.s₀.heap.objs.size<=b)/\b≠X.env.locals/\(∀x c,X.env.cells.lookup x=some c->c≠b)/\∀p∈X.pn++pins,p.1≠b)(keep:∀b o,b≠X.env.locals->b∉X.fs->b∉ch->s.heap.get? b=some o->H b=none->h'.get? b=some o)(slot:∀b o,b≠X.env.locals->b∈X.fs->b∉ch->s.heap.get? b=some o->H b=none->∃sl,h'.get? b=some {o with slots:=sl})(free:∀b o,b∉ch->s.heap.get? b=some o->H b=none->H' b=none)(there:∀b o,b∉ch->s.heap.get? b=some o->∃o',h'.get? b=some o')(tups:∀b xs,H b=some (.tup xs)->H' b=some (.tup xs))(frzs:∀b o u,H b=some (.frz o u)->H' b=some (.frz o u))(tbls:∀b ps,H b=some (.tbl ps)->∃more,H' b=some (.tbl (ps++more)))(ns:∀m,s.heap.Ns X.env.locals m->h'.Ns X.env.locals m)(hok:HOk X.prog X.w H' h')(hg:AllBare g'):
  Inv X pins σ H' {s with heap:=h',gens:=g',drawn:=d',toks:=t'}:=by
 have neL:∀b o,X.s₀.heap.get? b=some o->b≠X.env.locals:=λb o e=>lJr (lKc (lJi e) I.ok.above)
 have neC:∀b o,X.s₀.heap.get? b=some o->b∉X.ex->b∉ch:=λb o e hx hb=>by
  rcases (hch b hb).1 with z | z
  .exact hx z
  .exact absurd (lKc (lJi e) z) (lQx _)
 have cellK:∀x c,X.env.cells.lookup x=some c->∀v,s.heap.IsCell c v->h'.IsCell c v:=λx c e v ⟨o,ho,hd⟩=>by
  have nch:c∉ch:=λz=>(hch c z).2.2.1 x c e rfl
  by_cases hc:c∈X.fs
  .obtain⟨sl,q⟩:=slot c o (I.cne x c e) hc nch ho (I.freeC x c e);exact⟨_,q,hd⟩
  .exact⟨o,keep c o (I.cne x c e) hc nch ho (I.freeC x c e),hd⟩
 refine⟨I.ok,I.os,hg,⟨λb o e n hb hx=> ?_,λb o e n hb hx=> ?_,λb o e n hx=> ?_,λb o e hx=> ?_,λb xs e=>tups b xs (I.base.tups b xs e),λb o xs e=>frzs b o xs (I.base.frzs b o xs e),λb ps e=> ?_⟩,?_,λx c e=> ?_,?_,λx c e=> ?_,λp hp=> ?_,hok,I.len⟩
 .exact keep b o (neL b o e) hb (neC b o e hx) (I.base.keep b o e n hb hx) (I.base.free b o e n hx)
 .obtain⟨sl,e1⟩:=I.base.slot b o e n hb hx;obtain⟨sl',e2⟩:=slot b _ (neL b o e) hb (neC b o e hx) e1 (I.base.free b o e n hx);exact⟨sl',e2⟩
 .obtain⟨o',e1⟩:=I.base.there b o e hx;exact free b o' (neC b o e hx) e1 (I.base.free b o e n hx)
 .obtain⟨o',e1⟩:=I.base.there b o e hx;exact there b o' (neC b o e hx) e1
 .obtain⟨m1,e1⟩:=I.base.tbls b ps e;obtain⟨m2,e2⟩:=tbls b _ e1;exact⟨m1++m2,by rw[e2,Array.append_assoc]⟩
 .obtain⟨m,hn,hl⟩:=I.loc;refine⟨m,ns m hn,λi x v e1 e2 e3=> ?_⟩
  obtain⟨u,r,l⟩:=hl i x v e1 e2 e3;refine⟨u,r,?_⟩
  rcases l with l | ⟨k,c,e,z⟩
  .exact .inl l
  .exact .inr ⟨k,c,e,cellK x c e _ z⟩
 .obtain⟨v,z⟩:=I.cell x c e;exact⟨v,cellK x c e v z⟩
 .obtain⟨m,⟨o,_,_,ho,_⟩,_⟩:=I.loc;exact free _ o (λz=>(hch _ z).2.1 rfl) ho I.free
 .obtain⟨v,o,ho,hd⟩:=I.cell x c e;exact free c o (λz=>(hch c z).2.2.1 x c e rfl) ho (I.freeC x c e)
 .obtain⟨e,n,ne,nf,d⟩:=I.pin p hp;have nch:p.1∉ch:=λz=>(hch p.1 z).2.2.2 p hp rfl
  exact⟨keep p.1 p.2 ne nf nch e n,free p.1 p.2 nch e n,ne,nf,d⟩
theorem Inv.un{t':Nat}(I:Inv X pins σ H s)(u:Un X.fs [] H H' s.heap h')(hok:HOk X.prog X.w H' h'):Inv X pins σ H' {s with heap:=h',toks:=t'}:=by
 obtain⟨m,⟨o,es,ep,ho,r⟩,_⟩:=id I.loc;obtain⟨sl,hL⟩:=u.any ho I.free (by simp)
 exact I.step (g':=s.gens) (d':=s.drawn) (ch:=[]) (λ_ z=>nomatch z) (λb o _ hb _ e n=>u.keep b o e n hb (by simp)) (λb o _ hb _ e n=>u.slot b o e n hb (by simp)) (λb o _ e n=>u.free b o e n (by simp)) (λb o _ e=>u.there b o e (by simp)) u.tups u.frzs u.tbls (λm' hm=>by
  obtain⟨o',es',ep',ho',r'⟩:=hm;rw[ho] at ho';cases ho';exact⟨_,es',ep',hL,r'⟩) hok I.bare
theorem Inv.call{t':Nat}{d':Drawn}(I:Inv X pins σ H s)(u:Un (frs X.stack) ch H H' s.heap h')(hok:HOk X.prog X.w H' h')(hg:AllBare g')(hch:∀b∈ch,(b∈X.ex\/X.s₀.heap.objs.size<=b)/\b≠X.env.locals/\(∀x c,X.env.cells.lookup x=some c->c≠b)/\∀p∈X.pn++pins,p.1≠b):
  Inv X pins σ H' {s with heap:=h',gens:=g',drawn:=d',toks:=t'}:=by
 obtain⟨m,⟨o,es,ep,ho,r⟩,_⟩:=id I.loc;obtain⟨sl,hL⟩:=u.any ho I.free λz=>(hch _ z).2.1 rfl
 exact I.step (ch:=ch) hch (λb o hL hb hc e n=>u.keep b o e n (λz=>(lJp.mp (I.stkSub b z)).elim hL hb) hc) (λb o _ _ hc e n=>u.any e n hc) (λb o hc e n=>u.free b o e n hc) (λb o hc e=>u.there b o e hc) u.tups u.frzs u.tbls (λm' hm=>by
  obtain⟨o',es',ep',ho',r'⟩:=hm;rw[ho] at ho';cases ho';exact⟨_,es',ep',hL,r'⟩) hok hg
theorem Inv.turned{t':Nat}(I:Inv X pins σ H s)(k:∀b o,b≠it->s.heap.get? b=some o->h'.get? b=some o)(hn:H it=none)(hL:it≠X.env.locals)(h1:it∈X.ex\/X.s₀.heap.objs.size<=it)(h2:∀x c,X.env.cells.lookup x=some c->c≠it)(h3:∀p∈X.pn++pins,p.1≠it):Inv X pins σ H {s with heap:=h',toks:=t'}:=by
 have nit:∀b u,H b=some u->b≠it:=λb u e z=>by rw[z,hn] at e;cases e
 refine I.step (g':=s.gens) (d':=s.drawn) (ch:=[it]) (λb hb=> ?_) (λb o _ _ hc e _=>k b o (λz=>hc (by simp[z])) e) (λb o _ _ hc e _=>⟨o.slots,k b o (λz=>hc (by simp[z])) e⟩) (λ_ _ _ _ n=>n)
  (λb o hc e=>⟨o,k b o (λz=>hc (by simp[z])) e⟩) (λ_ _ e=>e) (λ_ _ _ e=>e) (λb ps e=>⟨#[],by rw[e];simp⟩) (λm hm=> ?_) (λb u e=> ?_) I.bare
 .have e:b=it:=by simpa using hb
  subst e;exact⟨h1,hL,h2,h3⟩
 .obtain⟨o,es,ep,ho,r⟩:=hm;exact⟨o,es,ep,k _ o (Ne.symm hL) ho,r⟩
 .refine (I.hok b u e).stay (λc v hc q=>k c v ?_ q) (λ_ q=>q) λ_ _ q=>q
  rcases hc with z | z
  .rw[z];exact nit b u e
  .exact nit c _ z
theorem Inv.tok(I:Inv X pins σ H s)(t:Nat):Inv X pins σ H {s with toks:=t}:=I.un (h':=s.heap) (t':=t) Un.refl I.hok
theorem Inv.kept{t':Nat}(I:Inv X pins σ H s)(k:∀b u,s.heap.get? b=some u->h'.get? b=some u):Inv X pins σ H {s with heap:=h',toks:=t'}:=I.un (Un.kept k) (I.hok.kept k)
theorem Inv.laid{t':Nat}(I:Inv X pins σ H s)(k:∀b u,s.heap.get? b=some u->h'.get? b=some u)(hp:s.heap.objs.size<=a)(new:ObjOk X.prog X.w (upd H a o) h' a o):
  Inv X pins σ (upd H a o) {s with heap:=h',toks:=t'}:=I.un (Un.laid k hp (I.hok.fresh hp)) (I.hok.laid k hp new)
theorem Inv.write{x e:Addr}{t':Nat}(I:Inv X pins σ H s)(mu:Mut (H x))(he:e=x\/H e=some (.own x))(k:∀b u,b≠e->s.heap.get? b=some u->h'.get? b=some u)(heo:∃u,h'.get? e=some u)(new:ObjOk X.prog X.w (upd H x o) h' x o):Inv X pins σ (upd H x o) {s with heap:=h',toks:=t'}:=I.un (Un.write mu he k heo) (I.hok.write mu he k heo new)
theorem Inv.weak{σ':List (Option V)}(I:Inv X pins σ H s)(hl:σ'.length=σ.length)(w:∀(i:Nat) v,σ'[i]? =some (some v)->σ[i]? =some (some v)):Inv X pins σ' H s:=
 ⟨I.ok,I.os,I.bare,I.base,let ⟨m,hn,hl'⟩:=I.loc;⟨m,hn,λi x v e1 e2 e3=>hl' i x v e1 (w i v e2) e3⟩,I.cell,I.free,I.freeC,I.pin,I.hok,hl.trans I.len⟩
theorem Inv.pins_of{pins':List (Addr×Obj)}(I:Inv X pins σ H s)(h:∀p∈pins',s.heap.get? p.1=some p.2/\H p.1=none/\p.1≠X.env.locals/\p.1∉X.fs/\∀v,p.2.data≠ .cell v):Inv X pins' σ H s:=
 ⟨I.ok,I.os,I.bare,I.base,I.loc,I.cell,I.free,I.freeC,λp hp=>(lJn.mp hp).elim (λz=>I.pin p (lKk _ z)) (h p),I.hok,I.len⟩
theorem kZj(hN:N.Nodup)(a:N[i]? =some x)(b:N[j]? =some x):i=j:=by
 obtain⟨h1,e1⟩:=lJk.mp a;obtain⟨h2,e2⟩:=lJk.mp b;exact (List.getElem_inj hN).mp (e1.trans e2.symm)
theorem qQc{v:V}(I:Inv X pins σ H s)(hN:X.N.Nodup)(hi:X.N[i]? =some x)(hx:Loc X.env.scope x)(r:RelV v u)(h:∀s',Inv X pins (σ.set i (some v)) H s'->(∃a,Heap.SameBut a s.heap s'.heap/\(a=X.env.locals\/X.env.cells.lookup x=some a))->Q () s')(hf:X.fn x=true\/X.env.scope.names.lookup x=some .local:=by first | exact .inl rfl | exact .inr rfl | assumption):wpAny M A (storeName X.env x u) Q E s:=by
 obtain⟨m,hn,hl⟩:=id I.loc;have hcls:(X.env.scope.kind == .class||(X.env.scope.kind == .module&&X.env.locals != X.env.globals))=false:=by rw[I.ok.kind];rfl
 have hiσ:i<σ.length:=by rw[I.len];exact (lJk.mp hi).1
 have cne:=I.cne
 have tracked:∀{a:Addr}{h':Heap},(∃o,s.heap.get? a=some o/\H a=none)->Heap.SameBut a s.heap h'->HOk X.prog X.w H h':=λ{a h'} ha hs b ob e=>by
  obtain⟨_,_,hfree⟩:=ha;refine (I.hok b ob e).stay (λc w' hc q=>(hs.2 c ?_).trans q) (λ_ q=>q) λ_ _ q=>q
  rintro rfl
  rcases hc with rfl | hc
  .rw[hfree] at e;cases e
  .rw[hfree] at hc;cases hc
 rcases hx with hk | hk
 .refine wpAny_storeName_local hk hn (λh' hn' hs=> ?_) hcls
  obtain⟨oL,_,_,hoL,_⟩:=id hn;refine h _ ⟨I.ok,I.os,I.bare,⟨λb o e n hb hx=> ?_,λb o e n hb hx=> ?_,I.base.free,λb o e hx=> ?_,I.base.tups,I.base.frzs,I.base.tbls⟩,⟨_,hn',λj y v' e1 e2 e3=> ?_⟩,λy c e=> ?_,I.free,I.freeC,λp hp=> ?_,tracked ⟨oL,hoL,I.free⟩ hs,by simpa using I.len⟩ ⟨_,hs,.inl rfl⟩
  .exact (hs.2 b (lJr (lKc (lJi e) I.ok.above))).trans (I.base.keep b o e n hb hx)
  .obtain⟨sl,e1⟩:=I.base.slot b o e n hb hx;exact⟨sl,(hs.2 b (lJr (lKc (lJi e) I.ok.above))).trans e1⟩
  .obtain⟨o',e1⟩:=I.base.there b o e hx;exact⟨o',(hs.2 b (lJr (lKc (lJi e) I.ok.above))).trans e1⟩
  .by_cases hj:j=i
   .subst hj;rw[hi] at e1;cases e1;rw[lVy hiσ] at e2;cases e2;exact⟨u,r,.inl ⟨hk,by simp⟩⟩
   .rw[lXb (Ne.symm hj)] at e2;obtain⟨u',r',q⟩:=hl j y v' e1 e2 e3;refine⟨u',r',?_⟩
    rcases q with ⟨k,e⟩ | ⟨k,c,e,z⟩
    .refine .inl ⟨k,?_⟩;have:y≠x:=λe=>hj (kZj hN e1 (e▸hi))
     simp[this,e]
    .exact .inr ⟨k,c,e,z.sameBut hs (cne y c e)⟩
  .obtain⟨w',z⟩:=I.cell y c e;exact⟨w',z.sameBut hs (cne y c e)⟩
  .obtain⟨e,n,ne,nf,d⟩:=I.pin p hp;exact⟨(hs.2 p.1 ne).trans e,n,ne,nf,d⟩
 .have hfn:X.fn x=true:=by
   rcases hf with z | z
   .exact z
   .rw[z] at hk;cases hk
  obtain⟨c,hc⟩:=I.ok.has x (.inl hk);obtain⟨w',z⟩:=I.cell x c hc;refine wpAny_storeName_cell I.ok.kind hk hc z (λh' hc' hs=> ?_)
  obtain⟨oc,hoc,hocd⟩:=id z;refine h {s with heap:=h'} ⟨I.ok,I.os,I.bare,⟨λb o e n hb hx=> ?_,λb o e n hb hx=> ?_,I.base.free,λb o e hx=> ?_,I.base.tups,I.base.frzs,I.base.tbls⟩,⟨m,hn.sameBut hs (Ne.symm (cne x c hc)),λj y v' e1 e2 e3=> ?_⟩,λy c' e=> ?_,I.free,I.freeC,λp hp=> ?_,tracked ⟨oc,hoc,I.freeC x c hc⟩ hs,by simpa using I.len⟩ ⟨c,hs,.inr hc⟩
  .exact (hs.2 b (lJr (lKc (lJi e) (I.ok.cab x c hfn hc)))).trans (I.base.keep b o e n hb hx)
  .obtain⟨sl,e1⟩:=I.base.slot b o e n hb hx;exact⟨sl,(hs.2 b (lJr (lKc (lJi e) (I.ok.cab x c hfn hc)))).trans e1⟩
  .obtain⟨o',e1⟩:=I.base.there b o e hx;exact⟨o',(hs.2 b (lJr (lKc (lJi e) (I.ok.cab x c hfn hc)))).trans e1⟩
  .by_cases hj:j=i
   .subst hj;rw[hi] at e1;cases e1;rw[lVy hiσ] at e2;cases e2;exact⟨u,r,.inr ⟨.inl hk,c,hc,hc'⟩⟩
   .rw[lXb (Ne.symm hj)] at e2;obtain⟨u',r',q⟩:=hl j y v' e1 e2 e3;refine⟨u',r',?_⟩
    rcases q with q | ⟨k,c',e,z'⟩
    .exact .inl q
    .refine .inr ⟨k,c',e,z'.sameBut hs ?_⟩;rintro rfl;exact hj (kZj hN e1 (I.ok.inj _ _ _ e hc▸hi))
  .by_cases hcc:c'=c
   .subst hcc;exact⟨_,hc'⟩
   .obtain⟨w2,z2⟩:=I.cell y c' e;exact⟨w2,z2.sameBut hs hcc⟩
  .obtain⟨e,n,ne,nf,d⟩:=I.pin p hp;refine⟨(hs.2 p.1 ?_).trans e,n,ne,nf,d⟩;intro q;rw[q,hoc] at e;have q':oc=p.2:=lJ3 e;exact d w' (by rw[<-q'];exact hocd)
theorem jYd{v:V}(I:Inv X pins σ H s)(hN:X.N.Nodup)(hi:X.N[i]? =some x)(hx:Loc X.env.scope x)(r:RelV v u)(h:∀s',Inv X pins (σ.set i (some v)) H s'->Q () s')(hf:X.fn x=true\/X.env.scope.names.lookup x=some .local:=by first | exact .inl rfl | exact .inr rfl | assumption):wpAny M A (storeName X.env x u) Q E s:=
 qQc I hN hi hx r (λs' I' _=>h s' I') hf
theorem Inv.call'(I:Inv X pins σ H s)(ho:s'.os=s.os)(u:Un (frs X.stack) ch H H' s.heap s'.heap)(hok:HOk X.prog X.w H' s'.heap)(hg:AllBare s'.gens)(hch:∀b∈ch,(b∈X.ex\/X.s₀.heap.objs.size<=b)/\b≠X.env.locals/\(∀x c,X.env.cells.lookup x=some c->c≠b)/\∀p∈X.pn++pins,p.1≠b):Inv X pins σ H' s':=by
 obtain⟨h',g',d',t',o'⟩:=s';have e:o'=s.os:=ho;subst e;exact I.call (g':=g') (t':=t') (d':=d') u hok hg hch
end
abbrev XK:=Value->Option Addr->Hp->Prop
abbrev St:=List (Option V)
abbrev VK:=V->Hp->Prop
abbrev TE:=St->Hp->VK->Prop
abbrev TT:=St->Hp->(Bool->Hp->Prop)->Prop
abbrev TA:=St->Hp->(List V->Hp->Prop)->Prop
structure Ends where
 nx:St->Hp->Prop
 rt:VK
 bk:St->Hp->Prop:=λ_ _=>False
 ct:St->Hp->Prop:=λ_ _=>False
abbrev TS:=Ends->St->Hp->Prop
def EP(X:Cx)(pins:List (Addr×Obj))(σ:St)(Q:VK)(u:Value)(s':Shared):Prop:=∃v H',Inv X pins σ H' s'/\RelV v u/\Q v H'
def TP(X:Cx)(pins:List (Addr×Obj))(σ:St)(Q:Bool->Hp->Prop)(b:Bool)(s':Shared):Prop:=∃H',Inv X pins σ H' s'/\Q b H'
def SP(X:Cx)(pins:List (Addr×Obj))(D:Ends)(f:Flow)(s':Shared):Prop:=
 match f with
 | .next=>∃ σ' H',Inv X pins σ' H' s'/\D.nx σ' H'
 | .brk=>∃ σ' H',Inv X pins σ' H' s'/\D.bk σ' H'
 | .cont=>∃ σ' H',Inv X pins σ' H' s'/\D.ct σ' H'
 | .ret u=>∃v σ' H',Inv X pins σ' H' s'/\RelV v u/\D.rt v H'
def PE(X:Cx)(e:Expr)(t:TE):Prop:=
 ∀(pins:List (Addr×Obj))(s:Shared)(σ:St)(H:Hp)(Q:VK),Inv X pins σ H s->t σ H Q->wpAny (model X.prog X.w) X.A (eval e X.env) (EP X pins σ Q) X.xe s
def PSs(X:Cx)(st:List Stmt)(t:TS):Prop:=
 ∀(pins:List (Addr×Obj))(s:Shared)(σ:St)(H:Hp)(D:Ends),Inv X pins σ H s->t D σ H->wpAny (model X.prog X.w) X.A (execs st X.env) (SP X pins D) X.xe s
theorem thn{α:Type}{t:Sem α}{Q Q':α->Shared->Prop}(h:wpAny M A t Q E s)(hQ:∀a s,Q a s->Q' a s):wpAny M A t Q' E s:=lQv h hQ λ_ _ x=>x
variable {pos:Pos}{σ:St}{ta tb:TE}
section
def tVar(i:Nat):TE:=λσ H Q=>∃v,σ[i]? =some (some v)/\Q v H
def tC(v:V):TE:=λ_ H Q=>Q v H
theorem uVj(hN:X.N[i]? =some x)(hv:Vis X.env.scope x)(hd:(x == ("__debug__":Str))=false:=by decide)(hcd:(x == ("__classdict__":Str))=false:=by decide):PE X (.Name x pos) (tVar i):=by
 intro pins s σ H Q I h;obtain⟨v,e,h⟩:=h;obtain⟨m,hn,hl⟩:=I.loc;obtain⟨u,r,l⟩:=hl i x v hN e hv;have fin:EP X pins σ Q u s:=⟨v,H,I,r,h⟩
 rcases l with ⟨hk,hm⟩ | ⟨hk,c,hc,hcell⟩
 .exact wpAny_Name (wpAny_loadName_local I.ok.kind hk hn hm fin) hd
 .rcases hk with hk | hk
  .exact wpAny_Name (wpAny_loadName_cell I.ok.kind hk hc hcell fin) hd
  .exact wpAny_Name (wpAny_loadName_free I.ok.kind hk hc hcell fin hcd) hd
theorem uVm {i j pos}:PE X (.Constant (.int i) j pos) (tC (.int i)):=λ_ _ _ H _ I h=>wpAny_Constant_int ⟨.int i,H,I.tok _,⟨_,rfl⟩,h⟩
theorem uYw {b j pos}:PE X (.Constant (.bool b) j pos) (tC (.bl b)):=λ_ _ _ H _ I h=>Constant_bool ⟨.bl b,H,I,rfl,h⟩
theorem uVl {j pos}:PE X (.Constant .none j pos) (tC .non):=λ_ _ _ H _ I h=>Constant_none ⟨.non,H,I,rfl,h⟩
theorem uVk {x j pos}:PE X (.Constant (.str x) j pos) (tC (.str x)):=λ_ _ _ H _ I h=>Calls.Constant_str ⟨.str x,H,I.tok _,⟨_,rfl⟩,h⟩
def Gl(X:Cx)(x:Str):Prop:=X.env.kindOf x=some .globalImplicit
theorem uKx{Q:Value->Shared->Prop}(I:Inv X pins σ H s)(hg:Gl X x)(hm:X.mg x=some u)(h:Q u s)(hd:(x == ("__debug__":Str))=false:=by decide):wpAny (model X.prog X.w) X.A (eval (.Name x pos) X.env) Q E s:=
 Calls.Name_function_global I.ok.kind hg (Calls.loadGlobal_global (by rw[I.ok.glob];exact I.mod.glob.keeps I.bk) hm h) hd
theorem jU3{Q:Value->Shared->Prop}(I:Inv X pins σ H s)(hg:Gl X x)(hm:X.mg x=none)(hv:bootBuiltins x=some u)(h:Q u s)(hn:x≠"__name__":=by decide)(hd:(x == ("__debug__":Str))=false:=by decide):wpAny (model X.prog X.w) X.A (eval (.Name x pos) X.env) Q E s:=by
 obtain⟨mb,h1,h2⟩:=I.mod.blt;exact Calls.Name_function_global I.ok.kind hg (Calls.loadGlobal_builtin (by rw[I.ok.glob];exact I.mod.glob.keeps I.bk) hm (by rw[I.ok.blt];exact h1.keeps I.bk) ((h2 x hn).trans hv) h) hd
theorem uKh{v:V}(hg:Gl X x)(hm:X.mg x=none)(hv:bootBuiltins x=some u)(r:RelV v u)(hn:x≠"__name__":=by decide)(hd:(x == ("__debug__":Str))=false:=by decide):PE X (.Name x pos) (tC v):=
 λ_ _ _ H _ I h=>jU3 I hg hm hv ⟨v,H,I,r,h⟩ hn hd
variable {a b:Expr}
def tB(t:TE):TT:=λσ H Q=>t σ H λx H1=>∃c,x= .bl c/\Q c H1
variable {tA tB':TT}{rest:List Expr}
def tOrV(ta tb:TE):TE:=λσ H Q=>ta σ H λx H1=>∃c,x= .bl c/\if c=true then Q (.bl true) H1 else tb σ H1 Q
end
def SqL(K:PySem.W.Frag)(H:Hp)(a:Addr)(xs:List V):Prop:=
 Rd H a (.lst xs)\/
  ∃(o:Obj)(its:Array Value)(n:Nat),K.lookup a=some o/\o.cls= .type "list"/\o.dict=none/\o.data= .seq its n/\its.size<=sizeLine/\Vals xs its.toList
def SqT(K:PySem.W.Frag)(H:Hp)(a:Addr)(xs:List V):Prop:=
 Rd H a (.tup xs)\/
  ∃(o:Obj)(its:Array Value)(n:Nat),K.lookup a=some o/\o.cls= .type "tuple"/\o.data= .seq its n/\its.size<=sizeLine/\Vals xs its.toList
noncomputable def absV:Value->Option V
 | .none=>some .non
 | .bool b=>some (.bl b)
 | .int i _=>some (.int i)
 | .str x _=>some (.str x)
 | .bytes b _=>some (.byt b)
 | .float b _=>some (.flt b)
 | .ref a=>some (.ref a)
 | .type n=>some (.ty n)
 | _=>none
theorem RelV.abs{x:V}(r:RelV x u):absV u=some x:=by
 cases x with
 | non=>cases r;rfl
 | bl _=>cases r;rfl
 | int _=>obtain⟨t,rfl⟩:=r;rfl
 | str _=>obtain⟨t,rfl⟩:=r;rfl
 | byt _=>obtain⟨t,rfl⟩:=r;rfl
 | flt _=>obtain⟨t,rfl⟩:=r;rfl
 | ref _=>cases r;rfl
 | ty _=>cases r;rfl
theorem RelV.inj{x y:V}(r:RelV x u)(q:RelV y u):x=y:=lJ3 (r.abs.symm.trans q.abs)
theorem Vals.inj{xs ys:List V}(h:Vals xs us)(g:Vals ys us):xs=ys:=by
 induction h generalizing ys with
 | nil=>(cases g;rfl)
 | cons r _ ih=>(cases g with | cons r' t'=>rw[r.inj r',ih t'])
variable {K:PySem.W.Frag}
section
variable {xs ys:List V}
theorem SqL.of(h:H a=some (.lst xs)):SqL K H a xs:= .inl (.inl h)
theorem SqT.of(h:H a=some (.tup xs)):SqT K H a xs:= .inl (.inl h)
theorem Inv.list(I:Inv X pins σ H s)(h:SqL X.K H a xs):∃its:List Value,Vals xs its/\PlainL s.heap a its.toArray/\xs.length<=sizeLine:=by
 rcases h with h | ⟨o,its,n,hk,hc,hd,hs,hz,r⟩
 .obtain⟨z,its,n,r,e⟩:=h.ok I.hok;exact⟨its,r,⟨_,n,e,rfl,rfl,rfl⟩,z⟩
 .refine⟨its.toList,r,⟨o,n,I.kIn a o hk,hc,hd,by simpa using hs⟩,?_⟩
  have e:=r.length;simp only[lKg] at e;omega
theorem Inv.tuple(I:Inv X pins σ H s)(h:SqT X.K H a xs):∃its:List Value,Vals xs its/\IsTup s.heap a its.toArray/\xs.length<=sizeLine:=by
 rcases h with h | ⟨o,its,n,hk,hc,hs,hz,r⟩
 .obtain⟨z,its,r,p⟩:=h.ok I.hok;exact⟨its,r,p.is,z⟩
 .refine⟨its.toList,r,⟨o,I.kIn a o hk,hc,n,by simpa using hs⟩,?_⟩
  have e:=r.length;simp only[lKg] at e;omega
theorem Inv.list_inj(I:Inv X pins σ H s)(h:SqL X.K H a xs)(h':SqL X.K H a ys):xs=ys:=by
 obtain⟨its,r,⟨o,n,e,_,_,d⟩,_⟩:=I.list h;obtain⟨its',r',⟨o',n',e',_,_,d'⟩,_⟩:=I.list h';rw[e] at e';cases e';rw[d] at d';injection d' with d1 _
 have:its=its':=by simpa using lKa Array.toList d1
 subst this;exact r.inj r'
theorem Inv.tuple_inj(I:Inv X pins σ H s)(h:SqT X.K H a xs)(h':SqT X.K H a ys):xs=ys:=by
 obtain⟨its,r,⟨o,e,_,n,d⟩,_⟩:=I.tuple h;obtain⟨its',r',⟨o',e',_,n',d'⟩,_⟩:=I.tuple h';rw[e] at e';cases e';rw[d] at d';injection d' with d1 _
 have:its=its':=by simpa using lKa Array.toList d1
 subst this;exact r.inj r'
end
noncomputable abbrev Cx.wish(X:Cx)(E:Value->Shared->Prop):Cx:={X with xe:=E}
noncomputable abbrev Cx.nox(X:Cx):Cx:=X.wish λ_ _=>False
theorem Cx.Ok.wish(ok:X.Ok)(E:Value->Shared->Prop):(X.wish E).Ok:=
 ⟨ok.mod,ok.kind,ok.glob,ok.blt,ok.above,ok.inj,ok.has,ok.cab,ok.hd,ok.gd,ok.frames,ok.stk,ok.exf,ok.bs,ok.bsz,ok.noex,ok.exfs,ok.funs,ok.frf⟩
theorem Cx.Ok.unwish(ok:(X.wish E).Ok):X.Ok:=
 ⟨ok.mod,ok.kind,ok.glob,ok.blt,ok.above,ok.inj,ok.has,ok.cab,ok.hd,ok.gd,ok.frames,ok.stk,ok.exf,ok.bs,ok.bsz,ok.noex,ok.exfs,ok.funs,ok.frf⟩
theorem Inv.wish(I:Inv X pins σ H s)(E:Value->Shared->Prop):Inv (X.wish E) pins σ H s:=⟨I.ok.wish E,I.os,I.bare,I.base,I.loc,I.cell,I.free,I.freeC,I.pin,I.hok,I.len⟩
theorem Inv.unwish(I:Inv (X.wish E) pins σ H s):Inv X pins σ H s:=⟨I.ok.unwish,I.os,I.bare,I.base,I.loc,I.cell,I.free,I.freeC,I.pin,I.hok,I.len⟩
theorem SP.unwish{D:Ends}{f:Flow}(h:SP (X.wish E) pins D f s'):SP X pins D f s':=by
 cases f with
 | next=>obtain⟨σ',H',I,q⟩:=h;exact⟨σ',H',I.unwish,q⟩
 | brk=>obtain⟨σ',H',I,q⟩:=h;exact⟨σ',H',I.unwish,q⟩
 | cont=>obtain⟨σ',H',I,q⟩:=h;exact⟨σ',H',I.unwish,q⟩
 | ret u=>obtain⟨v,σ',H',I,r,q⟩:=h;exact⟨v,σ',H',I.unwish,r,q⟩
theorem PSs.nox{st:List Stmt}{t:TS}(h:PSs X.nox st t):PSs X st t:=λpins s σ H D I hw=>
 lQv (h pins s σ H D (I.wish _) hw) (λ_ _ q=>q.unwish) λ_ _ z=>False.elim z
variable {e:Expr}{te:TE}
section
variable {st:Stmt}{rest:List Stmt}{t u:TS}
theorem Inv.quiet(I:Inv X pins σ H s):interactive X.env=false:=by simp[interactive,I.ok.kind]
def uUt:TS:=λD _ H=>D.rt .non H
end
abbrev TSet:=V->V->V->Hp->(Hp->Prop)->Prop
def PSet(X:Cx)(t:TSet):Prop:=
 ∀(pins:List (Addr×Obj))(s:Shared)(σ:St)(H:Hp)(o i v:V)(ov iv u:Value)(Q:Hp->Prop),Inv X pins σ H s->RelV o ov->RelV i iv->RelV v u->t o i v H Q->
  wpAny (model X.prog X.w) X.A (setItem ov iv u) (λ_ s'=>∃H',Inv X pins σ H' s'/\Q H') X.xe s
structure It where
 go:Nat->Hp->Prop
 yld:Nat->Hp->V->Hp->Prop
 stop:Nat->Hp->Prop
def FpOk(X:Cx)(pins:List (Addr×Obj))(H:Hp)(b:Addr):Prop:=
 H b=none/\b≠X.env.locals/\b∉X.fs/\(b∈X.ex\/X.s₀.heap.objs.size<=b)/\(∀x c,X.env.cells.lookup x=some c->c≠b)/\∀p∈X.pn++pins,p.1≠b
theorem Inv.fpOk(I:Inv X pins σ H s)(hb:s.heap.objs.size<=b)(hn:H' b=none):FpOk X pins H' b:=by
 refine⟨hn,lQl (lKc I.lt hb),I.nofs hb,.inr (lKx I.sz hb),λx c e z=> ?_,λp hp z=> ?_⟩
 .obtain⟨v,q⟩:=I.cell x c e;exact absurd (lKc q.lt (by rw[z];exact hb)) (lQx _)
 .exact absurd (lKc (lJi (I.pin p hp).1) (by rw[z];exact hb)) (lQx _)
structure Turn (P:Program) (w:World) (K:PySem.W.Frag) (tg:Expr) (J:It) (fp:List Addr) (it:Addr) (tn:Nat->Heap->Prop):Prop where
 mem:it∈fp
 obj:∀i h,tn i h->∀b∈fp,∃o,h.get? b=some o/\∀v,o.data≠ .cell v
 keep:∀i h h',tn i h->(∀b∈fp,∀o,h.get? b=some o->h'.get? b=some o)->tn i h'
 item:∀(X:Cx),X.prog=P->X.w=w->X.K=K->X.calm=true->∀(i:Nat)(pins:List (Addr×Obj))(s:Shared)(σ:St)(H:Hp)(E:Value->Shared->Prop),Inv X pins σ H s->(∀b∈fp,FpOk X pins H b)->tn i s.heap->J.go i H->
  wpAny (model P w) X.A (pyNext (.ref it)) (λr s1=>∃u,r=some u/\
   wpAny (model P w) X.A (letOwnedTupleGo tg (.ref it) u) (λ_ s2=>∃x H',Inv X pins σ H' s2/\RelV x u/\J.yld i H x H'/\tn (i+1) s2.heap/\∀b∈fp,H' b=none) E s1) E s
 done:∀(X:Cx),X.prog=P->X.w=w->X.K=K->X.calm=true->∀(i:Nat)(pins:List (Addr×Obj))(s:Shared)(σ:St)(H:Hp)(E:Value->Shared->Prop),Inv X pins σ H s->(∀b∈fp,FpOk X pins H b)->tn i s.heap->J.stop i H->
  wpAny (model P w) X.A (pyNext (.ref it)) (λr s1=>r=none/\Inv X pins σ H s1) E s
 self:∀(A:Around)(i:Nat)(s:Shared)(Q:Value->Shared->Prop)(E:Value->Shared->Prop),tn i s.heap->Q (.ref it) s->wpAny (model P w) A (pyIter (.ref it)) Q E s
abbrev TI:=St->Hp->(It->Hp->Prop)->Prop
def PIE(X:Cx)(pins:List (Addr×Obj))(σ:St)(tg:Expr)(R:It->Hp->Prop)(itv:Value)(s2:Shared):Prop:=
 ∃(it:Addr)(fp:List Addr)(tn:Nat->Heap->Prop)(J:It)(H':Hp),itv= .ref it/\Inv X pins σ H' s2/\Turn X.prog X.w X.K tg J fp it tn/\tn 0 s2.heap/\(∀b∈fp,FpOk X pins H' b)/\R J H'
def PI(X:Cx)(tg iter:Expr)(wi:TI):Prop:=
 ∀(pins:List (Addr×Obj))(s:Shared)(σ:St)(H:Hp)(R:It->Hp->Prop),Inv X pins σ H s->wi σ H R->
  wpAny (model X.prog X.w) X.A (eval iter X.env) (λv s1=>wpAny (model X.prog X.w) X.A (pyIter v) (PIE X pins σ tg R) X.xe s1) X.xe s
variable {tg:Expr}
theorem uQc{o:Obj}{n:String}{vs:Array Value}(ho:s.heap.get? it=some o)(hc:o.cls= .type n)(hd:o.data= .fields vs)(hn:["enumerate","zip","dict_itemiterator","dict_reverseitemiterator","odict_iterator","itertools.zip_longest","itertools.pairwise"].contains n=false)(hQ:Q () s):wpAny M A (letOwnedTupleGo tg (.ref it) u) Q E s:=by
 unfold letOwnedTupleGo
 cases tg<;>first
  | exact lJe hQ
  | (cases u<;>first
    | exact lJe hQ
    | (refine lJb (wpAny_load ho ?_)
       rw[hc,hd];show wpAny M A (if (["enumerate","zip","dict_itemiterator","dict_reverseitemiterator","odict_iterator","itertools.zip_longest","itertools.pairwise"].contains n&&vs[0]? == some (rawInt _))=true then _ else _) Q E s
       rw[lJa (by intro h;rw[hn,Bool.false_and] at h;cases h)]
       exact lJe hQ))
noncomputable def Itl(K:PySem.W.Frag)(a:Addr):It:=
 ⟨λi H=>∃xs x,SqL K H a xs/\xs[i]? =some x,λi H x H'=>H'=H/\∀xs,SqL K H a xs->xs[i]? =some x,λi H=>∃xs,SqL K H a xs/\xs.length<=i⟩
noncomputable def Itt(K:PySem.W.Frag)(a:Addr):It:=
 ⟨λi H=>∃xs x,SqT K H a xs/\xs[i]? =some x,λi H x H'=>H'=H/\∀xs,SqT K H a xs->xs[i]? =some x,λi H=>∃xs,SqT K H a xs/\xs.length<=i⟩
noncomputable def Itr(lo:Int)(n:Nat):It:=⟨λi _=>i<n,λi H x H'=>H'=H/\x= .int (lo+i),λi _=>n<=i⟩
theorem qK2(a it:Addr):Turn P w K tg (Itl K a) [it] it (λi h=>h.IsListIter it a i) where
 mem:=by simp
 obj:=λi h st b hb=>by
  have e:b=it:=by simpa using hb
  subst e;obtain⟨o,e,c,d⟩:=st;exact⟨o,e,λv z=>by rw[d] at z;cases z⟩
 keep:=λi h h' st k=>st.at λo e=>k it (by simp) o e
 item:=by
  intro X hP hw hK hc i pins s σ H E I hf st hg;subst hP hw hK;obtain⟨xs,x,hq,hx⟩:=hg;obtain⟨its,rv,p,hz⟩:=I.list hq;obtain⟨u,hu,ru⟩:=rv.get hx;obtain⟨f0,f1,f2,f3,f4,f5⟩:=hf it (by simp)
  refine mJe st p.isList (x:=u) (by simpa using hu) λh' st' sb=> ?_
  have I1:Inv X pins σ H {s with heap:=h'}:=I.turned (t':=s.toks) (λb o hb e=>(sb.2 b hb).trans e) f0 f1 f3 f4 f5
  obtain⟨o,e,c,d⟩:=id st';exact⟨u,rfl,uQc (s:={s with heap:=h'}) e c d (by decide) ⟨x,H,I1,ru,⟨rfl,λys hy=>by rw[I.list_inj hy hq];exact hx⟩,st',λb hb=>(hf b hb).1⟩⟩
 done:=by
  intro X hP hw hK hc i pins s σ H E I hf st hg;subst hP hw hK;obtain⟨xs,hq,hx⟩:=hg;obtain⟨its,rv,p,hz⟩:=I.list hq;obtain⟨f0,f1,f2,f3,f4,f5⟩:=hf it (by simp)
  have hl:=rv.length;exact mJf (I.ok.hd hc) st p.isList (by simp;omega) λh' eb=>⟨rfl,I.turned (t':=s.toks) (λb o hb e=>eb b o hb e) f0 f1 f3 f4 f5⟩
 self:=λ_ _ _ _ _ st h=>wpAny_pyIter_listiter st h
theorem qJo(a it:Addr):Turn P w K tg (Itt K a) [it] it (λi h=>h.IsTupleIter it a i) where
 mem:=by simp
 obj:=λi h st b hb=>by
  have e:b=it:=by simpa using hb
  subst e;obtain⟨o,e,c,d⟩:=st;exact⟨o,e,λv z=>by rw[d] at z;cases z⟩
 keep:=λi h h' st k=>st.at λo e=>k it (by simp) o e
 item:=by
  intro X hP hw hK hc i pins s σ H E I hf st hg;subst hP hw hK;obtain⟨xs,x,hq,hx⟩:=hg;obtain⟨its,rv,p,hz⟩:=I.tuple hq;obtain⟨u,hu,ru⟩:=rv.get hx;obtain⟨f0,f1,f2,f3,f4,f5⟩:=hf it (by simp)
  refine wpAny_pyNext_tuple_item st (show s.heap.IsTuple a its.toArray from p) (x:=u) (by simpa using hu) λh' st' sb=> ?_
  have I1:Inv X pins σ H {s with heap:=h'}:=I.turned (t':=s.toks) (λb o hb e=>(sb.2 b hb).trans e) f0 f1 f3 f4 f5
  obtain⟨o,e,c,d⟩:=id st';exact⟨u,rfl,uQc (s:={s with heap:=h'}) e c d (by decide) ⟨x,H,I1,ru,⟨rfl,λys hy=>by rw[I.tuple_inj hy hq];exact hx⟩,st',λb hb=>(hf b hb).1⟩⟩
 done:=by
  intro X hP hw hK hc i pins s σ H E I hf st hg;subst hP hw hK;obtain⟨xs,hq,hx⟩:=hg;obtain⟨its,rv,p,hz⟩:=I.tuple hq;obtain⟨f0,f1,f2,f3,f4,f5⟩:=hf it (by simp)
  have hl:=rv.length;exact wpAny_pyNext_tuple_end (I.ok.hd hc) st (show s.heap.IsTuple a its.toArray from p) (by simp;omega) λh' eb=>⟨rfl,I.turned (t':=s.toks) (λb o hb e=>eb b o hb e) f0 f1 f3 f4 f5⟩
 self:=λ_ _ _ _ _ st h=>wpAny_pyIter_tupleiter st h
theorem qJp(it:Addr)(lo:Int)(n:Nat):Turn P w K tg (Itr lo n) [it] it (λi h=>IsRangeIter h it (lo+(i:Nat)*1) ((n:Int)-(i:Nat)) 1) where
 mem:=by simp
 obj:=λi h st b hb=>by
  have e:b=it:=by simpa using hb
  subst e
  exact⟨_,st,λv z=>by
   have z':Data.fields _=Data.cell v:=z;cases z'⟩
 keep:=λi h h' st k=>k it (by simp) _ st
 item:=by
  intro X hP hw hK hc i pins s σ H E I hf st hg;subst hP hw hK;obtain⟨f0,f1,f2,f3,f4,f5⟩:=hf it (by simp)
  have W:=Walks.range (prog:=X.prog) (w:=X.w) (I.ok.hd hc) it lo 1 n;refine W.item i s _ _ hg st λv h' tk hv st' kk=> ?_
  obtain⟨t,rfl⟩:=hv;have I1:Inv X pins σ H {s with heap:=h',toks:=tk}:=I.turned (λb o hb e=>kk b o (by simpa using hb) e) f0 f1 f3 f4 f5
  refine⟨_,rfl,uQc (s:={s with heap:=h',toks:=tk}) (n:="range_iterator") st' rfl rfl (by decide) ⟨.int (lo+i),H,I1,⟨t,?_⟩,⟨rfl,rfl⟩,st',λb hb=>(hf b hb).1⟩⟩
  rw[Int.mul_one]
 done:=by
  intro X hP hw hK hc i pins s σ H E I hf st hg;subst hP hw hK;obtain⟨f0,f1,f2,f3,f4,f5⟩:=hf it (by simp)
  exact wpAny_pyNext_range_end (I.ok.hd hc) st (by have:n<=i:=hg;omega) λh' eb=>⟨rfl,I.turned (t':=s.toks) (λb o hb e=>eb b o hb e) f0 f1 f3 f4 f5⟩
 self:=λ_ _ _ _ _ st h=>wpAny_pyIter_rangeiter st h
variable {fp:List Addr}
theorem kZd{R:It->Hp->Prop}{lo hi:Int}{t u v:Tok}{tk:Nat}(I:Inv X pins σ H s)(h1: -(2^62)<=lo)(h2:lo<2^62)(h3: -(2^62)<=hi)(h4:hi<2^62)(q:R (Itr lo (hi-lo).toNat) H):wpAny (model X.prog X.w) X.A (pyIter (.ref s.heap.objs.size)) (PIE X pins σ tg R) E {s with heap:=s.heap.push {cls:= .type "range",data:= .fields #[.int lo t,.int hi u,.int 1 v]},toks:=tk}:=by
 refine wpAny_pyIter_range (IsRange.new ..) (small_one h1 h2 h3 h4) ?_;have I1:Inv X pins σ H {s with heap:=s.heap.push {cls:= .type "range",data:= .fields #[.int lo t,.int hi u,.int 1 v]},toks:=tk}:=I.kept λb o e=>lJm _ e
 refine⟨(s.heap.push {cls:= .type "range",data:= .fields #[.int lo t,.int hi u,.int 1 v]}).objs.size,[(s.heap.push {cls:= .type "range",data:= .fields #[.int lo t,.int hi u,.int 1 v]}).objs.size],_,_,H,rfl,
  I1.kept (t':=tk) λb o e=>lJm _ e,qJp _ lo (hi-lo).toNat,?_,λb hb=> ?_,q⟩
 .have e1:lo+((0:Nat):Int)*1=lo:=by simp
  have e2:(((hi-lo).toNat:Nat):Int)-((0:Nat):Int)=Builtin.Range.rangeSize lo hi 1:=by rw[rangeSize_one];split<;>omega
  show IsRangeIter _ _ (lo+((0:Nat):Int)*1) ((((hi-lo).toNat:Nat):Int)-((0:Nat):Int)) 1
  rw[e1,e2];exact lKd _ rfl
 .have e:b=(s.heap.push {cls:= .type "range",data:= .fields #[.int lo t,.int hi u,.int 1 v]}).objs.size:=by simpa using hb
  subst e;exact I1.fpOk (lJh _) (I1.hok.fresh (lJh _))
noncomputable def jUb(fp:List Addr)(h:Heap):List (Addr×Obj):=fp.filterMap λb=>(h.get? b).map λo=>(b,o)
theorem jQ5{o:Obj}(hb:b∈fp)(e:h.get? b=some o):(b,o)∈jUb fp h:=lYl.mpr ⟨b,hb,by rw[e];rfl⟩
theorem qUt{p:Addr×Obj}(hp:p∈jUb fp h):p.1∈fp/\h.get? p.1=some p.2:=by
 obtain⟨b,hb,e⟩:=lYl.mp hp;cases q:h.get? b with
 | none=>rw[q] at e;cases e
 | some o=>
  rw[q] at e;have e':(b,o)=p:=lJ3 e;subst e';exact⟨hb,q⟩
theorem Inv.pinned(I:Inv X pins σ H s)(hf:∀b∈fp,FpOk X pins H b)(ho:∀b∈fp,∃o,s.heap.get? b=some o/\∀v,o.data≠ .cell v):Inv X (pins++jUb fp s.heap) σ H s:=
 I.pins_of λp hp=>(lJn.mp hp).elim (λz=>I.pin p (lJ7 _ z)) λz=>by
  obtain⟨hb,e⟩:=qUt z;obtain⟨f0,f1,f2,_⟩:=hf p.1 hb;obtain⟨o,e',d⟩:=ho p.1 hb;rw[e] at e';cases e';exact⟨e,f0,f1,f2,d⟩
theorem Inv.unpinned{pl:List (Addr×Obj)}(I:Inv X (pins++pl) σ H s):Inv X pins σ H s:=I.pins_of λp hp=>I.pin p (lJ7 _ (lKk _ hp))
abbrev R2:=V->V->Hp->VK->Prop
def OpR(X:Cx)(f:Value->Value->Sem Value)(r:R2):Prop:=
 ∀(pins:List (Addr×Obj))(s:Shared)(σ:St)(H:Hp)(x y:V)(v u:Value)(Q:VK),Inv X pins σ H s->RelV x v->RelV y u->r x y H Q->
  wpAny (model X.prog X.w) X.A (f v u) (EP X pins σ Q) X.xe s
def UnR(X:Cx)(f:Value->Sem Value)(r:V->Hp->VK->Prop):Prop:=
 ∀(pins:List (Addr×Obj))(s:Shared)(σ:St)(H:Hp)(x:V)(v:Value)(Q:VK),Inv X pins σ H s->RelV x v->r x H Q->
  wpAny (model X.prog X.w) X.A (f v) (EP X pins σ Q) X.xe s
def kY0(X:Cx)(f:Value)(r:List V->Hp->VK->Prop):Prop:=
 ∀(pins:List (Addr×Obj))(s:Shared)(σ:St)(H:Hp)(xs:List V)(us:List Value)(Q:VK),Inv X pins σ H s->Vals xs us->r xs H Q->
  wpAny (model X.prog X.w) X.A (call f us) (EP X pins σ Q) X.xe s
def TruR(X:Cx)(r:V->Hp->(Bool->Hp->Prop)->Prop):Prop:=
 ∀(pins:List (Addr×Obj))(s:Shared)(σ:St)(H:Hp)(x:V)(v:Value)(Q:Bool->Hp->Prop),Inv X pins σ H s->RelV x v->r x H Q->
  wpAny (model X.prog X.w) X.A (truthy v) (TP X pins σ Q) X.xe s
def rI(C:Int->Int->Prop)(g:Int->Int->V):R2:=λx y H Q=>∃i j,x= .int i/\y= .int j/\C i j/\Q (g i j) H
def rI0(g:Int->Int->V):R2:=λx y H Q=>∃i j,x= .int i/\y= .int j/\Q (g i j) H
def rU(g:Int->V):V->Hp->VK->Prop:=λx H Q=>∃i,x= .int i/\Q (g i) H
variable {c:Expr}{tc:TE}{g:Int->Int->Int}
section
variable {a b:Expr}
theorem opI{f:Value->Value->Sem Value}{C:Int->Int->Prop}(rule:∀(i j:Int)(t u:Tok)(s:Shared)(Q:Value->Shared->Prop)(E:Value->Shared->Prop),C i j->Q (.int (g i j) s.toks) {s with toks:=s.toks+1}->wpAny (model X.prog X.w) X.A (f (.int i t) (.int j u)) Q E s):
  OpR X f (rI C λi j=> .int (g i j)):=by
 intro pins s σ H x y v u Q I rx ry h;obtain⟨i,j,rfl,rfl,hc,q⟩:=h;obtain⟨t,rfl⟩:=rx;obtain⟨t',rfl⟩:=ry;exact rule i j t t' s _ _ hc ⟨.int (g i j),H,I.tok _,⟨_,rfl⟩,q⟩
theorem opI0{f:Value->Value->Sem Value}(rule:∀(i j:Int)(t u:Tok)(s:Shared)(Q:Value->Shared->Prop)(E:Value->Shared->Prop),Q (.int (g i j) s.toks) {s with toks:=s.toks+1}->wpAny (model X.prog X.w) X.A (f (.int i t) (.int j u)) Q E s):
  OpR X f (rI0 λi j=> .int (g i j)):=by
 intro pins s σ H x y v u Q I rx ry h;obtain⟨i,j,rfl,rfl,q⟩:=h;obtain⟨t,rfl⟩:=rx;obtain⟨t',rfl⟩:=ry;exact rule i j t t' s _ _ ⟨.int (g i j),H,I.tok _,⟨_,rfl⟩,q⟩
theorem opB0{f:Value->Value->Sem Value}{g:Int->Int->Bool}(rule:∀(i j:Int)(t u:Tok)(s:Shared)(Q:Value->Shared->Prop)(E:Value->Shared->Prop),Q (.bool (g i j)) s->wpAny (model X.prog X.w) X.A (f (.int i t) (.int j u)) Q E s):
  OpR X f (rI0 λi j=> .bl (g i j)):=by
 intro pins s σ H x y v u Q I rx ry h;obtain⟨i,j,rfl,rfl,q⟩:=h;obtain⟨t,rfl⟩:=rx;obtain⟨t',rfl⟩:=ry;exact rule i j t t' s _ _ ⟨.bl (g i j),H,I,rfl,q⟩
def CDiv(i j:Int):Prop:=0<j/\j<1073741824
def CPow(i j:Int):Prop:=0<=j/\j<=1000000/\i.natAbs<2^64
def CMul(i j:Int):Prop:=(-(2^64)<i/\i<2^64)\/(-(2^64)<j/\j<2^64)
theorem CMul.ok{i j:Int}(h:CMul i j):IntMulOk i j:=by
 rcases h with ⟨h1,h2⟩ | ⟨h1,h2⟩
 .exact .of_left (intBits_le_64 h1 h2)
 .exact .of_right (intBits_le_64 h1 h2)
theorem uVu:OpR X (binaryOp .Add) (rI0 λi j=> .int (i+j)):=opI0 λ_ _ _ _ _ _ _ q=>add_int q
theorem uVn:OpR X (binaryOp .Sub) (rI0 λi j=> .int (i-j)):=opI0 λ_ _ _ _ _ _ _ q=>sub_int q
theorem uVq:OpR X (binaryOp .Mult) (rI CMul λi j=> .int (i*j)):=opI λ_ _ _ _ _ _ _ hc q=>mul_int q hc.ok
theorem uKj:OpR X (binaryOp .FloorDiv) (rI CDiv λi j=> .int (i / j)):=opI λi j _ _ _ _ _ hc q=>by
 have h1:(0:Int)<j:=hc.1;have h2:j<1073741824:=hc.2;exact floordiv_int (by omega) (by rw[Int.fdiv_eq_ediv_of_nonneg i (by omega)];exact q) (.inl (PyProof.noPylong_small (by omega)))
theorem uVr:OpR X (binaryOp .Mod) (rI (λ_ j=>0<j) λi j=> .int (i%j)):=opI λi j _ _ _ _ _ hc q=>by
 have h1:(0:Int)<j:=hc;exact mod_int' (by omega) (by rw[Int.fmod_eq_emod_of_nonneg i (by omega)];exact q)
theorem uVp:OpR X (binaryOp .Pow) (rI CPow λi j=> .int (i^j.toNat)):=opI λ_ _ _ _ _ _ _ hc q=>pow_int_small hc.1 hc.2.1 hc.2.2 q
theorem unI{f:Value->Sem Value}{g:Int->Int}(rule:∀(i:Int)(t:Tok)(s:Shared)(Q:Value->Shared->Prop)(E:Value->Shared->Prop),Q (.int (g i) s.toks) {s with toks:=s.toks+1}->wpAny (model X.prog X.w) X.A (f (.int i t)) Q E s):
  UnR X f (rU λi=> .int (g i)):=by
 intro pins s σ H x v Q I rx h;obtain⟨i,rfl,q⟩:=h;obtain⟨t,rfl⟩:=rx;exact rule i t s _ _ ⟨.int (g i),H,I.tok _,⟨_,rfl⟩,q⟩
theorem uUm:UnR X (unaryOp .USub) (rU λi=> .int (-i)):=unI λ_ _ _ _ _ q=>neg_int q
end
section
variable {a b:Expr}
theorem uXp{Q:VK}{k k':Bool}(I:Inv X pins σ H s)(q:Q (.bl k) H)(e:k=k'):EP X pins σ Q (.bool k') s:=by
 subst e;exact⟨.bl k,H,I,rfl,q⟩
theorem uYy:OpR X (compareOp .Lt) (rI0 λi j=> .bl (decide (i<j))):=opB0 λ_ _ _ _ _ _ _ q=>lt_int q
theorem uYz:OpR X (compareOp .LtE) (rI0 λi j=> .bl (decide (i<=j))):=opB0 λ_ _ _ _ _ _ _ q=>le_int q
theorem uY0:OpR X (compareOp .Gt) (rI0 λi j=> .bl (decide (j<i))):=opB0 λ_ _ _ _ _ _ _ q=>gt_int q
theorem uY1:OpR X (compareOp .GtE) (rI0 λi j=> .bl (decide (j<=i))):=opB0 λ_ _ _ _ _ _ _ q=>ge_int q
theorem uVs:OpR X (compareOp .Is) (λx y H Q=>y= .non/\Q (.bl (decide (x= .non))) H):=by
 intro pins s σ H x y v u Q I rx ry h;obtain⟨rfl,q⟩:=h;cases ry;refine is_none_gen (uXp I q ?_)
 cases x<;>first
  | (cases rx;rfl)
  | (obtain⟨t,rfl⟩:=rx;rfl)
theorem uV2(b:Expr){op:CmpOp}(h:op≠ .In:=by decide)(h2:op≠ .NotIn:=by decide):behindInMarks op b=false:=by
 have e1:(op == CmpOp.In)=false:=by cases op<;>first | rfl | exact absurd rfl h
 have e2:(op == CmpOp.NotIn)=false:=by cases op<;>first | rfl | exact absurd rfl h2
 cases b<;>simp[behindInMarks,e1,e2]
def TruV(K:PySem.W.Frag)(x:V)(H:Hp)(k:Bool):Prop:=
 match x with
 | .non=>k=false
 | .bl b=>k=b
 | .int i=>k=(i != 0)
 | .str y=>y.length<=sizeLine/\k=((y.length:Int) != 0)
 | .byt y=>y.size<=sizeLine/\k=((y.size:Int) != 0)
 | .ref p=>(∃xs,SqL K H p xs/\k= !xs.isEmpty)\/(∃xs,SqT K H p xs/\k= !xs.isEmpty)\/∃kvs,H p=some (.dK kvs)/\k= !kvs.isEmpty
 | _=>False
theorem qKi{κ:Type}{kvs:List (κ×V)}{vs:List (κ×Value)}(r:KV kvs vs):(!vs.isEmpty)= !kvs.isEmpty:=by
 cases r<;>rfl
theorem kQh{xs:List V}{its:List Value}(r:Vals xs its):(!its.toArray.isEmpty)= !xs.isEmpty:=by
 cases r<;>simp
theorem kQf:(sizeLine:Nat)<2^63:=by rw[lKw];decide
theorem uUp:TruR X (λx H Q=>∃k,TruV X.K x H k/\Q k H):=by
 intro pins s σ H x v Q I rx h;obtain⟨k,e,q⟩:=h;have hl:=kQf;have hs:sizeLine=16777216:=lKw;cases x with
 | non=>
  cases rx;have e':k=false:=e;subst e';exact truthy_none ⟨H,I,q⟩
 | bl b=>
  cases rx;have e':k=b:=e;subst e';exact lVi ⟨H,I,q⟩
 | int i=>
  obtain⟨t,rfl⟩:=rx;have e':k=(i != 0):=e;subst e';exact PySem.P.truthy_int ⟨H,I,q⟩
 | str y=>
  obtain⟨t,rfl⟩:=rx;obtain⟨hy,e'⟩:y.length<=sizeLine/\k=((y.length:Int) != 0):=e;subst e';exact PySem.P.truthy_str (by omega) ⟨H,I.tok _,q⟩
 | byt y=>
  obtain⟨t,rfl⟩:=rx;obtain⟨hy,e'⟩:y.size<=sizeLine/\k=((y.size:Int) != 0):=e;subst e';exact PySem.W.truthy_bytes (by omega) ⟨H,I.tok _,q⟩
 | ref p=>
  cases rx;have e':(∃xs,SqL X.K H p xs/\k= !xs.isEmpty)\/(∃xs,SqT X.K H p xs/\k= !xs.isEmpty)\/∃kvs,H p=some (.dK kvs)/\k= !kvs.isEmpty:=e
  rcases e' with ⟨xs,hx,e'⟩ | ⟨xs,hx,e'⟩ | ⟨kvs,hx,e'⟩
  .subst e';obtain⟨its,r,pl,hz⟩:=I.list hx;have hlen:=r.length;exact wpAny_truthy_list pl.isList (by simp only[lJx];omega) ⟨H,I.tok _,by rw[kQh r];exact q⟩
  .subst e';obtain⟨its,r,pl,hz⟩:=I.tuple hx;have hlen:=r.length;exact truthy_tuple pl (by simp only[lJx];omega) ⟨H,I.tok _,by rw[kQh r];exact q⟩
  .subst e';obtain⟨hz,hS,vs,r,m⟩:kvs.length<=sizeLine/\(p == sysModules)=false/\∃vs,KV kvs vs/\s.heap.DictOf (jJ8 X.prog X.w) p vs:=I.hok p _ hx
   have hlen:kvs.length=vs.length:=lQ7 r;exact wpAny_truthy_dict hS m (by omega) ⟨H,I.tok _,by rw[qKi r];exact q⟩
 | _=>exact (show False from e).elim
theorem qJn{x:V}(r:Vals [x] us):∃u,us=[u]/\RelV x u:=by
 cases r with
 | cons r1 r2=>cases r2;exact⟨_,rfl,r1⟩
theorem uYi{x y:V}(r:Vals [x,y] us):∃u w',us=[u,w']/\RelV x u/\RelV y w':=by
 cases r with
 | cons r1 r2=>
  cases r2 with
  | cons r3 r4=>cases r4;exact⟨_,_,rfl,r1,r3⟩
theorem qZu:kY0 X (.builtin "abs") (λxs H Q=>∃i,xs=[.int i]/\Q (.int (if i<0 then -i else i)) H):=by
 intro pins s σ H xs us Q I r h;obtain⟨i,rfl,q⟩:=h;obtain⟨u,rfl,t,rfl⟩:=qJn r;exact call_abs_int λu tk=>⟨.int (if i<0 then -i else i),H,I.tok _,⟨_,rfl⟩,q⟩
theorem qXb(hc:X.calm=true):kY0 X (.builtin "max") (λxs H Q=>∃i j,xs=[.int i,.int j]/\Q (.int (if j>i then j else i)) H):=by
 intro pins s σ H xs us Q I r h;obtain⟨i,j,rfl,q⟩:=h;obtain⟨u,w',rfl,⟨t,rfl⟩,⟨t',rfl⟩⟩:=uYi r;refine max_two_ints (I.ok.hd hc) λh' tk k=>⟨_,H,I.kept k,?_,q⟩
 by_cases hj:j>i
 .rw[lJc hj,lJc hj];exact⟨_,rfl⟩
 .rw[lJa hj,lJa hj];exact⟨_,rfl⟩
theorem qXc:kY0 X (.type "int") (λxs H Q=>(∃i,xs=[.int i]/\Q (.int i) H)\/∃k,xs=[.bl k]/\Q (.int (if k then 1 else 0)) H):=by
 intro pins s σ H xs us Q I r h
 rcases h with ⟨i,rfl,q⟩ | ⟨k,rfl,q⟩
 .obtain⟨u,rfl,t,rfl⟩:=qJn r;exact call_int_int ⟨.int i,H,I,⟨_,rfl⟩,q⟩
 .obtain⟨u,rfl,r1⟩:=qJn r;cases r1;exact call_int_bool ⟨.int (if k then 1 else 0),H,I.tok _,⟨_,rfl⟩,q⟩
end
variable {dx C f:Addr}{name:Str}
section
variable {x:Addr}{mA:Str->Option Value}{v:Value}
end
theorem RelO.some_of{v:V}{o:Option Value}(r:RelO (some v) o):∃u,o=some u/\RelV v u:=by
 cases o with
 | none=>exact (show False from r).elim
 | some u=>exact⟨u,rfl,r⟩
section
variable {fs fs':List (Str×V)}
end
section
variable {fs:List (Str×V)}{f:Str}{v:V}
end
section
variable {o value:Expr}{f:Str}{pos' tpos:Pos}{tv:TE}
end
section
variable {Q:Value->Shared->Prop}{c:Value}{b:Bool}
end
structure Room (k:Nat) (A:Around):Prop where
 hd:A.handled=none
 gd:A.guards=some []
 dp:A.depth+3*k+5<recursionLimit
 un:A.units+16*k+200<cLine
theorem Room.mono{k:Nat}(r:Room k A)(h:j<=k):Room j A:=⟨r.hd,r.gd,by have:=r.dp;omega,by have:=r.un;omega⟩
theorem Room.deeper{k:Nat}(r:Room (k+1) A)(env:Env):Room k (A.deeper env):=
 ⟨r.hd,r.gd,by have:=r.dp;show A.depth+1+3*k+5<_;omega,by have:=r.un;show A.units+3+16*k+200<_;omega⟩
theorem Room.depth{k:Nat}(r:Room k A):A.depth<recursionLimit:=by have:=r.dp;omega
theorem Room.units{k:Nat}(r:Room k A):A.units+64<cLine:=by have:=r.un;omega
variable {es:List Expr}
section
variable {t:TA}
end
abbrev Sp:=List V->Hp->VK->XK->Prop
abbrev CXT:=List Env->Hp->Shared->XK->Value->Shared->Prop
structure Env0 (P:Program) (w:World) (K:PySem.W.Frag) (mg:Str->Option Value) (base:Heap) (A:Around) (outer:List Env) (s:Shared) (H:Hp):Prop where
 frames:A.frames=some outer
 mod:Mod K mg base
 bs:∀b o,base.get? b=some o->s.heap.get? b=some o/\H b=none
 bsz:base.objs.size<=s.heap.objs.size
 funs:s.heap.FunFrames base outer
 frf:∀b∈frs outer,H b=none
 hok:HOk P w H s.heap
 bare:AllBare s.gens
def CE(outer:List Env)(P:Program)(w:World)(H:Hp)(s:Shared)(Q:VK)(u:Value)(s':Shared):Prop:=
 ∃v H',s'.os=s.os/\AllBare s'.gens/\Un (frs outer) [] H H' s.heap s'.heap/\HOk P w H' s'.heap/\RelV v u/\Q v H'
def CR(CX:CXT)(outer:List Env)(P:Program)(w:World)(H:Hp)(s:Shared)(Q:VK)(E:XK)(r:Result)(s':Shared):Prop:=
 match r with
 | .ok (.ret u)=>CE outer P w H s Q u s'
 | .ok _=>False
 | .error e=>CX outer H s E e s'
structure FnOk (P:Program) (w:World) (K:PySem.W.Frag) (mg:Str->Option Value) (base:Heap) (CX:CXT) (k:Nat) (f:Addr) (fd:FuncData) (ps:List Str) (sp:Sp):Prop where
 len:∀vs H Q E,sp vs H Q E->vs.length=ps.length
 run:∀(A:Around)(outer:List Env)(s:Shared)(H:Hp)(args:Args)(us:List Value)(vs:List V)(Q:VK)(E:XK),Room k A->Env0 P w K mg base A outer s H->BindsTo s fd args (ps.zip us)->Vals vs us->sp vs H Q E->
  codeAny (model P w) A (.call (.ref f) args) (CR CX outer P w H s Q E) s
theorem Inv.env0(I:Inv X pins σ H s):Env0 X.prog X.w X.K X.mg X.base X.A X.stack s H:=
 ⟨I.ok.frames,I.ok.mod,I.bs,lKx I.ok.bsz I.sz,I.stack,I.stkFree,I.hok,I.bare⟩
theorem Inv.after{Q:VK}(I:Inv X pins σ H s)(h:CE X.stack X.prog X.w H s Q u s'):EP X pins σ Q u s':=by
 obtain⟨v,H',os,bare,un,hok,r,q⟩:=h;obtain⟨hh,g,d,t,os'⟩:=s';obtain rfl:os'=s.os:=os;exact⟨v,H',I.call (h':=hh) (g':=g) (d':=d) (t':=t) (ch:=[]) un hok bare (λb z=>absurd z (by simp)),r,q⟩
def Binds(K:PySem.W.Frag)(fd:FuncData)(ps:List Str)(ds:List Value):Prop:=
 ∀(s:Shared)(us:List Value),K.In s.heap->(us++ds).length=ps.length->BindsTo s fd ⟨us,[]⟩ (ps.zip (us++ds))
variable {fd:FuncData}{ps:List Str}
theorem Binds.all(h:∀us:List Value,us.length=ps.length->bindArgs fd ⟨us,[]⟩=pure (ps.zip us)):Binds K fd ps []:=λs us _ hl=>by
 rw[lQd] at hl ⊢;exact .of_eq (h us hl)
def uJ0(CX:CXT)(X:Cx)(E:XK):Prop:=∀(pins:List (Addr×Obj))(σ:St)(H:Hp)(s:Shared)(e:Value)(s':Shared),Inv X pins σ H s->CX X.stack H s E e s'->X.xe e s'
variable {CX:CXT}{sp:Sp}{m:Str}{p apos:Pos}
section
variable {k:Nat}{dvs:List V}{ds:List Value}{E:XK}{o:Expr}{t:TA}
theorem uU5{Q:VK}{vs:List V}(F:FnOk X.prog X.w X.K X.mg X.base CX k f fd ps sp)(hr:Room k X.A)(hb:Binds X.K fd ps ds)(hd:Vals dvs ds)(hx:uJ0 CX X E)(I:Inv X pins σ H s)(r:Vals vs us)(h:sp (vs++dvs) H Q E):wpAny (model X.prog X.w) X.A (call (.ref f) us) (EP X pins σ Q) X.xe s:=by
 have r2:Vals (vs++dvs) (us++ds):=r.append hd;have hl:(us++ds).length=ps.length:=by rw[<-r2.length];exact F.len _ _ _ _ h
 refine wpAny_call (lYe (F.run X.A X.stack s H ⟨us,[]⟩ (us++ds) (vs++dvs) Q E hr I.env0 (hb s us I.kIn hl) r2 h) λr s' hq=> ?_)
 cases r with
 | error e=>exact hx pins σ H s e s' I hq
 | ok fl=>
  cases fl with
  | ret u=>exact I.after hq
  | next=>exact False.elim hq
  | brk=>exact False.elim hq
  | cont=>exact False.elim hq
end
section
variable {k:Nat}{ks:List Str}{E:XK}{kpos:Pos}{o:Expr}{kws:List Keyword}{t tk:TA}{nm:Option Str}
variable {g:List Value->List Value->List Value}{gV:List V->List V->List V}
end
structure FnScope (N P:List Str) (sc:Scope):Prop where
 kind:sc.kind= .function
 co:sc.isCoroutine=false
 gen:sc.isGenerator=false
 nd:N.Nodup
 pre:N.take P.length=P
 par:∀x∈P,sc.names.lookup x=some .local\/sc.names.lookup x=some .cell
 nofree:∀y∈sc.names,y.2≠ .free
theorem kXg{kindOf:Str->Option NameKind}{x:Str}:∀{binds:List (Str×Value)}{m:Str->Option Value},(∀v,(x,v)∉binds)->bindL kindOf binds m x=m x
 | [],_,_=>rfl
 | (n,v)::r,m,h=>by
  unfold bindL;rw[kXg λw hw=>h w (lJw _ hw)]
  split
  .have:x≠n:=by rintro rfl;exact h v lJv
   simp[this]
  .rfl
theorem kXi{kindOf:Str->Option NameKind}{x:Str}:∀{binds:List (Str×Value)}{m:Str->Option Value},(∀v,(x,v)∉binds)->bindC kindOf binds m x=m x
 | [],_,_=>rfl
 | (n,v)::r,m,h=>by
  unfold bindC;rw[kXi λw hw=>h w (lJw _ hw)]
  split
  .rfl
  .have:x≠n:=by rintro rfl;exact h v lJv
   simp[this]
theorem kXh{kindOf:Str->Option NameKind}{x:Str}{v:Value}:∀{P:List Str}{vs:List Value}{i:Nat}{m:Str->Option Value},P.Nodup->P[i]? =some x->vs[i]? =some v->kindOf x=some .local->
  bindL kindOf (P.zip vs) m x=some v
 | [],_,_,_,_,h,_,_=>by simp at h
 | _::_,[],_,_,_,_,h,_=>by simp at h
 | p::P,w::vs,0,m,nd,h1,h2,hk=>by
  simp at h1 h2;subst h1;subst h2;show bindL kindOf ((p,w)::P.zip vs) m p=_
  unfold bindL;rw[kXg λv hv=>(lK4.mp nd).1 (lZm hv).1,lJc hk]
  simp
 | p::P,w::vs,i+1,m,nd,h1,h2,hk=>by
  show bindL kindOf ((p,w)::P.zip vs) m x=_
  unfold bindL;exact kXh (i:=i) (lK4.mp nd).2 (by simpa using h1) (by simpa using h2) hk
theorem kXj{kindOf:Str->Option NameKind}{x:Str}{v:Value}:∀{P:List Str}{vs:List Value}{i:Nat}{m:Str->Option Value},P.Nodup->P[i]? =some x->vs[i]? =some v->kindOf x≠some .local->
  bindC kindOf (P.zip vs) m x=some v
 | [],_,_,_,_,h,_,_=>by simp at h
 | _::_,[],_,_,_,_,h,_=>by simp at h
 | p::P,w::vs,0,m,nd,h1,h2,hk=>by
  simp at h1 h2;subst h1;subst h2;show bindC kindOf ((p,w)::P.zip vs) m p=_
  unfold bindC;rw[kXi λv hv=>(lK4.mp nd).1 (lZm hv).1,lJa hk]
  simp
 | p::P,w::vs,i+1,m,nd,h1,h2,hk=>by
  show bindC kindOf ((p,w)::P.zip vs) m x=_
  unfold bindC;exact kXj (i:=i) (lK4.mp nd).2 (by simpa using h1) (by simpa using h2) hk
noncomputable def start(N:List Str)(vs:List V):St:=vs.map some++List.replicate (N.length-vs.length) none
noncomputable def cxOf(CX:CXT)(P:Program)(w:World)(K:PySem.W.Frag)(mg:Str->Option Value)(base:Heap)(N:List Str)(qual:Str)(scope:Scope)(f:Addr)(cd:Value)(A:Around)(outer:List Env)(s:Shared)(H:Hp)(E:XK):Cx where
 prog:=P
 w:=w
 K:=K
 mg:=mg
 base:=base
 A:=A.deeper (envOfC qual scope s.heap.objs.size f cd)
 N:=N
 s₀:=s
 H₀:=H
 env:=envOfC qual scope s.heap.objs.size f cd
 outer:=outer
 stack:=envOfC qual scope s.heap.objs.size f cd::outer
 ex:=[]
 calm:=true
 fn:=λ_=>true
 pn:=[]
 xe:=λe s'=>wpAny (model P w) (A.deeper (envOfC qual scope s.heap.objs.size f cd)) (leaving (envOfC qual scope s.heap.objs.size f cd) e) (λ_ s''=>CX outer H s E e s'') (λe' s''=>CX outer H s E e' s'') s'
theorem qJh{sc:Scope}{n:Nat}(h:sc.names.lookup x=some .cell):∃c,(cellsFrom n sc.names []).lookup x=some c:=by
 have q:=PySem.W.cellsFrom_some sc.names n [] (.inl h);exact lVn.mp q
variable {mg:Str->Option Value}{base:Heap}{qual:Str}{scope:Scope}
theorem qVc{cd:Value}{outer:List Env}{s1:Shared}{E:XK}{vs:List V}(S:FnScope N ps scope)(hd:A.handled=none/\A.guards=some [])(e0:Env0 P w K mg base A outer s H)(hl:vs.length=ps.length)(r:Vals vs us)(x:InCallC s s.heap.objs.size (bindL (envOfC qual scope s.heap.objs.size f cd).kindOf (ps.zip us) λ_=>none) (cellsFrom (s.heap.objs.size+1) scope.names []) (bindC (envOfC qual scope s.heap.objs.size f cd).kindOf (ps.zip us) λ_=>none) s1):
  Inv (cxOf CX P w K mg base N qual scope f cd A outer s H E) [] (start N vs) H s1:=by
 have hpl:ps.length<=N.length:=by have:=lKa List.length S.pre;rw[lKe] at this;omega
 obtain⟨h1,tk,rfl,hk⟩:=x.done;have noA:∀b:Addr,b∉(cxOf CX P w K mg base N qual scope f cd A outer s H E).ex:=λb z=>absurd (show b∈([]:List Addr) from z) (by simp)
 refine⟨⟨e0.mod,S.kind,rfl,rfl,lJh _,λy z c h1 h2=> ?_,λy hy=> ?_,λy c _ h=> ?_,λ_=>hd.1,λ_=>hd.2,Around.frames_deeper e0.frames,.inr ⟨rfl,rfl⟩,λb z=>absurd z (noA b),e0.bs,e0.bsz,λb _ _=>noA b,λb z=>absurd z (noA b),e0.funs,e0.frf⟩,
  rfl,e0.bare,Un.kept hk,⟨_,x.toInCall.ns,λi y v h1 h2 h3=> ?_⟩,λy c h=>⟨_,x.cell y c h⟩,e0.hok.fresh (lJh _),λy c h=> ?_,λp hp=>absurd (show p∈([]:List (Addr×Obj)) from hp) (by simp),e0.hok.kept hk,?_⟩
 .exact name_of_addr x.apart (lK5 h1) (lK5 h2)
 .have hy:scope.names.lookup y=some .cell\/scope.names.lookup y=some .free:=hy
  rcases hy with hy | hy
  .exact qJh hy
  .exact absurd rfl (S.nofree _ (lK5 hy))
 .exact lVx (x.above y c (lK5 h))
 .have hi:i<vs.length:=by
   unfold start at h2
   by_cases hi:i<vs.length
   .exact hi
   .rw[lQb (by simpa using hi)] at h2
    rw[List.getElem?_replicate] at h2;split at h2<;>cases h2
  have ha:vs[i]? =some v:=by
   unfold start at h2;rw[lK6 (by simpa using hi),lJ0] at h2
   cases e:vs[i]? with
   | none=>rw[e] at h2;cases h2
   | some a=>rw[e] at h2;cases h2;rfl
  obtain⟨u,hu,rv⟩:=r.get ha
  have hp:ps[i]? =some y:=by
   rw[<-S.pre,List.getElem?_take_of_lt (by omega)];exact h1
  have ndP:ps.Nodup:=by rw[<-S.pre];exact S.nd.sublist (lQ8 _ _)
  refine⟨u,rv,?_⟩
  rcases S.par y (lJs hp) with k | k
  .exact .inl ⟨k,kXh ndP hp hu k⟩
  .obtain⟨c,e⟩:=qJh (n:=s.heap.objs.size+1) k;refine .inr ⟨.inl k,c,e,?_⟩;have q:=x.cell y c e;rw[kXj ndP hp hu (by show scope.names.lookup y≠_;rw[k];decide)] at q
   exact q
 .exact e0.hok.fresh (lVx (x.above y c (lK5 h)))
 .unfold start;show _=N.length
  rw[lJ4,lJd,List.length_replicate];omega
theorem uZh{k:Nat}{params:Arguments}{body:List Stmt}{dV kV doc pm cdv ct oc:Value}{an od:Option Addr}{osl:Array (Option Value)}(lk:K.lookup f=some ⟨oc,od,.func (PySem.W.fnOf name qual params body scope dV kV doc pm an cdv ct),osl⟩)(hcd:PySem.W.codeIn K cdv qual=true)(S:FnScope N ps scope)(len:∀vs H Q E,sp vs H Q E->vs.length=ps.length)(hbody:∀(A:Around)(outer:List Env)(s:Shared)(H:Hp)(vs:List V)(Q:VK)(E:XK),Room k (A.deeper (envOfC qual scope s.heap.objs.size f cdv))->sp vs H Q E->
   ∃t,PSs (cxOf CX P w K mg base N qual scope f cdv A outer s H E) body t/\t {nx:=λ_ H'=>Q .non H',rt:=Q} (start N vs) H):
  FnOk P w K mg base CX (k+1) f (PySem.W.fnOf name qual params body scope dV kV doc pm an cdv ct) ps sp:=by
 refine⟨len,λA outer s H args us vs Q E hr e0 hb r hsp=> ?_⟩
 have hl:=len _ _ _ _ hsp;have KX:K.In s.heap:=e0.mod.kin.keeps λb o e=>(e0.bs b o e).1
 have lim:s.heap.NoLimit:=e0.mod.nolimit.keeps λb o e=>(e0.bs b o e).1
 have hkind:∀y∈ps.zip us,scope.names.lookup y.1=some .local\/(scope.names.lookup y.1=some .cell/\((cellsFrom (s.heap.objs.size+1) scope.names []).lookup y.1).isSome=true):=λ⟨n,v⟩ hy=>by
  rcases S.par n (lZm hy).1 with q | q
  .exact .inl q
  .exact .inr ⟨q,PySem.W.cellsFrom_some _ _ _ (.inl q)⟩
 refine codeAny_call_function hr.depth (KX _ _ lk) rfl S.co S.gen rfl (PySem.W.codeRec_of KX hcd) (hb _ _ _ _ ?_);refine wpAny_newFunctionEnv_cells S.kind hkind λenv he s1 x=> ?_
 subst he;refine⟨lim.keeps x.toInCall.keep,codeAny_func ?_⟩;obtain⟨t,ht,hq⟩:=hbody A outer s H vs Q E (hr.deeper _) hsp;have I:Inv (cxOf CX P w K mg base N qual scope f cdv A outer s H E) [] (start N vs) H s1:=qVc S ⟨hr.hd,hr.gd⟩ e0 hl r x;refine lQv (ht [] s1 (start N vs) H _ I hq) (λfl s' hs=> ?_) λe s' hs=>hs
 have fin:∀{σ':St}{H':Hp}{v:V}{u:Value},Inv (cxOf CX P w K mg base N qual scope f cdv A outer s H E) [] σ' H' s'->RelV v u->Q v H'->CE outer P w H s Q u s':=
  λ{σ' H' v u} J rv q=>⟨v,H',J.os,J.bare,J.base,J.hok,rv,q⟩
 cases fl with
 | ret u=>
  obtain⟨v,σ',H',J,rv,q⟩:=hs;exact fin J rv q
 | next=>
  obtain⟨σ',H',J,q⟩:=hs;exact fin (v:=V.non) (u:=Value.none) J rfl q
 | brk=>
  obtain⟨_,_,_,q⟩:=hs;exact False.elim q
 | cont=>
  obtain⟨_,_,_,q⟩:=hs;exact False.elim q
section
variable {t:TA}{id T:String}{r:List V->Hp->VK->Prop}
end
end L2
namespace HT
open PySem PyProof.Rows
theorem qZk(A:Around)(s:Shared)(a:Int)(t:Tok)(c:Int)(u:Tok):∃e,SeqAt.EqAt A s (.int a t) (.int c u) e/\(e=true↔a=c):=
 ⟨(a == c),SeqAt.EqAt.int_int a t c u,by simp⟩
section
open PySem.SeqAt
open PySem.AutoSeq1 (wpAny_loadPart')
open PySem.MeetsSeq PySem.MeetsSeq2 PySem.MeetsSeq3
end
variable {Q:Value->Shared->Prop}{sl:Addr}{vl vu:Value}{lo hi:Option Int}
section
variable {prog:Program}{w:World}{A:Around}{E:Value->Shared->Prop}{s:Shared}
theorem cat_tup{t b:Addr}{vs ws:List Value}(ht:IsTup s.heap t vs.toArray)(hb:IsTup s.heap b ws.toArray)(hv:vs≠[])(h1:ws=[]->Q (.ref t) s)(h2:ws≠[]->Q (.ref s.heap.objs.size) {s with heap:=s.heap.push {cls:= .type "tuple",data:= .seq (vs++ws).toArray} })(hsz:vs.length+ws.length<=sizeLine):wpAny (model prog w) A (binaryOp .Add (.ref t) (.ref b)) Q E s:=by
 obtain⟨⟨cls,dd,data,sl⟩,ho,hc,n,hd⟩:=id ht;obtain⟨⟨cls2,dd2,data2,sl2⟩,ho2,hc2,n2,hd2⟩:=id hb;simp only at hc hd hc2 hd2;subst hc hd hc2 hd2;have e:vs.toArray++ws.toArray=(vs++ws).toArray:=by simp
 by_cases hw:ws=[]
 .exact concat_meets ⟨_,ho,rfl⟩ ⟨_,ho2,rfl⟩ mJg seq_tuple_add lZn lZo (lZp _ _)
   (tuple_addW1 t b vs.toArray ws.toArray n n2 dd dd2 sl sl2 (by simpa using hv) (by simp[hw])) ⟨ho,ho2,h1 hw⟩
 .refine concat_meets ⟨_,ho,rfl⟩ ⟨_,ho2,rfl⟩ mJg seq_tuple_add lZn lZo (lZp _ _)
   (tuple_addW2 t b vs.toArray ws.toArray n n2 dd dd2 sl sl2 (by simpa using hv) (by simpa using hw) (by rw[lJx,lJx];exact hsz)) ⟨ho,ho2,?_⟩
  rw[e];exact h2 hw
noncomputable def sIx(n d:Nat):Option Int->Nat
 | none=>d
 | some v=>if v<0 then (v+(n:Int)).toNat else min v.toNat n
theorem uU4(n d:Nat)(hd:d<=n)(o:Option Int):sIx n d o<=n:=by
 cases o with
 | none=>exact hd
 | some v=>
  show (if v<0 then (v+(n:Int)).toNat else min v.toNat n)<=n
  by_cases hv:v<0
  .rw[lJc hv];omega
  .rw[lJa hv];exact Nat.min_le_right _ _
theorem qV7(v:Int)(n d:Nat):(if v<0 then max (v+(n:Int)) 0 else min v (n:Int))=((sIx n d (some v):Nat):Int):=by
 show (if v<0 then max (v+(n:Int)) 0 else min v (n:Int))=(((if v<0 then (v+(n:Int)).toNat else min v.toNat n):Nat):Int)
 by_cases hv:v<0
 .simp only[lJc hv];omega
 .simp only[lJa hv];omega
theorem qKp(lo hi:Option Int)(n:Nat):Builtin.Slice.sliceAdjust lo hi 1 (n:Int)=(((sIx n 0 lo:Nat):Int),((sIx n n hi:Nat):Int)):=by
 have h1:¬ ((1:Int)<0):=by omega
 unfold Builtin.Slice.sliceAdjust;simp only[h1,lKi];refine Prod.ext ?_ ?_
 .cases lo with
  | none=>rfl
  | some v=>exact qV7 v n 0
 .cases hi with
  | none=>rfl
  | some v=>exact qV7 v n n
theorem qJ3(i j:Nat):Builtin.Slice.slicePlaces (i:Int) (j:Int) 1=j-i:=by
 unfold Builtin.Slice.slicePlaces;have h1:(1:Int)>0:=by omega
 simp only[h1,lKm,Int.ediv_one];split<;>omega
theorem jYz{v:Value}{o:Option Int}{Q:Option Int->Shared->Prop}(p:IsPart v o)(h:Q o s):wpAny (model prog w) A (Builtin.Slice.slicePartIndex v) Q E s:=by
 cases p with
 | none=>exact lZf h
 | int i t=>exact slicePart_int h
theorem jVp{n:Nat}{Q:Int×Int×Nat->Shared->Prop}(hs:s.heap.IsSliceOf sl vl vu .none)(pl:IsPart vl lo)(pu:IsPart vu hi)(h:Q (((sIx n 0 lo:Nat):Int),1,sIx n n hi-sIx n 0 lo) s):wpAny (model prog w) A (Builtin.Slice.sliceApplied (.ref sl) (pure (n:Int))) Q E s:=by
 obtain⟨os,hos,hcs,hds⟩:=id hs;unfold Builtin.Slice.sliceApplied Builtin.Slice.sliceFields;refine lJb (lJb (lVj hos hds (x:=vl) rfl (lJb (lVj hos hds (x:=vu) rfl (lJb (lVj hos hds (x:= .none) rfl (lJe ?_)))))));refine lJb (lZf ?_);show wpAny _ _ (if ((1:Int) == 0)=true then _ else _) _ _ s
 rw[lJa (by decide)]
 refine lJb (jYz pl (lJb (jYz pu (lJb (lJe ?_)))));show wpAny _ _ (match Builtin.Slice.sliceAdjust lo hi 1 (n:Int) with | (lo,hi)=>pure (lo,(1:Int),Builtin.Slice.slicePlaces lo hi 1)) _ _ s
 rw[qKp lo hi n];show wpAny _ _ (pure (((sIx n 0 lo:Nat):Int),(1:Int),Builtin.Slice.slicePlaces ((sIx n 0 lo:Nat):Int) ((sIx n n hi:Nat):Int) 1)) _ _ s
 rw[qJ3];exact lJe h
theorem qYo(xs:Array Value)(i k:Nat):((List.range k).filterMap λ(m:Nat)=>xs[((i:Int)+(m:Int)*1).toNat]?).toArray=((xs.toList.drop i).take k).toArray:=by
 have e:(λ(m:Nat)=>xs[((i:Int)+(m:Int)*1).toNat]?)=λm=>xs[i+m]? :=by
  funext m
  have:((i:Int)+(m:Int)*1).toNat=i+m:=by omega
  rw[this]
 rw[e];have:=pick_run xs i k;rw[lYm] at this;have e2:((λx=>xs[x]?)∘λx=>i+x)=λm=>xs[i+m]? :=rfl
 rw[e2] at this;rw[this]
theorem getItem_tuple_cut{t:Addr}{items:Array Value}(ht:IsTup s.heap t items)(hs:s.heap.IsSliceOf sl vl vu .none)(pl:IsPart vl lo)(pu:IsPart vu hi)(hw:¬ (sIx items.size 0 lo=0/\sIx items.size items.size hi=items.size))(h:Q (.ref s.heap.objs.size) {s with heap:=s.heap.push {cls:= .type "tuple",data:= .seq ((items.toList.drop (sIx items.size 0 lo)).take (sIx items.size items.size hi-sIx items.size 0 lo)).toArray} })(hsz:items.size<=sizeLine):wpAny (model prog w) A (getItem (.ref t) (.ref sl)) Q E s:=by
 have htake:sizeOk (.seq ((items.toList.drop (sIx items.size 0 lo)).take (sIx items.size items.size hi-sIx items.size 0 lo)).toArray):=by
  show ((items.toList.drop (sIx items.size 0 lo)).take (sIx items.size items.size hi-sIx items.size 0 lo)).toArray.size<=sizeLine
  rw[lJx,lKe,lQf,lKg];omega
 have hj:sIx items.size items.size hi<=items.size:=uU4 _ _ (lJh _) hi;obtain⟨os,hos,hcs,hds⟩:=id hs;have hTs:s.TypeIs (.ref sl) "slice":=⟨os,hos,hcs⟩;unfold getItem
 try with_reducible refine lKz ?_
 first | refine lJb (lJe ?_) | skip
 refine lJb (mJh ht.typeIs (by decide) ?_)
 refine lJb (lVt (name:=Str.ofString "__getitem__") ht.typeIs lQ9
  (lQn lQ9 ht.typeIs mJi ?_ (mJj _ _)))
 show wpAny _ _ (Builtin.Tuple.tupleItemsOf (.ref t) >>= _) _ _ s
 refine lJb (tupleItemsOf_ ht ?_);refine lJb (lVk hTs ?_);rw[lJc (by decide)]
 refine lJb (jVp hs pl pu ?_)
 have hno:¬ ((((sIx items.size 0 lo:Nat):Int) == 0&&(1:Int) == 1&&(sIx items.size items.size hi-sIx items.size 0 lo) == items.size)=true):=by
  intro q;rw[lKv,lKv] at q;have q1:((sIx items.size 0 lo:Nat):Int)=0:=eq_of_beq q.1.1;have q2:sIx items.size items.size hi-sIx items.size 0 lo=items.size:=eq_of_beq q.2;exact hw ⟨by omega,by omega⟩
 show wpAny _ _ (if (((sIx items.size 0 lo:Nat):Int) == 0&&(1:Int) == 1&&(sIx items.size items.size hi-sIx items.size 0 lo) == items.size)=true then _ else _) _ _ s
 rw[lJa hno,qYo]
 first
  | exact lJb (m:=Builtin.Tuple.tupleExact _) (lK3 (lJe ⟨_,rfl,lJe h⟩) htake)
  | exact lJb (m:=Builtin.Tuple.tupleExact _) (lK3 (lJb (lJe (lJe ⟨_,rfl,lJe h⟩))) htake)
  | exact lJb (lJb (m:=Builtin.Tuple.tupleExact _) (lK3 (lJe (lJe ⟨_,rfl,lJe h⟩)) htake))
  | exact lJb (lJb (m:=Builtin.Tuple.tupleExact _) (lK3 (lJe ⟨_,rfl,lJe h⟩) htake))
end
end HT
namespace L2
open PySem PySem.Spec PyProof.Rows
abbrev TO:=St->Hp->(Option Int->Hp->Prop)->Prop
theorem kQi{ns:List Int}:∀{us:List Value},Vals (ns.map V.int) us->IntsAre us ns:=by
 induction ns with
 | nil=>intro us r;rw[lVz] at r;cases r;exact .nil
 | cons n ns ih=>
  intro us r;rw[lJo] at r;cases r with
  | cons r1 r2=>
   obtain⟨t,e⟩:=r1;subst e;exact .cons n t (ih r2)
variable {X:Cx}{e:Expr}{pos:Pos}{xs:List V}{us:List Value}
section
variable {te:TE}{lo hi:Option Expr}{tl th:TO}{p2:Pos}
def SlR(X:Cx)(r:V->Option Int->Option Int->Hp->VK->Prop):Prop:=
 ∀(pins:List (Addr×Obj))(s:Shared)(σ:St)(H:Hp)(x:V)(v vl vu:Value)(lo hi:Option Int)(sl:Addr)(Q:VK),Inv X pins σ H s->RelV x v->s.heap.IsSliceOf sl vl vu .none->IsPart vl lo->IsPart vu hi->r x lo hi H Q->
  ∃T id,typeLookup (.type T) "__getitem__"=pure (some (.builtin id))/\s.TypeIs v T/\wpAny (model X.prog X.w) X.A (getItem v (.ref sl)) (EP X pins σ Q) X.xe s
noncomputable def cutV(xs:List V)(lo hi:Option Int):List V:=(xs.drop (HT.sIx xs.length 0 lo)).take (HT.sIx xs.length xs.length hi-HT.sIx xs.length 0 lo)
theorem kKh(xs:List V)(lo hi:Option Int):(cutV xs lo hi).length<=xs.length:=by
 unfold cutV;rw[lKe,lQf];omega
noncomputable def rSlT(K:PySem.W.Frag):V->Option Int->Option Int->Hp->VK->Prop:=λx lo hi H Q=>∃a xs,x= .ref a/\SqT K H a xs/\
 ¬ (HT.sIx xs.length 0 lo=0/\HT.sIx xs.length xs.length hi=xs.length)/\∀p,H p=none->Q (.ref p) (upd H p (.tup (cutV xs lo hi)))
theorem uU1:SlR X (rSlT X.K):=by
 intro pins s σ H x v vl vu lo hi sl Q I rx hs pl pu h;obtain⟨a,xs,rfl,hx,hw,q⟩:=h;cases rx;obtain⟨its,r,ht,hz⟩:=I.tuple hx;have hlen:its.toArray.size=xs.length:=by rw[lJx];exact r.length.symm
 refine⟨"tuple",_,lQ9.lookup,ht.typeIs,?_⟩;refine HT.getItem_tuple_cut ht hs pl pu (by rw[hlen];exact hw) ?_ (by rw[hlen];exact hz)
 rw[hlen];refine⟨.ref s.heap.objs.size,_,I.laid (t':=s.toks) (o:= .tup (cutV xs lo hi)) (λb ob q=>lJm _ q) (lJh _) ?_,rfl,q _ (I.hok.fresh (lJh _))⟩
 exact⟨lKx (kKh xs lo hi) hz,_,(r.drop (HT.sIx xs.length 0 lo)).take (HT.sIx xs.length xs.length hi-HT.sIx xs.length 0 lo),TupD.new _ _⟩
noncomputable def qYk(K:PySem.W.Frag):R2:=λx y H Q=>∃a b xs ys,x= .ref a/\y= .ref b/\SqT K H a xs/\SqT K H b ys/\xs≠[]/\xs.length+ys.length<=sizeLine/\
 (ys=[]->Q (.ref a) H)/\(ys≠[]->∀p,H p=none->Q (.ref p) (upd H p (.tup (xs++ys))))
theorem Vals.nil_iff(r:Vals xs us):us=[]↔xs=[]:=by
 cases r with
 | nil=>simp
 | cons _ _=>simp
theorem uKk:OpR X (binaryOp .Add) (qYk X.K):=by
 intro pins s σ H x y v u Q I rx ry h;obtain⟨a,b,xs,ys,rfl,rfl,ha,hb,hx,hz,q1,q2⟩:=h;cases rx;cases ry;obtain⟨its,r1,p1,_⟩:=I.tuple ha;obtain⟨its2,r2,p2,_⟩:=I.tuple hb;refine HT.cat_tup p1 p2 (λz=>hx (r1.nil_iff.mp z)) (λz=>⟨.ref a,H,I,rfl,q1 (r2.nil_iff.mp z)⟩) (λz=> ?_) (by rw[<-r1.length,<-r2.length];exact hz)
 refine⟨.ref s.heap.objs.size,_,I.laid (t':=s.toks) (o:= .tup (xs++ys)) (λb ob q=>lJm _ q) (lJh _) ?_,rfl,q2 (λw=>z (r2.nil_iff.mpr w)) _ (I.hok.fresh (lJh _))⟩
 exact⟨by rw[lJ4];exact hz,_,r1.append r2,TupD.new _ _⟩
end
noncomputable def ixN(n:Nat)(i:Int):Option Nat:=if 0<=i then (if i<n then some i.toNat else none) else if -(n:Int)<=i then some (i+n).toNat else none
noncomputable def atI{α:Type}(xs:List α)(i:Int):Option α:=(ixN xs.length i).bind λj=>xs[j]?
variable {n:Nat}{i:Int}
theorem qVa{j:Nat}(h:ixN n i=some j):seqIndex? i n=some j/\j<n/\ -(n:Int)<=i/\i<n:=by
 unfold ixN at h
 by_cases h0:0<=i
 .rw[lJc h0] at h
  by_cases h1:i<n
  .rw[lJc h1] at h;have e:i.toNat=j:=lJ3 h;exact⟨by rw[seqIndex_of h0 h1,e],by omega,by omega,h1⟩
  .rw[lJa h1] at h;cases h
 .rw[lJa h0] at h
  by_cases h1: -(n:Int)<=i
  .rw[lJc h1] at h;have e:(i+n).toNat=j:=lJ3 h;exact⟨by rw[seqIndex_neg (by omega) h1,e],by omega,h1,by omega⟩
  .rw[lJa h1] at h;cases h
theorem qXl{α:Type}{xs:List α}{v:α}(h:atI xs i=some v):∃j,seqIndex? i xs.length=some j/\xs[j]? =some v/\j<xs.length/\ -(xs.length:Int)<=i/\i<xs.length:=by
 unfold atI at h;cases e:ixN xs.length i with
 | none=>rw[e] at h;cases h
 | some j=>
  rw[e] at h;obtain⟨h1,h2,h3,h4⟩:=qVa e;exact⟨j,h1,h,h2,h3,h4⟩
def qXn(b:Expr):Prop:=∀o i,subscripted b false o i=operate [o,i] (getItem o i)
def IxR(X:Cx)(r:R2):Prop:=
 ∀(value slice:Expr)(pins:List (Addr×Obj))(s:Shared)(σ:St)(H:Hp)(x y:V)(v u:Value)(Q:VK),Inv X pins σ H s->RelV x v->RelV y u->r x y H Q->
  subscripted slice false v u=operate [v,u] (getItem v u)->wpAny (model X.prog X.w) X.A (subscriptTail value slice v u) (EP X pins σ Q) X.xe s
def MtR(X:Cx)(id:String)(r:V->List V->Hp->VK->Prop):Prop:=
 ∀(pins:List (Addr×Obj))(s:Shared)(σ:St)(H:Hp)(x:V)(xs:List V)(v:Value)(us:List Value)(Q:VK),Inv X pins σ H s->RelV x v->Vals xs us->r x xs H Q->
  wpAny (model X.prog X.w) X.A (call (.builtin id) (v::us)) (EP X pins σ Q) X.xe s
variable {pins:List (Addr×Obj)}{σ:St}{H:Hp}{s:Shared}{p:Addr}{ys:List V}{its its':List Value}{A:Around}{y x:V}{u:Value}{apos cpos:Pos}
section
variable {a b:Expr}{ta tb:TE}
theorem IxR.or{r r':R2}(h:IxR X r)(h':IxR X r'):IxR X (λx y H Q=>r x y H Q\/r' x y H Q):=by
 intro value slice pins s σ H x y v u Q I rx ry q hs
 rcases q with q | q
 .exact h value slice pins s σ H x y v u Q I rx ry q hs
 .exact h' value slice pins s σ H x y v u Q I rx ry q hs
def rIxL(K:PySem.W.Frag):R2:=λx y H Q=>∃p xs i v,x= .ref p/\y= .int i/\SqL K H p xs/\atI xs i=some v/\Q v H
def rIxT(K:PySem.W.Frag):R2:=λx y H Q=>∃p xs i v,x= .ref p/\y= .int i/\SqT K H p xs/\atI xs i=some v/\Q v H
theorem ix_list:IxR X (rIxL X.K):=by
 intro value slice pins s σ H x y v u Q I rx ry h hs;obtain⟨p,xs,i,z,rfl,rfl,hq,he,q⟩:=h;cases rx;obtain⟨t,rfl⟩:=ry;obtain⟨its,r,pl,hz⟩:=I.list hq;obtain⟨j,h1,h2,h3,h4,h5⟩:=qXl he;obtain⟨w,ew,rw'⟩:=r.get h2;have hl:=r.length;have hn:=kQf;have fin:EP X pins σ Q w s:=⟨z,H,I,rw',q⟩
 by_cases h0:0<=i
 .have hj:i.toNat=j:=by
   rw[seqIndex_of h0 h5] at h1;exact lJ3 h1
  exact item_listR pl.isList h0 (by omega) (by rw[hj];simpa using ew) fin hs
 .have hj:(i+(its.toArray.size:Int)).toNat=j:=by
   rw[seqIndex_neg (by omega) h4] at h1
   rw[lJx,<-hl];exact lJ3 h1
  exact subscriptTail_builtinR (x:=w) pl.isList.typeIs slot_list_getitem.lookup
   (wpAny_getItem_list_neg (Q:=λr s'=>r=w/\EP X pins σ Q r s') pl.isList (by omega) (by rw[lJx]<;>omega) (by omega) (by rw[hj];simpa using ew) ⟨rfl,fin⟩) hs
theorem uXe:IxR X (rIxT X.K):=by
 intro value slice pins s σ H x y v u Q I rx ry h hs;obtain⟨p,xs,i,z,rfl,rfl,hq,he,q⟩:=h;cases rx;obtain⟨t,rfl⟩:=ry;obtain⟨its,r,pl,hz⟩:=I.tuple hq;obtain⟨j,h1,h2,h3,h4,h5⟩:=qXl he;obtain⟨w,ew,rw'⟩:=r.get h2;have hl:=r.length;have hn:=kQf;have fin:EP X pins σ Q w s:=⟨z,H,I,rw',q⟩
 exact subscriptTail_builtinR (x:=w) pl.typeIs slot_tuple_getitem.lookup
  (getItem_tuple (j:=j) (Q:=λr s'=>r=w/\EP X pins σ Q r s') pl (by omega) (by omega) (by rw[lJx,<-hl];exact h1) (by simpa using ew) ⟨rfl,fin⟩) hs
theorem qKd(its:List Value)(n j:Nat)(u:Value):Obj.mapSeq (·.setIfInBounds j u) {cls:= .type "list",data:= .seq its.toArray n}={cls:= .type "list",data:= .seq (its.set j u).toArray n}:=by
 simp[Obj.mapSeq]
theorem Inv.lst(I:Inv X pins σ H s)(h:H p=some (.lst xs)):
  ∃(its:List Value)(n:Nat),Vals xs its/\s.heap.get? p=some {cls:= .type "list",data:= .seq its.toArray n}/\xs.length<=sizeLine:=by
 obtain⟨z,its,n,r,e⟩:=I.hok p _ h;exact⟨its,n,r,e,z⟩
theorem Inv.lstUpd{n':Nat}{f:Obj->Obj}(I:Inv X pins σ H s)(h:H p=some (.lst xs))(ho:s.heap.get? p=some {cls:= .type "list",data:= .seq its.toArray n})(hf:f {cls:= .type "list",data:= .seq its.toArray n}={cls:= .type "list",data:= .seq its'.toArray n'})(r:Vals ys its')(hz:ys.length<=sizeLine)(t:Nat):
  Inv X pins σ (upd H p (.lst ys)) {s with heap:=s.heap.update p f,toks:=t}:=by
 have e:(s.heap.update p f).get? p=some {cls:= .type "list",data:= .seq its'.toArray n'}:=by
  rw[lXo f ho (by rw[hf]<;>rfl),hf]
 refine I.write (x:=p) (e:=p) (by rw[h];trivial) (.inl rfl) (λb u hb q=>(lYn _ _ (Ne.symm hb)).trans q) ⟨_,e⟩ ?_
 exact⟨hz,its',n',r,e⟩
def qYi:V->V->V->Hp->(Hp->Prop)->Prop:=λo i v H Q=>∃p xs k j,o= .ref p/\i= .int k/\H p=some (.lst xs)/\ixN xs.length k=some j/\Q (upd H p (.lst (xs.set j v)))
theorem qX4:PSet X qYi:=by
 intro pins s σ H o i v ov iv u Q I ro ri rv h;obtain⟨p,xs,k,j,rfl,rfl,hp,hj,q⟩:=h;cases ro;obtain⟨t,rfl⟩:=ri;obtain⟨its,n,r,ho,hz⟩:=I.lst hp;obtain⟨h1,h2,h3,h4⟩:=qVa hj;have hl:=r.length;have hn:=kQf
 have I':Inv X pins σ (upd H p (.lst (xs.set j v))) {s with heap:=s.heap.update p (Obj.mapSeq (·.setIfInBounds j u))}:=
  I.lstUpd hp ho (qKd its n j u) (r.set rv j) (by rw[lYo];exact hz) s.toks
 by_cases h0:0<=k
 .have hk:k.toNat=j:=by
   rw[seqIndex_of h0 h4] at h1;exact lJ3 h1
  exact PySem.W.ki_setAt ho h0 (by omega) (by rw[lJx,<-hl];exact h4) (by rw[hk];exact⟨_,I',q⟩)
 .have hk:(k+(its.toArray.size:Int)).toNat=j:=by
   rw[seqIndex_neg (by omega) h3] at h1
   rw[lJx,<-hl];exact lJ3 h1
  exact PySem.W.ki_setBack ho (by omega) (by rw[lJx,<-hl];exact h3) (by omega) (by rw[hk];exact⟨_,I',q⟩)
theorem kVf(lo hi:Option Int)(n:Nat):(sliceBounds lo hi none n).1=((HT.sIx n 0 lo:Nat):Int)/\(sliceBounds lo hi none n).2.1=((HT.sIx n n hi:Nat):Int)/\(sliceBounds lo hi none n).2.2=1:=by
 refine⟨?_,?_,rfl⟩
 .cases lo with
  | none=>simp[sliceBounds,HT.sIx]
  | some i=>
   simp only[sliceBounds,HT.sIx,Option.getD_none,show (1:Int)>0 by decide,lKm]
   by_cases h:i<0
   .simp only[h,lKm]<;>omega
   .simp only[h,lKi]<;>omega
 .cases hi with
  | none=>simp[sliceBounds,HT.sIx]
  | some i=>
   simp only[sliceBounds,HT.sIx,Option.getD_none,show (1:Int)>0 by decide,lKm]
   by_cases h:i<0
   .simp only[h,lKm]<;>omega
   .simp only[h,lKi]<;>omega
theorem kQ0(its:List Value)(lo hi:Option Int):slicePick its.toArray lo hi none=((its.drop (HT.sIx its.length 0 lo)).take (HT.sIx its.length its.length hi-HT.sIx its.length 0 lo)).toArray:=by
 obtain⟨h1,h2,h3⟩:=kVf lo hi its.toArray.size;unfold slicePick;rw[h1,h2,h3];simp only[sliceRange_one,pick_run,lJx]<;>rfl
def rSlL(K:PySem.W.Frag):V->Option Int->Option Int->Hp->VK->Prop:=λx lo hi H Q=>∃a xs,x= .ref a/\SqL K H a xs/\∀p,H p=none->Q (.ref p) (upd H p (.lst (cutV xs lo hi)))
theorem uJ8:SlR X (rSlL X.K):=by
 intro pins s σ H x v vl vu lo hi sl Q I rx hs pl pu h;obtain⟨a,xs,rfl,hx,q⟩:=h;cases rx;obtain⟨its,r,ht,hz⟩:=I.list hx;have hlen:=r.length;refine⟨"list",_,slot_list_getitem.lookup,ht.isList.typeIs,?_⟩;refine wpAny_getItem_list_slice ht.isList hs pl pu .none (by simp) ?_ (by rw[lJx]<;>omega)
 rw[kQ0,<-hlen];refine⟨.ref s.heap.objs.size,_,I.laid (t':=s.toks) (o:= .lst (cutV xs lo hi)) (λb ob q=>lJm _ q) (lJh _) ?_,rfl,q _ (I.hok.fresh (lJh _))⟩
 exact⟨lKx (kKh xs lo hi) hz,_,0,(r.drop (HT.sIx xs.length 0 lo)).take (HT.sIx xs.length xs.length hi-HT.sIx xs.length 0 lo),lKd _ rfl⟩
noncomputable def kK2:V->Bool
 | .non=>true
 | .bl _=>true
 | .int _=>true
 | .str _=>true
 | _=>false
noncomputable def eqV:V->V->Bool
 | .non,.non=>true
 | .bl a,.bl b=>a == b
 | .bl a,.int b=>(if a then 1 else 0) == b
 | .int a,.bl b=>a == (if b then 1 else 0)
 | .int a,.int b=>a == b
 | .str a,.str b=>a == b
 | _,_=>false
theorem uXs{v:Value}(ry:RelV y u)(rx:RelV x v)(fy:kK2 y=true)(fx:kK2 x=true):SeqAt.EqAt A s u v (eqV y x):=by
 cases y with
 | non=>
  cases ry;cases x with
  | non=>cases rx;exact SeqAt.EqAt.same _
  | bl b=>cases rx;exact SeqAt.EqAt.none_bool b
  | int b=>obtain⟨t,rfl⟩:=rx;exact SeqAt.EqAt.none_int b t
  | str b=>obtain⟨t,rfl⟩:=rx;exact SeqAt.EqAt.none_str b t
  | _=>exact absurd (show false=true from fx) lJu
 | bl a=>
  cases ry;cases x with
  | non=>cases rx;exact SeqAt.EqAt.bool_none a
  | bl b=>cases rx;exact SeqAt.EqAt.bool_bool a b
  | int b=>obtain⟨t,rfl⟩:=rx;exact SeqAt.EqAt.bool_int a b t
  | str b=>obtain⟨t,rfl⟩:=rx;exact SeqAt.EqAt.bool_str a b t
  | _=>exact absurd (show false=true from fx) lJu
 | int a=>
  obtain⟨t',rfl⟩:=ry;cases x with
  | non=>cases rx;exact SeqAt.EqAt.int_none a t'
  | bl b=>cases rx;exact SeqAt.EqAt.int_bool a t' b
  | int b=>obtain⟨t,rfl⟩:=rx;exact SeqAt.EqAt.int_int a t' b t
  | str b=>obtain⟨t,rfl⟩:=rx;exact SeqAt.EqAt.int_str a t' b t
  | _=>exact absurd (show false=true from fx) lJu
 | str a=>
  obtain⟨t',rfl⟩:=ry;cases x with
  | non=>cases rx;exact SeqAt.EqAt.str_none a t'
  | bl b=>cases rx;exact SeqAt.EqAt.str_bool a t' b
  | int b=>obtain⟨t,rfl⟩:=rx;exact SeqAt.EqAt.str_int a t' b t
  | str b=>obtain⟨t,rfl⟩:=rx;exact SeqAt.EqAt.str_str a t' b t
  | _=>exact absurd (show false=true from fx) lJu
 | _=>exact absurd (show false=true from fy) lJu
def eqU(x:V)(u:Value):Bool:=match u with
 | .none=>eqV .non x
 | .bool b=>eqV (.bl b) x
 | .int i _=>eqV (.int i) x
 | .str z _=>eqV (.str z) x
 | _=>false
theorem qVt(r:RelV y u)(f:kK2 y=true):eqU x u=eqV y x:=by
 cases y with
 | non=>cases r;rfl
 | bl b=>cases r;rfl
 | int i=>obtain⟨t,rfl⟩:=r;rfl
 | str z=>obtain⟨t,rfl⟩:=r;rfl
 | _=>exact absurd (show false=true from f) lJu
theorem kYw{x:V}:∀{xs:List V}{us:List Value},Vals xs us->xs.all kK2=true->us.any (eqU x)=xs.any λy=>eqV y x
 | _,_,.nil,_=>rfl
 | y::xs,u::us,.cons r t,f=>by
  rw[lQy,lKv] at f;rw[lQo,lQo,qVt r f.1,kYw t f.2]
theorem jZ7{A:Around}{s:Shared}{x:V}{v:Value}(rx:RelV x v)(fx:kK2 x=true):∀{xs:List V}{us:List Value},Vals xs us->xs.all kK2=true->∀u∈us,SeqAt.EqAt A s u v (eqU x u)
 | _,_,.nil,_=>λu hu=>by cases hu
 | y::xs,u::us,.cons r t,f=>λu' hu=>by
  rw[lQy,lKv] at f
  rcases (lJp.mp hu) with rfl | hu
  .rw[qVt r f.1];exact uXs r rx f.1 fx
  .exact jZ7 rx fx t f.2 u' hu
def inV(x:V)(xs:List V):Bool:=xs.any λy=>eqV y x
def rIn(K:PySem.W.Frag)(neg:Bool):R2:=λx y H Q=>∃p xs,y= .ref p/\(SqL K H p xs\/SqT K H p xs)/\kK2 x=true/\xs.all kK2=true/\Q (.bl (if neg then !inV x xs else inV x xs)) H
theorem kVs:OpR X (compareOp .NotIn) (rIn X.K true):=by
 intro pins s σ H x y v u Q I rx ry h;obtain⟨p,xs,rfl,hq,fx,fs,q⟩:=h;cases ry
 rcases hq with hq | hq
 .obtain⟨its,r,pl,hz⟩:=I.list hq;refine SeqAt.notIn_listAt (eqU x) pl.isList (λw hw=>jZ7 rx fx r fs w (by simpa using hw)) ⟨.bl _,H,I,rfl,?_⟩
  rw[show its.toArray.any (eqU x)=its.any (eqU x) by simp,kYw r fs]
  exact q
 .obtain⟨its,r,pl,hz⟩:=I.tuple hq;refine SeqAt.notIn_tupleAt (eqU x) pl (λw hw=>jZ7 rx fx r fs w (by simpa using hw)) ⟨.bl _,H,I,rfl,?_⟩
  rw[show its.toArray.any (eqU x)=its.any (eqU x) by simp,kYw r fs]
  exact q
theorem kXe:kY0 X (.builtin "len") (λxs H Q=>∃p ys,xs=[.ref p]/\(SqL X.K H p ys\/SqT X.K H p ys)/\Q (.int ys.length) H):=by
 intro pins s σ H xs us Q I r h;obtain⟨p,ys,rfl,hq,q⟩:=h;obtain⟨u,rfl,rx⟩:=qJn r;cases rx;have hn:=kQf
 rcases hq with hq | hq
 .obtain⟨its,r',pl,hz⟩:=I.list hq;have hlen:=r'.length;exact Calls.call_len_list pl.isList (by simp only[lJx]<;>omega) ⟨.int ys.length,H,I.tok _,⟨s.toks+1,by rw[lJx,hlen]⟩,q⟩
 .obtain⟨its,r',pl,hz⟩:=I.tuple hq;have hlen:=r'.length;exact len_tuple pl (by simp only[lJx]<;>omega) ⟨.int ys.length,H,I.tok _,⟨s.toks+1,by rw[lJx,hlen]⟩,q⟩
theorem kXd:kY0 X (.type "list") (λxs H Q=>∃p ys,xs=[.ref p]/\(SqL X.K H p ys\/SqT X.K H p ys)/\∀l,H l=none->Q (.ref l) (upd H l (.lst ys))):=by
 intro pins s σ H xs us Q I r h;obtain⟨p,ys,rfl,hq,q⟩:=h;obtain⟨u,rfl,rx⟩:=qJn r;cases rx
 have fin:∀(its:List Value),Vals ys its->ys.length<=sizeLine->∀(h':Heap)(c':Nat),(∀b o',s.heap.get? b=some o'->h'.get? b=some o')->
   h'.get? s.heap.objs.size=some {cls:= .type "list",dict:=none,data:= .seq its.toArray c',slots:= #[]}->EP X pins σ Q (.ref s.heap.objs.size) {s with heap:=h'}:=λits r' hz h' c' kp e=>
  ⟨.ref s.heap.objs.size,_,I.laid (t':=s.toks) kp (lJh _) (show ObjOk X.prog X.w _ h' _ (.lst ys) from⟨hz,its,c',r',e⟩),rfl,q _ (I.hok.fresh (lJh _))⟩
 rcases hq with hq | hq
 .obtain⟨its,r',pl,hz⟩:=I.list hq;have hlen:=r'.length;obtain⟨o,ho,hc,n,hd⟩:=pl.isList;exact call_list_seq p (.inl rfl) ho hc hd (λh' c' kp e=>fin its r' hz h' c' kp e) (by simp only[lJx]<;>omega)
 .obtain⟨its,r',pl,hz⟩:=I.tuple hq;have hlen:=r'.length;obtain⟨o,ho,hc,n,hd⟩:=pl;exact call_list_seq p (.inr rfl) ho hc hd (λh' c' kp e=>fin its r' hz h' c' kp e) (by simp only[lJx]<;>omega)
theorem kU3:kY0 X (.type "tuple") (λxs H Q=>∃p ys,xs=[.ref p]/\((SqL X.K H p ys/\∀l,H l=none->Q (.ref l) (upd H l (.tup ys)))\/(SqT X.K H p ys/\Q (.ref p) H))):=by
 intro pins s σ H xs us Q I r h;obtain⟨p,ys,rfl,h⟩:=h;obtain⟨u,rfl,rx⟩:=qJn r;cases rx
 rcases h with ⟨hq,q⟩ | ⟨hq,q⟩
 .obtain⟨its,r',pl,hz⟩:=I.list hq;have hlen:=r'.length;refine call_tuple_list pl.isList (λh' kp=> ?_) (by simp only[lJx]<;>omega)
  have I1:Inv X pins σ H {s with heap:=h'}:=I.kept (t':=s.toks) kp
  have I2:Inv X pins σ (upd H h'.objs.size (.tup ys)) {s with heap:=h'.push {cls:= .type "tuple",data:= .seq its.toArray} }:=
   I1.laid (t':=s.toks) (λb o e=>lJm _ e) (lJh _) (show ObjOk X.prog X.w _ _ _ (.tup ys) from⟨hz,its,r',TupD.new _ _⟩)
  exact⟨.ref h'.objs.size,_,I2,rfl,q _ (I1.hok.fresh (lJh _))⟩
 .obtain⟨its,r',pl,hz⟩:=I.tuple hq;exact call_tuple_same pl ⟨.ref p,H,I,rfl,q⟩
def tyV(K:PySem.W.Frag)(T:String)(x:V)(H:Hp):Prop:=match x with
 | .str _=>T="str"
 | .int _=>T="int"
 | .ref p=>(T="list"/\∃xs,SqL K H p xs)\/(T="tuple"/\∃o,K.lookup p=some o/\o.cls= .type "tuple"/\o.dict=none)\/
   (T="dict"/\((∃kvs,H p=some (.dK kvs))\/∃kvs,H p=some (.dT kvs)))\/(T="set"/\∃S n,H p=some (.set S n))
 | _=>False
theorem uUo{T:String}{v:Value}(I:Inv X pins σ H s)(r:RelV x v)(ty:tyV X.K T x H):
  s.TypeIs v T/\∀a,v= .ref a->∃ob,s.heap.get? a=some ob/\ob.dict=none:=by
 cases x with
 | str z=>
  obtain⟨t,rfl⟩:=r;cases (show T="str" from ty)
  exact⟨typeIs_str s z t,λ_ e=>nomatch e⟩
 | int i=>
  obtain⟨t,rfl⟩:=r;cases (show T="int" from ty)
  exact⟨lYf s i t,λ_ e=>nomatch e⟩
 | ref p=>
  cases r
  rcases ty with ⟨rfl,xs,hq⟩ | ⟨rfl,o,hk,hc,hd⟩ | ⟨rfl,hk⟩ | ⟨rfl,S,n,hk⟩
  .obtain⟨its,_,pl,_⟩:=I.list hq;refine⟨pl.isList.typeIs,λa e=> ?_⟩
   cases e;obtain⟨o,n,e,c,hd,_⟩:=pl;exact⟨o,e,hd⟩
  .refine⟨⟨o,I.kIn p o hk,hc⟩,λa e=> ?_⟩
   cases e;exact⟨o,I.kIn _ o hk,hd⟩
  .have z:∃o,s.heap.get? p=some o/\o.ExactDict:=by
    rcases hk with ⟨kvs,hk⟩ | ⟨kvs,hk⟩
    .obtain⟨_,_,_,_,o,_,_,e,ex,_⟩:=I.hok p _ hk;exact⟨o,e,ex⟩
    .obtain⟨_,_,_,_,o,_,_,e,ex,_⟩:=I.hok p _ hk;exact⟨o,e,ex⟩
   obtain⟨o,e,ex⟩:=z;refine⟨⟨o,e,ex.1⟩,λa e2=> ?_⟩
   cases e2;exact⟨o,e,ex.2.1⟩
  .obtain⟨o,_,_,_,e,ex,_⟩:=I.hok p _ hk;refine⟨⟨o,e,ex.1⟩,λa e2=> ?_⟩
   cases e2;exact⟨o,e,ex.2.1⟩
 | _=>exact False.elim ty
variable {o:Expr}{es:List Expr}{to:TE}{t:TA}{name:Str}{T id:String}{r:V->List V->Hp->VK->Prop}
end
def MtM(X:Cx)(id:String)(r:V->List V->Hp->VK->Prop):Prop:=
 ∀(pins:List (Addr×Obj))(s:Shared)(σ:St)(H:Hp)(x:V)(xs:List V)(v:Value)(us:List Value)(Q:VK),Inv X pins σ H s->RelV x v->Vals xs us->r x xs H Q->
  wpAny (model X.prog X.w) X.A (call (.builtin id) (v::us)) (EP X pins σ Q) X.xe s
theorem Vals.one(h:Vals [x] us):∃u,us=[u]/\RelV x u:=by
 cases h with | cons r t=>(cases t;exact⟨_,rfl,r⟩)
theorem Vals.two(h:Vals [x,y] us):∃u v,us=[u,v]/\RelV x u/\RelV y v:=by
 cases h with | cons r t=>(cases t with | cons q t=>(cases t;exact⟨_,_,rfl,r,q⟩))
theorem Vals.eraseIdx:∀{xs:List V}{us:List Value}(i:Nat),Vals xs us->Vals (xs.eraseIdx i) (us.eraseIdx i)
 | _,_,_,.nil=> .nil
 | _,_,0,.cons _ t=>t
 | _,_,i+1,.cons r t=> .cons r (Vals.eraseIdx i t)
theorem Vals.rep{xs:List V}{us:List Value}(h:Vals xs us):∀k:Nat,Vals (List.replicate k xs).flatten (List.replicate k us).flatten
 | 0=> .nil
 | k+1=>by
  rw[lXc,lXc,lXp,lXp];exact Vals.append h (Vals.rep h k)
theorem kVw{α:Type}:∀(l:List α)(i:Nat),(l.eraseIdx i).length<=l.length
 | [],_=>lJh _
 | _::_,0=>Nat.le_succ _
 | _::r,i+1=>lXq (kVw r i)
theorem kKf(its:List Value):∀(k:Nat)(acc:List Value),
  List.foldl (λx1 x2=>x1++x2) acc.toArray (List.replicate k its.toArray)=(acc++(List.replicate k its).flatten).toArray
 | 0,acc=>by simp
 | k+1,acc=>by
  have e:acc.toArray++its.toArray=(acc++its).toArray:=by simp
  have e2:(acc++its)++(List.replicate k its).flatten=acc++(List.replicate (k+1) its).flatten:=by
   rw[lXc,lXp,lJt]
  rw[<-e2,<-kKf its k (acc++its),<-e,lXc,lXd]
variable {b:Addr}
section
variable {l:Addr}{zs:List V}
theorem Inv.lset{f:Array Value->Array Value}{t':Nat}(I:Inv X pins σ H s)(hH:H l=some (.lst xs))(e:s.heap.get? l=some {cls:= .type "list",data:= .seq its.toArray n})(hf:f its.toArray=its'.toArray)(hv:Vals ys its')(hz:ys.length<=sizeLine):
  Inv X pins σ (upd H l (.lst ys)) {s with heap:=s.heap.update l (Obj.mapSeq f),toks:=t'}:=by
 have q:=PySem.IsL.update e f;rw[hf] at q;refine I.write (x:=l) (e:=l) (by rw[hH];exact trivial) (.inl rfl) (λb' u hb hu=>(lYn s.heap (Obj.mapSeq f) (Ne.symm hb)).trans hu) ⟨_,q⟩ ?_
 exact⟨hz,its',_,hv,q⟩
theorem Inv.lnew{t':Nat}(I:Inv X pins σ H s)(hv:Vals ys its)(hz:ys.length<=sizeLine):
  Inv X pins σ (upd H s.heap.objs.size (.lst ys)) {s with heap:=s.heap.push {cls:= .type "list",data:= .seq its.toArray},toks:=t'}:=
 I.laid (λ_ _ q=>lJm _ q) (lJh _) ⟨hz,its,0,hv,lKd _ rfl⟩
theorem Inv.fresh(I:Inv X pins σ H s):H s.heap.objs.size=none:=I.hok.fresh (lJh _)
theorem Inv.lstM(I:Inv X pins σ H s)(hH:H l=some (.lst xs)):xs.length<=sizeLine/\∃(its:List Value)(n:Nat),Vals xs its/\xs.length=its.length/\s.heap.get? l=some {cls:= .type "list",data:= .seq its.toArray n}:=by
 obtain⟨z,its,n,r,e⟩:=I.hok l _ hH;exact⟨z,its,n,r,r.length,e⟩
theorem qYy(h:n<=sizeLine):Builtin.List.listTooLong n=false:=by
 unfold Builtin.List.listTooLong;exact lJy (by omega)
end
def jUa:V->List V->Hp->VK->Prop:=λx vs H Q=>∃l xs y,x= .ref l/\vs=[y]/\H l=some (.lst xs)/\xs.length<sizeLine/\Q .non (upd H l (.lst (xs++[y])))
theorem qUx:MtM X "list.append" jUa:=by
 intro pins s σ H x vs v us Q I rx rv h;obtain⟨l,xs,y,rfl,rfl,hH,hz,q⟩:=h;cases rx;obtain⟨u,rfl,ru⟩:=rv.one;obtain⟨z,its,n,r,hl,e⟩:=I.lstM hH;refine lQ3 F.slot_list_append ⟨_,e,rfl⟩ F.entry_list_append (F.args_list_append_2 _ _) (PySem.list_append l its.toArray n u (by rw[lJx];omega)) ⟨e,?_⟩
 refine⟨.non,_,I.lset (its':=its++[u]) hH e (by simp) (r.append (.cons ru .nil)) ?_,rfl,q⟩
 rw[lJ4,List.length_singleton];omega
noncomputable def uVc:V->List V->Hp->VK->Prop:=λx vs H Q=>∃l xs i k y,x= .ref l/\vs=[.int i]/\H l=some (.lst xs)/\ -(2^63)<=i/\i<2^63/\seqIndex? i xs.length=some k/\xs[k]? =some y/\Q y (upd H l (.lst (xs.eraseIdx k)))
theorem qY3:MtM X "list.pop" uVc:=by
 intro pins s σ H x vs v us Q I rx rv h;obtain⟨l,xs,i,k,y,rfl,rfl,hH,h1,h2,hk,hy,q⟩:=h;cases rx;obtain⟨u,rfl,ru⟩:=rv.one;obtain⟨t,rfl⟩:=ru;obtain⟨z,its,n,r,hl,e⟩:=I.lstM hH;obtain⟨w,hw,rw'⟩:=r.get hy
 refine lQ3 F.slot_list_pop ⟨_,e,rfl⟩ F.entry_list_pop (F.args_list_pop_2 _ _)
  (MeetsSeq.list_pop_at l its.toArray n i t k w (fitsIndex_both h1 h2) (by rw[lJx,<-hl];exact hk) (by rw[<-lKf];exact hw) (by rw[lJx];omega)) ⟨e,?_⟩
 refine⟨y,_,I.lset (its':=its.eraseIdx k) hH e ?_ (r.eraseIdx k) ?_,rw',q⟩
 .show its.toArray.eraseIdxIfInBounds k=(its.eraseIdx k).toArray
  rw[List.eraseIdxIfInBounds_toArray]
 .have:=kVw xs k;omega
noncomputable def rCat:R2:=λx y H Q=>∃l b xs zs,x= .ref l/\y= .ref b/\H l=some (.lst xs)/\H b=some (.lst zs)/\xs.length+zs.length<=sizeLine/\∀p,H p=none->Q (.ref p) (upd H p (.lst (xs++zs)))
theorem uVt:OpR X (binaryOp .Add) rCat:=by
 intro pins s σ H x y v u Q I rx ry h;obtain⟨l,b,xs,zs,rfl,rfl,hH,hB,hz,q⟩:=h;cases rx;cases ry;obtain⟨z,its,n,r,hl,e⟩:=I.lstM hH;obtain⟨z2,its2,n2,r2,hl2,e2⟩:=I.lstM hB;refine PySem.P.add_list e e2 ?_ (by rw[lJx,lJx];omega)
 have ea:its.toArray++its2.toArray=(its++its2).toArray:=by simp
 rw[ea];exact⟨.ref _,_,I.lnew (t':=s.toks) (r.append r2) (by rw[lJ4];omega),rfl,q _ I.fresh⟩
noncomputable def rRep:R2:=λx y H Q=>∃l k xs,x= .ref l/\y= .int k/\H l=some (.lst xs)/\ -(2^63)<=k/\k<2^63/\xs.length*k.toNat<=sizeLine/\
 ∀p,H p=none->Q (.ref p) (upd H p (.lst (List.replicate k.toNat xs).flatten))
theorem kYi{α:Type}(xs:List α)(k:Nat):(List.replicate k xs).flatten.length=k*xs.length:=by
 induction k with
 | zero=>simp
 | succ k ih=>rw[lXc,lXp,lJ4,ih,lXr,lXs]
theorem uVo:OpR X (binaryOp .Mult) rRep:=by
 intro pins s σ H x y v u Q I rx ry h;obtain⟨l,k,xs,rfl,rfl,hH,h1,h2,hz,q⟩:=h;cases rx;obtain⟨t,rfl⟩:=ry;obtain⟨z,its,n,r,hl,e⟩:=I.lstM hH;have hlen:its.toArray.size*k.toNat<=sizeLine:=by rw[lJx,<-hl];exact hz
 have hcap:¬ its.toArray.size*k.toNat>(2^63-1) / 8:=by
  have:(sizeLine:Nat)<=(2^63-1) / 8:=by decide
  omega
 have hfit:¬ (!Builtin.List.listFitsIndex k)=true:=by
  rw[fitsIndex_both h1 h2];exact lJu
 have hlong:¬ Builtin.List.listTooLong (its.toArray.size*k.toNat)=true:=by
  rw[qYy hlen];exact lJu
 have hnew:List.foldl (λx1 x2=>x1++x2) #[] (List.replicate (if its.toArray.isEmpty=true then 0 else k.toNat) its.toArray)=(List.replicate k.toNat its).flatten.toArray:=by
  have f0:∀m:Nat,List.foldl (λx1 x2=>x1++x2) #[] (List.replicate m its.toArray)=(List.replicate m its).flatten.toArray:=λm=>by
   have:=kKf its m [];rw[lXe] at this;exact this
  rw[f0];cases its with
  | nil=>simp
  | cons a r'=>rw[lJa (by simp)]
 refine wpAny_binaryOp_repeat_ref (T:="list") (U:="int") (by decide) ⟨_,e,rfl⟩ (λs'=>lYf s' k t) noFill_list_mul F.fills_int_mul F.slot_int_rmul repeat_list F.slot_int_index.lookup
  (lQ3 F.slot_int_rmul (lYf s k t) F.entry_int_rmul (F.args_int_rmul_2 _ _) (int___rmul___int_list k t l its.toArray n)
   ⟨e,rfl,⟨_,e,rfl⟩,lQ3 F.slot_list_mul ⟨_,e,rfl⟩ F.entry_list_mul (F.args_list_mul_2 _ _) (AutoListH.list___mul___list_int_3 l its.toArray n k t hfit hcap hlong) ⟨e,?_⟩⟩)
 rw[hnew];exact⟨.ref _,_,I.lnew (t':=s.toks) (r.rep k.toNat) (by rw[kYi,lYp];exact hz),rfl,q _ I.fresh⟩
variable {w:World}{E:Value->Shared->Prop}
section
variable {prog:Program}
end
variable {o:Option V}
section
variable {κ:Type}[DecidableEq κ]
noncomputable def valV(kvs:List (κ×V))(k:κ):Option V:=(kvs.find? λkv=>decide (kv.1=k)).map (·.2)
noncomputable def putK(kvs:List (κ×V))(k:κ)(v:V):List (κ×V):=
 if (kvs.any λkv=>decide (kv.1=k))=true then kvs.map (λkv=>if kv.1=k then (kv.1,v) else kv) else kvs++[(k,v)]
theorem jZz{p:κ×V}{r:List (κ×V)}{k:κ}(e:p.1=k):valV (p::r) k=some p.2:=by simp[valV,lVa,e]
theorem jZ0{p:κ×V}{r:List (κ×V)}{k:κ}(e:¬ p.1=k):valV (p::r) k=valV r k:=by simp[valV,lVa,e]
theorem kY1(k:κ):∀kvs:List (κ×V),(kvs.any λkv=>decide (kv.1=k))=(valV kvs k).isSome
 | []=>rfl
 | p::r=>by
  rw[lQo]
  by_cases e:p.1=k
  .simp only[jZz e,lJq e,Bool.true_or,Option.isSome_some]
  .rw[jZ0 e,lJy e,Bool.false_or];exact kY1 k r
theorem kKa(kvs:List (κ×V))(k:κ)(v:V):(putK kvs k v).length<=kvs.length+1:=by
 unfold putK;split
 .rw[lJd];omega
 .rw[lJ4,lJ8,lQp];omega
theorem RelO.isSome_eq{u:Option Value}(r:RelO o u):o.isSome=u.isSome:=by
 cases o with
 | none=>cases u with
  | none=>rfl
  | some _=>exact (show False from r).elim
 | some _=>cases u with
  | none=>exact (show False from r).elim
  | some _=>rfl
theorem KV.val{kvs:List (κ×V)}{vs:List (κ×Value)}(r:KV kvs vs)(k:κ):RelO (valV kvs k) (valueAt vs k):=by
 unfold KV at r
 induction r with
 | nil=>exact True.intro
 | @cons p q ps qs h t ih=>
  obtain⟨h1,h2⟩:=h
  by_cases e:p.1=k
  .have e':q.1=k:=h1.symm.trans e;have b:valueAt (q::qs) k=some q.2:=by simp[valueAt,lVa,e']
   rw[jZz e,b];exact h2
  .have e':¬ q.1=k:=λz=>e (h1.trans z)
   have b:valueAt (q::qs) k=valueAt qs k:=by simp[valueAt,lVa,e']
   rw[jZ0 e,b];exact ih
theorem KV.any{kvs:List (κ×V)}{vs:List (κ×Value)}(r:KV kvs vs)(k:κ):(kvs.any λkv=>decide (kv.1=k))=vs.any λkv=>decide (kv.1=k):=by
 unfold KV at r
 induction r with
 | nil=>rfl
 | cons h t ih=>rw[lQo,lQo,ih,h.1]
theorem KV.repl{kvs:List (κ×V)}{vs:List (κ×Value)}(r:KV kvs vs)(k:κ)(ry:RelV y u):
  KV (kvs.map λkv=>if kv.1=k then (kv.1,y) else kv) (vs.map λkv=>if kv.1=k then (kv.1,u) else kv):=by
 unfold KV at r ⊢
 induction r with
 | nil=>exact .nil
 | @cons p q ps qs h t ih=>
  rw[lJo,lJo];refine .cons ?_ ih;obtain⟨h1,h2⟩:=h
  by_cases e:p.1=k
  .rw[lJc e,lJc (h1.symm.trans e)];exact⟨h1,ry⟩
  .rw[lJa e,lJa (λz=>e (h1.trans z))];exact⟨h1,h2⟩
theorem KV.put{kvs:List (κ×V)}{vs:List (κ×Value)}(r:KV kvs vs)(k:κ)(ry:RelV y u):KV (putK kvs k y) (stored vs k u):=by
 unfold putK stored;rw[r.any k]
 by_cases e:(vs.any λkv=>decide (kv.1=k))=true
 .rw[lJc e,lJc e];exact r.repl k ry
 .rw[lJa e,lJa e];exact Paired.snoc r ⟨rfl,ry⟩
theorem KV.length{kvs:List (κ×V)}{vs:List (κ×Value)}(r:KV kvs vs):kvs.length=vs.length:=lQ7 r
end
variable {P:Program}
theorem kYk{k:Key}(r:RelV (kV k) u):(jJ8 P w).is k u=true:=by
 cases k with
 | inl i=>obtain⟨t,e⟩:=(show ∃t,u=Value.int i t from r);subst e;exact kJ8 P w i t
 | inr x=>obtain⟨t,e⟩:=(show ∃t,u=Value.str x t from r);subst e;exact kYd P w x t
abbrev KT(H:Hp):List (TKey×V)->List (TKey×Addr×Value)->Prop:=Paired λp q=>p.1=q.1/\TKeyAt H p.1 q.2.1/\RelV p.2 q.2.2
variable {kvs:List (TKey×V)}
theorem KT.val{xs:List (TKey×Addr×Value)}(r:KT H kvs xs)(k:TKey):RelO (valV kvs k) ((atKey xs k).map (·.2)):=by
 induction r with
 | nil=>exact True.intro
 | @cons p q ps qs h t ih=>
  obtain⟨h1,_,h2⟩:=h
  by_cases e:p.1=k
  .have e':q.1=k:=h1.symm.trans e;have b:atKey (q::qs) k=some q.2:=by simp[atKey,lVa,e']
   rw[jZz e,b];exact h2
  .have e':¬ q.1=k:=λz=>e (h1.trans z)
   have b:atKey (q::qs) k=atKey qs k:=by simp[atKey,lVa,e']
   rw[jZ0 e,b];exact ih
theorem KT.repl{xs:List (TKey×Addr×Value)}(r:KT H kvs xs)(k:TKey)(ry:RelV y u):
  KT H (kvs.map λkv=>if kv.1=k then (kv.1,y) else kv) (xs.map (putAt k u)):=by
 induction r with
 | nil=>exact .nil
 | @cons p q ps qs h t ih=>
  rw[lJo,lJo];refine .cons ?_ ih;obtain⟨h1,h2,h3⟩:=h;unfold putAt
  by_cases e:p.1=k
  .rw[lJc e,lJc (h1.symm.trans e)];exact⟨h1,h2,ry⟩
  .rw[lJa e,lJa (λz=>e (h1.trans z))];exact⟨h1,h2,h3⟩
theorem KT.put{xs:List (TKey×Addr×Value)}(r:KT H kvs xs)(k:TKey)(hb:TKeyAt H k b)(ry:RelV y u):
  KT H (putK kvs k y) (storedH xs k b u):=by
 have e:(kvs.any λkv=>decide (kv.1=k))=(atKey xs k).isSome:=by
  rw[kY1,(r.val k).isSome_eq,lZq]
 unfold putK storedH;rw[e]
 by_cases q:(atKey xs k).isSome=true
 .rw[lJc q,lJc q];exact r.repl k ry
 .rw[lJa q,lJa q];exact Paired.snoc r ⟨rfl,hb,ry⟩
variable {H':Hp}
theorem KT.keeps{xs:List (TKey×Addr×Value)}(r:KT H kvs xs)(ht:∀b ys,H b=some (.tup ys)->H' b=some (.tup ys)):KT H' kvs xs:=
 Paired.mapP r λ_ _ z=>⟨z.1,z.2.1.mono ht,z.2.2⟩
variable {a:Addr}
section
variable {h:Heap}
theorem uU8{u:HO}(ok:HOk P w H h)(e:Rd H a u):ObjOk P w H h a u:=e.ok ok
theorem qZp{kvs:List (Key×V)}(ok:HOk P w H h)(e:Rd H a (.dK kvs)):kvs.length<=sizeLine/\(a == sysModules)=false/\∃vs,KV kvs vs/\h.DictOf (jJ8 P w) a vs:=
 show ObjOk P w H h a (.dK kvs) from uU8 ok e
theorem uQz{kvs:List (Key×V)}(ok:HOk P w H h)(e:H a=some (.dK kvs)):kvs.length<=sizeLine/\(a == sysModules)=false/\∃vs,KV kvs vs/\h.DictOf (jJ8 P w) a vs:=qZp ok (.inl e)
theorem kZv{K:Type}[DecidableEq K]{c:Nat}{T:KeyV P w K c}{R:K->V->Prop}(hR:∀k x u,R k x->RelV x u->T.is h k u):∀{ks:List K}{xs:List V}{us:List Value},Paired R ks xs->Vals xs us->ItemsV T h ks us
 | _,_,_,.nil,.nil=> .nil
 | _,_,_,.cons r t,.cons q z=> .cons (hR _ _ _ r q) (kZv hR t z)
theorem kXv{K:Type}[DecidableEq K]{c:Nat}{T:KeyV P w K c}{R:K->V->Prop}{ks:List K}(ok:HOk P w H h)(hR:∀k x u,R k x->RelV x u->T.is h k u)(e:H p=some (.tup xs))(r:Paired R ks xs):kKr T h ks (.ref p):=by
 obtain⟨_,its,q,o,h1,h2,n,h3,_⟩:=(show ObjOk P w H h p (.tup xs) from ok p _ e)
 exact⟨p,o,its.toArray,n,rfl,h1,h2,h3,by simpa using kZv hR r q⟩
theorem uYv(ok:HOk P w H h)(k:K1)(x:V)(u:Value)(r:Rk1 H k x)(q:RelV x u):(vk1 P w).is h k u:=by
 cases k with
 | inl k=>cases (show x=kV k from r);exact kYk (P:=P) (w:=w) q
 | inr ks=>
  obtain⟨p,vs,rfl,e,t⟩:=(show ∃p vs,x= .ref p/\H p=some (.tup vs)/\Paired (λk v=>v=kV k) ks vs from r)
  cases (show u=Value.ref p from q)
  exact kXv (T:=kQo P w) ok (λk x u r q=>by subst r;exact kYk (P:=P) (w:=w) q) e t
theorem uYu(ok:HOk P w H h)(k:K2)(x:V)(u:Value)(r:Rk2 H k x)(q:RelV x u):(vk2 P w).is h k u:=by
 cases k with
 | inl k=>cases (show x=kV k from r);exact kYk (P:=P) (w:=w) q
 | inr ks=>
  obtain⟨p,vs,rfl,e,t⟩:=(show ∃p vs,x= .ref p/\H p=some (.tup vs)/\Paired (Rk1 H) ks vs from r)
  cases (show u=Value.ref p from q)
  exact kXv (T:=vk1 P w) ok (uYv ok) e t
theorem kQg{ks:TKey}(ok:HOk P w H h)(e:TKeyAt H ks a):(jJu P w).is h ks a:=by
 obtain⟨vs,h1,t⟩:=e;exact kXv (T:=vk2 P w) ok (uYu ok) h1 t
theorem qZo(ok:HOk P w H h)(e:Rd H a (.dT kvs)):kvs.length<=sizeLine/\(a == sysModules)=false/\
  ∃xs,KT H kvs xs/\h.DictOfH (jJu P w) a xs:=by
 obtain⟨z,y,xs,r,o,es,ep,h1,h2,h3,h4,h5⟩:=(show ObjOk P w H h a (.dT kvs) from uU8 ok e)
 refine⟨z,y,xs,r,o,es,ep,h1,h2,h3,h4,λx hx=> ?_,h5⟩
 have all:∀{l:List (TKey×V)}{m:List (TKey×Addr×Value)},KT H l m->∀x∈m,(jJu P w).is h x.1 x.2.1:=by
  intro l m q
  induction q with
  | nil=>intro x hx;exact nomatch hx
  | @cons p q ps qs hq t ih=>
   intro x hx
   rcases (lJp.mp hx) with e | hx
   .subst e;exact kQg ok (by rw[<-hq.1];exact hq.2.1)
   .exact ih x hx
 exact all r x hx
theorem uZq(ok:HOk P w H h)(e:H a=some (.dT kvs)):kvs.length<=sizeLine/\(a == sysModules)=false/\
  ∃xs,KT H kvs xs/\h.DictOfH (jJu P w) a xs:=qZo ok (.inl e)
end
def DGet(H:Hp)(a:Addr)(y:V)(r:Option V):Prop:=
 (∃kvs k,Rd H a (.dK kvs)/\y=kV k/\r=valV kvs k)\/∃kvs k b,Rd H a (.dT kvs)/\y= .ref b/\TKeyAt H k b/\r=valV kvs k
def DPut(H:Hp)(a:Addr)(y v:V)(H':Hp):Prop:=
 (∃kvs k,H a=some (.dK kvs)/\y=kV k/\kvs.length<sizeLine/\H'=upd H a (.dK (putK kvs k v)))\/
 ∃kvs k b,H a=some (.dT kvs)/\y= .ref b/\TKeyAt H k b/\kvs.length<sizeLine/\H'=upd H a (.dT (putK kvs k v))
theorem DGet.k{kvs:List (Key×V)}{k:Key}(e:H a=some (.dK kvs)):DGet H a (kV k) (valV kvs k):= .inl ⟨kvs,k,.inl e,rfl,rfl⟩
theorem DGet.t{k:TKey}(e:H a=some (.dT kvs))(eb:TKeyAt H k b):DGet H a (.ref b) (valV kvs k):= .inr ⟨kvs,k,b,.inl e,rfl,eb,rfl⟩
variable {v:V}
theorem DPut.k{kvs:List (Key×V)}{k:Key}(e:H a=some (.dK kvs))(hl:kvs.length<sizeLine):DPut H a (kV k) v (upd H a (.dK (putK kvs k v))):= .inl ⟨kvs,k,e,rfl,hl,rfl⟩
theorem DPut.t{k:TKey}(e:H a=some (.dT kvs))(eb:TKeyAt H k b)(hl:kvs.length<sizeLine):
  DPut H a (.ref b) v (upd H a (.dT (putK kvs k v))):= .inr ⟨kvs,k,b,e,rfl,eb,hl,rfl⟩
variable {r:Value}{Q:Value->Shared->Prop}{h':Heap}
theorem Inv.big(I:Inv X pins σ H s):sysModules<s.heap.objs.size:=by
 have h:mainGlobals<s.heap.objs.size:=(I.mod.glob.keeps I.bk).lt;exact lV0 (by decide) h
theorem qV3(hu:A.units+20<cLine)(I:Inv X pins σ H s)(g:DGet H a y (some v))(ry:RelV y u)(h:∀w' s',Inv X pins σ H s'->RelV v w'->Q w' s'):
  wpAny (model X.prog X.w) A (getItem (.ref a) u) Q E s:=by
 rcases g with ⟨kvs,k,e,ey,l⟩ | ⟨kvs,k,b,e,ey,eb,l⟩
 .subst ey;obtain⟨z,hd,vs,rel,dd⟩:=qZp I.hok e;obtain⟨w',hw,rw'⟩:=RelO.some_of (v:=v) (o:=valueAt vs k) (by rw[l];exact rel.val k)
  exact wpAny_getItem_of (kYk ry) dd.mapOf hw (h w' _ (I.tok _) rw')
 .subst ey;cases (show u=Value.ref b from ry)
  obtain⟨z,hd,xs,rel,dd⟩:=qZo I.hok e;obtain⟨w',hw,rw'⟩:=RelO.some_of (v:=v) (o:=(atKey xs k).map (·.2)) (by rw[l];exact rel.val k)
  obtain⟨p,hp,hp2⟩:=lQg.mp hw;refine wpAny_getItem_heap (jQh hu) (kQg I.hok eb) dd hp ?_;rw[hp2];exact h w' _ (I.tok _) rw'
theorem uQ2(hu:A.units+20<cLine)(I:Inv X pins σ H s)(g:DGet H a y o)(ry:RelV y u)(h:∀s',Inv X pins σ H s'->Q (.bool (!o.isSome)) s'):
  wpAny (model X.prog X.w) A (compareOp .NotIn u (.ref a)) Q E s:=by
 rcases g with ⟨kvs,k,e,ey,l⟩ | ⟨kvs,k,b,e,ey,eb,l⟩
 .subst ey;obtain⟨z,hd,vs,rel,dd⟩:=qZp I.hok e;refine wpAny_notIn_of (kYk ry) hd dd.mapOf ?_;rw[<-(rel.val k).isSome_eq,<-l];exact h _ (I.tok _)
 .subst ey;cases (show u=Value.ref b from ry)
  obtain⟨z,hd,xs,rel,dd⟩:=qZo I.hok e;refine wpAny_notIn_heap (jQh hu) (kQg I.hok eb) hd dd ?_;have q:=(rel.val k).isSome_eq;rw[lZq] at q;rw[<-q,<-l];exact h _ (I.tok _)
theorem kYs{t':Nat}{ob:HO}(I:Inv X pins σ H s)(mu:Mut (H a))(hs:Heap.SameBut a s.heap h')(he:∃q,h'.get? a=some q)(new:ObjOk X.prog X.w (upd H a ob) h' a ob):
  Inv X pins σ (upd H a ob) {s with heap:=h',toks:=t'}:=
 I.write (x:=a) (e:=a) mu (.inl rfl) (λb q hb z=>(hs.2 b hb).trans z) he new
theorem uJw{kvs:List (Key×V)}{vs:List (Key×Value)}(z:kvs.length<=sizeLine)(hd:(a == sysModules)=false)(rel:KV kvs vs)(dd:h'.DictOf (jJ8 P w) a vs):
  ObjOk P w H' h' a (.dK kvs):=⟨z,hd,vs,rel,dd⟩
theorem kV9{Q:Unit->Shared->Prop}(hu:A.units+20<cLine)(I:Inv X pins σ H s)(g:DPut H a y v H')(ry:RelV y u)(rv:RelV v r)(h:∀s',Inv X pins σ H' s'->Q () s'):
  wpAny (model X.prog X.w) A (setItem (.ref a) u r) Q E s:=by
 rcases g with ⟨kvs,k,e,ey,l,eH⟩ | ⟨kvs,k,b,e,ey,eb,l,eH⟩
 .subst ey eH;obtain⟨z,hd,vs,rel,dd⟩:=uQz I.hok e;have hz:vs.length<=sizeLine:=by rw[<-rel.length];exact z
  have hl:(putK kvs k v).length<=sizeLine:=by have:=kKa kvs k v;omega
  refine wpAny_setItem_pairs (hsz:=hz) (kYk ry) dd λh' dd' hs=>h _ ?_
  have he:∃q,h'.get? a=some q:=let ⟨q,_,_,hq,_⟩:=dd';⟨q,hq⟩
  exact kYs I (by rw[e];exact True.intro) hs he (uJw hl hd (rel.put k rv) dd')
 .subst ey eH;cases (show u=Value.ref b from ry)
  obtain⟨z,hd,xs,rel,dd⟩:=uZq I.hok e;have hz:xs.length<=sizeLine:=by rw[<-lQ7 rel];exact z
  have hl:(putK kvs k v).length<=sizeLine:=by have:=kKa kvs k v;omega
  refine wpAny_setItem_heap (hsz:=hz) (jQh hu) (kQg I.hok eb) dd λh' dd' hs=>h _ ?_
  obtain⟨q,es,ep,hq,h2,h3,h4,_,h5⟩:=dd';refine kYs I (by rw[e];exact True.intro) hs ⟨q,hq⟩ ⟨hl,hd,_,(rel.put k eb rv).keeps λc ys ec=> ?_,q,es,ep,hq,h2,h3,h4,h5⟩
  rw[jKf (uY7 ec e (λz=>nomatch z))]
  exact ec
section
variable {kvs:List (Key×V)}{k:Key}
end
theorem kYr(I:Inv X pins σ H s)(g:DGet H a y o):s.TypeIs (.ref a) "dict":=by
 rcases g with ⟨kvs,k,e,_,_⟩ | ⟨kvs,k,b,e,_,_,_⟩
 .obtain⟨_,_,vs,_,dd⟩:=qZp I.hok e;exact dd.typeIs
 .obtain⟨_,_,xs,_,dd⟩:=qZo I.hok e;exact dd.typeIs
variable {ty:TE}
section
variable {o i value:Expr}{pos' tpos:Pos}{td tv:TE}
end
theorem qZq(h:Heap)(hb:sysModules<h.objs.size):ObjOk P w H (h.push {cls:= .type "dict",data:= .dict #[]}) h.objs.size (.dK []):=
 ⟨lJ6 _,beq_eq_false_iff_ne.mpr (Ne.symm (lJr hb)),[],.nil,Heap.DictOf.new h⟩
abbrev VV:List (V×V)->List (Value×Value)->Prop:=Paired λp q=>RelV p.1 q.1/\RelV p.2 q.2
noncomputable def uV3(kvs more:List (Key×V)):List (Key×V):=more.foldl (λacc kv=>putK acc kv.1 kv.2) kvs
theorem KV.merge:∀{more:List (Key×V)}{rs:List (Key×Value)}{kvs:List (Key×V)}{vs:List (Key×Value)},KV more rs->KV kvs vs->KV (uV3 kvs more) (merged vs rs):=by
 intro more rs kvs vs r;unfold KV at r
 induction r generalizing kvs vs with
 | nil=>intro q;exact q
 | @cons p q ps qs h t ih=>
  intro r0
  have e:KV (putK kvs p.1 p.2) (stored vs q.1 q.2):=by
   have:=r0.put p.1 h.2;rw[<-h.1];exact this
  exact ih e
theorem kQn{P:Program}{w:World}:∀{kvs:List (Key×V)}{ws:List (Value×Value)},VV (kvs.map λkv=>(kV kv.1,kv.2)) ws->∃rs,Carries (jJ8 P w) ws rs/\KV kvs rs
 | [],_,r=>by rw[lVz] at r;cases r;exact⟨[],True.intro,.nil⟩
 | p::kvs,_,r=>by
  rw[lJo] at r;cases r with
  | @cons a b as bs h t=>
   obtain⟨rs,c,q⟩:=kQn (P:=P) (w:=w) t;obtain⟨b1,b2⟩:=b;exact⟨(p.1,b2)::rs,⟨kYk h.1,rfl,c⟩,.cons ⟨rfl,h.2⟩ q⟩
section
variable {d:V}
end
section
variable {o f:Expr}{td tx:TE}
end
section
variable {kvs:List (Key×V)}
end
end L2
namespace Att
open PySem PySem.W PySem.Calls PyProof.Rows
variable {P:Params}{h:Heap}
theorem kKc:∀(ns:List Int)(vs:List Value),WellAll P h vs (ns.map WData.int)->IntsAre vs ns:=by
 intro ns
 induction ns with
 | nil=>
  intro vs w;rw[lVz] at w;cases w;exact .nil
 | cons n ns ih=>
  intro vs w;rw[lJo] at w;cases w with
  | cons a b=>
   cases a;exact .cons _ _ (ih _ b)
variable {l:OpenLaw}{n:Nat}
theorem qQm(hn:l.most=some n){args:List WData}{vals:List Value}(hpre:l.row.toRowW.claim.pre args=true)(hwl:WellAll P h vals args):
  ∃a vs ns,vals=[Value.ref a]/\args=[WData.list (ns.map WData.int)]/\h.get? a=some {cls:= .type "list",data:= .seq vs.toArray}/\IntsAre vs ns/\ns.length<=n:=by
 have hsh:WShape.hasAll [] args [.list .int]=true:=(pre_splitW hpre).1;have hc:l.pre.holds [] {args:=args}=true:=(pre_splitW hpre).2;obtain⟨d,r,rfl,h1,h2⟩:=hasAllW_cons hsh;obtain rfl:=hasAllW_nil h2;obtain⟨xs,rfl,h3⟩:=hasW_list h1;obtain⟨ns,rfl⟩:=items_int h3
 have hlen:ns.length<=n:=by
  unfold OpenLaw.pre at hc
  have h4:(WTm.not (.lt (.lit (.int (n:Int))) (.len (.arg 0)))).holds [] {args:=[.list (ns.map .int)]}=true:=by
   have h4:=(holds_andW hc).1;rw[hn] at h4;exact h4
  have h5:=condW_of h4 (w_not (w_lt w_lit (w_len_list (w_arg rfl))));rw[lJd] at h5;refine Nat.le_of_not_lt λq=> ?_
  have q':(n:Int)<((ns.length:Nat):Int):=by omega
  first
   | (rw[lJq q'] at h5;exact absurd h5 (by decide))
   | (simp at h5;omega)
 cases hwl with
 | cons w1 w2=>
  cases w2;cases w1 with
  | list ho hall=>exact⟨_,_,ns,rfl,rfl,ho,kKc ns _ hall,hlen⟩
theorem qUg(l:OpenLaw)(args:List WData):l.row.toRowW.claim.post args (.bool true) args=true:=
 postW_of (r:=l.row.toRowW) (X:=(true == true))
  (show WShape.has [] (.bool true) .bool=true by first | rfl | decide | simp[WShape.has,WShape.arms,WShape.armsAll])
  (show (WTm.eq .res (.lit (.bool true))).value [] {args:=args,res:=some (.bool true),after:=args}=some (.bool (true == true)) from w_eq_bool (w_res rfl) w_lit) rfl
theorem attach_call{q:Program}{loose:List Str}{XP:(Str->Option Value)->Heap->Prop}{YP:World->Heap->Prop}{d:DefRec}(hn:l.most=some n)(hdf:d.params.defaults=[])(call:∀(w:World)(s₀ s₁:Shared)(mg mb:Str->Option Value)(fa:Addr)(o:Obj)(pm cd doc:Value)(a:Addr)(vs:List Value)(ns:List Int),
   Ground q loose [] XP w s₀ mg mb s₁.heap->YP w s₁.heap->
   s₁.heap.get? fa=some o->o.data= .func (docDef d.name d.params d.body d.scope pm cd doc)->s₁.heap.CodeRec cd d.name->mg d.name=some (.ref fa)->
   s₁.heap.get? a=some {cls:= .type "list",data:= .seq vs.toArray}->IntsAre vs ns->ns.length<=n->s₁.gens= #[]->
   codeAny (model l.prog w) callerA (.call (.ref fa) ⟨[.ref a],[]⟩) (λr s'=>r= .ok (.ret (.bool true))/\OldK s₁.heap s'.heap/\s'.os=s₁.os/\AllBare s'.gens) s₁):
  WalkO q loose XP YP l.row.toRowW d [] (λf vs=>PySem.call f vs):=by
 intro w s₀ s₁ mg mb G Y fa o pm cd doc dV kV ho hd hcd hD hmg hg args vals as hpre hlay hrd hwl hlo;obtain rfl:dV= .none:=Dflts.none hD hdf;obtain rfl:kV= .none:=Dflts.noKw hD;obtain⟨a,vs,ns,rfl,rfl,hobj,hints,hlen⟩:=qQm hn hpre hwl;refine enter_call (lYe (call w s₀ s₁ mg mb fa o pm cd doc a vs ns G Y ho (fd_plain hd) hcd hmg hobj hints hlen hg) λr s' hq=> ?_)
 obtain⟨rfl,h2,h3,h4⟩:=hq;exact⟨.inl ⟨.bool true,.bool true,[],rfl,λ_=>rfl,.bool true,qUg l _,λ_=>⟨List.Pairwise.nil,λ_ hm=>(nomatch hm)⟩⟩,h2,h3,h4⟩
section
variable {prog:Program}{w:World}{A:Around}{E:Value->Shared->Prop}{s:Shared}{K:Frag}
end
end Att
namespace L2
open PySem PySem.Spec PyProof.Rows
theorem jUs:∀{vs:List Value}{ns:List Int},IntsAre vs ns->Vals (ns.map V.int) vs
 | _,_,.nil=> .nil
 | _,_,.cons n t h=> .cons ⟨t,rfl⟩ (jUs h)
def Only(H:Hp):Prop:=∀b,H b=none\/∃o xs,H b=some (.frz o (.lst xs))
variable {P:Program}{w:World}{K:PySem.W.Frag}{mg:Str->Option Value}{fd:FuncData}{x:Str}{sp:Sp}
theorem qY6{mb:Str->Option Value}{CX:CXT}{k:Nat}{fa a:Addr}{s₁:Shared}{vs:List Value}{ns:List Int}(KX:K.In s₁.heap)(hns:s₁.heap.Ns mainGlobals mg)(hb:s₁.heap.Ns builtinsNs mb)(hbb:∀x:Str,x≠"__name__"->mb x=bootBuiltins x)(hlim:s₁.heap.NoLimit)(hg:s₁.gens= #[])(ha:s₁.heap.get? a=some {cls:= .type "list",data:= .seq vs.toArray})(hi:IntsAre vs ns)(hl:ns.length<=sizeLine)(hr:Room k callerA)(F:∀base:Heap,K.In base->base.Ns mainGlobals mg->FnOk P w K mg base CX k fa fd [x] sp)(hbind:∀(s:Shared)(u:Value),BindsTo s fd ⟨[u],[]⟩ [(x,u)])(hsp:∀H:Hp,Only H->SqL K H a (ns.map V.int)->sp [.ref a] H (λv _=>v= .bl true) λ_ _ _=>False)(hCX:∀H e s',CX [] H s₁ (λ_ _ _=>False) e s'->False):
  codeAny (model P w) callerA (.call (.ref fa) ⟨[.ref a],[]⟩) (λr s'=>r= .ok (.ret (.bool true))/\OldK s₁.heap s'.heap/\s'.os=s₁.os/\AllBare s'.gens) s₁:=by
 have rv:=jUs hi;have lenV:=hi.length
 have core:∀H:Hp,Only H->SqL K H a (ns.map V.int)->HOk P w H s₁.heap->(∀b,H b≠none->b=a)->(H a≠none->K.lookup a=none)->
   codeAny (model P w) callerA (.call (.ref fa) ⟨[.ref a],[]⟩) (λr s'=>r= .ok (.ret (.bool true))/\OldK s₁.heap s'.heap/\s'.os=s₁.os/\AllBare s'.gens) s₁:=by
  intro H hO hS hok hA hK;have base_of:∀{b:Addr}{o:Obj},s₁.heap.get? b=some o->H b=none->(hidT s₁.heap H).get? b=some o:=λe n=>qZf e n
  have noA:∀{b:Addr}{o:Obj}{es:Array DictEntry}{ep:Nat},s₁.heap.get? b=some o->o.data= .dict es ep->H b=none:=λ{b o es ep} e d=>by
   cases q:H b with
   | none=>rfl
   | some u=>
    have e':b=a:=hA b (by rw[q];simp)
    subst e';rw[ha] at e;cases e;have d':Data.seq vs.toArray _=Data.dict es ep:=d;cases d'
  have nsK:∀{b:Addr}{m:Str->Option Value},s₁.heap.Ns b m->(hidT s₁.heap H).Ns b m:=λ{b m} ⟨o,es,ep,e,d,r⟩=>⟨o,es,ep,base_of e (noA e d),d,r⟩
  have hKb:K.In (hidT s₁.heap H):=λb o e=>base_of (KX b o e) (by
   cases q:H b with
   | none=>rfl
   | some u=>
    have e':b=a:=hA b (by rw[q];simp)
    subst e';rw[hK (by rw[q];simp)] at e;cases e)
  have hM:Mod K mg (hidT s₁.heap H):=⟨hKb,nsK hns,⟨mb,nsK hb,hbb⟩,let ⟨mc,h1,h2⟩:=hlim;⟨mc,nsK h1,h2⟩⟩
  have e0:Env0 P w K mg (hidT s₁.heap H) callerA [] s₁ H:=⟨rfl,hM,λb o e=>uKn e,Nat.le_of_eq (qVg _ _),trivial,λb hb=>absurd (show b∈([]:List Addr) from hb) (by simp),hok,.of_eq hg⟩
  refine lYe ((F _ hKb (nsK hns)).run callerA [] s₁ H ⟨[.ref a],[]⟩ [.ref a] [.ref a] _ _ hr e0 (hbind s₁ (.ref a)) (.cons rfl .nil) (hsp H hO hS)) λr s' h=> ?_
  cases r with
  | error e=>exact (hCX H e s' h).elim
  | ok fl=>
   cases fl with
   | next=>exact False.elim h
   | brk=>exact False.elim h
   | cont=>exact False.elim h
   | ret u=>
    obtain⟨v,H',os,bare,un,hok',r',q⟩:=h;have q':v= .bl true:=q;subst q';obtain rfl:u=Value.bool true:=r';refine⟨rfl,OldK.of_keep λb o e=> ?_,os,bare⟩
    cases q:H b with
    | none=>exact un.keep b o e q (by intro z;exact absurd (show b∈([]:List Addr) from z) (by simp)) (by simp)
    | some u=>
     rcases hO b with z | ⟨ob,xs,z⟩
     .rw[q] at z;cases z
     .have z2:=un.frzs b ob _ z;obtain⟨e1,_⟩:=hok b _ z;obtain⟨e2,_⟩:=hok' b _ z2;rw[e] at e1;cases e1;exact e2
 cases hk:K.lookup a with
 | some o=>
  have e:=KX a o hk;rw[ha] at e;cases e;refine core (λ_=>none) (λ_=> .inl rfl) (.inr ⟨_,vs.toArray,_,hk,rfl,rfl,rfl,by rw[lJx,lenV];exact hl,by simpa using rv⟩) (λb u z=>by have z':(none:Option HO)=some u:=z;cases z') (λb z=>absurd rfl z) λz=>absurd rfl z
 | none=>
  refine core (λb=>if b=a then some (.frz {cls:= .type "list",data:= .seq vs.toArray} (.lst (ns.map V.int))) else none) (λb=> ?_) (.inl (.inr ⟨{cls:= .type "list",data:= .seq vs.toArray},lJc rfl⟩)) (λb u z=> ?_) (λb z=> ?_) λ_=>hk
  .by_cases hb:b=a
   .exact .inr ⟨_,_,lJc hb⟩
   .exact .inl (lJa hb)
  .by_cases hb:b=a
   .have z':=(lJc hb).symm.trans z;cases z';subst hb;exact⟨ha,by rw[lJd];exact hl,vs,_,rv,ha⟩
   .have z':=(lJa hb).symm.trans z;cases z'
  .by_cases hb:b=a
   .exact hb
   .exact absurd (lJa hb) z
theorem walk_of{l:PySem.W.OpenLaw}{n k:Nat}{q:Program}{loose:List Str}{XP:(Str->Option Value)->Heap->Prop}{YP:World->Heap->Prop}{d:DefRec}{K:Params->PySem.W.Frag}{CX:World->CXT}{sp:World->Sp}(hn:l.most=some n)(hn2:n<=sizeLine)(hdf:d.params.defaults=[])(hr:Room k callerA)(hY:∀(w:World)(h:Heap),YP w h->(K w.params).In h)(F:∀(w:World)(mg:Str->Option Value)(fa:Addr)(h:Heap),(K w.params).In h->h.Ns mainGlobals mg->mg d.name=some (.ref fa)->
   ∃fd:FuncData,(∀(s:Shared)(u:Value),BindsTo s fd ⟨[u],[]⟩ [(x,u)])/\
    ∀base:Heap,(K w.params).In base->base.Ns mainGlobals mg->FnOk l.prog w (K w.params) mg base (CX w) k fa fd [x] (sp w))(hsp:∀(w:World)(H:Hp)(a:Addr)(ns:List Int),ns.length<=n->Only H->SqL (K w.params) H a (ns.map V.int)->sp w [.ref a] H (λv _=>v= .bl true) λ_ _ _=>False)(hCX:∀(w:World)(H:Hp)(s:Shared)(e:Value)(s':Shared),CX w [] H s (λ_ _ _=>False) e s'->False):
  PySem.W.WalkO q loose XP YP l.row.toRowW d [] (λf vs=>PySem.call f vs):=by
 refine Att.attach_call hn hdf λw s₀ s₁ mg mb fa o pm cd doc a vs ns G Y ho hd hcd hmg hobj hints hlen hg=> ?_
 have KX:=hY w _ Y;obtain⟨fd,hb,hF⟩:=F w mg fa _ KX G.T.g hmg;exact qY6 KX G.T.g G.T.b G.T.builtins G.T.nolimit hg hobj hints (lKx hlen hn2) hr hF hb (λH hO hS=>hsp w H a ns hlen hO hS) λH e s'=>hCX w H s₁ e s'
noncomputable def jX9(s:Stmt):Arguments:=match s with
 | .FunctionDef _ a _ _ _ _ _ _ _ _=>a
 | _=>{posonlyargs:=[],args:=[],vararg:=none,kwonlyargs:=[],kw_defaults:=[],kwarg:=none,defaults:=[]}
noncomputable def jUq(s:Stmt):List Stmt:=match s with
 | .FunctionDef _ _ b _ _ _ _ _ _ _=>b
 | _=>[]
noncomputable def jKa(s:Stmt):Scope:=match s with
 | .FunctionDef _ _ _ _ _ _ sc _ _ _=>sc
 | _=>{kind:= .function,names:=[],isGenerator:=false,isCoroutine:=false}
abbrev CX0:CXT:=λ_ _ _ _ _ _=>False
abbrev E0:XK:=λ_ _ _=>False
variable {X:Cx}
theorem uYx:uJ0 CX0 X E0:=λ_ _ _ _ _ _ _ h=>h.elim
structure Fun (K:PySem.W.Frag) (x qual:Str) (st:Stmt) (f:Addr) (fd:FuncData):Prop where
 ex:∃(oc:Value)(od:Option Addr)(kV doc pm:Value)(an:Option Addr)(cdv ct:Value)(osl:Array (Option Value)),
  fd=PySem.W.fnOf x qual (jX9 st) (jUq st) (jKa st) .none kV doc pm an cdv ct/\K.lookup f=some ⟨oc,od,.func fd,osl⟩/\PySem.W.codeIn K cdv qual=true
 kp:PySem.W.keepIn K (.ref f)=true
variable {qual:Str}{st:Stmt}{f:Addr}{ps:List Str}
section
variable {base:Heap}
theorem Fun.ok{N:List Str}{k:Nat}(F:Fun K x qual st f fd)(S:FnScope N ps (jKa st))(len:∀vs H Q E,sp vs H Q E->vs.length=ps.length)(hbody:∀(cdv:Value)(A:Around)(outer:List Env)(s:Shared)(H:Hp)(vs:List V)(Q:VK)(E:XK),Room k (A.deeper (envOfC qual (jKa st) s.heap.objs.size f cdv))->sp vs H Q E->
   ∃t,PSs (cxOf CX0 P w K mg base N qual (jKa st) f cdv A outer s H E).nox (jUq st) t/\t {nx:=λ_ H'=>Q .non H',rt:=Q} (start N vs) H):FnOk P w K mg base CX0 (k+1) f fd ps sp:=by
 obtain⟨oc,od,kV,doc,pm,an,cdv,ct,osl,rfl,lk,hcd⟩:=F.ex;refine uZh lk hcd S len λA outer s H vs Q E hr hsp=> ?_
 obtain⟨t,h,q⟩:=hbody cdv A outer s H vs Q E hr hsp;exact⟨t,h.nox,q⟩
theorem Fun.binds(F:Fun K x qual st f fd)(h:∀(kV doc pm:Value)(an:Option Addr)(cdv ct:Value)(us:List Value),us.length=ps.length->bindArgs (PySem.W.fnOf x qual (jX9 st) (jUq st) (jKa st) .none kV doc pm an cdv ct) ⟨us,[]⟩=pure (ps.zip us)):Binds K fd ps []:=by
 obtain⟨oc,od,kV,doc,pm,an,cdv,ct,osl,rfl,lk,hcd⟩:=F.ex;exact .all (h kV doc pm an cdv ct)
theorem uXn{oc:Value}{od an:Option Addr}{osl:Array (Option Value)}{kV doc pm cdv ct:Value}(l:K.lookup f=some ⟨oc,od,.func (PySem.W.fnOf x qual (jX9 st) (jUq st) (jKa st) .none kV doc pm an cdv ct),osl⟩)(c:PySem.W.codeIn K cdv qual=true)(k:PySem.W.keepIn K (.ref f)=true):Fun K x qual st f (PySem.W.fnOf x qual (jX9 st) (jUq st) (jKa st) .none kV doc pm an cdv ct):=⟨⟨oc,od,kV,doc,pm,an,cdv,ct,osl,rfl,l,c⟩,k⟩
end
theorem uXl{A:Around}{k:Nat}(hr:Room k A):A.units+20<cLine:=lZr (Nat.add_le_add_left (by decide:20<=64) _) hr.units
end L2
set_option Elab.async false
set_option linter.all false
set_option maxRecDepth 100000
set_option maxHeartbeats 5000000
namespace L3
open PySem PySem.Spec PyProof.Rows L2
inductive T where
 | non | bl (b:Bool) | int (i:Int) | str (x:Str) | tup (xs:List T) | scr (xs:List T) | ref (a:Addr) | ty (n:String)
structure Ext (H H':Hp):Prop where
 tup:∀b xs,H b=some (.tup xs)->H' b=some (.tup xs)
 frz:∀b ob u,H b=some (.frz ob u)->H' b=some (.frz ob u)
theorem Ext.refl(H:Hp):Ext H H:=⟨λ_ _ h=>h,λ_ _ _ h=>h⟩
variable {H H1:Hp}
theorem Ext.trans{H2:Hp}(a:Ext H H1)(b:Ext H1 H2):Ext H H2:=⟨λc o h=>b.tup c o (a.tup c o h),λc o u h=>b.frz c o u (a.frz c o u h)⟩
def FrL(K:PySem.W.Frag)(H:Hp)(a:Addr)(xs:List V):Prop:=
 (∃ob,H a=some (.frz ob (.lst xs)))\/
  ∃(o:Obj)(its:Array Value)(n:Nat),K.lookup a=some o/\o.cls= .type "list"/\o.dict=none/\o.data= .seq its n/\its.size<=sizeLine/\Vals xs its.toList
variable {K:PySem.W.Frag}
theorem FrL.sq{a:Addr}{xs:List V}(h:FrL K H a xs):SqL K H a xs:=by
 rcases h with ⟨ob,h⟩ | h
 .exact .inl (.inr ⟨ob,h⟩)
 .exact .inr h
variable {H':Hp}
theorem FrL.mono{a:Addr}{xs:List V}(e:Ext H H')(h:FrL K H a xs):FrL K H' a xs:=by
 rcases h with ⟨ob,h⟩ | h
 .exact .inl ⟨ob,e.frz _ _ _ h⟩
 .exact .inr h
mutual
noncomputable def Rep(K:PySem.W.Frag)(H:Hp):T->V->Prop
 | .non,v=>v= .non
 | .bl b,v=>v= .bl b
 | .int i,v=>v= .int i
 | .str x,v=>v= .str x
 | .ref a,v=>v= .ref a
 | .ty n,v=>v= .ty n
 | .tup xs,v=>∃a vs,v= .ref a/\H a=some (.tup vs)/\Reps K H xs vs
 | .scr xs,v=>∃a vs,v= .ref a/\FrL K H a vs/\Reps K H xs vs
noncomputable def Reps(K:PySem.W.Frag)(H:Hp):List T->List V->Prop
 | [],vs=>vs=[]
 | x::xs,vs=>∃v ws,vs=v::ws/\Rep K H x v/\Reps K H xs ws
end
mutual
theorem Rep.mono{K:PySem.W.Frag}{H H':Hp}(e:Ext H H'):∀(x:T){v:V},Rep K H x v->Rep K H' x v
 | .non,_,h=>h
 | .bl _,_,h=>h
 | .int _,_,h=>h
 | .str _,_,h=>h
 | .ref _,_,h=>h
 | .ty _,_,h=>h
 | .tup xs,_,⟨a,vs,r1,r2,r3⟩=>⟨a,vs,r1,e.tup _ _ r2,Reps.mono e xs r3⟩
 | .scr xs,_,⟨a,vs,r1,r2,r3⟩=>⟨a,vs,r1,r2.mono e,Reps.mono e xs r3⟩
theorem Reps.mono{K:PySem.W.Frag}{H H':Hp}(e:Ext H H'):∀(xs:List T){vs:List V},Reps K H xs vs->Reps K H' xs vs
 | [],_,h=>h
 | x::xs,_,⟨v,ws,r1,r2,r3⟩=>⟨v,ws,r1,Rep.mono e x r2,Reps.mono e xs r3⟩
end
variable {x:T}{v:V}{xs:List T}{vs:List V}
theorem Reps.length:∀{xs:List T}{vs:List V},Reps K H xs vs->xs.length=vs.length
 | [],_,h=>by cases h;rfl
 | _::_,_,⟨_,_,r1,_,r3⟩=>by subst r1;simp[Reps.length r3]
theorem Reps.get:∀{xs:List T}{vs:List V}{i:Nat}{x:T},Reps K H xs vs->xs[i]? =some x->∃v,vs[i]? =some v/\Rep K H x v
 | [],_,_,_,_,e=>by simp at e
 | y::ys,_,0,x,⟨v,ws,r1,r2,r3⟩,e=>by subst r1;simp at e;subst e;exact⟨v,rfl,r2⟩
 | y::ys,_,i+1,x,⟨v,ws,r1,r2,r3⟩,e=>by subst r1;simpa using Reps.get r3 (by simpa using e)
theorem Reps.get':∀{xs:List T}{vs:List V}{i:Nat}{v:V},Reps K H xs vs->vs[i]? =some v->∃x,xs[i]? =some x/\Rep K H x v
 | [],_,_,_,h,e=>by cases h;simp at e
 | y::ys,_,0,x,⟨v,ws,r1,r2,r3⟩,e=>by subst r1;simp at e;subst e;exact⟨y,rfl,r2⟩
 | y::ys,_,i+1,x,⟨v,ws,r1,r2,r3⟩,e=>by subst r1;simpa using Reps.get' r3 (by simpa using e)
theorem Reps.append:∀{xs ys:List T}{vs ws:List V},Reps K H xs vs->Reps K H ys ws->Reps K H (xs++ys) (vs++ws)
 | [],_,_,_,h,h2=>by cases h;exact h2
 | _::_,_,_,_,⟨v,ws,r1,r2,r3⟩,h2=>by subst r1;exact⟨v,_,rfl,r2,Reps.append r3 h2⟩
theorem Reps.one(r:Rep K H x v):Reps K H [x] [v]:=⟨v,[],rfl,r,rfl⟩
theorem Reps.set{x:T}{v:V}(r:Rep K H x v):∀{xs:List T}{vs:List V}(i:Nat),Reps K H xs vs->Reps K H (xs.set i x) (vs.set i v)
 | [],_,_,e=>by cases e;rfl
 | _::_,_,0,⟨_,ws,r1,r2,r3⟩=>by subst r1;exact⟨v,ws,rfl,r,r3⟩
 | _::_,_,i+1,⟨u,ws,r1,r2,r3⟩=>by subst r1;exact⟨u,_,rfl,r2,Reps.set r i r3⟩
theorem Reps.take:∀{xs:List T}{vs:List V}(n:Nat),Reps K H xs vs->Reps K H (xs.take n) (vs.take n)
 | _,_,0,_=>by simp[Reps]
 | [],_,_+1,h=>by cases h;simp[Reps]
 | _::_,_,n+1,⟨u,ws,r1,r2,r3⟩=>by subst r1;exact⟨u,_,rfl,r2,Reps.take n r3⟩
theorem Reps.drop:∀{xs:List T}{vs:List V}(n:Nat),Reps K H xs vs->Reps K H (xs.drop n) (vs.drop n)
 | _,_,0,h=>h
 | [],_,_+1,h=>by cases h;simp[Reps]
 | _::_,_,n+1,⟨u,ws,r1,r2,r3⟩=>by subst r1;exact Reps.drop n r3
theorem Reps.rep{xs:List T}{vs:List V}(r:Reps K H xs vs):∀n:Nat,Reps K H (List.replicate n xs).flatten (List.replicate n vs).flatten
 | 0=>by simp[Reps]
 | n+1=>by simpa[lXc] using r.append (Reps.rep r n)
theorem Reps.atI{i:Int}(r:Reps K H xs vs)(h:atI xs i=some x):∃v,atI vs i=some v/\Rep K H x v:=by
 unfold L2.atI at h ⊢;rw[<-r.length];cases e:ixN xs.length i with
 | none=>rw[e] at h;cases h
 | some j=>rw[e] at h;exact r.get h
inductive GO where
 | lst (xs:List T) | dct (kvs:List (TKey×T)) | dck (kvs:List (Key×T)) | fdc (kvs:List (TKey×T)) | ins (cn:Str) (fs:List (Str×T))
abbrev Gp:=Addr->Option GO
noncomputable def gup(G:Gp)(a:Addr)(o:GO):Gp:=λb=>if b=a then some o else G b
variable {G:Gp}{o:GO}
theorem jJe{a:Addr}:gup G a o a=some o:=by simp[gup]
theorem jJw{a b:Addr}(h:b≠a):gup G a o b=G b:=by simp[gup,h]
theorem qVh{a:Addr}{o':GO}:gup (gup G a o) a o'=gup G a o':=by funext b;by_cases h:b=a<;>simp[gup,h]
noncomputable def asL:Option GO->Option (List T)
 | some (.lst xs)=>some xs
 | _=>none
noncomputable def seqT(G:Gp):T->Option (List T)
 | .tup xs=>some xs
 | .scr xs=>some xs
 | .ref a=>asL (G a)
 | _=>none
def PKV{κ:Type}(K:PySem.W.Frag)(H:Hp):List (κ×T)->List (κ×V)->Prop:=Paired λp q=>p.1=q.1/\Rep K H p.2 q.2
noncomputable def GOk(K:PySem.W.Frag)(H:Hp)(a:Addr):GO->Prop
 | .lst xs=>∃vs,H a=some (.lst vs)/\Reps K H xs vs
 | .dct kvs=>∃ws,H a=some (.dT ws)/\PKV K H kvs ws
 | .dck kvs=>∃ws,H a=some (.dK ws)/\PKV K H kvs ws
 | .fdc kvs=>∃ob ws,H a=some (.frz ob (.dT ws))/\PKV K H kvs ws
 | .ins cn fs=>∃C dx ws,H a=some (.ins C dx ws)/\PySem.W.nsIn K mainGlobals cn=some (some (.ref C))/\PKV K H fs ws
def GRel(K:PySem.W.Frag)(H:Hp)(G:Gp):Prop:=∀a o,G a=some o->GOk K H a o
section
variable {a:Addr}
theorem PKV.mono{κ:Type}{kvs:List (κ×T)}{ws:List (κ×V)}(e:Ext H H')(h:PKV K H kvs ws):PKV K H' kvs ws:=Paired.mapP h λ_ _ z=>⟨z.1,Rep.mono e _ z.2⟩
theorem GOk.move(h:GOk K H a o)(e:Ext H H')(ha:H' a=H a):GOk K H' a o:=by
 cases o with
 | lst xs=>obtain⟨vs,h1,h2⟩:=h;exact⟨vs,ha.trans h1,Reps.mono e _ h2⟩
 | dct kvs=>obtain⟨vs,h1,h2⟩:=h;exact⟨vs,ha.trans h1,h2.mono e⟩
 | dck kvs=>obtain⟨vs,h1,h2⟩:=h;exact⟨vs,ha.trans h1,h2.mono e⟩
 | fdc kvs=>obtain⟨ob,vs,h1,h2⟩:=h;exact⟨ob,vs,ha.trans h1,h2.mono e⟩
 | ins cn fs=>obtain⟨C,dx,ws,h1,h2,h3⟩:=h;exact⟨C,dx,ws,ha.trans h1,h2,h3.mono e⟩
theorem GOk.some(h:GOk K H a o):H a≠none:=by
 cases o with
 | lst xs=>obtain⟨vs,h1,h2⟩:=h;rw[h1];simp
 | dct kvs=>obtain⟨vs,h1,h2⟩:=h;rw[h1];simp
 | dck kvs=>obtain⟨vs,h1,h2⟩:=h;rw[h1];simp
 | fdc kvs=>obtain⟨ob,vs,h1,h2⟩:=h;rw[h1];simp
 | ins cn fs=>obtain⟨C,dx,ws,h1,h2,h3⟩:=h;rw[h1];simp
theorem GRel.fresh(g:GRel K H G)(h:H a=none):G a=none:=by
 cases e:G a with
 | none=>rfl
 | some o=>exact absurd h (g a o e).some
def Soft(o:Option HO):Prop:=o=none\/(∃xs,o=some (.lst xs))\/(∃kvs,o=some (.dK kvs))\/(∃kvs,o=some (.dT kvs))\/∃C dx fs,o=some (.ins C dx fs)
theorem Ext.upd{o:HO}(h:Soft (H a)):Ext H (L2.upd H a o):=by
 refine⟨λb xs e=> ?_,λb ob u e=> ?_⟩
 .rw[jKf];exact e;rintro rfl;rw[e] at h;rcases h with h | ⟨_,h⟩ | ⟨_,h⟩ | ⟨_,h⟩ | ⟨_,_,_,h⟩<;>cases h
 .rw[jKf];exact e;rintro rfl;rw[e] at h;rcases h with h | ⟨_,h⟩ | ⟨_,h⟩ | ⟨_,h⟩ | ⟨_,_,_,h⟩<;>cases h
theorem GRel.upd{o:HO}{go:GO}(g:GRel K H G)(h:Soft (H a))(n:GOk K (L2.upd H a o) a go):GRel K (L2.upd H a o) (gup G a go):=by
 intro b u e
 by_cases hb:b=a
 .subst hb;rw[jJe] at e;cases e;exact n
 .rw[jJw hb] at e;exact (g b u e).move (Ext.upd h) (jKf hb)
theorem Soft.none(h:H a=none):Soft (H a):= .inl h
theorem Soft.lst{xs:List V}(h:H a=some (.lst xs)):Soft (H a):= .inr (.inl ⟨xs,h⟩)
theorem Soft.dT{xs:List (TKey×V)}(h:H a=some (.dT xs)):Soft (H a):= .inr (.inr (.inr (.inl ⟨xs,h⟩)))
theorem Soft.dK{xs:List (Key×V)}(h:H a=some (.dK xs)):Soft (H a):= .inr (.inr (.inl ⟨xs,h⟩))
theorem GRel.tupNew(g:GRel K H G)(h:H a=Option.none):GRel K (L2.upd H a (.tup vs)) G:=by
 intro b u e;have hb:b≠a:=by rintro rfl;exact (g b u e).some h
 exact (g b u e).move (Ext.upd (.none h)) (jKf hb)
theorem Rep.tupNew(r:Reps K H xs vs)(h:H a=Option.none):Rep K (L2.upd H a (.tup vs)) (.tup xs) (.ref a):=
 ⟨a,vs,rfl,jK9,Reps.mono (Ext.upd (.none h)) _ r⟩
theorem GRel.lstNew(g:GRel K H G)(r:Reps K H xs vs)(h:Soft (H a)):GRel K (L2.upd H a (.lst vs)) (gup G a (.lst xs)):=
 g.upd h ⟨vs,jK9,Reps.mono (Ext.upd h) _ r⟩
theorem GRel.lst(g:GRel K H G)(h:G a=some (.lst xs)):∃vs,H a=some (.lst vs)/\Reps K H xs vs:=g a _ h
end
abbrev St3:=List (Option T)
def SRel(K:PySem.W.Frag)(H:Hp)(σ:L2.St)(τ:St3):Prop:=σ.length=τ.length/\∀(i:Nat)(t:T),τ[i]? =some (some t)->∃v,σ[i]? =some (some v)/\Rep K H t v
variable {σ:L2.St}{τ:St3}
theorem SRel.mono(e:Ext H H')(h:SRel K H σ τ):SRel K H' σ τ:=
 ⟨h.1,λi t q=>let ⟨v,h1,h2⟩:=h.2 i t q;⟨v,h1,Rep.mono e _ h2⟩⟩
theorem SRel.set{t:T}(h:SRel K H σ τ)(i:Nat)(r:Rep K H t v):SRel K H (σ.set i (some v)) (τ.set i (some t)):=by
 refine⟨by simp[h.1],λj u q=> ?_⟩
 by_cases hj:i=j
 .subst hj
  have hl:i<τ.length:=by
   rcases lQk i τ.length with z | z
   .exact z
   .rw[lKj (by simpa using z)] at q;cases q
  rw[lVy hl] at q;cases q;exact⟨v,by rw[lVy (by rw[h.1];exact hl)],r⟩
 .rw[lXb hj] at q ⊢;exact h.2 j u q
def Inv3(X:Cx)(pins:List (Addr×Obj))(τ:St3)(G:Gp)(H:Hp)(s:Shared):Prop:=∃ σ,Inv X pins σ H s/\SRel X.K H σ τ/\GRel X.K H G
abbrev VK3:=T->Gp->Prop
abbrev TE3:=St3->Gp->VK3->Prop
abbrev TT3:=St3->Gp->(Bool->Gp->Prop)->Prop
abbrev TA3:=St3->Gp->(List T->Gp->Prop)->Prop
structure Ends3 where
 nx:St3->Gp->Prop
 rt:VK3
 bk:St3->Gp->Prop:=λ_ _=>False
 ct:St3->Gp->Prop:=λ_ _=>False
abbrev TS3:=Ends3->St3->Gp->Prop
def RU(K:PySem.W.Frag)(H:Hp)(t:T)(u:Value):Prop:=∃v,Rep K H t v/\RelV v u
def RUs(K:PySem.W.Frag)(H:Hp)(ts:List T)(us:List Value):Prop:=∃vs,Reps K H ts vs/\Vals vs us
variable {u:Value}
theorem RU.mono{t:T}(e:Ext H H')(h:RU K H t u):RU K H' t u:=let ⟨v,h1,h2⟩:=h;⟨v,Rep.mono e _ h1,h2⟩
def EP3(X:Cx)(pins:List (Addr×Obj))(τ:St3)(H:Hp)(Q:VK3)(u:Value)(s':Shared):Prop:=∃t G' H',Ext H H'/\Inv3 X pins τ G' H' s'/\RU X.K H' t u/\Q t G'
def TP3(X:Cx)(pins:List (Addr×Obj))(τ:St3)(H:Hp)(Q:Bool->Gp->Prop)(b:Bool)(s':Shared):Prop:=∃G' H',Ext H H'/\Inv3 X pins τ G' H' s'/\Q b G'
def AP3(X:Cx)(pins:List (Addr×Obj))(τ:St3)(H:Hp)(Q:List T->Gp->Prop)(us:List Value)(s':Shared):Prop:=∃ts G' H',Ext H H'/\Inv3 X pins τ G' H' s'/\RUs X.K H' ts us/\Q ts G'
def SP3(X:Cx)(pins:List (Addr×Obj))(H:Hp)(D:Ends3)(f:Flow)(s':Shared):Prop:=
 match f with
 | .next=>∃ τ' G' H',Ext H H'/\Inv3 X pins τ' G' H' s'/\D.nx τ' G'
 | .brk=>∃ τ' G' H',Ext H H'/\Inv3 X pins τ' G' H' s'/\D.bk τ' G'
 | .cont=>∃ τ' G' H',Ext H H'/\Inv3 X pins τ' G' H' s'/\D.ct τ' G'
 | .ret u=>∃t τ' G' H',Ext H H'/\Inv3 X pins τ' G' H' s'/\RU X.K H' t u/\D.rt t G'
def PE3(X:Cx)(e:Expr)(t:TE3):Prop:=∀(pins:List (Addr×Obj))(s:Shared)(τ:St3)(G:Gp)(H:Hp)(Q:VK3),Inv3 X pins τ G H s->t τ G Q->wpAny (model X.prog X.w) X.A (eval e X.env) (EP3 X pins τ H Q) X.xe s
def PT3(X:Cx)(e:Expr)(t:TT3):Prop:=∀(pins:List (Addr×Obj))(s:Shared)(τ:St3)(G:Gp)(H:Hp)(Q:Bool->Gp->Prop),Inv3 X pins τ G H s->t τ G Q->wpAny (model X.prog X.w) X.A (isTrue e X.env (eval e X.env)) (TP3 X pins τ H Q) X.xe s
def PW3(X:Cx)(e:Expr)(t:TT3):Prop:=∀(whole:Sem Value)(pins:List (Addr×Obj))(s:Shared)(τ:St3)(G:Gp)(H:Hp)(Q:Bool->Gp->Prop),Inv3 X pins τ G H s->t τ G Q->wpAny (model X.prog X.w) X.A (isTrue e X.env whole) (TP3 X pins τ H Q) X.xe s
variable {X:Cx}{e:Expr}
theorem PW3.pt{t:TT3}(h:PW3 X e t):PT3 X e t:=h _
def PA3(X:Cx)(es:List Expr)(t:TA3):Prop:=∀(pos:Pos)(pins:List (Addr×Obj))(s:Shared)(τ:St3)(G:Gp)(H:Hp)(Q:List T->Gp->Prop),Inv3 X pins τ G H s->t τ G Q->wpAny (model X.prog X.w) X.A (spliced (backTo pos (starEach es X.env))) (AP3 X pins τ H Q) X.xe s
def PS3(X:Cx)(st:Stmt)(t:TS3):Prop:=∀(pins:List (Addr×Obj))(s:Shared)(τ:St3)(G:Gp)(H:Hp)(D:Ends3),Inv3 X pins τ G H s->t D τ G->wpAny (model X.prog X.w) X.A (exec st X.env) (SP3 X pins H D) X.xe s
def PSs3(X:Cx)(st:List Stmt)(t:TS3):Prop:=∀(pins:List (Addr×Obj))(s:Shared)(τ:St3)(G:Gp)(H:Hp)(D:Ends3),Inv3 X pins τ G H s->t D τ G->wpAny (model X.prog X.w) X.A (execs st X.env) (SP3 X pins H D) X.xe s
variable {pins:List (Addr×Obj)}{s:Shared}{Q:VK3}
section
variable {C:Prop}
theorem EP3.el(h:EP3 X pins τ H Q u s)(k:∀t G' H',Ext H H'->Inv3 X pins τ G' H' s->RU X.K H' t u->Q t G'->C):C:=let ⟨t,G',H',a,b,c,d⟩:=h;k t G' H' a b c d
theorem AP3.el{Q:List T->Gp->Prop}{u:List Value}(h:AP3 X pins τ H Q u s)(k:∀t G' H',Ext H H'->Inv3 X pins τ G' H' s->RUs X.K H' t u->Q t G'->C):C:=let ⟨t,G',H',a,b,c,d⟩:=h;k t G' H' a b c d
theorem TP3.el{Q:Bool->Gp->Prop}{u:Bool}(h:TP3 X pins τ H Q u s)(k:∀G' H',Ext H H'->Inv3 X pins τ G' H' s->Q u G'->C):C:=let ⟨G',H',a,b,c⟩:=h;k G' H' a b c
theorem Inv3.el(h:Inv3 X pins τ G H s)(k:∀ σ,Inv X pins σ H s->SRel X.K H σ τ->GRel X.K H G->C):C:=let ⟨σ,a,b,c⟩:=h;k σ a b c
theorem RU.el{t:T}(h:RU K H t u)(k:∀v,Rep K H t v->RelV v u->C):C:=let ⟨v,a,b⟩:=h;k v a b
theorem RUs.el{t:List T}{u:List Value}(h:RUs K H t u)(k:∀v,Reps K H t v->Vals v u->C):C:=let ⟨v,a,b⟩:=h;k v a b
end
variable {a b:Expr}{tb:TE3}
theorem EP3.ext(e:Ext H H1)(h:EP3 X pins τ H1 Q u s):EP3 X pins τ H Q u s:=let ⟨t,G',H',a,b⟩:=h;⟨t,G',H',e.trans a,b⟩
theorem TP3.ext{Q:Bool->Gp->Prop}{u:Bool}(e:Ext H H1)(h:TP3 X pins τ H1 Q u s):TP3 X pins τ H Q u s:=let ⟨G',H',a,b⟩:=h;⟨G',H',e.trans a,b⟩
theorem SP3.ext{D:Ends3}{f:Flow}(e:Ext H H1)(h:SP3 X pins H1 D f s):SP3 X pins H D f s:=by
 cases f with
 | next=>obtain⟨τ',G',H',a,b⟩:=h;exact⟨τ',G',H',e.trans a,b⟩
 | brk=>obtain⟨τ',G',H',a,b⟩:=h;exact⟨τ',G',H',e.trans a,b⟩
 | cont=>obtain⟨τ',G',H',a,b⟩:=h;exact⟨τ',G',H',e.trans a,b⟩
 | ret u=>obtain⟨t,τ',G',H',a,b⟩:=h;exact⟨t,τ',G',H',e.trans a,b⟩
theorem bin3{ta:TE3}(ha:PE3 X a ta)(hb:PE3 X b tb){R:T->T->Gp->Prop}(I:Inv3 X pins τ G H s)(h:ta τ G λx G1=>tb τ G1 λy G2=>R x y G2){α:Type}{Q:α->Shared->Prop}{f:Value->Value->Sem α}(hf:∀v u s2 x y G2 H2,Ext H H2->Inv3 X pins τ G2 H2 s2->RU X.K H2 x v->RU X.K H2 y u->R x y G2->wpAny (model X.prog X.w) X.A (f v u) Q X.xe s2):
  wpAny (model X.prog X.w) X.A (eval a X.env) (λv s₁=>wpAny (model X.prog X.w) X.A (eval b X.env) (λu s₂=>wpAny (model X.prog X.w) X.A (f v u) Q X.xe s₂) X.xe s₁) X.xe s:=by
 refine thn (ha pins s τ G H _ I h) λv s1 w_=>w_.el λx G1 H1 e1 I1 r1 q1=> ?_
 refine thn (hb pins s1 τ G1 H1 _ I1 q1) λu s2 w_=>w_.el λy G2 H2 e2 I2 r2 q2=> ?_
 exact hf v u s2 x y G2 H2 (e1.trans e2) I2 (r1.mono e2) r2 q2
def up(K:PySem.W.Frag)(H:Hp)(Q:VK3):VK:=λv H'=>∃t G',Ext H H'/\GRel K H' G'/\Rep K H' t v/\Q t G'
theorem jXi(hs:SRel X.K H σ τ)(h:EP X pins σ (up X.K H Q) u s):EP3 X pins τ H Q u s:=
 let ⟨v,H',I',r',t,G',e,g',rt,q⟩:=h
 ⟨t,G',H',e,⟨σ,I',hs.mono e,g'⟩,⟨v,rt,r'⟩,q⟩
variable {pos:Pos}
def tVar(i:Nat):TE3:=λτ G Q=>∃t,τ[i]? =some (some t)/\Q t G
def tC(t:T):TE3:=λ_ G Q=>Q t G
theorem jJc(i:Nat){x:Str}(hN:X.N[i]? =some x:=by rfl)(hv:Vis X.env.scope x:=by first | exact Or.inl rfl | exact Or.inr (Or.inl rfl) | exact Or.inr (Or.inr rfl))(hd:(x == ("__debug__":Str))=false:=by decide)(hcd:(x == ("__classdict__":Str))=false:=by decide):PE3 X (.Name x pos) (tVar i):=by
 rintro pins s τ G H Q ⟨σ,I,hs,hg⟩ ⟨t,e,q⟩;obtain⟨v,ev,rv⟩:=hs.2 i t e;exact thn (uVj hN hv hd hcd pins s σ H (up X.K H Q) I ⟨v,ev,t,G,.refl H,hg,rv,q⟩) λu s' h=>jXi hs h
theorem jJj {i j}:PE3 X (.Constant (.int i) j pos) (tC (.int i)):=λpins s τ G H Q ⟨σ,I,hs,hg⟩ q=>
 thn (uVm pins s σ H (up X.K H Q) I ⟨.int i,G,.refl H,hg,rfl,q⟩) λu s' h=>jXi hs h
theorem e_bl {b j}:PE3 X (.Constant (.bool b) j pos) (tC (.bl b)):=λpins s τ G H Q ⟨σ,I,hs,hg⟩ q=>
 thn (uYw pins s σ H (up X.K H Q) I ⟨.bl b,G,.refl H,hg,rfl,q⟩) λu s' h=>jXi hs h
theorem qKl {j}:PE3 X (.Constant .none j pos) (tC .non):=λpins s τ G H Q ⟨σ,I,hs,hg⟩ q=>
 thn (uVl pins s σ H (up X.K H Q) I ⟨.non,G,.refl H,hg,rfl,q⟩) λu s' h=>jXi hs h
theorem uXv {x j}:PE3 X (.Constant (.str x) j pos) (tC (.str x)):=λpins s τ G H Q ⟨σ,I,hs,hg⟩ q=>
 thn (uVk pins s σ H (up X.K H Q) I ⟨.str x,G,.refl H,hg,rfl,q⟩) λu s' h=>jXi hs h
abbrev R3:=T->T->Gp->VK3->Prop
def Op3(X:Cx)(f:Value->Value->Sem Value)(r:R3):Prop:=
 ∀(pins:List (Addr×Obj))(s:Shared)(τ:St3)(G:Gp)(H:Hp)(x y:T)(v u:Value)(Q:VK3),Inv3 X pins τ G H s->RU X.K H x v->RU X.K H y u->r x y G Q->wpAny (model X.prog X.w) X.A (f v u) (EP3 X pins τ H Q) X.xe s
def Un3(X:Cx)(f:Value->Sem Value)(r:T->Gp->VK3->Prop):Prop:=
 ∀(pins:List (Addr×Obj))(s:Shared)(τ:St3)(G:Gp)(H:Hp)(x:T)(v:Value)(Q:VK3),Inv3 X pins τ G H s->RU X.K H x v->r x G Q->wpAny (model X.prog X.w) X.A (f v) (EP3 X pins τ H Q) X.xe s
def Call3(X:Cx)(f:Value)(r:List T->Gp->VK3->Prop):Prop:=
 ∀(pins:List (Addr×Obj))(s:Shared)(τ:St3)(G:Gp)(H:Hp)(xs:List T)(us:List Value)(Q:VK3),Inv3 X pins τ G H s->RUs X.K H xs us->r xs G Q->wpAny (model X.prog X.w) X.A (call f us) (EP3 X pins τ H Q) X.xe s
def Mt3(X:Cx)(id:String)(r:T->List T->Gp->VK3->Prop):Prop:=
 ∀(pins:List (Addr×Obj))(s:Shared)(τ:St3)(G:Gp)(H:Hp)(x:T)(xs:List T)(v:Value)(us:List Value)(Q:VK3),Inv3 X pins τ G H s->RU X.K H x v->RUs X.K H xs us->r x xs G Q->
  wpAny (model X.prog X.w) X.A (call (.builtin id) (v::us)) (EP3 X pins τ H Q) X.xe s
def Ix3(X:Cx)(r:R3):Prop:=
 ∀(value slice:Expr)(pins:List (Addr×Obj))(s:Shared)(τ:St3)(G:Gp)(H:Hp)(x y:T)(v u:Value)(Q:VK3),Inv3 X pins τ G H s->RU X.K H x v->RU X.K H y u->r x y G Q->
  subscripted slice false v u=operate [v,u] (getItem v u)->wpAny (model X.prog X.w) X.A (subscriptTail value slice v u) (EP3 X pins τ H Q) X.xe s
def Set3(X:Cx)(r:T->T->T->Gp->(Gp->Prop)->Prop):Prop:=
 ∀(pins:List (Addr×Obj))(s:Shared)(τ:St3)(G:Gp)(H:Hp)(o i v:T)(ov iv u:Value)(Q:Gp->Prop),Inv3 X pins τ G H s->RU X.K H o ov->RU X.K H i iv->RU X.K H v u->r o i v G Q->
  wpAny (model X.prog X.w) X.A (setItem ov iv u) (λ_ s'=>∃G' H',Ext H H'/\Inv3 X pins τ G' H' s'/\Q G') X.xe s
def Tru3(X:Cx)(r:T->Gp->(Bool->Gp->Prop)->Prop):Prop:=
 ∀(pins:List (Addr×Obj))(s:Shared)(τ:St3)(G:Gp)(H:Hp)(x:T)(v:Value)(Q:Bool->Gp->Prop),Inv3 X pins τ G H s->RU X.K H x v->r x G Q->wpAny (model X.prog X.w) X.A (truthy v) (TP3 X pins τ H Q) X.xe s
variable {f:Value->Value->Sem Value}{r3 r r':R3}{g':Int->Int->T}
theorem Op3.of{r:R2}(h:OpR X f r)(hr:∀H G x y a b Q,GRel X.K H G->Rep X.K H x a->Rep X.K H y b->r3 x y G Q->r a b H (up X.K H Q)):Op3 X f r3:=by
 rintro pins s τ G H x y v u Q ⟨σ,I,hs,hg⟩ ⟨a,ra,rv⟩ ⟨b,rb,ru⟩ q;exact thn (h pins s σ H a b v u _ I rv ru (hr H G x y a b Q hg ra rb q)) λu s' h=>jXi hs h
theorem Un3.of{f:Value->Sem Value}{r:V->Hp->VK->Prop}{r3:T->Gp->VK3->Prop}(h:UnR X f r)(hr:∀H G x a Q,GRel X.K H G->Rep X.K H x a->r3 x G Q->r a H (up X.K H Q)):Un3 X f r3:=by
 rintro pins s τ G H x v Q ⟨σ,I,hs,hg⟩ ⟨a,ra,rv⟩ q;exact thn (h pins s σ H a v _ I rv (hr H G x a Q hg ra q)) λu s' h=>jXi hs h
theorem Call3.of{f:Value}{r:List V->Hp->VK->Prop}{r3:List T->Gp->VK3->Prop}(h:kY0 X f r)(hr:∀H G xs as Q,GRel X.K H G->Reps X.K H xs as->r3 xs G Q->r as H (up X.K H Q)):Call3 X f r3:=by
 rintro pins s τ G H xs us Q ⟨σ,I,hs,hg⟩ ⟨as,ra,rv⟩ q;exact thn (h pins s σ H as us _ I rv (hr H G xs as Q hg ra q)) λu s' h=>jXi hs h
theorem Mt3.of{id:String}{r:V->List V->Hp->VK->Prop}{r3:T->List T->Gp->VK3->Prop}(h:MtR X id r)(hr:∀H G x xs a as Q,GRel X.K H G->Rep X.K H x a->Reps X.K H xs as->r3 x xs G Q->r a as H (up X.K H Q)):Mt3 X id r3:=by
 rintro pins s τ G H x xs v us Q ⟨σ,I,hs,hg⟩ ⟨a,ra,rv⟩ ⟨as,ras,rvs⟩ q;exact thn (h pins s σ H a as v us _ I rv rvs (hr H G x xs a as Q hg ra ras q)) λu s' h=>jXi hs h
theorem Ix3.of{r:R2}(h:IxR X r)(hr:∀H G x y a b Q,GRel X.K H G->Rep X.K H x a->Rep X.K H y b->r3 x y G Q->r a b H (up X.K H Q)):Ix3 X r3:=by
 rintro value slice pins s τ G H x y v u Q ⟨σ,I,hs,hg⟩ ⟨a,ra,rv⟩ ⟨b,rb,ru⟩ q hh;exact thn (h value slice pins s σ H a b v u _ I rv ru (hr H G x y a b Q hg ra rb q) hh) λu s' h=>jXi hs h
theorem Set3.of{t:TSet}{r3:T->T->T->Gp->(Gp->Prop)->Prop}(h:PSet X t)(hr:∀H G o i v a b c Q,GRel X.K H G->Rep X.K H o a->Rep X.K H i b->Rep X.K H v c->r3 o i v G Q->t a b c H (λH'=>∃G',Ext H H'/\GRel X.K H' G'/\Q G')):Set3 X r3:=by
 rintro pins s τ G H o i v ov iv u Q ⟨σ,I,hs,hg⟩ ⟨a,ra,rv⟩ ⟨b,rb,ru⟩ ⟨c,rc,rw'⟩ q;exact thn (h pins s σ H a b c ov iv u _ I rv ru rw' (hr H G o i v a b c Q hg ra rb rc q)) λ_ s' ⟨H',I',G',e,g',q'⟩=>⟨G',H',e,⟨σ,I',hs.mono e,g'⟩,q'⟩
theorem Tru3.of{r:V->Hp->(Bool->Hp->Prop)->Prop}{r3:T->Gp->(Bool->Gp->Prop)->Prop}(h:TruR X r)(hr:∀H G x a Q,GRel X.K H G->Rep X.K H x a->r3 x G Q->r a H (λb H'=>H'=H/\Q b G)):Tru3 X r3:=by
 rintro pins s τ G H x v Q ⟨σ,I,hs,hg⟩ ⟨a,ra,rv⟩ q
 exact thn (h pins s σ H a v _ I rv (hr H G x a Q hg ra q)) λb s' ⟨H',I',e,q'⟩=>by
  subst e;exact⟨G,H',.refl _,⟨σ,I',hs,hg⟩,q'⟩
theorem Op3.or(h:Op3 X f r)(h':Op3 X f r'):Op3 X f (λx y G Q=>r x y G Q\/r' x y G Q):=by
 intro pins s τ G H x y v u Q I rx ry q
 rcases q with q | q
 .exact h pins s τ G H x y v u Q I rx ry q
 .exact h' pins s τ G H x y v u Q I rx ry q
def rI(C:Int->Int->Prop)(g:Int->Int->T):R3:=λx y G Q=>∃i j,x= .int i/\y= .int j/\C i j/\Q (g i j) G
def rI0(g:Int->Int->T):R3:=λx y G Q=>∃i j,x= .int i/\y= .int j/\Q (g i j) G
theorem o_I{C:Int->Int->Prop}{g:Int->Int->V}(h:OpR X f (L2.rI C g))(hg':∀K H i j,Rep K H (g' i j) (g i j)):Op3 X f (rI C g'):=
 Op3.of h λH G x y a b Q hg ra rb ⟨i,j,ex,ey,c,q⟩=>by
  subst ex;subst ey;cases (show a= .int i from ra);cases (show b= .int j from rb)
  exact⟨i,j,rfl,rfl,c,g' i j,G,.refl H,hg,hg' _ _ i j,q⟩
theorem o_I0{g:Int->Int->V}(h:OpR X f (L2.rI0 g))(hg':∀K H i j,Rep K H (g' i j) (g i j)):Op3 X f (rI0 g'):=
 Op3.of h λH G x y a b Q hg ra rb ⟨i,j,ex,ey,q⟩=>by
  subst ex;subst ey;cases (show a= .int i from ra);cases (show b= .int j from rb)
  exact⟨i,j,rfl,rfl,g' i j,G,.refl H,hg,hg' _ _ i j,q⟩
theorem o_add:Op3 X (binaryOp .Add) (rI0 λi j=> .int (i+j)):=o_I0 uVu λ_ _ _ _=>rfl
theorem uKp:Op3 X (binaryOp .Sub) (rI0 λi j=> .int (i-j)):=o_I0 uVn λ_ _ _ _=>rfl
theorem o_mul:Op3 X (binaryOp .Mult) (rI CMul λi j=> .int (i*j)):=o_I uVq λ_ _ _ _=>rfl
theorem uJm:Op3 X (binaryOp .FloorDiv) (rI CDiv λi j=> .int (i / j)):=o_I uKj λ_ _ _ _=>rfl
theorem jXj:Op3 X (binaryOp .Mod) (rI (λ_ j=>0<j) λi j=> .int (i%j)):=o_I uVr λ_ _ _ _=>rfl
theorem uY3:Op3 X (binaryOp .Pow) (rI CPow λi j=> .int (i^j.toNat)):=o_I uVp λ_ _ _ _=>rfl
theorem o_lt:Op3 X (compareOp .Lt) (rI0 λi j=> .bl (decide (i<j))):=o_I0 uYy λ_ _ _ _=>rfl
theorem o_le:Op3 X (compareOp .LtE) (rI0 λi j=> .bl (decide (i<=j))):=o_I0 uYz λ_ _ _ _=>rfl
theorem o_gt:Op3 X (compareOp .Gt) (rI0 λi j=> .bl (decide (j<i))):=o_I0 uY0 λ_ _ _ _=>rfl
theorem o_ge:Op3 X (compareOp .GtE) (rI0 λi j=> .bl (decide (j<=i))):=o_I0 uY1 λ_ _ _ _=>rfl
noncomputable def qKh:T->Bool
 | .non=>true
 | _=>false
theorem Rep.non_iff{a:V}(r:Rep K H x a):decide (a= .non)=qKh x:=by
 cases x with
 | non=>cases (show a= .non from r);rfl
 | bl b=>cases (show a= .bl b from r);rfl
 | int b=>cases (show a= .int b from r);rfl
 | str b=>cases (show a= .str b from r);rfl
 | ref b=>cases (show a= .ref b from r);rfl
 | ty b=>cases (show a= .ty b from r);rfl
 | tup b=>obtain⟨_,_,e,_⟩:=(show ∃c vs,a= .ref c/\_ from r);subst e;rfl
 | scr b=>obtain⟨_,_,e,_⟩:=(show ∃c vs,a= .ref c/\_ from r);subst e;rfl
theorem uVy:Op3 X (compareOp .Is) (λx y G Q=>y= .non/\Q (.bl (qKh x)) G):=
 Op3.of uVs λH G x y a b Q hg ra rb ⟨ey,q⟩=>by
  subst ey;cases (show b= .non from rb)
  exact⟨rfl,.bl (qKh x),G,.refl H,hg,by rw[ra.non_iff];rfl,q⟩
def tOp(r:R3)(ta tb:TE3):TE3:=λτ G Q=>ta τ G λx G1=>tb τ G1 λy G2=>r x y G2 Q
def tUn(r:T->Gp->VK3->Prop)(ta:TE3):TE3:=λτ G Q=>ta τ G λx G1=>r x G1 Q
def jJ2(t:TE3):TT3:=λτ G Q=>t τ G λx G1=>∃c,x= .bl c/\Q c G1
def tAnd(t u:TT3):TT3:=λτ G Q=>t τ G λc G1=>if c=true then u τ G1 Q else Q false G1
def tOr(t u:TT3):TT3:=λτ G Q=>t τ G λc G1=>if c=true then Q true G1 else u τ G1 Q
def tNot(t:TT3):TT3:=λτ G Q=>t τ G λc G1=>Q (!c) G1
def jXu(ta tb:TE3):TE3:=λτ G Q=>ta τ G λx G1=>∃c,x= .bl c/\if c=true then tb τ G1 Q else Q (.bl false) G1
def tOrV(ta tb:TE3):TE3:=λτ G Q=>ta τ G λx G1=>∃c,x= .bl c/\if c=true then Q (.bl true) G1 else tb τ G1 Q
def qK8(ta:TE3):TE3:=λτ G Q=>ta τ G λx G1=>∃c,x= .bl c/\Q (.bl (!c)) G1
def tIf(t:TT3)(ta tb:TE3):TE3:=λτ G Q=>t τ G λc G1=>if c=true then ta τ G1 Q else tb τ G1 Q
noncomputable def jVv(r r':R3)(ta tb tc:TE3):TE3:=λτ G Q=>ta τ G λx G1=>tb τ G1 λy G2=>r x y G2 λz G3=>∃k,z= .bl k/\if k=true then tc τ G3 (λw G4=>r' y w G4 Q) else Q (.bl false) G3
def tNil:TA3:=λ_ G Q=>Q [] G
def jJa(ta:TE3)(tr:TA3):TA3:=λτ G Q=>ta τ G λx G1=>tr τ G1 λxs G2=>Q (x::xs) G2
def tTup(t:TA3):TE3:=λτ G Q=>t τ G λxs G1=>xs.length<=sizeLine/\Q (.tup xs) G1
def tLst(t:TA3):TE3:=λτ G Q=>t τ G λxs G1=>xs.length<=sizeLine/\∀p,G1 p=none->Q (.ref p) (gup G1 p (.lst xs))
def tCB(r:List T->Gp->VK3->Prop)(t:TA3):TE3:=λτ G Q=>t τ G λxs G1=>r xs G1 Q
variable {c:Expr}{tc te to:TE3}{es:List Expr}{op:CmpOp}{p:Pos}{T0:String}
section
variable {ta:TE3}{tA tB:TT3}{rest:List Expr}{t:TA3}
theorem e_op{op:Operator}(ho:Op3 X (binaryOp op) r)(ha:PE3 X a ta)(hb:PE3 X b tb):PE3 X (.BinOp a op b pos) (tOp r ta tb):=by
 intro pins s τ G H Q I h;exact wpAny_BinOp (bin3 ha hb I h λv u s2 x y G2 H2 e I2 rx ry q=>thn (ho pins s2 τ G2 H2 x y v u Q I2 rx ry q) λ_ _ z=>z.ext e)
theorem e_un{op:UnaryOp}{r:T->Gp->VK3->Prop}(ho:Un3 X (unaryOp op) r)(ha:PE3 X a ta):PE3 X (.UnaryOp op a pos) (tUn r ta):=by
 intro pins s τ G H Q I h;exact UnaryOp_ (thn (ha pins s τ G H _ I h) λv s1 w_=>w_.el λx G1 H1 e I1 r1 q1=>thn (ho pins s1 τ G1 H1 x v Q I1 r1 q1) λ_ _ z=>z.ext e)
theorem jZf(ho:Op3 X (compareOp op) r)(ha:PE3 X a ta)(hb:PE3 X b tb)(hm:behindInMarks op b=false):PE3 X (.Compare a [op] [b] pos) (tOp r ta tb):=by
 intro pins s τ G H Q I h;exact wpAny_Compare1 (bin3 ha hb I h λv u s2 x y G2 H2 e I2 rx ry q=>thn (ho pins s2 τ G2 H2 x y v u Q I2 rx ry q) λ_ _ z=>z.ext e) hm
theorem jK5(ho:Op3 X (compareOp op) r)(ha:PE3 X a ta)(hb:PE3 X b tb)(hm:behindInMarks op b=false):PT3 X (.Compare a [op] [b] pos) (jJ2 (tOp r ta tb)):=by
 intro pins s τ G H Q I h;refine wpAny_isTrue_Compare1 (bin3 ha hb I h λv u s2 x y G2 H2 e I2 rx ry q=>thn (ho pins s2 τ G2 H2 x y v u _ I2 rx ry q) λw' s3 w_=>w_.el λz G3 H3 e3 I3 r3 ⟨k,ez,q3⟩=> ?_) hm
 subst ez;obtain⟨v',rv',ru'⟩:=r3;cases (show v'= .bl k from rv');cases ru'
 exact lVi ⟨G3,H3,e.trans e3,I3,q3⟩
theorem jXs{t:TE3}(h:PE3 X e t)(he:∀whole,isTrue e X.env whole=(do let v <-whole;standAt e.pos;holding [v] (truthy v)):=by intro _;rfl):PT3 X e (jJ2 t):=by
 intro pins s τ G H Q I hw;refine isTrue_plain (thn (h pins s τ G H _ I hw) λv s1 w_=>w_.el λx G1 H1 e1 I1 r1 ⟨k,ez,q1⟩=> ?_) (he _)
 subst ez;obtain⟨v',rv',ru'⟩:=r1;cases (show v'= .bl k from rv');cases ru'
 exact lVi ⟨G1,H1,e1,I1,q1⟩
def tTru(r:T->Gp->(Bool->Gp->Prop)->Prop)(t:TE3):TT3:=λτ G Q=>t τ G λx G1=>r x G1 Q
theorem uYk{t:TE3}{r:T->Gp->(Bool->Gp->Prop)->Prop}(hr:Tru3 X r)(h:PE3 X e t)(he:∀whole,isTrue e X.env whole=(do let v <-whole;standAt e.pos;holding [v] (truthy v)):=by intro _;rfl):PT3 X e (tTru r t):=by
 intro pins s τ G H Q I hw;exact isTrue_plain (thn (h pins s τ G H _ I hw) λv s1 w_=>w_.el λx G1 H1 e1 I1 r1 q1=>thn (hr pins s1 τ G1 H1 x v Q I1 r1 q1) λ_ _ z=>z.ext e1) (he _)
theorem uUk(ha:PT3 X a tA):PW3 X (.BoolOp .And [a] pos) tA:=by
 intro wh pins s τ G H Q I h;refine isTrue_and (thn (ha pins s τ G H Q I h) λc s1 e=> ?_)
 cases c with
 | true=>exact isTrue_and_nil e
 | false=>exact e
theorem kQr(ha:PT3 X a tA):PW3 X (.BoolOp .Or [a] pos) tA:=by
 intro wh pins s τ G H Q I h;refine isTrue_or (thn (ha pins s τ G H Q I h) λc s1 e=> ?_)
 cases c with
 | false=>exact isTrue_or_nil e
 | true=>exact e
theorem uYh(ha:PT3 X a tA)(hb:PW3 X (.BoolOp .And (b::rest) pos) tB):PW3 X (.BoolOp .And (a::b::rest) pos) (tAnd tA tB):=by
 intro wh pins s τ G H Q I h;refine isTrue_and (thn (ha pins s τ G H _ I h) λc s1 w_=>w_.el λG1 H1 e1 I1 q1=> ?_)
 cases c with
 | true=>exact thn (hb wh pins s1 τ G1 H1 Q I1 q1) λ_ _ z=>z.ext e1
 | false=>exact⟨G1,H1,e1,I1,q1⟩
theorem w_or(ha:PT3 X a tA)(hb:PW3 X (.BoolOp .Or (b::rest) pos) tB):PW3 X (.BoolOp .Or (a::b::rest) pos) (tOr tA tB):=by
 intro wh pins s τ G H Q I h;refine isTrue_or (thn (ha pins s τ G H _ I h) λc s1 w_=>w_.el λG1 H1 e1 I1 q1=> ?_)
 cases c with
 | true=>exact⟨G1,H1,e1,I1,q1⟩
 | false=>exact thn (hb wh pins s1 τ G1 H1 Q I1 q1) λ_ _ z=>z.ext e1
theorem jXt(ha:PT3 X a tA):PT3 X (.UnaryOp .Not a pos) (tNot tA):=by
 intro pins s τ G H Q I h;exact isTrue_not (thn (ha pins s τ G H (λc G1=>Q (!c) G1) I h) λc s1 w_=>w_.el λG1 H1 e1 I1 q1=>⟨G1,H1,e1,I1,q1⟩)
theorem kK3 {op}{t:TE3}(h:PE3 X a t):PE3 X (.BoolOp op [a] pos) t:=λpins s τ G H Q I hw=>BoolOp_one (h pins s τ G H Q I hw)
theorem jZg(ha:PE3 X a ta)(hb:PE3 X (.BoolOp .And (b::rest) pos) tb):PE3 X (.BoolOp .And (a::b::rest) pos) (jXu ta tb):=by
 intro pins s τ G H Q I h;refine BoolOp_and (thn (ha pins s τ G H _ I h) λv s1 w_=>w_.el λx G1 H1 e1 I1 r1 ⟨k,ez,q1⟩=> ?_)
 subst ez;obtain⟨v',rv',ru'⟩:=r1;cases (show v'= .bl k from rv');cases ru'
 refine lVi ?_;cases k with
 | true=>exact thn (hb pins s1 τ G1 H1 Q I1 q1) λ_ _ z=>z.ext e1
 | false=>exact⟨.bl false,G1,H1,e1,I1,⟨.bl false,rfl,rfl⟩,q1⟩
theorem uQq(ha:PE3 X a ta):PE3 X (.UnaryOp .Not a pos) (qK8 ta):=by
 intro pins s τ G H Q I h;refine UnaryOp_ (thn (ha pins s τ G H _ I h) λv s1 w_=>w_.el λx G1 H1 e1 I1 r1 ⟨k,ez,q1⟩=> ?_)
 subst ez;obtain⟨v',rv',ru'⟩:=r1;cases (show v'= .bl k from rv');cases ru'
 exact not_of (lVi ⟨.bl (!k),G1,H1,e1,I1,⟨.bl (!k),rfl,rfl⟩,q1⟩)
theorem qVy(hc:PT3 X c tA)(ha:PE3 X a ta)(hb:PE3 X b tb):PE3 X (.IfExp c a b pos) (tIf tA ta tb):=by
 intro pins s τ G H Q I h;refine IfExp_ (thn (hc pins s τ G H _ I h) λk s1 w_=>w_.el λG1 H1 e1 I1 q1=> ?_)
 cases k with
 | true=>exact thn (ha pins s1 τ G1 H1 Q I1 q1) λ_ _ z=>z.ext e1
 | false=>exact thn (hb pins s1 τ G1 H1 Q I1 q1) λ_ _ z=>z.ext e1
theorem jJd:PA3 X [] tNil:=λ_ _ _ _ G H Q I h=>Calls.spliced_nil ⟨[],G,H,.refl H,I,⟨[],rfl,.nil⟩,h⟩
theorem jJb(ha:PE3 X e te)(hr:PA3 X es t)(hs:starEach (e::es) X.env=(false,eval e X.env)::starEach es X.env:=by rfl):PA3 X (e::es) (jJa te t):=by
 intro pos pins s τ G H Q I h;rw[hs];show wpAny _ _ (spliced ((false,eval e X.env)::backTo pos (starEach es X.env))) _ _ s
 refine Calls.spliced_cons (thn (ha pins s τ G H _ I h) λu s1 w_=>w_.el λx G1 H1 e1 I1 r1 q1=> ?_)
 refine thn (hr pos pins s1 τ G1 H1 _ I1 q1) λus s2 w_=>w_.el λxs G2 H2 e2 I2 r_ q2=>r_.el λvs rs rv=> ?_
 obtain⟨v,rr,rvv⟩:=r1.mono e2;exact⟨x::xs,G2,H2,e1.trans e2,I2,⟨v::vs,⟨v,vs,rfl,rr,rs⟩,.cons rvv rv⟩,q2⟩
theorem jKl {x1}(h:PA3 X es t):PE3 X (.Tuple es x1 pos) (tTup t):=by
 intro pins s τ G H Q I hq;refine wpAny_Tuple_spliced (thn (h pos pins s τ G H _ I hq) λus s1 w_=>w_.el λxs G1 H1 e1 i_ r_ ⟨z,q⟩=>i_.el λσ I1 hs1 hg1=>r_.el λvs rs rv=>⟨by rw[<-rv.length,<-rs.length];exact z,?_⟩)
 have hf:H1 s1.heap.objs.size=none:=I1.hok.fresh (lJh _);have e2:Ext H1 (upd H1 s1.heap.objs.size (.tup vs)):= .upd (.none hf);refine⟨.tup xs,G1,upd H1 s1.heap.objs.size (.tup vs),e1.trans e2,⟨σ,I1.laid (t':=s1.toks) (λb u e=>lJm _ e) (lJh _) ?_,hs1.mono e2,hg1.tupNew hf⟩,⟨.ref s1.heap.objs.size,Rep.tupNew rs hf,rfl⟩,q⟩
 exact⟨by rw[<-rs.length];exact z,us,rv,⟨_,lKd _ rfl,rfl,_,rfl,rfl⟩⟩
theorem jQe(h:PA3 X es t):PE3 X (.List es pos) (tLst t):=by
 intro pins s τ G H Q I hq;refine wpAny_List_spliced (thn (h pos pins s τ G H _ I hq) λus s1 w_=>w_.el λxs G1 H1 e1 i_ r_ ⟨z,q⟩=>i_.el λσ I1 hs1 hg1=>r_.el λvs rs rv=>⟨by rw[<-rv.length,<-rs.length];exact z,?_⟩)
 have hf:H1 s1.heap.objs.size=none:=I1.hok.fresh (lJh _);have e2:Ext H1 (upd H1 s1.heap.objs.size (.lst vs)):= .upd (.none hf);refine⟨.ref s1.heap.objs.size,gup G1 s1.heap.objs.size (.lst xs),upd H1 s1.heap.objs.size (.lst vs),e1.trans e2,⟨σ,I1.laid (t':=s1.toks) (λb u e=>lJm _ e) (lJh _) ?_,hs1.mono e2,hg1.lstNew rs (.none hf)⟩,⟨.ref s1.heap.objs.size,rfl,rfl⟩,q _ (hg1.fresh hf)⟩
 exact⟨by rw[<-rs.length];exact z,us,0,rv,lKd _ rfl⟩
theorem e_ix(hr:Ix3 X r)(ha:PE3 X a ta)(hb:PE3 X b tb)(hs:qXn b):PE3 X (.Subscript a b pos) (tOp r ta tb):=by
 intro pins s τ G H Q I h;exact Subscript_ (bin3 ha hb I h λv u s2 x y G2 H2 e I2 rx ry q=>thn (hr a b pins s2 τ G2 H2 x y v u Q I2 rx ry q (hs _ _)) λ_ _ z=>z.ext e)
def rIx:R3:=λx y G Q=>∃xs i t,seqT G x=some xs/\y= .int i/\atI xs i=some t/\Q t G
theorem jXe{o:Option GO}(h:asL o=some xs):o=some (.lst xs):=by
 cases o with
 | none=>cases h
 | some g=>cases g with
  | lst ys=>cases h;rfl
  | dct _=>cases h
  | dck _=>cases h
  | fdc _=>cases h
  | ins _ _=>cases h
theorem jUx{a:V}(hg:GRel K H G)(r:Rep K H x a)(h:seqT G x=some xs):
  ∃p vs,a= .ref p/\(SqL K H p vs\/SqT K H p vs)/\Reps K H xs vs:=by
 cases x with
 | tup ys=>cases h;obtain⟨p,vs,e,h1,h2⟩:=(show ∃p vs,a= .ref p/\H p=some (.tup vs)/\Reps K H xs vs from r);exact⟨p,vs,e,.inr (.of h1),h2⟩
 | scr ys=>cases h;obtain⟨p,vs,e,h1,h2⟩:=(show ∃p vs,a= .ref p/\FrL K H p vs/\Reps K H xs vs from r);exact⟨p,vs,e,.inl h1.sq,h2⟩
 | ref p=>
  obtain⟨vs,h1,h2⟩:=hg.lst (jXe h);exact⟨p,vs,r,.inl (.of h1),h2⟩
 | non=>cases h
 | bl _=>cases h
 | int _=>cases h
 | str _=>cases h
 | ty _=>cases h
theorem ix_any:Ix3 X rIx:=
 Ix3.of (ix_list.or uXe) λH G x y a b Q hg ra rb ⟨xs,i,t,hx,ey,ht,q⟩=>by
  subst ey;cases (show b= .int i from rb)
  obtain⟨p,vs,e,hq,r⟩:=jUx hg ra hx;subst e;obtain⟨v,hv,rv⟩:=r.atI ht
  rcases hq with hq | hq
  .exact .inl ⟨p,vs,i,v,rfl,rfl,hq,hv,t,G,.refl H,hg,rv,q⟩
  .exact .inr ⟨p,vs,i,v,rfl,rfl,hq,hv,t,G,.refl H,hg,rv,q⟩
theorem jJm{id:String}{r:List T->Gp->VK3->Prop}{x:Str}(hc:Call3 X (.builtin id) r)(hg:Gl X x)(hm:X.mg x=none)(hv:bootBuiltins x=some (.builtin id))(ha:PA3 X (e::es) t)(hn:x≠"__name__":=by decide)(hdb:(x == ("__debug__":Str))=false:=by decide)(he:starEach (e::es) X.env=(false,eval e X.env)::starEach es X.env:=by rfl)(hpl:(backTo pos (starEach es X.env)).any (·.1)=false:=by rfl):PE3 X (.Call (.Name x p) (e::es) [] pos) (tCB r t):=by
 intro pins s τ G H Q I h;obtain⟨σ,I0,hs0,hg0⟩:=_root_.id I;refine lZg (jU3 I0 hg hm hv ?_ hn hdb);exact lZs (thn (ha pos pins s τ G H _ I h) λus s1 w_=>w_.el λxs G1 H1 e1 I1 r1 q1=>thn (hc pins s1 τ G1 H1 xs us Q I1 r1 q1) λ_ _ z=>z.ext e1) he hpl
theorem jJx{r:List T->Gp->VK3->Prop}{x:Str}(hc:Call3 X (.type T0) r)(hg:Gl X x)(hm:X.mg x=none)(hv:bootBuiltins x=some (.type T0))(ha:PA3 X (e::es) t)(hn:x≠"__name__":=by decide)(hdb:(x == ("__debug__":Str))=false:=by decide)(he:starEach (e::es) X.env=(false,eval e X.env)::starEach es X.env:=by rfl)(hpl:(backTo pos (starEach es X.env)).any (·.1)=false:=by rfl):PE3 X (.Call (.Name x p) (e::es) [] pos) (tCB r t):=by
 intro pins s τ G H Q I h;obtain⟨σ,I0,hs0,hg0⟩:=_root_.id I;refine lZg (jU3 I0 hg hm hv ?_ hn hdb);exact lVb (thn (ha pos pins s τ G H _ I h) λus s1 w_=>w_.el λxs G1 H1 e1 I1 r1 q1=>thn (hc pins s1 τ G1 H1 xs us Q I1 r1 q1) λ_ _ z=>z.ext e1) he hpl
theorem jUg(h:Reps K H [x] vs):∃v,vs=[v]/\Rep K H x v:=by
 obtain⟨v,ws,rfl,r,e⟩:=h;cases e;exact⟨v,rfl,r⟩
theorem qJw{y:T}(h:Reps K H [x,y] vs):∃v w,vs=[v,w]/\Rep K H x v/\Rep K H y w:=by
 obtain⟨v,ws,rfl,r,w,ws2,rfl,r2,e⟩:=h;cases e;exact⟨v,w,rfl,r,r2⟩
def rLen:List T->Gp->VK3->Prop:=λxs G Q=>∃x ys,xs=[x]/\seqT G x=some ys/\Q (.int ys.length) G
theorem jK1:Call3 X (.builtin "len") rLen:=
 Call3.of kXe λH G xs as Q hg ra ⟨x,ys,e,hx,q⟩=>by
  subst e;obtain⟨v,rfl,rv⟩:=jUg ra;obtain⟨p,vs,rfl,hq,r⟩:=jUx hg rv hx;exact⟨p,vs,rfl,hq,.int ys.length,G,.refl H,hg,by rw[r.length];rfl,q⟩
def rAbs:List T->Gp->VK3->Prop:=λxs G Q=>∃i,xs=[.int i]/\Q (.int (if i<0 then -i else i)) G
theorem uX0:Call3 X (.builtin "abs") rAbs:=
 Call3.of qZu λH G xs as Q hg ra ⟨i,e,q⟩=>by
  subst e;obtain⟨v,rfl,rv⟩:=jUg ra;cases (show v= .int i from rv)
  exact⟨i,rfl,.int _,G,.refl H,hg,rfl,q⟩
def rMax:List T->Gp->VK3->Prop:=λxs G Q=>∃i j,xs=[.int i,.int j]/\Q (.int (if j>i then j else i)) G
theorem uXy(hc:X.calm=true):Call3 X (.builtin "max") rMax:=
 Call3.of (qXb hc) λH G xs as Q hg ra ⟨i,j,e,q⟩=>by
  subst e;obtain⟨v,w,rfl,rv,rw'⟩:=qJw ra;cases (show v= .int i from rv);cases (show w= .int j from rw')
  exact⟨i,j,rfl,.int _,G,.refl H,hg,rfl,q⟩
def kZe:List T->Gp->VK3->Prop:=λxs G Q=>∃k,xs=[.bl k]/\Q (.int (if k then 1 else 0)) G
theorem uZr:Call3 X (.type "int") kZe:=
 Call3.of qXc λH G xs as Q hg ra ⟨k,e,q⟩=>by
  subst e;obtain⟨v,rfl,rv⟩:=jUg ra;cases (show v= .bl k from rv)
  exact .inr ⟨k,rfl,.int _,G,.refl H,hg,rfl,q⟩
def uKf:List T->Gp->VK3->Prop:=λxs G Q=>∃i j,xs=[.int i,.int j]/\CDiv i j/\Q (.tup [.int (i / j),.int (i%j)]) G
def jV0:List T->Gp->VK3->Prop:=λxs G Q=>∃x ys,xs=[x]/\seqT G x=some ys/\∀p,G p=none->Q (.ref p) (gup G p (.lst ys))
theorem uXz:Call3 X (.type "list") jV0:=
 Call3.of kXd λH G xs as Q hg ra ⟨x,ys,e,hx,q⟩=>by
  subst e;obtain⟨v,rfl,rv⟩:=jUg ra;obtain⟨p,vs,rfl,hq,r⟩:=jUx hg rv hx;exact⟨p,vs,rfl,hq,λl hl=>⟨.ref l,_,.upd (.none hl),hg.lstNew r (.none hl),rfl,q l (hg.fresh hl)⟩⟩
def jKd:List T->Gp->VK3->Prop:=λxs G Q=>∃x ys,xs=[x]/\seqT G x=some ys/\Q (.tup ys) G
theorem jQj:Call3 X (.type "tuple") jKd:=
 Call3.of kU3 λH G xs as Q hg ra ⟨x,ys,e,hx,q⟩=>by
  subst e;obtain⟨v,rfl,rv⟩:=jUg ra;obtain⟨p,vs,rfl,hq,r⟩:=jUx hg rv hx;cases x with
  | tup zs=>
   cases hx;obtain⟨p',vs',e',h1,h2⟩:=(show ∃p' vs',V.ref p= .ref p'/\H p'=some (.tup vs')/\Reps X.K H ys vs' from rv)
   cases e';exact⟨p,vs',rfl,.inr ⟨.of h1,.tup ys,G,.refl H,hg,⟨p,vs',rfl,h1,h2⟩,q⟩⟩
  | scr zs=>
   cases hx;obtain⟨p',vs',e',h1,h2⟩:=(show ∃p' vs',V.ref p= .ref p'/\FrL X.K H p' vs'/\Reps X.K H ys vs' from rv)
   cases e';exact⟨p,vs',rfl,.inl ⟨h1.sq,λl hl=>⟨.tup ys,G,.upd (.none hl),hg.tupNew hl,Rep.tupNew h2 hl,q⟩⟩⟩
  | ref p'=>
   cases (show V.ref p= .ref p' from rv)
   obtain⟨vs',h1,h2⟩:=hg.lst (jXe hx);exact⟨p,vs',rfl,.inl ⟨.of h1,λl hl=>⟨.tup ys,G,.upd (.none hl),hg.tupNew hl,Rep.tupNew h2 hl,q⟩⟩⟩
  | non=>cases hx
  | bl _=>cases hx
  | int _=>cases hx
  | str _=>cases hx
  | ty _=>cases hx
noncomputable def rCat:R3:=λx y G Q=>∃p q xs ys,x= .ref p/\y= .ref q/\G p=some (.lst xs)/\G q=some (.lst ys)/\xs.length+ys.length<=sizeLine/\∀l,G l=none->Q (.ref l) (gup G l (.lst (xs++ys)))
noncomputable def rRep:R3:=λx y G Q=>∃p xs n,x= .ref p/\y= .int n/\G p=some (.lst xs)/\n.toNat * xs.length<=sizeLine/\n<2^62/\ -(2^62)<n/\∀l,G l=none->Q (.ref l) (gup G l (.lst (List.replicate n.toNat xs).flatten))
def tyT(G:Gp)(T0:String)(x:T):Prop:=match x with
 | .str _=>T0="str"
 | .int _=>T0="int"
 | .ref p=>(T0="list"/\∃xs,G p=some (.lst xs))\/(T0="dict"/\((∃kvs,G p=some (.dck kvs))\/∃kvs,G p=some (.dct kvs)))
 | _=>False
theorem tyT.of{a:V}(hg:GRel K H G)(r:Rep K H x a)(h:tyT G T0 x):tyV K T0 a H:=by
 cases x with
 | str z=>cases (show a= .str z from r);exact h
 | int z=>cases (show a= .int z from r);exact h
 | ref p=>
  cases (show a= .ref p from r)
  rcases h with ⟨e,xs,h⟩ | ⟨e,h⟩
  .obtain⟨vs,h1,_⟩:=hg.lst h;exact .inl ⟨e,vs,.of h1⟩
  .refine .inr (.inr (.inl ⟨e,?_⟩))
   rcases h with ⟨kvs,h⟩ | ⟨kvs,h⟩
   .obtain⟨ws,h1,_⟩:=hg p _ h;exact .inl ⟨ws,h1⟩
   .obtain⟨ws,h1,_⟩:=hg p _ h;exact .inr ⟨ws,h1⟩
 | non=>exact False.elim h
 | bl _=>exact False.elim h
 | ty _=>exact False.elim h
 | tup _=>exact False.elim h
 | scr _=>exact False.elim h
def tBM(T0:String)(r:T->List T->Gp->VK3->Prop)(to:TE3)(t:TA3):TE3:=λτ G Q=>to τ G λx G1=>tyT G1 T0 x/\t τ G1 λxs G2=>r x xs G2 Q
theorem e_bm{id:String}{r:T->List T->Gp->VK3->Prop}{o:Expr}{name:Str}{apos cpos:Pos}(pa:PlainAttrs T0)(slot:Slot T0 name id)(hty:typeOf (.builtin id)=pure (.type "method_descriptor"))(hm:Mt3 X id r)(ho:PE3 X o to)(ha:PA3 X (e::es) t)(hbase:attributeBase o name X.env (eval o X.env)=eval o X.env:=by rfl)(hfew:((backTo cpos (starEach (e::es) X.env)).all (λx=> !x.1)&&(backToKw cpos (keywordEach [] X.env)).all (λx=>x.1.isSome)
   &&decide ((e::es).length+([]:List Keyword).length+(if ([]:List Keyword).isEmpty then 0 else 1)<30))=true:=by rfl)(hline:(apos.endLine == cpos.line)=true:=by rfl)(hs:starEach (e::es) X.env=(false,eval e X.env)::starEach es X.env:=by rfl)(hplain:(backTo cpos (starEach es X.env)).any (·.1)=false:=by rfl):
  PE3 X (.Call (.Attribute o name apos) (e::es) [] cpos) (tBM T0 r to t):=by
 intro pins s τ G H Q I h;refine wpAny_Call_method_late hbase hfew hline rfl (thn (ho pins s τ G H _ I h) λv s1 w_=>w_.el λx G1 H1 e1 I1 r1 ⟨ty,q1⟩=> ?_)
 obtain⟨σ,I0,hs0,hg0⟩:=_root_.id I1;obtain⟨a0,ra0,rv0⟩:=_root_.id r1;obtain⟨h1,h2⟩:=uUo I0 rv0 (tyT.of hg0 ra0 ty);refine⟨T0,id,pa,slot,hty,h1,h2,?_⟩;have hA:=ha cpos pins s1 τ G1 H1 _ I1 q1;rw[hs] at hA ⊢;refine Calls.callWith_builtin (by show (false||(backTo cpos (starEach es X.env)).any (·.1))=false;rw[hplain]<;>rfl) (Calls.evalArgs_plain ?_)
 exact thn hA λus s2 w_=>w_.el λvs G2 H2 e2 I2 r2 q2=>thn (hm pins s2 τ G2 H2 x vs v us Q I2 (r1.mono e2) r2 q2) λ_ _ z=>(z.ext e2).ext e1
def jUa:T->List T->Gp->VK3->Prop:=λx xs G Q=>∃p ys y,x= .ref p/\xs=[y]/\G p=some (.lst ys)/\ys.length<sizeLine/\Q .non (gup G p (.lst (ys++[y])))
def qYi:T->T->T->Gp->(Gp->Prop)->Prop:=λo i v G Q=>∃p xs k j,o= .ref p/\i= .int k/\G p=some (.lst xs)/\ixN xs.length k=some j/\Q (gup G p (.lst (xs.set j v)))
theorem s_list:Set3 X qYi:=
 Set3.of qX4 λH G o i v a b c Q hg ra rb rc ⟨p,xs,k,j,eo,ei,hp,hj,q⟩=>by
  subst eo;subst ei;cases (show a= .ref p from ra);cases (show b= .int k from rb)
  obtain⟨vs,h1,h2⟩:=hg.lst hp;exact⟨p,vs,k,j,rfl,rfl,h1,by rw[<-h2.length];exact hj,_,.upd (.lst h1),hg.lstNew (h2.set rc j) (.lst h1),q⟩
end
theorem o_cat:Op3 X (binaryOp .Add) rCat:=
 Op3.of uVt λH G x y a b Q hg ra rb ⟨p,q,xs,ys,ex,ey,hp,hq,hz,h⟩=>by
  subst ex;subst ey;cases (show a= .ref p from ra);cases (show b= .ref q from rb)
  obtain⟨vs,h1,h2⟩:=hg.lst hp;obtain⟨ws,h3,h4⟩:=hg.lst hq;exact⟨p,q,vs,ws,rfl,rfl,h1,h3,by rw[<-h2.length,<-h4.length];exact hz,λl hl=>⟨.ref l,_,.upd (.none hl),hg.lstNew (h2.append h4) (.none hl),rfl,h l (hg.fresh hl)⟩⟩
theorem uY2:Op3 X (binaryOp .Mult) rRep:=
 Op3.of uVo λH G x y a b Q hg ra rb ⟨p,xs,n,ex,ey,hp,hz,h1,h2,h⟩=>by
  subst ex;subst ey;cases (show a= .ref p from ra);cases (show b= .int n from rb)
  obtain⟨vs,h3,h4⟩:=hg.lst hp;refine⟨p,n,vs,rfl,rfl,h3,by omega,by omega,by rw[<-h4.length,lYp];exact hz,λl hl=>⟨.ref l,_,.upd (.none hl),hg.lstNew (h4.rep _) (.none hl),rfl,h l (hg.fresh hl)⟩⟩
theorem jUl:Mt3 X "list.append" jUa:=
 Mt3.of qUx λH G x xs a as Q hg ra ras ⟨p,ys,y,ex,exs,hp,hz,q⟩=>by
  subst ex;subst exs;cases (show a= .ref p from ra)
  obtain⟨v,rfl,rv⟩:=jUg ras;obtain⟨vs,h1,h2⟩:=hg.lst hp;exact⟨p,vs,v,rfl,rfl,h1,by rw[<-h2.length];exact hz,.non,_,.upd (.lst h1),hg.lstNew (h2.append (.one rv)) (.lst h1),rfl,q⟩
def jKv:TS3:=λD τ G=>D.nx τ G
def tSeq(t u:TS3):TS3:=λD τ G=>t {D with nx:=u D} τ G
def jZp(te:TE3):TS3:=λD τ G=>te τ G λ_ G1=>D.nx τ G1
def tRet(te:TE3):TS3:=λD τ G=>te τ G D.rt
def uUt:TS3:=λD _ G=>D.rt .non G
def tIfS(c:TT3)(t u:TS3):TS3:=λD τ G=>c τ G λb G1=>if b=true then t D τ G1 else u D τ G1
variable {st:Stmt}
section
variable {rest:List Stmt}{t u:TS3}
theorem jKk:PSs3 X [] jKv:=λ_ _ τ G H _ I h=>lZh ⟨τ,G,H,.refl H,I,h⟩
theorem jJf(h1:PS3 X st t)(h2:PSs3 X rest u):PSs3 X (st::rest) (tSeq t u):=by
 intro pins s τ G H D I h;refine wpAny_execs_cons (thn (h1 pins s τ G H {D with nx:=u D} I h) λf s1 q=> ?_)
 cases f with
 | next=>
  obtain⟨τ',G',H',e',I',q⟩:=q;exact thn (h2 pins s1 τ' G' H' D I' q) λ_ _ z=>z.ext e'
 | ret v=>exact q
 | brk=>exact q
 | cont=>exact q
theorem jJl(h1:PS3 X st t):PSs3 X [st] t:=by
 intro pins s τ G H D I h;refine wpAny_execs_cons (thn (h1 pins s τ G H D I h) λf s1 q=> ?_)
 cases f with
 | next=>exact lZh q
 | ret v=>exact q
 | brk=>exact q
 | cont=>exact q
theorem jYh(he:PE3 X e te)(hs:swapsWith e none pos.line X.env=pure false:=by rfl):PS3 X (.Expr e pos) (jZp te):=by
 intro pins s τ G H D I h;obtain⟨σ,I0,hs0,hg0⟩:=id I;exact wpAny_Expr_any (thn (he pins s τ G H _ I h) λv s1 w_=>w_.el λx G1 H1 e1 I1 r1 q1=>⟨τ,G1,H1,e1,I1,q1⟩) I0.quiet hs
theorem jJ3(he:PE3 X e te):PS3 X (.Return (some e) pos) (tRet te):=by
 intro pins s τ G H D I h;exact wpAny_Return_some (thn (he pins s τ G H _ I h) λv s1 w_=>w_.el λx G1 H1 e1 I1 r1 q1=>⟨x,τ,G1,H1,e1,I1,r1,q1⟩)
theorem s_if{a b:List Stmt}{tc:TT3}(hc:PT3 X c tc)(ha:PSs3 X a t)(hb:PSs3 X b u):PS3 X (.If c a b pos) (tIfS tc t u):=by
 intro pins s τ G H D I h;refine wpAny_If (thn (hc pins s τ G H _ I h) λd s1 w_=>w_.el λG1 H1 e1 I1 q1=> ?_)
 cases d with
 | true=>exact thn (ha pins s1 τ G1 H1 D I1 q1) λ_ _ z=>z.ext e1
 | false=>exact thn (hb pins s1 τ G1 H1 D I1 q1) λ_ _ z=>z.ext e1
end
abbrev TG3:=T->St3->Gp->(St3->Gp->Prop)->Prop
abbrev TGs3:=List T->St3->Gp->(St3->Gp->Prop)->Prop
def GP3(X:Cx)(pins:List (Addr×Obj))(H:Hp)(Q:St3->Gp->Prop)(s':Shared):Prop:=∃ τ' G' H',Ext H H'/\Inv3 X pins τ' G' H' s'/\Q τ' G'
def PG3(X:Cx)(target:Expr)(t:TG3):Prop:=
 ∀(pins:List (Addr×Obj))(s:Shared)(τ:St3)(G:Gp)(H:Hp)(v:T)(u:Value)(Q:St3->Gp->Prop),Inv3 X pins τ G H s->RU X.K H v u->t v τ G Q->
  wpAny (model X.prog X.w) X.A (assign target X.env u) (λ_ s'=>GP3 X pins H Q s') X.xe s
def PGs3(X:Cx)(ts:List Expr)(t:TGs3):Prop:=
 ∀(pins:List (Addr×Obj))(s:Shared)(τ:St3)(G:Gp)(H:Hp)(vs:List T)(us:List Value)(Q:St3->Gp->Prop),Inv3 X pins τ G H s->RUs X.K H vs us->t vs τ G Q->
  wpAny (model X.prog X.w) X.A (assignInOrder ((assignEach ts X.env).map (·.2)) us) (λ_ s'=>GP3 X pins H Q s') X.xe s
def jJh(i:Nat):TG3:=λv τ G Q=>Q (τ.set i (some v)) G
def gNil:TGs3:=λvs τ G Q=>vs=[]/\Q τ G
def jKi(t:TG3)(u:TGs3):TGs3:=λvs τ G Q=>∃v r,vs=v::r/\t v τ G λτ' G'=>u r τ' G' Q
def gTup(n:Nat)(t:TGs3):TG3:=λv τ G Q=>∃xs,v= .tup xs/\xs.length=n/\t xs τ G Q
def gSub(to ti:TE3)(t:T->T->T->Gp->(Gp->Prop)->Prop):TG3:=λv τ G Q=>to τ G λo G1=>ti τ G1 λi G2=>t o i v G2 λG3=>Q τ G3
def tAsg(te:TE3)(g:TG3):TS3:=λD τ G=>te τ G λx G1=>g x τ G1 D.nx
variable {i n:Nat}{tg:Expr}{g:TG3}{y:Str}{ta:TA3}{py:Pos}{body:List Stmt}
theorem jJp{x:Str}(hN:X.N.Nodup)(hi:X.N[i]? =some x:=by rfl)(hx:Loc X.env.scope x:=by first | exact Or.inl rfl | exact Or.inr rfl)(hf:X.fn x=true\/X.env.scope.names.lookup x=some .local:=by first | exact .inl rfl | exact .inr rfl):PG3 X (.Name x pos) (jJh i):=by
 rintro pins s τ G H v u Q ⟨σ,I,hs,hg⟩ ⟨a,ra,rv⟩ h;exact wpAny_assign_Name (jYd I hN hi hx rv (λs' I'=>⟨_,G,H,.refl H,⟨_,I',hs.set i ra,hg⟩,h⟩) hf)
theorem jUf:PGs3 X [] gNil:=by
 rintro pins s τ G H vs us Q I ⟨as,r,rv⟩ ⟨e,h⟩;subst e;cases (show as=[] from r)
 cases rv;exact assignInOrder_nil ⟨τ,G,H,.refl H,I,h⟩
theorem jJz{t:TG3}{u:TGs3}(h1:PG3 X e t)(h2:PGs3 X es u)(hs:(assignEach (e::es) X.env).map (·.2)=assign e X.env::(assignEach es X.env).map (·.2):=by rfl):PGs3 X (e::es) (jKi t u):=by
 rintro pins s τ G H vs us Q I ⟨as,r,rv⟩ ⟨v,vr,e1,h⟩;subst e1;obtain⟨a,ar,rfl,ra,rar⟩:=r;cases rv with
 | cons q qq=>
  rw[hs];refine mJk (thn (h1 pins s τ G H v _ _ I ⟨a,ra,q⟩ h) λ_ s1 ⟨τ1,G1,H1,e1,I1,q1⟩=> ?_)
  exact thn (h2 pins s1 τ1 G1 H1 vr _ Q I1 ⟨ar,Reps.mono e1 _ rar,qq⟩ q1) λ_ s2 ⟨τ2,G2,H2,e2,z⟩=>⟨τ2,G2,H2,e1.trans e2,z⟩
theorem jX6{k:Nat}{t:TGs3}(hc:X.calm=true)(h:PGs3 X es t)(hn:(assignEach es X.env).length=n:=by rfl)(hst:(assignEach es X.env).findIdx? (·.1)=none:=by rfl):PG3 X (.Tuple es k pos) (gTup n t):=by
 rintro pins s τ G H v u Q ⟨σ,I,hs,hg⟩ ⟨a,ra,rv⟩ ⟨xs,ev,hl,hw⟩;subst ev;obtain⟨p,vs,e1,h1,r1⟩:=(show ∃p vs,a= .ref p/\H p=some (.tup vs)/\Reps X.K H xs vs from ra)
 subst e1;cases rv;obtain⟨its,rv,ht,hz⟩:=I.tuple (.of h1);refine assign_Tuple_tuple (I.ok.hd hc) ht (by simp[hn,<-hl,r1.length,rv.length]) hst λh' hx=> ?_
 have I1:Inv X pins σ H {s with heap:=h'}:=I.kept (t':=s.toks) λb o e=>hx b o (lJr (lJi e)) e
 exact h pins _ τ G H xs _ Q ⟨σ,I1,hs,hg⟩ ⟨vs,r1,by simpa using rv⟩ hw
theorem kYn{o i:Expr}{ti:TE3}{t:T->T->T->Gp->(Gp->Prop)->Prop}(ho:PE3 X o to)(hi:PE3 X i ti)(hs:Set3 X t)(ha:∀v,assign (.Subscript o i pos) X.env v=(do
   let ov <-holding [v] (eval o X.env)
   let iv <-holding [v,ov] (eval i X.env)
   standAt pos
   holding [v,ov,iv] (setItem ov iv v)
   release [v,ov,iv] []):=by intro _;rfl):PG3 X (.Subscript o i pos) (gSub to ti t):=by
 intro pins s τ G H v u Q I r h;rw[ha];refine lJb (lKz (thn (ho pins s τ G H _ I h) λov s1 w_=>w_.el λx G1 H1 e1 I1 r1 q1=> ?_))
 refine lJb (lKz (thn (hi pins s1 τ G1 H1 _ I1 q1) λiv s2 w_=>w_.el λy G2 H2 e2 I2 r2 q2=> ?_))
 refine lJb (lZi (lJb (lKz (thn (hs pins s2 τ G2 H2 x y v ov iv u _ I2 (r1.mono e2) r2 (r.mono (e1.trans e2)) q2) λ_ s3 ⟨G3,H3,e3,I3,q3⟩=> ?_))))
 exact wpAny_release ⟨τ,G3,H3,(e1.trans e2).trans e3,I3,q3⟩
theorem kQ1(he:PE3 X e te)(hg:PG3 X tg g)(hs:swapsWithSole [tg] e pos.line X.env=pure false:=by rfl)(hw:swappedStores [tg] e X.env=pure none:=by rfl)(h1:(assignEach [tg] X.env).map (·.2)=[assign tg X.env]:=by rfl):PS3 X (.Assign [tg] e pos) (tAsg te g):=by
 intro pins s τ G H D I h;refine wpAny_Assign_stores (thn (he pins s τ G H _ I h) λv s1 w_=>w_.el λx G1 H1 e1 I1 r1 q1=> ?_) hs hw
 rw[h1];exact thn (hg pins s1 τ G1 H1 x v _ I1 r1 q1) λ_ s2 ⟨τ2,G2,H2,e2,q⟩=>⟨τ2,G2,H2,e1.trans e2,q⟩
theorem jJ6{x:Str}{pos':Pos}(hN:X.N.Nodup)(he:PE3 X e te)(hi:X.N[i]? =some x:=by rfl)(hx:Loc X.env.scope x:=by first | exact Or.inl rfl | exact Or.inr rfl)(hs:swapsWith e (some (.Name x pos')) pos.line X.env=pure false:=by rfl)(hf:X.fn x=true\/X.env.scope.names.lookup x=some .local:=by first | exact .inl rfl | exact .inr rfl):
  PS3 X (.Assign [.Name x pos'] e pos) (tAsg te (jJh i)):=by
 intro pins s τ G H D I h;refine wpAny_Assign_Name (thn (he pins s τ G H _ I h) λv s1 w_=>w_.el λy G1 H1 e1 i_ r_ q1=>i_.el λσ I1 hs1 hg1=>r_.el λa ra rv=> ?_) hs
 exact jYd I1 hN hi hx rv (λs2 I2=>⟨_,G1,H1,e1,⟨_,I2,hs1.set i ra,hg1⟩,q1⟩) hf
def tPar(i j:Nat)(ta:TA3):TS3:=λD τ G=>ta τ G λvs G1=>∃v w,vs=[v,w]/\D.nx ((τ.set i (some v)).set j (some w)) G1
theorem uYn{j:Nat}{x:Str}{px pt:Pos}{kt k2 pt2}(hc:X.calm=true)(hN:X.N.Nodup)(hij:i≠j)(ha:PA3 X [a,b] ta)(hi:X.N[i]? =some x:=by rfl)(hj:X.N[j]? =some y:=by rfl)(hx:X.env.scope.names.lookup x=some .local:=by rfl)(hy:X.env.scope.names.lookup y=some .local:=by rfl)(hw:swappedStores [.Tuple [.Name x px,.Name y py] kt pt] (.Tuple [a,b] k2 pt2) X.env=pure (some [x,y]):=by rfl)(hs:swapsWithSole [.Tuple [.Name x px,.Name y py] kt pt] (.Tuple [a,b] k2 pt2) pos.line X.env=pure false:=by rfl):
  PS3 X (.Assign [.Tuple [.Name x px,.Name y py] kt pt] (.Tuple [a,b] k2 pt2) pos) (tPar i j ta):=by
 intro pins s τ G H D I h;rw[exec_Assign_arm];refine lJb (lZi ?_);rw[hs];refine lJb (lJe ?_);rw[lJa (by decide)]
 refine lJb (Tuple_ (thn (ha _ pins s τ G H _ I h) λus s1 w_=>w_.el λvs G1 H1 e1 i_ r_ q1=>i_.el λσ I1 hs1 hg1=>r_.el λas ras rvs=> ?_))
 obtain⟨v,w,ev,q1⟩:=q1;subst ev;obtain⟨a1,a2,rfl,ra1,ra2⟩:=qJw ras;obtain⟨u1,u2,rfl,rv,rw'⟩:=rvs.two;refine lK3 ?_ (by show 2<=sizeLine;decide)
 have I2:Inv X pins σ H1 {s1 with heap:=s1.heap.push {cls:= .type "tuple",data:= .seq [u1,u2].toArray} }:=I1.kept (t':=s1.toks) λb o e=>lJm _ e
 rw[hw];refine lJb (lJe ?_);show wpAny (model X.prog X.w) X.A (do rule "assign.swapped-stores"; let items <-unpackItems (.ref s1.heap.objs.size) 2 none;assignInOrder [λv=>bindName X.env y v,λv=>bindName X.env x v] items.reverse;pure Flow.next) _ _ _
 refine lJb (lQc (lJb (unpackItems_tuple (items:= #[u1,u2]) (I1.ok.hd hc) (IsTup.new s1.heap _) λh' hx'=> ?_)))
 have I3:=I2.kept (h':=h') (t':=s1.toks) λb o e=>hx' b o (lJr (lJi e)) e
 show wpAny _ _ (assignInOrder [λv=>bindName X.env y v,λv=>bindName X.env x v] [u2,u1] >>= λ_=>pure Flow.next) _ _ _
 refine lJb (mJk (wpAny_bindName (jYd I3 hN hj (.inl hy) rw' (λs2 I4=> ?_) (.inr hy))))
 refine mJk (wpAny_bindName (jYd I4 hN hi (.inl hx) rv (λs3 I5=>assignInOrder_nil (lJe ?_)) (.inr hx)))
 rw[List.set_comm _ _ (Ne.symm hij)] at I5;exact⟨_,G1,H1,e1,⟨_,I5,(hs1.set i ra1).set j ra2,hg1⟩,q1⟩
noncomputable def kQa(c:TT3)(tb:TS3):TS3:=λD τ G=>∃W:Nat->St3->Gp->Prop,(∃m,W m τ G)/\∀m τ G,W m τ G->
 c τ G λb G1=>if b=true then ∃N:St3->Gp->Prop,(∀ τ' G',N τ' G'->∃m',m'<m/\W m' τ' G')/\tb {D with nx:=N,ct:=N,bk:=D.nx} τ G1 else D.nx τ G1
theorem qQn{tc:TT3}{tb:TS3}(hp:PassesOwn (model X.prog X.w) X.A X.env X.xe)(hc:PT3 X c tc)(hb:PSs3 X body tb):PS3 X (.While c body [] pos) (kQa tc tb):=by
 intro pins s τ G H D I h;obtain⟨W,⟨m0,w0⟩,turn⟩:=h;refine wpAny_While (codeAny_whileLoop (λn s'=>∃ τ' G' H',Ext H H'/\Inv3 X pins τ' G' H' s'/\W n τ' G') ?_ m0 ⟨τ,G,H,.refl H,I,w0⟩)
 rintro n s1 ⟨τ1,G1,H1,e1,I1,w1⟩;refine lV9 hp (thn (hc pins s1 τ1 G1 H1 _ I1 (turn n τ1 G1 w1)) λb s2 w_=>w_.el λG2 H2 e2 I2 q2=> ?_)
 cases b with
 | true=>
  obtain⟨N,hN,q2⟩:=q2;rw[lJc rfl];refine lV9 hp (thn (hb pins s2 τ1 G2 H2 _ I2 q2) λf s3 q3=> ?_)
  cases f with
  | next=>
   obtain⟨τ3,G3,H3,e3,I3,n3⟩:=q3;obtain⟨m',hm,w3⟩:=hN τ3 G3 n3;exact⟨m',hm,τ3,G3,H3,(e1.trans e2).trans e3,I3,w3⟩
  | cont=>
   obtain⟨τ3,G3,H3,e3,I3,n3⟩:=q3;obtain⟨m',hm,w3⟩:=hN τ3 G3 n3;exact⟨m',hm,τ3,G3,H3,(e1.trans e2).trans e3,I3,w3⟩
  | brk=>exact SP3.ext (f:= .next) (e1.trans e2) q3
  | ret v=>exact SP3.ext (f:= .ret v) (e1.trans e2) q3
 | false=>
  rw[lJa lJu];exact lZh ⟨τ1,G2,H2,e1.trans e2,I2,q2⟩
def uYd(K:PySem.W.Frag)(H0:Hp)(J:It)(xs:List T)(stay:Gp->Prop):Prop:=
 ∀i H G,Ext H0 H->GRel K H G->stay G->(i<xs.length->J.go i H)/\(xs.length<=i->J.stop i H)/\(i<xs.length->∀x H',J.yld i H x H'->Ext H H'/\GRel K H' G/\∃t,xs[i]? =some t/\Rep K H' t x)
abbrev TI3:=St3->Gp->(List T->(Gp->Prop)->Gp->Prop)->Prop
def PIE3(X:Cx)(pins:List (Addr×Obj))(τ:St3)(H:Hp)(tg:Expr)(R:List T->(Gp->Prop)->Gp->Prop)(itv:Value)(s2:Shared):Prop:=
 ∃(it:Addr)(fp:List Addr)(tn:Nat->Heap->Prop)(J:It)(xs:List T)(stay:Gp->Prop)(G':Gp)(H':Hp),itv= .ref it/\Ext H H'/\Inv3 X pins τ G' H' s2/\Turn X.prog X.w X.K tg J fp it tn/\tn 0 s2.heap/\(∀b∈fp,FpOk X pins H' b)/\
  uYd X.K H' J xs stay/\R xs stay G'
def PI3(X:Cx)(tg iter:Expr)(wi:TI3):Prop:=
 ∀(pins:List (Addr×Obj))(s:Shared)(τ:St3)(G:Gp)(H:Hp)(R:List T->(Gp->Prop)->Gp->Prop),Inv3 X pins τ G H s->wi τ G R->
  wpAny (model X.prog X.w) X.A (eval iter X.env) (λv s1=>wpAny (model X.prog X.w) X.A (pyIter v) (PIE3 X pins τ H tg R) X.xe s1) X.xe s
noncomputable def tFor(wi:TI3)(g:TG3)(tb:TS3):TS3:=λD τ G=>wi τ G λxs stay G1=>∃P:Nat->St3->Gp->Prop,P 0 τ G1/\(∀i τ G,i<=xs.length->P i τ G->stay G)/\
 (∀i x τ G,xs[i]? =some x->P i τ G->g x τ G λτ2 G2=>tb {D with nx:=P (i+1),ct:=P (i+1),bk:=D.nx} τ2 G2)/\∀ τ G,P xs.length τ G->D.nx τ G
variable {iter:Expr}{wi:TI3}
theorem jUy{tb:TS3}(hp:PassesOwn (model X.prog X.w) X.A X.env X.xe)(hc:X.calm=true)(hi:PI3 X tg iter wi)(hg:PG3 X tg g)(hb:PSs3 X body tb)(hs:∀x,foldedSetIterable iter X.env x=pure x:=by intro _;rfl):PS3 X (.For tg iter body [] pos) (tFor wi g tb):=by
 intro pins s τ G H D I h;refine wpAny_For (thn (hi pins s τ G H _ I h) λv s1 h1=>thn h1 λitv s2 h2=> ?_) hs
 obtain⟨it,fp,tn,J,xs,stay,G2,H2,e,eH,I2,T0,st2,f2,IT,P,p0,hstay,turn,fin⟩:=h2;subst e;have stat:∀{H':Hp},(∀b∈fp,H' b=none)->∀b∈fp,FpOk X pins H' b:=λhn b hb=>⟨hn b hb,(f2 b hb).2⟩
 refine codeAny_forLoop_any (λn s'=>∃i τ' G' H',n=xs.length-i/\i<=xs.length/\Ext H2 H'/\Inv3 X pins τ' G' H' s'/\tn i s'.heap/\(∀b∈fp,H' b=none)/\P i τ' G') ?_ xs.length ⟨0,τ,G2,H2,rfl,lJ6 _,.refl _,I2,st2,λb hb=>(f2 b hb).1,p0⟩
 rintro n s3 ⟨i,τ3,G3,H3,en,hi3,e3,⟨σ3,I3,hs3,hg3⟩,st3,fr3,p3⟩;obtain⟨go,stop,yl⟩:=IT i H3 G3 e3 hg3 (hstay i τ3 G3 hi3 p3)
 by_cases hlt:i<xs.length
 .refine lV9 hp (thn (T0.item X rfl rfl rfl hc i pins s3 σ3 H3 X.xe I3 (stat fr3) st3 (go hlt)) λr s4 ⟨u,hr,h4⟩=> ?_)
  subst hr;refine lV9 hp (thn h4 λ_ s5 ⟨x,H5,I5,r5,y5,st5,fr5⟩=> ?_)
  obtain⟨e5,g5,t,ht,rt⟩:=yl hlt x H5 y5;have I5':=I5.pinned (stat fr5) (T0.obj _ _ st5);refine lV9 hp (thn (hg _ s5 τ3 G3 H5 t u _ ⟨σ3,I5',hs3.mono e5,g5⟩ ⟨x,rt,r5⟩ (turn i t τ3 G3 ht p3)) λ_ s6 ⟨τ6,G6,H6,e6,I6,q6⟩=> ?_)
  refine lV9 hp (thn (hb _ s6 τ6 G6 H6 _ I6 q6) λf s7 q7=> ?_)
  have e36:Ext H2 H6:=(e3.trans e5).trans e6
  have again:∀{τ7:St3}{G7:Gp}{H7:Hp},Ext H6 H7->Inv3 X (pins++jUb fp s5.heap) τ7 G7 H7 s7->P (i+1) τ7 G7->
    ∃m,m<n/\∃i τ' G' H',m=xs.length-i/\i<=xs.length/\Ext H2 H'/\Inv3 X pins τ' G' H' s7/\tn i s7.heap/\(∀b∈fp,H' b=none)/\P i τ' G':=λ{τ7 G7 H7} e7 ⟨σ7,I7,hs7,hg7⟩ p7=>by
   refine⟨xs.length-(i+1),by omega,i+1,τ7,G7,H7,rfl,hlt,e36.trans e7,⟨σ7,I7.unpinned,hs7,hg7⟩,T0.keep _ _ _ st5 λb hb o e=>(I7.pin (b,o) (lJ7 _ (lJ7 _ (jQ5 hb e)))).1,λb hb=> ?_,p7⟩
   obtain⟨o,e,d⟩:=T0.obj _ _ st5 b hb;exact (I7.pin (b,o) (lJ7 _ (lJ7 _ (jQ5 hb e)))).2.1
  have un:∀{τ7:St3}{G7:Gp}{H7:Hp},Inv3 X (pins++jUb fp s5.heap) τ7 G7 H7 s7->Inv3 X pins τ7 G7 H7 s7:=λ⟨σ7,I7,a,b⟩=>⟨σ7,I7.unpinned,a,b⟩
  cases f with
  | next=>obtain⟨τ7,G7,H7,e7,I7,n7⟩:=q7;exact again e7 I7 n7
  | cont=>obtain⟨τ7,G7,H7,e7,I7,n7⟩:=q7;exact again e7 I7 n7
  | brk=>obtain⟨τ7,G7,H7,e7,I7,q7⟩:=q7;exact⟨τ7,G7,H7,(eH.trans e36).trans e7,un I7,q7⟩
  | ret v=>obtain⟨x7,τ7,G7,H7,e7,I7,r7,q7⟩:=q7;exact⟨x7,τ7,G7,H7,(eH.trans e36).trans e7,un I7,r7,q7⟩
 .have ei:i=xs.length:=by omega
  refine lV9 hp (thn (T0.done X rfl rfl rfl hc i pins s3 σ3 H3 X.xe I3 (stat fr3) st3 (stop (by omega))) λr s4 ⟨hr,I4⟩=> ?_)
  subst hr;subst ei;exact lZh ⟨τ3,G3,H3,eH.trans e3,⟨σ3,I4,hs3,hg3⟩,fin τ3 G3 p3⟩
def iSeq(tl:TE3):TI3:=λτ G R=>tl τ G λx G1=>∃xs,seqT G1 x=some xs/\R xs (λG'=>seqT G' x=some xs) G1
theorem jQx{l:Expr}{tl:TE3}(hl:PE3 X l tl):PI3 X tg l (iSeq tl):=by
 intro pins s τ G H R I h;refine thn (hl pins s τ G H _ I h) λv s1 w_=>w_.el λx G1 H1 e1 i_ r_ ⟨xs,hx,q⟩=>i_.el λσ I1 hs1 hg1=>r_.el λa ra rv=> ?_
 obtain⟨p,vs,e,hq,r⟩:=jUx hg1 ra hx;subst e;cases rv
 have fpk:∀b∈[s1.heap.objs.size],FpOk X pins H1 b:=λb hb=>by
  have e:b=s1.heap.objs.size:=by simpa using hb
  subst e;exact I1.fpOk (lJh _) (I1.hok.fresh (lJh _))
 rcases hq with hq | hq
 .obtain⟨its,rv,pl,hz⟩:=I1.list hq;refine lYg pl.isList ?_;refine⟨s1.heap.objs.size,[s1.heap.objs.size],_,_,xs,λG'=>seqT G' x=some xs,G1,H1,rfl,e1,⟨σ,I1.kept (t':=s1.toks) λb o e=>lJm _ e,hs1,hg1⟩,qK2 p _,⟨_,lKd _ rfl,rfl,rfl⟩,fpk,?_,q⟩
  intro i H2 G2 e2 g2 st;have ra2:=Rep.mono e2 _ ra
  have now:∃ws,SqL X.K H2 p ws/\Reps X.K H2 xs ws:=by
   cases x with
   | scr ys=>cases hx;obtain⟨p',ws,ep,h1,h2⟩:=(show ∃p' ws,V.ref p= .ref p'/\FrL X.K H2 p' ws/\Reps X.K H2 xs ws from ra2);cases ep;exact⟨ws,h1.sq,h2⟩
   | ref p'=>cases (show V.ref p= .ref p' from ra);obtain⟨ws,h1,h2⟩:=g2.lst (jXe st);exact⟨ws,.of h1,h2⟩
   | tup ys=>
    obtain⟨p',ws,ep,h1,h2⟩:=(show ∃p' ws,V.ref p= .ref p'/\H1 p'=some (.tup ws)/\Reps X.K H1 ys ws from ra)
    cases ep
    exfalso
    obtain⟨its',_,pl',_⟩:=I1.tuple (.of h1);obtain⟨o,n,ho,hc,_⟩:=pl;obtain⟨o',ho',hc',_⟩:=pl';rw[ho] at ho';cases ho';rw[hc] at hc';exact absurd hc' (by decide)
   | non=>cases hx
   | bl _=>cases hx
   | int _=>cases hx
   | str _=>cases hx
   | ty _=>cases hx
  obtain⟨ws,h1,h2⟩:=now;have hlen:=h2.length;refine⟨λhi=> ?_,λhi=>⟨ws,h1,by omega⟩,λ_ y H' ⟨eH,hy⟩=> ?_⟩
  .exact⟨ws,ws[i]'(by omega),h1,by simp[hlen▸hi]⟩
  .subst eH;obtain⟨t,ht,rt⟩:=h2.get' (hy ws h1);exact⟨.refl _,g2,t,ht,rt⟩
 .obtain⟨its,rv,pl,hz⟩:=I1.tuple hq;refine mJl (show s1.heap.IsTuple p its.toArray from pl) ?_
  refine⟨s1.heap.objs.size,[s1.heap.objs.size],_,_,xs,λG'=>seqT G' x=some xs,G1,H1,rfl,e1,⟨σ,I1.kept (t':=s1.toks) λb o e=>lJm _ e,hs1,hg1⟩,qJo p _,⟨_,lKd _ rfl,rfl,rfl⟩,fpk,?_,q⟩
  intro i H2 G2 e2 g2 st;have ra2:=Rep.mono e2 _ ra
  have now:∃ws,H2 p=some (.tup ws)/\Reps X.K H2 xs ws:=by
   cases x with
   | tup ys=>cases hx;obtain⟨p',ws,ep,h1,h2⟩:=(show ∃p' ws,V.ref p= .ref p'/\H2 p'=some (.tup ws)/\Reps X.K H2 xs ws from ra2);cases ep;exact⟨ws,h1,h2⟩
   | scr ys=>
    obtain⟨p',ws,ep,h1,h2⟩:=(show ∃p' ws,V.ref p= .ref p'/\FrL X.K H1 p' ws/\Reps X.K H1 ys ws from ra)
    cases ep
    exfalso
    obtain⟨its',_,pl',_⟩:=I1.list h1.sq;obtain⟨o,n,ho,hc,_⟩:=pl';obtain⟨o',ho',hc',_⟩:=pl;rw[ho] at ho';cases ho';rw[hc] at hc';exact absurd hc' (by decide)
   | ref p'=>
    cases (show V.ref p= .ref p' from ra)
    obtain⟨ws,h1,h2⟩:=hg1.lst (jXe hx)
    exfalso
    obtain⟨its',_,pl',_⟩:=I1.list (.of h1);obtain⟨o,n,ho,hc,_⟩:=pl';obtain⟨o',ho',hc',_⟩:=pl;rw[ho] at ho';cases ho';rw[hc] at hc';exact absurd hc' (by decide)
   | non=>cases hx
   | bl _=>cases hx
   | int _=>cases hx
   | str _=>cases hx
   | ty _=>cases hx
  obtain⟨ws,h1,h2⟩:=now;have hlen:=h2.length;refine⟨λhi=> ?_,λhi=>⟨ws,.of h1,by omega⟩,λ_ y H' ⟨eH,hy⟩=> ?_⟩
  .exact⟨ws,ws[i]'(by omega),.of h1,by simp[hlen▸hi]⟩
  .subst eH;obtain⟨t,ht,rt⟩:=h2.get' (hy ws (.of h1));exact⟨.refl _,g2,t,ht,rt⟩
noncomputable def rngT(lo:Int)(n:Nat):List T:=(List.range n).map λ(k:Nat)=>T.int (lo+k)
def jUi(ta:TA3):TI3:=λτ G R=>ta τ G λvs G1=>∃j:Int,vs=[.int j]/\ -(2^62)<=j/\j<2^62/\R (rngT 0 j.toNat) (λ_=>True) G1
def kV0(ta:TA3):TI3:=λτ G R=>ta τ G λvs G1=>∃i j:Int,vs=[.int i,.int j]/\(-(2^62)<=i/\i<2^62/\ -(2^62)<=j/\j<2^62)/\R (rngT i (j-i).toNat) (λ_=>True) G1
theorem kVz(lo:Int)(n:Nat):uYd K H (Itr lo n) (rngT lo n) λ_=>True:=by
 intro i H' G e g _;have hl:(rngT lo n).length=n:=by simp[rngT]
 refine⟨λh=>by rw[hl] at h;exact h,λh=>by rw[hl] at h;exact h,λhi x H2 ⟨eH,ex⟩=> ?_⟩
 rw[hl] at hi;subst eH;subst ex;exact⟨.refl _,g,.int (lo+i),by simp[rngT,hi],rfl⟩
theorem jQl(hg:Gl X "range")(hm:X.mg "range"=none)(ha:PA3 X [a] ta)(hs:starEach [a] X.env=[(false,eval a X.env)]:=by rfl):PI3 X tg (.Call (.Name "range" p) [a] [] pos) (jUi ta):=by
 intro pins s τ G H R I h;obtain⟨σ,I0,hs0,hg0⟩:=id I;refine Call_ (jU3 I0 hg hm boot_range (lVb (thn (ha pos pins s τ G H _ I h) λus s1 w_=>w_.el λxs G1 H1 e1 i_ r_ q1=>i_.el λσ I1 hs1 hg1=>r_.el λas ras rvs=> ?_) hs rfl))
 obtain⟨j,e,q1,q2,q⟩:=q1;subst e;obtain⟨v,rfl,rv⟩:=jUg ras;cases (show v= .int j from rv)
 obtain⟨u,rfl,ru⟩:=rvs.one;obtain⟨t,rfl⟩:=ru;refine call_range_1 (thn (kZd (tg:=tg) (R:=λJ H'=>J=Itr 0 j.toNat/\H'=H1) I1 (by omega) (by omega) q1 q2 ⟨by simp,rfl⟩) λitv s2 z=> ?_)
 obtain⟨it,fp,tn,J,H',ei,I2,T0,st,fk,eJ,eH⟩:=z;subst eJ;subst eH;exact⟨it,fp,tn,_,rngT 0 j.toNat,λ_=>True,G1,H',ei,e1,⟨σ,I2,hs1,hg1⟩,T0,st,fk,kVz 0 j.toNat,q⟩
theorem kUq(hg:Gl X "range")(hm:X.mg "range"=none)(ha:PA3 X [a,b] ta)(hs:starEach [a,b] X.env=[(false,eval a X.env),(false,eval b X.env)]:=by rfl)(hs2:starEach [b] X.env=[(false,eval b X.env)]:=by rfl):
  PI3 X tg (.Call (.Name "range" p) [a,b] [] pos) (kV0 ta):=by
 intro pins s τ G H R I h;obtain⟨σ,I0,hs0,hg0⟩:=id I;refine Call_ (jU3 I0 hg hm boot_range (lVb (thn (ha pos pins s τ G H _ I h) λus s1 w_=>w_.el λxs G1 H1 e1 i_ r_ q1=>i_.el λσ I1 hs1 hg1=>r_.el λas ras rvs=> ?_) (by rw[hs,hs2]) (by rw[hs2];rfl)))
 obtain⟨i,j,e,⟨q1,q2,q3,q4⟩,q⟩:=q1;subst e;obtain⟨v,w,rfl,rv,rw'⟩:=qJw ras;cases (show v= .int i from rv);cases (show w= .int j from rw')
 obtain⟨u,u',rfl,ru,ru'⟩:=rvs.two;obtain⟨t,rfl⟩:=ru;obtain⟨t',rfl⟩:=ru';refine call_range_2 (thn (kZd (tg:=tg) (R:=λJ H'=>J=Itr i (j-i).toNat/\H'=H1) I1 q1 q2 q3 q4 ⟨rfl,rfl⟩) λitv s2 z=> ?_)
 obtain⟨it,fp,tn,J,H',ei,I2,T0,st,fk,eJ,eH⟩:=z;subst eJ;subst eH;exact⟨it,fp,tn,_,rngT i (j-i).toNat,λ_=>True,G1,H',ei,e1,⟨σ,I2,hs1,hg1⟩,T0,st,fk,kVz i (j-i).toNat,q⟩
abbrev Sp3:=List T->Gp->VK3->Prop
def dn(K:PySem.W.Frag)(n:Nat)(sp:Sp3):Sp:=λvs H Q _=>vs.length=n/\∃xs G,Reps K H xs vs/\GRel K H G/\sp xs G λt G'=>∀v H',Ext H H'->GRel K H' G'->Rep K H' t v->Q v H'
def Fn3(P:Program)(w:World)(K:PySem.W.Frag)(mg:Str->Option Value)(base:Heap)(k:Nat)(f:Addr)(fd:FuncData)(ps:List Str)(sp:Sp3):Prop:=FnOk P w K mg base CX0 k f fd ps (dn K ps.length sp)
def jJk(sp:Sp3)(t:TA3):TE3:=λτ G Q=>t τ G λxs G1=>sp xs G1 Q
def Mono(sp:Sp3):Prop:=∀xs G Q Q',(∀t G',Q t G'->Q' t G')->sp xs G Q->sp xs G Q'
noncomputable def jVo(N:List Str)(xs:List T):St3:=xs.map some++List.replicate (N.length-xs.length) none
variable {N:List Str}
theorem qQd(r:Reps K H xs vs):SRel K H (start N vs) (jVo N xs):=by
 have hl:=r.length;refine⟨by simp[L2.start,jVo,hl],λi t h=> ?_⟩
 unfold jVo at h;unfold L2.start
 by_cases hi:i<xs.length
 .rw[lK6 (by simpa using hi),lJ0] at h
  cases e:xs[i]? with
  | none=>rw[e] at h;cases h
  | some x=>
   rw[e] at h;cases h;obtain⟨v,hv,rv⟩:=r.get e;exact⟨v,by rw[lK6 (by simp;omega),lJ0,hv];rfl,rv⟩
 .rw[lQb (by simpa using hi),List.getElem?_replicate] at h
  split at h<;>cases h
variable {P:Program}{w:World}
theorem fn3{mg:Str->Option Value}{base:Heap}{x qual:Str}{f:Addr}{fd:FuncData}{ps:List Str}{k:Nat}{sp:Sp3}(F:Fun K x qual st f fd)(S:FnScope N ps (jKa st))(hbody:∀(cdv:Value)(A:Around)(outer:List Env)(s:Shared)(H:Hp)(E:XK),Room k (A.deeper (envOfC qual (jKa st) s.heap.objs.size f cdv))->
   ∃t,PSs3 (cxOf CX0 P w K mg base N qual (jKa st) f cdv A outer s H E).nox (jUq st) t/\∀xs G Q,sp xs G Q->t {nx:=λ_ G'=>Q .non G',rt:=Q} (jVo N xs) G):Fn3 P w K mg base (k+1) f fd ps sp:=by
 refine Fun.ok (sp:=dn K ps.length sp) F S (λvs H Q E h=>h.1) λcdv A outer s H vs Q E hr hsp=> ?_
 obtain⟨t,ht,hq⟩:=hbody cdv A outer s H E hr;obtain⟨hl,xs,G,rs,hg,hsp⟩:=hsp;refine⟨λD σ H1=>D.nx=(λ_ H'=>Q .non H')/\D.rt=Q/\σ=L2.start N vs/\H1=H,?_,rfl,rfl,rfl,rfl⟩
 rintro pins s1 σ1 H1 D I ⟨e1,e2,e3,e4⟩;subst e3;subst e4;have I3:Inv3 (cxOf CX0 P w K mg base N qual (jKa st) f cdv A outer s H1 E).nox pins (jVo N xs) G H1 s1:=⟨_,I,qQd rs,hg⟩;refine thn (ht pins s1 _ G H1 _ I3 (hq xs G _ hsp)) λfl s2 z=> ?_
 cases fl with
 | next=>obtain⟨τ',G',H',e',⟨σ',I',a,b⟩,q⟩:=z;exact⟨σ',H',I',by rw[e1];exact q .non H' e' b rfl⟩
 | brk=>obtain⟨τ',G',H',e',_,q⟩:=z;exact q.elim
 | cont=>obtain⟨τ',G',H',e',_,q⟩:=z;exact q.elim
 | ret u=>obtain⟨x',τ',G',H',e',⟨σ',I',a,b⟩,⟨v,rv,ru⟩,q⟩:=z;exact⟨v,σ',H',I',ru,by rw[e2];exact q v H' e' b rv⟩
mutual
noncomputable def dep:T->Nat
 | .tup xs=>deps xs+1
 | _=>0
noncomputable def deps:List T->Nat
 | []=>0
 | x::xs=>max (dep x) (deps xs)
end
mutual
noncomputable def tree:T->Bool
 | .tup xs=>jQr xs
 | .ref _=>false
 | .scr _=>false
 | .ty _=>false
 | .non=>true
 | .bl _=>true
 | .int _=>true
 | .str _=>true
noncomputable def jQr:List T->Bool
 | []=>true
 | x::xs=>tree x&&jQr xs
end
mutual
noncomputable def eqT:T->T->Bool
 | .non,.non=>true
 | .bl a,.bl b=>a == b
 | .bl a,.int b=>(if a then 1 else 0) == b
 | .int a,.bl b=>a == (if b then 1 else 0)
 | .int a,.int b=>a == b
 | .str a,.str b=>a == b
 | .tup xs,.tup ys=>eqTs xs ys
 | _,_=>false
noncomputable def eqTs:List T->List T->Bool
 | [],[]=>true
 | x::xs,y::ys=>eqT x y&&eqTs xs ys
 | [],_::_=>false
 | _::_,[]=>false
end
theorem uZk{a b:Int}:eqT (.int a) (.int b)=(a == b):=rfl
theorem uZl{a b:Bool}:eqT (.bl a) (.bl b)=(a == b):=rfl
theorem uZj{a b:Str}:eqT (.str a) (.str b)=(a == b):=rfl
mutual
theorem qZi{K:PySem.W.Frag}{H:Hp}:∀(x y:T){a:V},tree x=true->tree y=true->Rep K H x a->Rep K H y a->eqT x y=true
 | .non,y,a,hx,hy,r,q=>by
  cases (show a= .non from r)
  cases y<;>first | rfl | (exact absurd (show false=true from hy) lJu) | (cases (show V.non=_ from q)) | (obtain⟨_,_,e,_⟩:=(show ∃c vs,V.non= .ref c/\_ from q);cases e)
 | .bl b,y,a,hx,hy,r,q=>by
  cases (show a= .bl b from r)
  cases y with
  | bl c=>cases (show V.bl b=V.bl c from q);simp[uZl]
  | tup ys=>obtain⟨_,_,e,_⟩:=(show ∃c vs,V.bl b= .ref c/\_ from q);cases e
  | non=>cases (show V.bl b= .non from q)
  | int c=>cases (show V.bl b= .int c from q)
  | str c=>cases (show V.bl b= .str c from q)
  | _=>exact absurd (show false=true from hy) lJu
 | .int b,y,a,hx,hy,r,q=>by
  cases (show a= .int b from r)
  cases y with
  | int c=>cases (show V.int b=V.int c from q);simp[uZk]
  | tup ys=>obtain⟨_,_,e,_⟩:=(show ∃c vs,V.int b= .ref c/\_ from q);cases e
  | non=>cases (show V.int b= .non from q)
  | bl c=>cases (show V.int b= .bl c from q)
  | str c=>cases (show V.int b= .str c from q)
  | _=>exact absurd (show false=true from hy) lJu
 | .str b,y,a,hx,hy,r,q=>by
  cases (show a= .str b from r)
  cases y with
  | str c=>cases (show V.str b=V.str c from q);simp[uZj]
  | tup ys=>obtain⟨_,_,e,_⟩:=(show ∃c vs,V.str b= .ref c/\_ from q);cases e
  | non=>cases (show V.str b= .non from q)
  | bl c=>cases (show V.str b= .bl c from q)
  | int c=>cases (show V.str b= .int c from q)
  | _=>exact absurd (show false=true from hy) lJu
 | .tup xs,y,a,hx,hy,r,q=>by
  obtain⟨p,vs,e,h1,h2⟩:=(show ∃p vs,a= .ref p/\H p=some (.tup vs)/\Reps K H xs vs from r)
  subst e;cases y with
  | tup ys=>
   obtain⟨p',vs',e',h1',h2'⟩:=(show ∃p' vs',V.ref p= .ref p'/\H p'=some (.tup vs')/\Reps K H ys vs' from q)
   cases e';rw[h1] at h1';cases h1';exact kV5 xs ys (show jQr xs=true from hx) (show jQr ys=true from hy) h2 h2'
  | non=>cases (show V.ref p= .non from q)
  | bl c=>cases (show V.ref p= .bl c from q)
  | int c=>cases (show V.ref p= .int c from q)
  | str c=>cases (show V.ref p= .str c from q)
  | _=>exact absurd (show false=true from hy) lJu
 | .ref _,_,_,hx,_,_,_=>absurd (show false=true from hx) lJu
 | .scr _,_,_,hx,_,_,_=>absurd (show false=true from hx) lJu
 | .ty _,_,_,hx,_,_,_=>absurd (show false=true from hx) lJu
theorem kV5{K:PySem.W.Frag}{H:Hp}:∀(xs ys:List T){vs:List V},jQr xs=true->jQr ys=true->Reps K H xs vs->Reps K H ys vs->eqTs xs ys=true
 | [],ys,_,_,_,r,q=>by
  cases r;cases ys with
  | nil=>rfl
  | cons y ys=>obtain⟨_,_,e,_⟩:=q;cases e
 | x::xs,ys,_,hx,hy,⟨v,ws,e,r1,r2⟩,q=>by
  subst e;cases ys with
  | nil=>cases q
  | cons y ys=>
   obtain⟨v',ws',e',q1,q2⟩:=q;cases e';have hx':tree x=true/\jQr xs=true:=by simpa[jQr] using hx
   have hy':tree y=true/\jQr ys=true:=by simpa[jQr] using hy
   show (eqT x y&&eqTs xs ys)=true
   rw[qZi x y hx'.1 hy'.1 r1 q1,kV5 xs ys hx'.2 hy'.2 r2 q2];rfl
end
variable {op':CmpOp}
section
def rSub:R3:=rI0 λi j=> .int (i-j)
def rMod:R3:=rI (λ_ j=>0<j) λi j=> .int (i%j)
def uKe:R3:=rI CDiv λi j=> .int (i / j)
def rPow:R3:=rI CPow λi j=> .int (i^j.toNat)
def rLt:R3:=rI0 λi j=> .bl (decide (i<j))
def rGt:R3:=rI0 λi j=> .bl (decide (j<i))
def rGe:R3:=rI0 λi j=> .bl (decide (j<=i))
def rIsN:R3:=λx y G Q=>y= .non/\Q (.bl (qKh x)) G
def uYr:R3:=λx y G Q=>y= .non/\Q (.bl (!qKh x)) G
def qYk:R3:=λx y G Q=>∃xs ys,x= .tup xs/\y= .tup ys/\xs≠[]/\xs.length+ys.length<=sizeLine/\Q (.tup (xs++ys)) G
theorem uV0:Op3 X (binaryOp .Add) qYk:=
 Op3.of uKk λH G x y a b Q hg ra rb ⟨xs,ys,ex,ey,hx,hz,q⟩=>by
  subst ex;subst ey;obtain⟨p,vs,e1,h1,h2⟩:=(show ∃p vs,a= .ref p/\H p=some (.tup vs)/\Reps X.K H xs vs from ra)
  obtain⟨p',ws,e2,h3,h4⟩:=(show ∃p vs,b= .ref p/\H p=some (.tup vs)/\Reps X.K H ys vs from rb)
  subst e1;subst e2;have l1:=h2.length;have l2:=h4.length;refine⟨p,p',vs,ws,rfl,rfl,.of h1,.of h3,λz=>hx ?_,by omega,λz=> ?_,λz l hl=> ?_⟩
  .rw[z] at l1;exact lQh.mp l1
  .rw[z] at l2;have:ys=[]:=lQh.mp l2;subst this;exact⟨.tup (xs++[]),G,.refl H,hg,by rw[lQd];exact ra,q⟩
  .exact⟨.tup (xs++ys),G,.upd (.none hl),hg.tupNew hl,Rep.tupNew (h2.append h4) hl,q⟩
def uYt:R3:=rI0 λi j=> .int (i+j)
def uVh:R3:=λx y G Q=>uYt x y G Q\/rCat x y G Q\/qYk x y G Q
theorem o_addA:Op3 X (binaryOp .Add) uVh:=o_add.or (o_cat.or uV0)
def uYs:R3:=rI CMul λi j=> .int (i*j)
def uVe:R3:=λx y G Q=>uYs x y G Q\/rRep x y G Q
theorem o_mulA:Op3 X (binaryOp .Mult) uVe:=o_mul.or uY2
def rNeg:T->Gp->VK3->Prop:=λx G Q=>∃i,x= .int i/\Q (.int (-i)) G
theorem uUn:Un3 X (unaryOp .USub) rNeg:=
 Un3.of uUm λH G x a Q hg ra ⟨i,e,q⟩=>by
  subst e;cases (show a= .int i from ra)
  exact⟨i,rfl,.int (-i),G,.refl H,hg,rfl,q⟩
theorem jJr(b:Expr)(h:behindInMarks op b=false:=by first | exact uV2 _ | with_unfolding_all rfl):behindInMarks op b=false:=h
variable {ta:TE3}
theorem kYq(ho:Op3 X (compareOp op) r)(ho':Op3 X (compareOp op') r')(ha:PE3 X a ta)(hb:PE3 X b tb)(hc:PE3 X c tc)(hm:lastMarks [op,op'] [b,c]=false:=by with_unfolding_all rfl):PE3 X (.Compare a [op,op'] [b,c] pos) (jVv r r' ta tb tc):=by
 intro pins s τ G H Q I h
 refine Compare_chain (thn (ha pins s τ G H _ I h) λv s1 w_=>w_.el λx G1 H1 e1 I1 r1 q1=>chain_link (thn (hb pins s1 τ G1 H1 _ I1 q1) λu s2 ⟨y,G2,H2,e2,I2,r2,q2⟩=>
  thn (ho pins s2 τ G2 H2 x y v u _ I2 (r1.mono e2) r2 q2) λd s3 w_=>w_.el λz G3 H3 e3 I3 r_ ⟨k,e,q3⟩=>r_.el λv' rv' ru'=> ?_)) hm
 subst e;cases (show v'= .bl k from rv');cases ru'
 refine lVi ?_;cases k with
 | false=>exact ite_ff ⟨.bl false,G3,H3,(e1.trans e2).trans e3,I3,⟨.bl false,rfl,rfl⟩,q3⟩
 | true=>exact ite_tt (chain_last (thn (hc pins s3 τ G3 H3 _ I3 q3) λw' s4 w_=>w_.el λz' G4 H4 e4 I4 r4 q4=>thn (ho' pins s4 τ G4 H4 y z' u w' Q I4 (r2.mono (e3.trans e4)) r4 q4) λ_ _ z=>z.ext (((e1.trans e2).trans e3).trans e4)))
theorem qK5(ho:Op3 X (compareOp op) r)(ho':Op3 X (compareOp op') r')(ha:PE3 X a ta)(hb:PE3 X b tb)(hc:PE3 X c tc)(hm:lastMarks [op,op'] [b,c]=false:=by with_unfolding_all rfl):PT3 X (.Compare a [op,op'] [b,c] pos) (jJ2 (jVv r r' ta tb tc)):=by
 intro pins s τ G H Q I h
 refine isTrue_chain (thn (ha pins s τ G H _ I h) λv s1 w_=>w_.el λx G1 H1 e1 I1 r1 q1=>test_link (thn (hb pins s1 τ G1 H1 _ I1 q1) λu s2 ⟨y,G2,H2,e2,I2,r2,q2⟩=>
  thn (ho pins s2 τ G2 H2 x y v u _ I2 (r1.mono e2) r2 q2) λd s3 w_=>w_.el λz G3 H3 e3 I3 r_ ⟨k,e,q3⟩=>r_.el λv' rv' ru'=> ?_)) hm
 subst e;cases (show v'= .bl k from rv');cases ru'
 refine lVi ?_;cases k with
 | false=>
  obtain⟨k',e',q'⟩:=q3;cases e';exact ite_ff ⟨G3,H3,(e1.trans e2).trans e3,I3,q'⟩
 | true=>
  refine ite_tt (test_last (thn (hc pins s3 τ G3 H3 _ I3 q3) λw' s4 w_=>w_.el λz' G4 H4 e4 I4 r4 q4=>thn (ho' pins s4 τ G4 H4 y z' u w' _ I4 (r2.mono (e3.trans e4)) r4 q4) λd' s5 w_=>w_.el λz2 G5 H5 e5 I5 r_ ⟨k2,e2',q5⟩=>r_.el λv2 rv2 ru2=> ?_))
  subst e2';cases (show v2= .bl k2 from rv2);cases ru2
  exact lVi ⟨G5,H5,(((e1.trans e2).trans e3).trans e4).trans e5,I5,q5⟩
mutual
noncomputable def td:T->PyData
 | .tup xs=> .tuple (tds xs)
 | .int i=> .int i
 | .bl b=> .bool b
 | .str x=> .str x
 | .non=> .none
 | .ref _=> .none
 | .scr _=> .none
 | .ty _=> .none
noncomputable def tds:List T->List PyData
 | []=>[]
 | x::xs=>td x::tds xs
end
def eqOk(x:T):Bool:=tree x&&(td x).canLay0&&decide ((td x).depth<=50)
def kUx(xs:List T):Bool:=jQr xs&&PyData.canLayAll0 (tds xs)&&decide ((PyData.list (tds xs)).depth<=50)
noncomputable def eqG(G:Gp)(x y:T):Option Bool:=match x,y with
 | .ref p,.ref q=>match G p,G q with
  | some (.lst xs),some (.lst ys)=>if kUx xs=true/\kUx ys=true then some (eqTs xs ys) else none
  | _,_=>none
 | _,_=>if eqOk x=true/\eqOk y=true then some (eqT x y) else none
def rEqA:R3:=λx y G Q=>∃b,eqG G x y=some b/\Q (.bl b) G
def rNeA:R3:=λx y G Q=>∃b,eqG G x y=some b/\Q (.bl (!b)) G
noncomputable def truT(G:Gp):T->Option Bool
 | .non=>some false
 | .bl b=>some b
 | .int i=>some (i != 0)
 | .tup xs=>some (!xs.isEmpty)
 | .ref p=>match G p with
  | some (.lst xs)=>some (!xs.isEmpty)
  | some (.dck kvs)=>some (!kvs.isEmpty)
  | _=>none
 | _=>none
def rTru:T->Gp->(Bool->Gp->Prop)->Prop:=λx G Q=>∃b,truT G x=some b/\Q b G
theorem jZl(r:Reps K H xs vs):xs.isEmpty=vs.isEmpty:=by
 have:=r.length;cases xs<;>cases vs<;>simp_all
theorem uJ4:Tru3 X rTru:=
 Tru3.of uUp λH G x a Q hg ra ⟨b,hb,q⟩=>by
  refine⟨b,?_,rfl,q⟩;cases x with
  | non=>cases (show a= .non from ra);cases hb;rfl
  | bl k=>cases (show a= .bl k from ra);cases hb;rfl
  | int k=>cases (show a= .int k from ra);cases hb;rfl
  | tup xs=>
   obtain⟨p,vs,e1,h1,h2⟩:=(show ∃p vs,a= .ref p/\H p=some (.tup vs)/\Reps X.K H xs vs from ra)
   subst e1;cases hb;exact .inr (.inl ⟨vs,.of h1,by rw[jZl h2]⟩)
  | ref p=>
   cases (show a= .ref p from ra)
   cases hG:G p with
   | none=>simp only[truT,hG] at hb;cases hb
   | some o=>
    simp only[truT,hG] at hb;cases o with
    | lst xs=>cases hb;obtain⟨vs,h1,h2⟩:=hg.lst hG;exact .inl ⟨vs,.of h1,by rw[jZl h2]⟩
    | dct _=>cases hb
    | fdc _=>cases hb
    | ins _ _=>cases hb
    | dck kvs=>
     cases hb;obtain⟨ws,h1,h2⟩:=hg p _ hG;refine .inr (.inr ⟨ws,h1,?_⟩);cases h2<;>rfl
  | str _=>cases hb
  | scr _=>cases hb
  | ty _=>cases hb
end
variable {h':Heap}{fp:List Addr}
theorem qK1{t':Nat}(I:Inv X pins σ H s)(k:∀b o,b∉fp->s.heap.get? b=some o->h'.get? b=some o)(hf:∀b∈fp,FpOk X pins H b):Inv X pins σ H {s with heap:=h',toks:=t'}:=by
 have nit:∀b u,H b=some u->b∉fp:=λb u e z=>by rw[(hf b z).1] at e;cases e
 refine I.step (g':=s.gens) (d':=s.drawn) (ch:=fp) (λb hb=>⟨(hf b hb).2.2.2.1,(hf b hb).2.1,(hf b hb).2.2.2.2.1,(hf b hb).2.2.2.2.2⟩) (λb o _ _ hc e _=>k b o hc e) (λb o _ _ hc e _=>⟨o.slots,k b o hc e⟩) (λ_ _ _ _ n=>n)
  (λb o hc e=>⟨o,k b o hc e⟩) (λ_ _ e=>e) (λ_ _ _ e=>e) (λb ps e=>⟨#[],by rw[e];simp⟩) (λm hm=> ?_) (λb u e=> ?_) I.bare
 .obtain⟨o,es,ep,ho,r⟩:=hm;exact⟨o,es,ep,k _ o (λz=>(hf _ z).2.1 rfl) ho,r⟩
 .refine (I.hok b u e).stay (λc v hc q=>k c v ?_ q) (λ_ q=>q) λ_ _ q=>q
  rcases hc with z | z
  .rw[z];exact nit b u e
  .exact nit c _ z
theorem kVb{t':Nat}{p:Addr}{us:List Value}(I:Inv X pins σ H s)(k:∀b o,b∉fp->s.heap.get? b=some o->h'.get? b=some o)(hf:∀b∈fp,FpOk X pins H b)(hp:s.heap.objs.size<=p)(ht:TupD h' p us.toArray)(r:Vals vs us)(hz:vs.length<=sizeLine):Inv X pins σ (upd H p (.tup vs)) {s with heap:=h',toks:=t'}:=by
 have hn:H p=none:=I.hok.fresh hp;have nit:∀b u,H b=some u->b∉fp:=λb u e z=>by rw[(hf b z).1] at e;cases e
 have old:∀b o,s.heap.get? b=some o->b≠p:=λb o e=>lJr (lKc (lJi e) hp)
 have tr:∀b u,H b=some u->b≠p:=λb u e z=>by rw[z,hn] at e;cases e
 refine I.step (g':=s.gens) (d':=s.drawn) (ch:=fp) (λb hb=>⟨(hf b hb).2.2.2.1,(hf b hb).2.1,(hf b hb).2.2.2.2.1,(hf b hb).2.2.2.2.2⟩) (λb o _ _ hc e _=>k b o hc e) (λb o _ _ hc e _=>⟨o.slots,k b o hc e⟩) (λb o _ e n=>by rw[jKf (old b o e)];exact n)
  (λb o hc e=>⟨o,k b o hc e⟩) (λb _ e=>by rw[jKf (tr b _ e)];exact e) (λb _ _ e=>by rw[jKf (tr b _ e)];exact e) (λb ps e=>⟨#[],by rw[jKf (tr b _ e),e];simp⟩) (λm hm=> ?_) (λb u e=> ?_) I.bare
 .obtain⟨o,es,ep,ho,r⟩:=hm;exact⟨o,es,ep,k _ o (λz=>(hf _ z).2.1 rfl) ho,r⟩
 .by_cases hb:b=p
  .subst hb;rw[jK9] at e;cases e;exact⟨hz,us,r,ht⟩
  .rw[jKf hb] at e;refine (I.hok b u e).stay (λc v hc q=>k c v ?_ q) (λc q=>by rw[jKf (tr c _ q)];exact q) λc _ q=>by rw[jKf (tr c _ q)];exact q
   rcases hc with z | z
   .rw[z];exact nit b u e
   .exact nit c _ z
noncomputable def Ite(K:PySem.W.Frag)(a:Addr):It:=
 ⟨λi H=>∃xs x,SqL K H a xs/\xs[i]? =some x,λi H x H'=>∃p y,H p=none/\x= .ref p/\(∀xs,SqL K H a xs->xs[i]? =some y)/\H'=upd H p (.tup [.int i,y]),λi H=>∃xs,SqL K H a xs/\xs.length<=i⟩
variable {elts:List Expr}
theorem qK3{k:Nat}(a e it:Addr)(hei:e≠it):
  Turn P w K (.Tuple elts k pos) (Ite K a) [e,it] e (λi h=>(∃old,IsEnum h e it i old)/\h.IsListIter it a i) where
 mem:=by simp
 obj:=λi h ⟨⟨old,h1⟩,h2⟩ b hb=>by
  have hb':b=e\/b=it:=by simpa using hb
  rcases hb' with z | z
  .subst z;exact⟨_,h1,λv z=>nomatch (show Data.fields _=Data.cell v from z)⟩
  .subst z;obtain⟨o,e2,c,d⟩:=h2;exact⟨o,e2,λv z=>by rw[d] at z;cases z⟩
 keep:=λi h h' ⟨⟨old,h1⟩,h2⟩ kp=>⟨⟨old,kp e (by simp) _ h1⟩,h2.at λo q=>kp it (by simp) o q⟩
 item:=by
  rintro X hP hw hK hc i pins s σ H E I hf ⟨⟨old,he⟩,hit⟩ hg;subst hP hw hK;obtain⟨xs,x,hq,hx⟩:=hg;obtain⟨its,rv,p,hz⟩:=I.list hq;obtain⟨u,hu,ru⟩:=rv.get hx;refine wpAny_pyNext_enum_item he hit p.isList (x:=u) (by simpa using hu) hei λh1 ho hit1 hT hsz hk=> ?_
  refine⟨_,rfl,mJy ho λh2 he2 hs2=> ?_⟩
  have hel:e<s.heap.objs.size:=lJi he
  have hp2:∀b o,b∉[e,it]->s.heap.get? b=some o->h2.get? b=some o:=λb o hb q=>by
   have hb1:b≠e:=λz=>hb (by simp[z])
   have hb2:b≠it:=λz=>hb (by simp[z])
   exact (hs2.2 b hb1).trans (hk b o hb1 hb2 q)
  have hT2:h2.get? s.heap.objs.size=some {cls:= .type "tuple",data:= .seq #[.int i s.toks,u]}:=(hs2.2 _ (lQl hel)).trans hT;have I2:=kVb (t':=s.toks+1) (h':=h2) (p:=s.heap.objs.size) (vs:=[.int i,x]) (us:=[.int i s.toks,u]) I hp2 hf (lJh _) ⟨_,hT2,rfl,_,rfl,rfl⟩ (.cons ⟨_,rfl⟩ (.cons ru .nil)) (by show 2<=sizeLine;decide)
  refine⟨.ref s.heap.objs.size,_,I2,rfl,⟨_,x,I.hok.fresh (lJh _),rfl,λys hy=>by rw[I.list_inj hy hq];exact hx,rfl⟩,⟨⟨u,by simpa using he2⟩,hit1.at λo q=>(hs2.2 it hei.symm).trans q⟩,λb hb=> ?_⟩
  have hbs:∃o,s.heap.get? b=some o:=by
   have hb':b=e\/b=it:=by simpa using hb
   rcases hb' with z | z
   .subst z;exact⟨_,he⟩
   .subst z;obtain⟨o,q,_⟩:=hit;exact⟨o,q⟩
  obtain⟨o,q⟩:=hbs;rw[jKf (lJr (lJi q))];exact (hf b hb).1
 done:=by
  rintro X hP hw hK hc i pins s σ H E I hf ⟨⟨old,he⟩,hit⟩ hg;subst hP hw hK;obtain⟨xs,hq,hx⟩:=hg;obtain⟨its,rv,p,hz⟩:=I.list hq;have hl:=rv.length;exact wpAny_pyNext_enum_end (I.ok.hd hc) he hit p.isList (by simp;omega) λh1 hx1=>⟨rfl,qK1 (t':=s.toks) I (λb o hb q=>hx1 b o (λz=>hb (by simp[z])) q) hf⟩
 self:=λ_ _ _ _ _ ⟨⟨old,he⟩,_⟩ h=>lZj he h
noncomputable def numT(xs:List T):List T:=(List.range xs.length).map λ(i:Nat)=>T.tup [.int i,xs.getD i .non]
theorem jYl(h:xs[i]? =some x):(numT xs)[i]? =some (.tup [.int i,x]):=by
 have hi:i<xs.length:=by
  rcases lQk i xs.length with z | z
  .exact z
  .rw[lKj z] at h;cases h
 have hx:xs[i]=x:=(lJk.mp h).2;simp[numT,hi,List.getD,hx]
theorem jJ4:(numT xs).length=xs.length:=by simp[numT]
noncomputable def jU2(G:Gp):T->Option (List T)
 | .ref p=>asL (G p)
 | .scr xs=>some xs
 | _=>none
theorem jV8{a:V}(hg:GRel K H G)(r:Rep K H x a)(h:jU2 G x=some xs):∃p vs,a= .ref p/\SqL K H p vs/\Reps K H xs vs:=by
 cases x with
 | scr ys=>cases h;obtain⟨p,vs,e,h1,h2⟩:=(show ∃p vs,a= .ref p/\FrL K H p vs/\Reps K H xs vs from r);exact⟨p,vs,e,h1.sq,h2⟩
 | ref p=>
  obtain⟨vs,h1,h2⟩:=hg.lst (jXe h);exact⟨p,vs,r,.of h1,h2⟩
 | tup _=>cases h
 | non=>cases h
 | bl _=>cases h
 | int _=>cases h
 | str _=>cases h
 | ty _=>cases h
def kK1(ta:TA3):TI3:=λτ G R=>ta τ G λvs G1=>∃x xs,vs=[x]/\jU2 G1 x=some xs/\R (numT xs) (λG'=>jU2 G' x=some xs) G1
theorem kZw{k:Nat}{tpos:Pos}(hg:Gl X "enumerate")(hm:X.mg "enumerate"=none)(hv:bootBuiltins "enumerate"=some (.type "enumerate"))(ha:PA3 X [a] ta)(hs:starEach [a] X.env=[(false,eval a X.env)]:=by rfl):
  PI3 X (.Tuple elts k tpos) (.Call (.Name "enumerate" p) [a] [] pos) (kK1 ta):=by
 intro pins s τ G H R I h;obtain⟨σ0,I0,hs0,hg0⟩:=id I;refine Call_ (jU3 I0 hg hm hv (lVb (thn (ha pos pins s τ G H _ I h) λus s1 w_=>w_.el λxs' G1 H1 e1 i_ r_ q1=>i_.el λσ I1 hs1 hg1=>r_.el λas ras rvs=> ?_) hs rfl))
 obtain⟨x,xs,e,hx,q⟩:=q1;subst e;obtain⟨v,rfl,rv⟩:=jUg ras;obtain⟨u,rfl,ru⟩:=rvs.one;obtain⟨pa,vs,rfl,hq,r⟩:=jV8 hg1 rv hx;cases ru;obtain⟨its,rvv,pl,hz⟩:=I1.list hq;refine call_enumerate_list pl.isList λh1 he hit hsz hk=> ?_
 have I2:Inv X pins σ H1 {s1 with heap:=h1}:=I1.kept (t':=s1.toks) hk
 refine lZj (Q:=PIE3 X pins τ H (.Tuple elts k tpos) R) he ?_
 have fr:∀b∈[s1.heap.objs.size+1,s1.heap.objs.size],FpOk X pins H1 b:=λb hb=>by
  have hb':b=s1.heap.objs.size+1\/b=s1.heap.objs.size:=by simpa using hb
  have hle:s1.heap.objs.size<=b:=by omega
  exact I1.fpOk hle (I1.hok.fresh hle)
 refine⟨s1.heap.objs.size+1,[s1.heap.objs.size+1,s1.heap.objs.size],_,_,numT xs,λG'=>jU2 G' x=some xs,G1,H1,rfl,e1,⟨σ,I2,hs1,hg1⟩,qK3 pa _ _ (Nat.succ_ne_self _),⟨⟨.none,he⟩,hit⟩,fr,?_,q⟩
 intro i H2 G2 e2 g2 st;obtain⟨pb,ws,eb,h1,h2⟩:=jV8 g2 (Rep.mono e2 _ rv) st;cases eb;have hlen:=h2.length;refine⟨λhi=> ?_,λhi=>⟨ws,h1,by rw[jJ4] at hi;omega⟩,λhi y H' ⟨pp,z,hn,ey,hy,eH⟩=> ?_⟩
 .rw[jJ4] at hi;exact⟨ws,ws[i]'(by omega),h1,by simp[hlen▸hi]⟩
 .subst ey;subst eH;obtain⟨t,ht,rt⟩:=h2.get' (hy ws h1);exact⟨.upd (.none hn),g2.tupNew hn,_,jYl ht,Rep.tupNew ⟨_,_,rfl,rfl,_,_,rfl,rt,rfl⟩ hn⟩
noncomputable def clGo(env:Env):List (Str×NameKind)->List (Str×Addr)->Option (List (Str×Addr))
 | [],cs=>some cs
 | (n,k)::r,cs=>if (k == .free)=true then (match env.cells.lookup n with | some c=>clGo env r ((n,c)::cs) | none=>none) else clGo env r cs
variable {scope:Scope}{env:Env}
theorem jZh{cl:List (Str×Addr)}(h:clGo env scope.names []=some cl):closureFor scope env=pure cl:=by
 unfold closureFor
 have go:∀(names:List (Str×NameKind))(cs:List (Str×Addr)),clGo env names cs=some cl->
   (forIn names cs λ(x:Str×NameKind)(r:List (Str×Addr))=>(match x with | (nm,kd)=>if (kd == .free)=true then cellOf env nm >>= λa=>pure (ForInStep.yield ((nm,a)::r)) else pure (ForInStep.yield r):Sem (ForInStep (List (Str×Addr)))))=pure cl:=by
  intro names
  induction names with
  | nil=>intro cs e;cases e;rfl
  | cons x r ih=>
   obtain⟨n,k⟩:=x;intro cs e;unfold clGo at e;rw[List.forIn_cons]
   by_cases hk:(k == NameKind.free)=true
   .rw[lJc hk] at e;cases hc:env.cells.lookup n with
    | none=>rw[hc] at e;cases e
    | some c=>
     rw[hc] at e;have hco:cellOf env n=pure c:=by unfold cellOf;rw[hc]
     simp only[hk,lKm,hco,pure_bind];exact ih _ e
   .rw[lJa hk] at e;simp only[hk,pure_bind,lKi,lKs];exact ih _ e
 have:=go scope.names [] h
 simpa using this
theorem jXc{env:Env}{cl:List (Str×Addr)}:∀{names:List (Str×NameKind)}{cs:List (Str×Addr)},clGo env names cs=some cl->(∀n c,cs.lookup n=some c->env.cells.lookup n=some c)->∀n c,cl.lookup n=some c->env.cells.lookup n=some c
 | [],cs,e,h=>by cases e;exact h
 | (n,k)::r,cs,e,h=>by
  unfold clGo at e
  by_cases hk:(k == NameKind.free)=true
  .rw[lJc hk] at e;cases hc:env.cells.lookup n with
   | none=>rw[hc] at e;cases e
   | some c=>
    rw[hc] at e;refine jXc e λm d q=> ?_
    rw[lKt] at q
    by_cases hm:(m == n)=true
    .rw[hm] at q;cases q;rw[eq_of_beq hm];exact hc
    .simp only[hm] at q;exact h m d q
  .rw[lJa hk] at e;exact jXc e h
theorem kKi{env:Env}{cl:List (Str×Addr)}{m:Str}:∀{names:List (Str×NameKind)}{cs:List (Str×Addr)},clGo env names cs=some cl->(∃c,cs.lookup m=some c)->∃c,cl.lookup m=some c
 | [],cs,e,h=>by cases e;exact h
 | (n,k)::r,cs,e,h=>by
  unfold clGo at e
  by_cases hk:(k == NameKind.free)=true
  .rw[lJc hk] at e;cases hc:env.cells.lookup n with
   | none=>rw[hc] at e;cases e
   | some c=>
    rw[hc] at e;refine kKi e ?_;rw[lKt]
    by_cases hm:(m == n)=true
    .rw[hm];exact⟨_,rfl⟩
    .simp only[hm];exact h
  .rw[lJa hk] at e;exact kKi e h
theorem jXd{env:Env}{cl:List (Str×Addr)}{m:Str}:∀{names:List (Str×NameKind)}{cs:List (Str×Addr)},clGo env names cs=some cl->names.lookup m=some .free->∃c,cl.lookup m=some c
 | [],cs,e,h=>by simp at h
 | (n,k)::r,cs,e,h=>by
  unfold clGo at e;rw[lKt] at h
  by_cases hm:(m == n)=true
  .rw[hm] at h;cases h;rw[lJc (show (NameKind.free == NameKind.free)=true from rfl)] at e
   cases hc:env.cells.lookup n with
   | none=>rw[hc] at e;cases e
   | some c=>
    rw[hc] at e;refine kKi e ?_;rw[lKt,hm];exact⟨_,rfl⟩
  .simp only[hm] at h
   by_cases hk:(k == NameKind.free)=true
   .rw[lJc hk] at e;cases hc:env.cells.lookup n with
    | none=>rw[hc] at e;cases e
    | some c=>rw[hc] at e;exact jXd e h
   .rw[lJa hk] at e;exact jXd e h
theorem jUk{env:Env}{x:Str}:∀{names:List (Str×NameKind)},(∀y∈names,y.2≠ .cell)->
  ((names.map λ(n,k)=>if (k == NameKind.free&&env.scope.kind == .function&&env.kindOf n == some .cell) then (n,NameKind.cell) else (n,k)).lookup x=some .cell\/
    (names.map λ(n,k)=>if (k == NameKind.free&&env.scope.kind == .function&&env.kindOf n == some .cell) then (n,NameKind.cell) else (n,k)).lookup x=some .free)->names.lookup x=some .free
 | [],_,h=>by simp at h
 | (n,k)::r,hc,h=>by
  have ih:= @jUk env x r (λy hy=>hc y (lJw _ hy))
  have hk:=hc (n,k) lJv;rw[lJo] at h;rw[lKt]
  by_cases hx:(x == n)=true
  .rw[hx]
   by_cases hf:(k == NameKind.free&&env.scope.kind == .function&&env.kindOf n == some .cell)=true
   .have:(k == NameKind.free)=true:=by
     rw[lKv,lKv] at hf;exact hf.1.1
    rw[eq_of_beq this]
   .simp only[hf,lKi,lKs,lKt,hx] at h
    rcases h with h | h
    .cases h;exact absurd rfl hk
    .cases h;rfl
  .simp only[hx];refine ih ?_
   by_cases hf:(k == NameKind.free&&env.scope.kind == .function&&env.kindOf n == some .cell)=true
   .simpa only[hf,lKm,lKt,hx] using h
   .simpa only[hf,lKi,lKs,lKt,hx] using h
theorem jQb{env:Env}{x:Str}:∀{names:List (Str×NameKind)},
  (names.map λ(n,k)=>if (k == NameKind.free&&env.scope.kind == .function&&env.kindOf n == some .cell) then (n,NameKind.cell) else (n,k)).lookup x=some .local->names.lookup x=some .local
 | [],h=>by simp at h
 | (n,k)::r,h=>by
  have ih:= @jQb env x r;rw[lJo] at h;rw[lKt]
  by_cases hx:(x == n)=true
  .rw[hx]
   by_cases hf:(k == NameKind.free&&env.scope.kind == .function&&env.kindOf n == some .cell)=true
   .simp only[hf,lKm,lKt,hx] at h;cases h
   .simp only[hf,lKi,lKs,lKt,hx] at h;exact h
  .simp only[hx];refine ih ?_
   by_cases hf:(k == NameKind.free&&env.scope.kind == .function&&env.kindOf n == some .cell)=true
   .simpa only[hf,lKm,lKt,hx] using h
   .simpa only[hf,lKi,lKs,lKt,hx] using h
noncomputable def jU6(X:Cx)(scope:Scope)(cl:List (Str×Addr))(C:Addr)(fp:List Addr)(s:Shared)(H:Hp):Cx:=
 {X with env:=compEnvC scope cl C X.env,s₀:=s,H₀:=H,outer:=X.stack,stack:=X.stack,ex:=fp,fn:=λ_=>false,pn:=[],xe:=λ_ _=>False}
structure CmpOk (X:Cx) (scope:Scope) (cl:List (Str×Addr)) (mask:List Bool):Prop where
 cl:clGo X.env scope.names []=some cl
 kind:scope.kind= .function
 nocell:(scope.names.all λy=>y.2 != .cell)=true
 names:(scope.names.all λy=>y.2 != .local||scope.names.lookup y.1 == some .local)=true
 vis:(scope.names.all λy=>y.2 != .free||X.env.kindOf y.1 == some .cell||X.env.kindOf y.1 == some .free)=true
 len:mask.length=X.N.length
 mask:((X.N.zip mask).all λp=>p.2||scope.names.lookup p.1 != some .local)=true
noncomputable def msk{α:Type}(mask:List Bool)(τ:List (Option α)):List (Option α):=List.zipWith (λb o=>if b=true then none else o) mask τ
variable {mask:List Bool}
theorem kJ7{α:Type}{τ:List (Option α)}{t:α}(h:(msk mask τ)[i]? =some (some t)):mask[i]? =some false/\τ[i]? =some (some t):=by
 unfold msk at h;rw[lXt] at h;cases hm:mask[i]? with
 | none=>exact absurd (hm▸h) (by simp)
 | some b=>
  cases ht:τ[i]? with
  | none=>rw[hm,ht] at h;cases h
  | some o=>
   rw[hm,ht] at h;cases b with
   | true=>simp at h
   | false=>simp at h;exact⟨rfl,by rw[h]⟩
theorem jVl{α:Type}{τ:List (Option α)}(h:mask.length=τ.length):(msk mask τ).length=τ.length:=by
 unfold msk;rw[List.length_zipWith,h,Nat.min_self]
theorem kUm(h:SRel K H σ τ)(hl:mask.length=τ.length):SRel K H (msk mask σ) (msk mask τ):=by
 refine⟨by rw[jVl hl,jVl (hl.trans h.1.symm),h.1],λi t q=> ?_⟩
 obtain⟨h1,h2⟩:=kJ7 q;obtain⟨v,h3,h4⟩:=h.2 i t h2;refine⟨v,?_,h4⟩;unfold msk;rw[lXt,h1,h3];simp
section
variable {cl:List (Str×Addr)}
theorem CmpOk.local(c:CmpOk X scope cl mask){x:Str}(h1:X.N[i]? =some x)(h2:mask[i]? =some false):scope.names.lookup x≠some .local:=by
 have h:=c.mask;rw[lKo] at h;have hz:(X.N.zip mask)[i]? =some (x,false):=by rw[lYq];exact⟨h1,h2⟩
 have:=h _ (lJs hz)
 simpa using this
theorem CmpOk.free(c:CmpOk X scope cl mask){x:Str}(h:scope.names.lookup x=some .free):X.env.kindOf x=some .cell\/X.env.kindOf x=some .free:=by
 have hv:=c.vis;rw[lKo] at hv;have:=hv (x,.free) (lK5 h)
 simpa using this
theorem CmpOk.nc(c:CmpOk X scope cl mask):∀y∈scope.names,y.2≠ .cell:=by
 have hv:=c.nocell;rw[lKo] at hv;intro y hy
 simpa using hv y hy
theorem CmpOk.nm(c:CmpOk X scope cl mask):∀y∈scope.names,y.2= .local->scope.names.lookup y.1=some .local:=by
 have hv:=c.names;rw[lKo] at hv;intro y hy e;have:=hv y hy;rw[e] at this
 simpa using this
theorem qV6(c:CmpOk X scope cl mask){h4:Heap}{tk:Nat}(I:Inv X pins σ H s)(hf:∀b∈fp,FpOk X pins H b)(ho:∀b∈fp,∃o,s.heap.get? b=some o)(hns:h4.Ns s.heap.objs.size λ_=>none)(hk:∀b o,s.heap.get? b=some o->h4.get? b=some o):
  Inv (jU6 X scope cl s.heap.objs.size fp s H) [] (msk mask σ) H {s with heap:=h4,toks:=tk}:=by
 have sub:=jXc c.cl (by simp)
 have ok:(jU6 X scope cl s.heap.objs.size fp s H).Ok:=by
  refine⟨I.ok.mod,c.kind,I.ok.glob,I.ok.blt,lJh _,λx y d h1 h2=>I.ok.inj x y d (sub _ _ h1) (sub _ _ h2),λx hx=>jXd c.cl (jUk (env:=X.env) c.nc hx),λx d hx=>absurd (show false=true from hx) lJu,I.ok.hd,I.ok.gd,I.ok.frames,.inl rfl,
   λb hb=> ?_,I.bs,lKx I.ok.bsz I.sz,λb o e hb=> ?_,λb hb hz=> ?_,I.stack,I.stkFree⟩
  .obtain⟨o,e⟩:=ho b hb;exact⟨lJr (lJi e),λx d hd=>(hf b hb).2.2.2.2.1 x d (sub _ _ hd)⟩
  .rcases (hf b hb).2.2.2.1 with z | z
   .exact I.ok.noex b o e z
   .exact absurd (lKc (lJi e) I.ok.bsz) (Nat.not_lt.mpr z)
  .rcases lJp.mp (I.stkSub b hz) with z | z
   .exact (hf b hb).2.1 z
   .exact (hf b hb).2.2.1 z
 refine⟨ok,rfl,I.bare,Un.kept hk,⟨_,hns,λi x v h1 h2 h3=> ?_⟩,λx d hd=> ?_,I.hok.fresh (lJh _),λx d hd=>I.freeC x d (sub _ _ hd),λp hp=>absurd (show p∈([]:List (Addr×Obj)) from hp) (by simp),I.hok.kept hk,?_⟩
 .obtain⟨m1,m2⟩:=kJ7 h2;have nl:=c.local h1 m1
  have fr:scope.names.lookup x=some .free:=by
   rcases h3 with z | z | z
   .exact absurd (jQb (env:=X.env) z) nl
   .exact jUk (env:=X.env) c.nc (.inl z)
   .exact jUk (env:=X.env) c.nc (.inr z)
  have hkk:=c.free fr;obtain⟨m,hn,hl⟩:=I.loc;have vis:Vis X.env.scope x:=by rcases hkk with z | z;exact .inr (.inl z);exact .inr (.inr z)
  obtain⟨u,ru,lk⟩:=hl i x v h1 m2 vis;refine⟨u,ru,?_⟩
  rcases lk with ⟨z,_⟩ | ⟨_,d,hd,cd⟩
  .exfalso;rcases hkk with q | q<;>(rw[z] at q;cases q)
  .obtain⟨d',hd'⟩:=jXd c.cl fr;have:d'=d:=by have:=sub _ _ hd';rw[hd] at this;exact (lJ3 this).symm
   subst this;refine .inr ⟨?_,d',hd',cd.keeps hk⟩
   rcases h3 with z | z | z
   .exact absurd (jQb (env:=X.env) z) nl
   .exact .inl z
   .exact .inr z
 .obtain⟨v,hv⟩:=I.cell x d (sub _ _ hd);exact⟨v,hv.keeps hk⟩
 .exact (jVl (c.len.trans I.len.symm)).trans I.len
theorem uQ3{σ':L2.St}{s':Shared}{pl:List (Addr×Obj)}{C:Addr}(I:Inv X pins σ H s)(hf:∀b∈fp,FpOk X pins H b)(hC:s.heap.objs.size<=C)(J:Inv (jU6 X scope cl C fp s H) pl σ' H' s')(hb:Heap.SameBut C s'.heap h'):Inv X pins σ H' {s' with heap:=h'}:=by
 have ne:∀b o,s.heap.get? b=some o->b≠C:=λb o e=>lJr (lKc (lJi e) hC)
 have u:=J.base;have hfree:H' C=none:=J.free
 have u':Un (frs X.stack) fp H H' s.heap h':=⟨λb o e n hb' hx=>(hb.2 b (ne b o e)).trans (u.keep b o e n hb' hx),λb o e n hb' hx=>let ⟨sl,z⟩:=u.slot b o e n hb' hx;⟨sl,(hb.2 b (ne b o e)).trans z⟩,
  u.free,λb o e hx=>let ⟨o',z⟩:=u.there b o e hx;⟨o',(hb.2 b (ne b o e)).trans z⟩,u.tups,u.frzs,u.tbls⟩
 have hok:HOk X.prog X.w H' h':=λb ob e=>(J.hok b ob e).stay (λc w' hc q=>(hb.2 c (by
  rintro rfl
  rcases hc with rfl | hc
  .rw[hfree] at e;cases e
  .rw[hfree] at hc;cases hc)).trans q) (λ_ q=>q) λ_ _ q=>q
 exact I.call' (s':={s' with heap:=h'}) J.os u' hok J.bare λb hb=>⟨(hf b hb).2.2.2.1,(hf b hb).2.1,(hf b hb).2.2.2.2.1,(hf b hb).2.2.2.2.2⟩
end
noncomputable abbrev qV5(ifs:List Expr)(env:Env):Sem Bool:=forIn ifs true λc b=>if b=true then isTrue c env (eval c env) >>= λd=>pure (ForInStep.yield d) else pure (ForInStep.yield b)
noncomputable def qZ4(M:Model)(A:Around)(elt tg:Expr)(ifs:List Expr)(it acc:Value)(env:Env)(stop more:Shared->Prop):Option Value->Shared->Prop
 | none=>stop
 | some v=>λz=>wpAny M A (letOwnedTupleGo tg it v) (λ_ z1=>wpAny M A (assign tg env v) (λ_ z2=>wpAny M A (qV5 ifs env) (λok z3=>if ok=true then wpAny M A (eval elt env) (λx z4=>wpAny M A (call (.builtin "list.append") [acc,x]) (λ_=>more) (λ_ _=>False) z4) (λ_ _=>False) z3 else more z3) (λ_ _=>False) z2) (λ_ _=>False) z1) (λ_ _=>False) z
variable {elt:Expr}{ifs:List Expr}
theorem kXa{A:Around}{R:Result->Shared->Prop}{it acc:Value}(I:Nat->Shared->Prop)(turn:∀k z,I k z->wpAny (model P w) A (pyNext it) (qZ4 (model P w) A elt tg ifs it acc env (R (.ok .next)) λz'=>∃m,m<k/\I m z') (λ_ _=>False) z)(n:Nat)(h:I n s):codeAny (model P w) A (.compLoop (.ListComp elt [⟨tg,iter,ifs,0⟩] scope pos) 0 it acc env) R s:=by
 refine codeAny_loop rfl I (λk z hz=>(show wpAny _ A ((compTurn (.ListComp elt [⟨tg,iter,ifs,0⟩] scope pos) 0 it acc env).onRaise _) _ _ z from wpAny_noted ?_)) n h
 rw[compTurn_list];refine lJb (lZi (lJb (lQv (turn k z hz) (λr z1 h1=> ?_) λ_ _ e=>e.elim)))
 cases r with
 | none=>exact lJe h1
 | some v=>
  refine lJb (lQv h1 (λ_ z2 h2=>lJb (lQv h2 (λ_ z3 h3=>lJb (lQv h3 (λok z4 h4=> ?_) λ_ _ e=>e.elim)) λ_ _ e=>e.elim)) λ_ _ e=>e.elim)
  by_cases hok:ok=true
  .subst hok;exact lJb (lJb (lQv h4 (λx z5 h5=>lJb (lQv h5 (λ_ z6 h6=>lJe (lJe ⟨rfl,h6⟩)) λ_ _ e=>e.elim)) λ_ _ e=>e.elim))
  .obtain rfl:ok=false:=by simpa using hok
   exact lJe ⟨rfl,h4⟩
def PIf3(X:Cx)(ifs:List Expr)(t:TT3):Prop:=∀(pins:List (Addr×Obj))(s:Shared)(τ:St3)(G:Gp)(H:Hp)(Q:Bool->Gp->Prop),Inv3 X pins τ G H s->t τ G Q->
 wpAny (model X.prog X.w) X.A (forIn ifs true λc r=>if r=true then do let ok <-isTrue c X.env (eval c X.env);pure (ForInStep.yield ok) else pure (ForInStep.yield r)) (TP3 X pins τ H Q) X.xe s
def jK6:TT3:=λ_ G Q=>Q true G
theorem jKp:PIf3 X [] jK6:=λ_ _ _ G H _ I q=>wpAny_tests_nil ⟨G,H,.refl H,I,q⟩
theorem qVe{t:TT3}(h:PT3 X c t):PIf3 X [c] t:=λpins s τ G H Q I q=>wpAny_tests_one (h pins s τ G H Q I q)
def kXs(mask:List Bool)(g:TG3):Prop:=∀v τ G Q,g v τ G Q->g v τ G λτ2 G2=>Q τ2 G2/\τ2.length=τ.length/\∀i:Nat,mask[i]? ≠some true->τ2[i]? =τ[i]?
def qJl(mask:List Bool)(g:TGs3):Prop:=∀v τ G Q,g v τ G Q->g v τ G λτ2 G2=>Q τ2 G2/\τ2.length=τ.length/\∀i:Nat,mask[i]? ≠some true->τ2[i]? =τ[i]?
theorem jJy(h:mask[i]? =some true:=by rfl):kXs mask (jJh i):=λv τ G Q q=>
 ⟨q,lYo ..,λj hj=>lXb (by rintro rfl;exact hj h)⟩
theorem kZy:qJl mask gNil:=λv τ G Q ⟨e,q⟩=>⟨e,q,rfl,λ_ _=>rfl⟩
theorem jV2{t:TG3}{u:TGs3}(h1:kXs mask t)(mono:∀v τ G Q Q',(∀a b,Q a b->Q' a b)->t v τ G Q->t v τ G Q')(h2:qJl mask u)(mono2:∀v τ G Q Q',(∀a b,Q a b->Q' a b)->u v τ G Q->u v τ G Q'):qJl mask (jKi t u):=λvs τ G Q ⟨v,r,e,q⟩=>by
 refine⟨v,r,e,mono _ _ _ _ _ (λτ2 G2 ⟨z,l1,k1⟩=> ?_) (h1 _ _ _ _ q)⟩
 exact mono2 _ _ _ _ _ (λτ3 G3 ⟨z3,l3,k3⟩=>⟨z3,l3.trans l1,λi hi=>(k3 i hi).trans (k1 i hi)⟩) (h2 _ _ _ _ z)
theorem jQy:∀v τ G (Q Q':St3->Gp->Prop),(∀a b,Q a b->Q' a b)->jJh i v τ G Q->jJh i v τ G Q':=λ_ _ _ _ _ h q=>h _ _ q
theorem jZm:∀v τ G (Q Q':St3->Gp->Prop),(∀a b,Q a b->Q' a b)->gNil v τ G Q->gNil v τ G Q':=λ_ _ _ _ _ h q=>⟨q.1,h _ _ q.2⟩
theorem kUt{t:TG3}{u:TGs3}(m1:∀v τ G (Q Q':St3->Gp->Prop),(∀a b,Q a b->Q' a b)->t v τ G Q->t v τ G Q')(m2:∀v τ G (Q Q':St3->Gp->Prop),(∀a b,Q a b->Q' a b)->u v τ G Q->u v τ G Q'):
  ∀v τ G (Q Q':St3->Gp->Prop),(∀a b,Q a b->Q' a b)->jKi t u v τ G Q->jKi t u v τ G Q':=λ_ _ _ _ _ h ⟨v,r,e,q⟩=>⟨v,r,e,m1 _ _ _ _ _ (λ_ _ z=>m2 _ _ _ _ _ h z) q⟩
theorem kZx{u:TGs3}(h:qJl mask u):kXs mask (gTup n u):=λv τ G Q ⟨xs,e,l,q⟩=>⟨xs,e,l,h _ _ _ _ q⟩
theorem kZk{τ2:St3}(hl:mask.length=τ.length)(l:τ2.length=(msk mask τ).length)(h:∀i:Nat,mask[i]? ≠some true->τ2[i]? =(msk mask τ)[i]?):msk mask τ2=msk mask τ:=by
 have ll:=jVl hl;apply lQ5;intro i;unfold msk at h ⊢;rw[lXt,lXt];cases hm:mask[i]? with
 | none=>rfl
 | some b=>
  cases b with
  | true=>
   have h1:i<mask.length:=by
    rcases lQk i mask.length with z | z
    .exact z
    .rw[lKj z] at hm;cases hm
   have h2:i<τ2.length:=by omega
   have h3:i<τ.length:=by omega
   rw[lJl h2,lJl h3];simp
  | false=>
   have:=h i (by rw[hm];simp)
   rw[lXt,hm] at this;rw[this];cases τ[i]? with
   | none=>rfl
   | some o=>simp
def kQx(mask:List Bool)(g:TG3)(tif:TT3)(te:TE3)(τ:St3)(xs:List T)(stay:Gp->Prop)(G:Gp)(Q:VK3):Prop:=
 ∀D,G D=none->∃P:Nat->List T->Gp->Prop,P 0 [] (gup G D (.lst []))/\(∀i acc G,i<=xs.length->P i acc G->stay G/\G D=some (.lst acc))/\
  (∀i x acc G,xs[i]? =some x->P i acc G->g x (msk mask τ) G λτ2 G2=>tif τ2 G2 λb G3=>if b=true then te τ2 G3 λy G4=>G4 D=some (.lst acc)/\acc.length<sizeLine/\P (i+1) (acc++[y]) (gup G4 D (.lst (acc++[y]))) else P (i+1) acc G3)/\
  ∀acc G,P xs.length acc G->Q (.ref D) G
def jKt(mask:List Bool)(wi:TI3)(g:TG3)(tif:TT3)(te:TE3):TE3:=λτ G Q=>wi τ G λxs stay G1=>kQx mask g tif te τ xs stay G1 Q
section
variable {cl:List (Str×Addr)}{tif:TT3}
theorem kQm(hc:X.calm=true)(ok:CmpOk X scope cl mask)(hgk:kXs mask g)(hg:∀C fp s H,PG3 (jU6 X scope cl C fp s H) tg g)(hif:∀C fp s H,PIf3 (jU6 X scope cl C fp s H) ifs tif)(he:∀C fp s H,PE3 (jU6 X scope cl C fp s H) elt te){itv:Value}{s2:Shared}{E:Value->Shared->Prop}{RR:Value->Addr->Result->Shared->Prop}(h2:PIE3 X pins τ H tg (λxs stay G=>kQx mask g tif te τ xs stay G Q) itv s2)(hRR:∀D C s' m,s'.heap.Ns C m->(∃G1 H1,Ext H H1/\H1 C=none/\Q (.ref D) G1/\∀h',Heap.SameBut C s'.heap h'->Inv3 X pins τ G1 H1 {s' with heap:=h'})->(∃oC,s'.heap.get? C=some oC/\C≠X.env.locals/\C∉X.fs/\∀v,oC.data≠ .cell v)->(∀x c,X.env.cells.lookup x=some c->c≠C)->(∀p∈X.pn++pins,p.1≠C)->X.s₀.heap.objs.size<=C->RR (.ref D) C (.ok .next) s'):
  wpAny (model X.prog X.w) X.A (newList []) (λacc s₃=>wpAny (model X.prog X.w) X.A (newFunctionEnv scope X.env.globals cl [] X.env.qual none .none (some X.env)) (λcenv s₄=>
   codeAny (model X.prog X.w) X.A (.compStart (.ListComp elt [⟨tg,iter,ifs,0⟩] scope pos) 0 itv acc {cenv with scope:=relabel scope X.env}) (RR acc cenv.locals) s₄) E s₃) E s2:=by
 obtain⟨it,fp,tn,J,xs,stay,G2,H2,e,eH,⟨σ,I2,hs2,hg2⟩,T0,st2,f2,IT,hq⟩:=h2;subst e;refine lK3 (wpAny_newFunctionEnv ok.nc (by intro y hy;simp at hy) (λh4 hns hsb=> ?_) ok.kind)
 dsimp only at hns hsb ⊢
 have hD:H2 s2.heap.objs.size=none:=I2.hok.fresh (lJh _)
 generalize hs3:({s2 with heap:=s2.heap.push {cls:= .type "list",dict:=none,data:= .seq ([]:List Value).toArray} }:Shared)=s3
 have eh3:s2.heap.push {cls:= .type "list",dict:=none,data:= .seq ([]:List Value).toArray}=s3.heap:=by rw[<-hs3]
 have I3:Inv X pins σ (upd H2 s2.heap.objs.size (.lst [])) s3:=by
  rw[<-hs3];exact I2.laid (t':=s2.toks) (λb u e=>lJm _ e) (lJh _) ⟨lJ6 _,[],0,.nil,lKd _ rfl⟩
 rw[eh3] at hns hsb ⊢
 generalize hDd:s2.heap.objs.size=D at *
 have e3:Ext H2 (upd H2 D (.lst [])):= .upd (.none hD);have hg3:GRel X.K (upd H2 D (.lst [])) (gup G2 D (.lst [])):=hg2.lstNew (show Reps X.K H2 [] [] from rfl) (.none hD)
 have obj2:∀b∈fp,∃o,s2.heap.get? b=some o:=λb hb=>let ⟨o,e,_⟩:=T0.obj 0 _ st2 b hb;⟨o,e⟩
 have fD:∀b∈fp,b≠D:=λb hb=>by obtain⟨o,e⟩:=obj2 b hb;rw[<-hDd];exact lJr (lJi e)
 have f3:∀b∈fp,FpOk X pins (upd H2 D (.lst [])) b:=λb hb=>⟨by rw[jKf (fD b hb)];exact (f2 b hb).1,(f2 b hb).2⟩
 have k3:∀b o,s2.heap.get? b=some o->s3.heap.get? b=some o:=λb o e=>by rw[<-eh3];exact lJm _ e
 have obj3:∀b∈fp,∃o,s3.heap.get? b=some o:=λb hb=>let ⟨o,e⟩:=obj2 b hb;⟨o,k3 b o e⟩
 have k4:∀b o,s3.heap.get? b=some o->h4.get? b=some o:=λb o e=>hsb.extBut b o (lJr (lJi e)) (lJm _ e)
 have Ic:Inv (jU6 X scope cl s3.heap.objs.size fp s3 (upd H2 D (.lst []))) [] (msk mask σ) (upd H2 D (.lst [])) {s3 with heap:=h4,toks:=s3.toks+([]:List (Str×Value)).length}:=qV6 ok I3 f3 obj3 hns k4
 have st4:tn 0 h4:=T0.keep _ _ _ st2 λb _ o e=>k4 b o (k3 b o e)
 have hl3:mask.length=τ.length:=ok.len.trans (I3.len.symm.trans hs2.1);obtain⟨P,p0,hst,turn,fin⟩:=hq D (hg2.fresh hD)
 have fpc:∀{H':Hp}{pl:List (Addr×Obj)},(∀b∈fp,H' b=none)->(∀p∈pl,p.1∉fp)->∀b∈fp,FpOk (jU6 X scope cl s3.heap.objs.size fp s3 (upd H2 D (.lst []))) pl H' b:=λ{H' pl} hn hp b hb=>by
  obtain⟨o,e⟩:=obj3 b hb;refine⟨hn b hb,lJr (lJi e),?_,.inl hb,λx d hd=>(f3 b hb).2.2.2.2.1 x d (jXc ok.cl (by simp) _ _ hd),λp hpp z=> ?_⟩
  .intro z
   rcases lJp.mp (I3.stkSub b z) with q | q
   .exact (f3 b hb).2.1 q
   .exact (f3 b hb).2.2.1 q
  .have hpp':p∈pl:=by simpa[jU6] using hpp
   exact hp p hpp' (z▸hb)
 have loop:∀s4:Shared,s4={s3 with heap:=h4,toks:=s3.toks+([]:List (Str×Value)).length}->
   codeAny (model X.prog X.w) X.A (.compLoop (.ListComp elt [⟨tg,iter,ifs,0⟩] scope pos) 0 (.ref it) (.ref D) (compEnvC scope cl s3.heap.objs.size X.env)) (RR (.ref D) s3.heap.objs.size) s4:=by
  rintro s4 rfl
  refine kXa (λn s'=>∃i acc G' H',n=xs.length-i/\i<=xs.length/\Ext H2 H'/\Inv3 (jU6 X scope cl s3.heap.objs.size fp s3 (upd H2 D (.lst []))) [] (msk mask τ) G' H' s'/\tn i s'.heap/\(∀b∈fp,H' b=none)/\P i acc G') ?_ xs.length
   ⟨0,[],_,_,rfl,lJ6 _,e3,⟨_,Ic,kUm (hs2.mono e3) hl3,hg3⟩,st4,λb hb=>(f3 b hb).1,p0⟩
  rintro n s5 ⟨i,acc,G5,H5,en,hi5,e5,⟨σ5,I5,hs5,hg5⟩,st5,fr5,p5⟩;obtain⟨hstay,hacc⟩:=hst i acc G5 hi5 p5;obtain⟨go,stop,yl⟩:=IT i H5 G5 e5 hg5 hstay
  by_cases hlt:i<xs.length
  .refine thn (T0.item (jU6 X scope cl s3.heap.objs.size fp s3 (upd H2 D (.lst []))) rfl rfl rfl hc i [] s5 σ5 H5 (λ_ _=>False) I5 (fpc fr5 (by simp)) st5 (go hlt)) λr s6 ⟨u,hr,h6⟩=> ?_
   subst hr;refine thn h6 λ_ s7 ⟨x,H7,I7,r7,y7,st7,fr7⟩=> ?_
   obtain⟨e7,g7,t,ht,rt⟩:=yl hlt x H7 y7;have I7':=I7.pinned (fpc fr7 (by simp)) (T0.obj _ _ st7)
   refine thn (hg _ _ _ _ ([]++jUb fp s7.heap) s7 (msk mask τ) G5 H7 t u _ ⟨σ5,I7',hs5.mono e7,g7⟩ ⟨x,rt,r7⟩ (hgk _ _ _ _ (turn i t acc G5 ht p5))) λ_ s8 ⟨τ8,G8,H8,e8,I8,q8,ql8,qk8⟩=> ?_
   refine thn (hif _ _ _ _ ([]++jUb fp s7.heap) s8 τ8 G8 H8 _ I8 q8) λb s9 ⟨G9,H9,e9,I9,q9⟩=> ?_
   have back:∀{Ga:Gp}{Ha:Hp}{sa:Shared}{acc':List T},Ext H7 Ha->Inv3 (jU6 X scope cl s3.heap.objs.size fp s3 (upd H2 D (.lst []))) ([]++jUb fp s7.heap) τ8 Ga Ha sa->P (i+1) acc' Ga->
     ∃m,m<n/\∃i acc G' H',m=xs.length-i/\i<=xs.length/\Ext H2 H'/\Inv3 (jU6 X scope cl s3.heap.objs.size fp s3 (upd H2 D (.lst []))) [] (msk mask τ) G' H' sa/\tn i sa.heap/\(∀b∈fp,H' b=none)/\P i acc G':=by
    rintro Ga Ha sa acc' ea ⟨σa,Ia,hsa,hga⟩ pa;have e2a:Ext H5 Ha:=e7.trans ea;have hla:mask.length=τ8.length:=by rw[ql8,jVl hl3];exact hl3
    have hsm:=kUm (mask:=mask) hsa hla;rw[kZk hl3 ql8 qk8] at hsm;refine⟨xs.length-(i+1),by omega,i+1,acc',Ga,Ha,rfl,hlt,e5.trans e2a,⟨msk mask σa,(Ia.weak (jVl (hla.trans hsa.1.symm)) λj v hv=>(kJ7 hv).2).pins_of (λp hp=>absurd hp (by simp)),hsm,hga⟩,?_,λb hb=> ?_,pa⟩
    .exact T0.keep _ _ _ st7 λb hb o e=>(Ia.pin (b,o) (lJ7 _ (lJ7 _ (jQ5 hb e)))).1
    .obtain⟨o,e,d⟩:=T0.obj _ _ st7 b hb;exact (Ia.pin (b,o) (lJ7 _ (lJ7 _ (jQ5 hb e)))).2.1
   cases b with
   | false=>
    rw[lJa lJu] at q9 ⊢;exact back (e8.trans e9) I9 q9
   | true=>
    rw[lJc rfl] at q9 ⊢;refine thn (he _ _ _ _ ([]++jUb fp s7.heap) s9 τ8 G9 H9 _ I9 q9) λy s10 w_=>w_.el λty G10 H10 e10 I10 r10 ⟨hD10,hz10,q10⟩=> ?_
    obtain⟨vy,rvy,ruy⟩:=r10;refine thn (jUl ([]++jUb fp s7.heap) s10 τ8 G10 H10 (.ref D) [ty] (.ref D) [y] (λ_ G'=>P (i+1) (acc++[ty]) G') I10 ⟨.ref D,rfl,rfl⟩ ⟨[vy],.one rvy,.cons ruy .nil⟩ ⟨D,acc,ty,rfl,rfl,hD10,hz10,q10⟩) λ_ s11 w_=>w_.el λ_ G11 H11 e11 I11 _ q11=> ?_
    exact back (((e8.trans e9).trans e10).trans e11) I11 q11
  .have ei:i=xs.length:=by omega
   refine thn (T0.done (jU6 X scope cl s3.heap.objs.size fp s3 (upd H2 D (.lst []))) rfl rfl rfl hc i [] s5 σ5 H5 (λ_ _=>False) I5 (fpc fr5 (by simp)) st5 (stop (by omega))) λr s6 ⟨hr,I6⟩=> ?_
   subst hr;subst ei;obtain⟨m,hn,_⟩:=I6.loc;obtain⟨oC,es,ep,hoC,hdC,_⟩:=id hn
   refine hRR D s3.heap.objs.size s6 m hn ⟨G5,H5,eH.trans e5,I6.free,fin acc G5 p5,λh' hb=>⟨σ,uQ3 I3 f3 (lJh _) I6 hb,hs2.mono e5,hg5⟩⟩
    ⟨oC,hoC,lQl I3.lt,I3.nofs (lJh _),λv z=>by rw[hdC] at z;cases z⟩ (λx d hd=> ?_) (λp hp=> ?_) I3.sz
   .obtain⟨v,q⟩:=I3.cell x d hd;exact lJr q.lt
   .exact lJr (lJi (I3.pin p hp).1)
 exact codeAny_compStart_list (loop _ (by rw[<-hs3])) (T0.self _ 0 _ _ _ st4 (loop _ (by rw[<-hs3])))
theorem jKq(hc:X.calm=true)(ok:CmpOk X scope cl mask)(hi:PI3 X tg iter wi)(hgk:kXs mask g)(hg:∀C fp s H,PG3 (jU6 X scope cl C fp s H) tg g)(hif:∀C fp s H,PIf3 (jU6 X scope cl C fp s H) ifs tif)(he:∀C fp s H,PE3 (jU6 X scope cl C fp s H) elt te)(hs:∀x,foldedSetIterable iter X.env x=pure x:=by intro _;rfl):PE3 X (.ListComp elt [⟨tg,iter,ifs,0⟩] scope pos) (jKt mask wi g tif te):=by
 intro pins s τ G H Q I h;rw[eval_ListComp];refine mJm (use:=none) rfl hs (jZh ok.cl) ok.kind ok.nm (thn (hi pins s τ G H _ I h) λxv s1 h1=>thn h1 λitv s2 h2=> ?_)
 refine kQm (RR:=λacc C=>compPost (model X.prog X.w) X.A X.xe none (EP3 X pins τ H Q) acc C) hc ok hgk hg hif he h2 ?_
 rintro D C s' m hn ⟨G1,H1,e1,_,q1,hI⟩ _ _ _ _;exact⟨m,hn,λh' hb=>⟨.ref D,G1,H1,e1,hI h' hb,⟨.ref D,rfl,rfl⟩,q1⟩⟩
theorem uJa{spos:Pos}(hc:X.calm=true)(hN:X.N.Nodup)(ok:CmpOk X scope cl mask)(hi:PI3 X tg iter wi)(hgk:kXs mask g)(hg:∀C fp s H,PG3 (jU6 X scope cl C fp s H) tg g)(hif:∀C fp s H,PIf3 (jU6 X scope cl C fp s H) ifs tif)(he:∀C fp s H,PE3 (jU6 X scope cl C fp s H) elt te)(hy:X.N[i]? =some y:=by rfl)(hx:X.env.scope.names.lookup y=some .local:=by rfl)(hsw:swapsWith (.ListComp elt [⟨tg,iter,ifs,0⟩] scope pos) (some (.Name y py)) spos.line X.env=pure true:=by rfl)(hs:∀x,foldedSetIterable iter X.env x=pure x:=by intro _;rfl):PS3 X (.Assign [.Name y py] (.ListComp elt [⟨tg,iter,ifs,0⟩] scope pos) spos) (tAsg (jKt mask wi g tif te) (jJh i)):=by
 intro pins s τ G H D I h;rw[exec_Assign_Name_used _ _ _ _ hsw];refine lJb (lZi (lJb ?_));show wpAny _ X.A (do let _ <-comprehension (.ListComp elt [⟨tg,iter,ifs,0⟩] scope pos) scope X.env _ (newList []) false (eval iter X.env) (some (assign (.Name y py) X.env))) _ _ s
 refine lJb (lQv (mJm (use:=some (assign (.Name y py) X.env)) (Q:=λ_ s'=>SP3 X pins H D .next s') rfl hs (jZh ok.cl) ok.kind ok.nm
  (thn (hi pins s τ G H _ I h) λxv s1 h1=>thn h1 λitv s2 h2=> ?_)) (λ_ s' hq=>lJe (lJe hq)) λ_ _ e=>e)
 refine kQm (RR:=λacc C=>compPost (model X.prog X.w) X.A X.xe (some (assign (.Name y py) X.env)) (λ_ s'=>SP3 X pins H D .next s') acc C) hc ok hgk hg hif he h2 ?_
 rintro Dd C s' m hn ⟨G1,H1,e1,hH1C,q1,hI⟩ ⟨oC,hoC,c1,c2,c3⟩ c4 c5 c6;show wpAny _ X.A (assign (.Name y py) X.env (.ref Dd)) _ _ _
 obtain⟨σ1,I1,hs1,hg1⟩:=hI s'.heap (.refl ..)
 have I1':Inv X (pins++[(C,oC)]) σ1 H1 s':=I1.pins_of λp hp=>(lJn.mp hp).elim (λz=>I1.pin p (lJ7 _ z)) λz=>by
  obtain rfl:p=(C,oC):=by simpa using z
  exact⟨hoC,hH1C,c1,c2,c3⟩
 refine wpAny_assign_Name (jYd I1' hN hy (.inl hx) (v:= .ref Dd) rfl (λs2 I2=> ?_) (.inr hx))
 have hC2:s2.heap.get? C=some oC:=(I2.pin (C,oC) (lJ7 _ (lJ7 _ (by simp)))).1
 obtain⟨oC',es,ep,hoC',r⟩:=hn;have eo:oC'=oC:=by rw[hoC] at hoC';exact (lJ3 hoC').symm
 subst eo;refine⟨m,⟨oC',es,ep,hC2,r⟩,λh' hb=>⟨_,G1,H1,e1,⟨_,?_,hs1.set i (show Rep X.K H1 (.ref Dd) (.ref Dd) from rfl),hg1⟩,q1⟩⟩
 exact I2.unpinned.turned (t':=s2.toks) (λb o hb' e=>(hb.2 b hb').trans e) hH1C c1 (.inr c6) c4 c5
end
end L3
namespace HT
open PySem PyProof.Rows
noncomputable def lexLe:(xs ys:List Int)->Bool
 | [],_=>true
 | _::_,[]=>false
 | x::xs,y::ys=>if x=y then lexLe xs ys else decide (x<=y)
theorem qKe(x y:Int)(xs ys:List Int):lexLe (x::xs) (y::ys)=if x=y then lexLe xs ys else decide (x<=y):=rfl
theorem qU0(ys:List Int):lexLe [] ys=true:=by cases ys<;>rfl
theorem kK0(x:Int)(xs:List Int):lexLe (x::xs) []=false:=rfl
theorem qYh(A:Around)(s:Shared)(a:Int)(t:Tok)(c:Int)(u:Tok)(prog:Program)(w:World)(E:Value->Shared->Prop)(Q:Value->Shared->Prop)(h:Q (.bool (decide (a<=c))) s):
  wpAny (model prog w) A (richCompare .LtE (.int a t) (.int c u)) Q E s:=
 (PyProof.Rows.le_int h:wpAny (model prog w) A (compareOp .LtE (.int a t) (.int c u)) Q E s)
section
open PySem.SeqAt
open PySem.AutoSeq1 (wpAny_loadPart')
open PySem.MeetsSeq PySem.MeetsSeq2 PySem.MeetsSeq3
theorem kQt(l b:Addr)(items items2:Array Value)(n n2:Nat)(dd dd2:Option Addr)(sl sl2:Array (Option Value))(ns ms:List Int)(hi:IntsAre items.toList ns)(hj:IntsAre items2.toList ms):
  Meets (Builtin.«tuple.__le__» ⟨[.ref l,.ref b],[]⟩)
   (λ_ R s=>s.heap.get? l=some {cls:= .type "tuple",dict:=dd,data:= .seq items n,slots:=sl}/\s.heap.get? b=some {cls:= .type "tuple",dict:=dd2,data:= .seq items2 n2,slots:=sl2}/\
    R (.ok (.ret (.bool (lexLe ns ms)))) s):=
 .of_wp λprog w A R s h=>by
  obtain⟨hp,g,d,tk,os⟩:=s;obtain⟨hl,hb,h⟩:=h;have f2:=AutoSeq1.sub_tuple_tuple;have z1:items.size=ns.length:=by rw[<-hi.length];simp
  have z2:items2.size=ms.length:=by rw[<-hj.length];simp
  wp_walk using wpAny_loadPart' hl,wpAny_loadPart' hb,wpAny_forIn_list _ (λrest b s'=>b.1=none/\s'=⟨hp,g,d,tk,os⟩/\∃(vs ws:List Value)(ns' ms':List Int),rest=vs.zip ws/\
   IntsAre vs ns'/\IntsAre ws ms'/\ns'.length+items2.size=ms'.length+items.size/\R (.ok (.ret (.bool (lexLe ns' ms')))) ⟨hp,g,d,tk,os⟩) _
  case turn=>
   rintro⟨y,x⟩ rest b s' ⟨hb',rfl,vs,ws,ns',ms',hz,hvi,hwi,hlen,hR⟩;cases hvi with
   | nil=>rw[List.zip_nil_left] at hz;cases hz
   | cons a t hvi'=>
    cases hwi with
    | nil=>rw[List.zip_nil_right] at hz;cases hz
    | cons c u hwi'=>
     rw[lXu] at hz;injection hz with hyx hrest
     injection hyx with hy hx
     subst hy hx;rw[qKe] at hR;simp only[lJ8] at hlen;obtain⟨e,he,hiff⟩:=qZk A.in1 ⟨hp,g,d,tk,os⟩ a t c u;refine lJb (he prog w _ _ ?_);cases e with
     | true=>
      rw[lJc (hiff.mp rfl)] at hR
      wp_walk
      exact⟨rfl,rfl,_,_,_,_,hrest,hvi',hwi',by omega,hR⟩
     | false=>
      rw[lJa (λq=>absurd (hiff.mpr q) lJu)] at hR
      have hri:=qYh A.in1 ⟨hp,g,d,tk,os⟩ a t c u prog w
      wp_walk using hri
      exact⟨_,rfl,by simpa using hR⟩
  case fin=>
   rintro⟨b1,b2⟩ s' ⟨hb',rfl,vs,ws,ns',ms',hz,hvi,hwi,hlen,hR⟩;simp only at hb';subst hb'
   have hv:lexLe ns' ms'=decide (items.size<=items2.size):=by
    cases hvi with
    | nil=>
     simp only[lQp] at hlen;rw[qU0];exact (lJq (by omega)).symm
    | cons a t hv=>
     cases hwi with
     | nil=>
      simp only[lQp,lJ8] at hlen;rw[kK0];exact (lJy (by omega)).symm
     | cons c u hw=>
      rw[lXu] at hz;cases hz
   rw[hv] at hR
   wp_walk
   exact⟨_,rfl,by simpa[Builtin.Tuple.tupleCompareSizes] using hR⟩
  case h=>
   exact⟨rfl,rfl,items.toList,items2.toList,ns,ms,rfl,hi,hj,by omega,h⟩
end
theorem le_tupInts{prog:Program}{w:World}{A:Around}{E:Value->Shared->Prop}{s:Shared}{l b:Addr}{items items2:Array Value}{ns ms:List Int}{Q:Value->Shared->Prop}(hl:IsTup s.heap l items)(hb:IsTup s.heap b items2)(hi:IntsAre items.toList ns)(hj:IntsAre items2.toList ms)(hu:A.units<cLine)(h:Q (.bool (lexLe ns ms)) s):wpAny (model prog w) A (compareOp .LtE (.ref l) (.ref b)) Q E s:=by
 obtain⟨⟨cls,dd,data,sl⟩,ho,hc,n,hd⟩:=id hl;obtain⟨⟨cls2,dd2,data2,sl2⟩,ho2,hc2,n2,hd2⟩:=id hb;simp only at hc hd hc2 hd2;subst hc hd hc2 hd2
 exact richCompare_meets_room (op:= .LtE) ⟨_,ho,rfl⟩ ⟨_,ho2,rfl⟩ PySem.F.slot_tuple_le PySem.F.entry_tuple_le (PySem.F.args_tuple_le_2 _ _) (kQt l b items items2 n n2 dd dd2 sl sl2 ns ms hi hj)
  ⟨ho,ho2,show Value.bool (lexLe ns ms)≠Value.notImplemented/\Q (.bool (lexLe ns ms)) s from⟨(λx=>nomatch x),h⟩⟩ hu
end HT
namespace L3
open PySem PySem.Spec PyProof.Rows L2
variable {X:Cx}{G:Gp}{x y:T}{b:Bool}{pins:List (Addr×Obj)}{σ:L2.St}{H:Hp}{s:Shared}{a:V}{u:Value}
theorem jQo{K:PySem.W.Frag}{H:Hp}:∀{ns:List Int}{vs:List V},Reps K H (ns.map T.int) vs->vs=ns.map V.int
 | [],_,h=>h
 | n::ns,_,⟨v,ws,e,r,rs⟩=>by
  subst e;cases (show v= .int n from r)
  rw[jQo rs];rfl
def rLeT:R3:=λx y G Q=>∃ns ms,x= .tup (ns.map T.int)/\y= .tup (ms.map T.int)/\Q (.bl (HT.lexLe ns ms)) G
theorem uY5(hu:X.A.units<cLine):Op3 X (compareOp .LtE) rLeT:=by
 rintro pins s τ G H x y v u Q ⟨σ,I,hs,hg⟩ ⟨a,ra,rv⟩ ⟨b,rb,ru⟩ ⟨ns,ms,ex,ey,q⟩;subst ex;subst ey;obtain⟨p,vs,e1,h1,h2⟩:=(show ∃p vs,a= .ref p/\H p=some (.tup vs)/\Reps X.K H (ns.map T.int) vs from ra)
 obtain⟨p',ws,e2,h3,h4⟩:=(show ∃p vs,b= .ref p/\H p=some (.tup vs)/\Reps X.K H (ms.map T.int) vs from rb)
 subst e1;subst e2;cases rv;cases ru;rw[jQo h2] at h1;rw[jQo h4] at h3;obtain⟨its,r1,p1,_⟩:=I.tuple (.of h1);obtain⟨its2,r2,p2,_⟩:=I.tuple (.of h3);exact HT.le_tupInts p1 p2 (show IntsAre its.toArray.toList ns from kQi r1) (show IntsAre its2.toArray.toList ms from kQi r2) hu ⟨.bl _,G,H,.refl H,⟨σ,I,hs,hg⟩,⟨.bl _,rfl,rfl⟩,q⟩
def rLeI:R3:=rI0 λi j=> .bl (decide (i<=j))
def rLeA:R3:=λx y G Q=>rLeI x y G Q\/rLeT x y G Q
theorem uY6(hu:X.A.units+20<cLine):Op3 X (compareOp .LtE) rLeA:=o_le.or (uY5 (by omega))
theorem qVv(h:eqG G x y=some b):
  (∃p q xs ys,x= .ref p/\y= .ref q/\G p=some (.lst xs)/\G q=some (.lst ys)/\kUx xs=true/\kUx ys=true/\b=eqTs xs ys)\/(eqOk x=true/\eqOk y=true/\b=eqT x y):=by
 by_cases hr:∃p q,x= .ref p/\y= .ref q
 .obtain⟨p,q,ex,ey⟩:=hr;subst ex;subst ey;refine .inl ?_;simp only[eqG] at h;split at h
  .rename_i xs ys h1 h2
   split at h
   .rename_i hc
    cases h;exact⟨p,q,xs,ys,rfl,rfl,h1,h2,hc.1,hc.2,rfl⟩
   .cases h
  .cases h
 .refine .inr ?_
  have e:eqG G x y=if eqOk x=true/\eqOk y=true then some (eqT x y) else none:=by
   cases x with
   | ref p=>cases y with
    | ref q=>exact absurd ⟨p,q,rfl,rfl⟩ hr
    | _=>rfl
   | _=>rfl
  rw[e] at h;split at h
  .rename_i hc
   cases h;exact⟨hc.1,hc.2,rfl⟩
  .cases h
mutual
theorem kXz{X:Cx}{pins:List (Addr×Obj)}{σ:L2.St}{H:Hp}{s:Shared}(I:Inv X pins σ H s):∀(x:T){a:V}{u:Value},tree x=true->Rep X.K H x a->RelV a u->∃as,Reads s.heap u (td x) as
 | .non,a,u,_,r,q=>by cases (show a= .non from r);cases q;exact⟨_,.none⟩
 | .bl b,a,u,_,r,q=>by cases (show a= .bl b from r);cases q;exact⟨_,.bool b⟩
 | .int b,a,u,_,r,q=>by cases (show a= .int b from r);obtain⟨t,rfl⟩:=q;exact⟨_,.int b t⟩
 | .str b,a,u,_,r,q=>by cases (show a= .str b from r);obtain⟨t,rfl⟩:=q;exact⟨_,.str b t⟩
 | .tup xs,a,u,ht,r,q=>by
  obtain⟨p,vs,e1,h1,h2⟩:=(show ∃p vs,a= .ref p/\H p=some (.tup vs)/\Reps X.K H xs vs from r)
  subst e1;cases q;obtain⟨its,rv,⟨o,ho,hc,n,hd⟩,_⟩:=I.tuple (.of h1);obtain⟨as,ra⟩:=jZ4 I xs (show jQr xs=true from ht) h2 rv
  exact⟨_,.tuple ho hc hd (by simpa using ra)⟩
 | .ref _,_,_,ht,_,_=>absurd (show false=true from ht) lJu
 | .scr _,_,_,ht,_,_=>absurd (show false=true from ht) lJu
 | .ty _,_,_,ht,_,_=>absurd (show false=true from ht) lJu
theorem jZ4{X:Cx}{pins:List (Addr×Obj)}{σ:L2.St}{H:Hp}{s:Shared}(I:Inv X pins σ H s):∀(xs:List T){vs:List V}{us:List Value},jQr xs=true->Reps X.K H xs vs->Vals vs us->∃as,ReadsAll s.heap us (tds xs) as
 | [],_,_,_,r,q=>by cases r;cases q;exact⟨_,.nil⟩
 | x::xs,_,_,ht,⟨v,ws,e,r1,r2⟩,q=>by
  subst e;cases q with
  | cons q1 q2=>
   have hx:tree x=true/\jQr xs=true:=by simpa[jQr] using ht
   obtain⟨as,ra⟩:=kXz I x hx.1 r1 q1;obtain⟨bs,rb⟩:=jZ4 I xs hx.2 r2 q2;exact⟨_,.cons ra rb⟩
end
mutual
theorem uXr:∀(x y:T),tree x=true->tree y=true->PyData.eqv (td x) (td y)=eqT x y
 | .non,y,_,hy=>by cases y<;>first | rfl | exact absurd (show false=true from hy) lJu
 | .bl b,y,_,hy=>by cases y<;>first | rfl | exact absurd (show false=true from hy) lJu
 | .int b,y,_,hy=>by cases y<;>first | rfl | exact absurd (show false=true from hy) lJu
 | .str b,y,_,hy=>by cases y<;>first | rfl | exact absurd (show false=true from hy) lJu
 | .tup xs,y,hx,hy=>by
  cases y with
  | tup ys=>exact qVs xs ys (show jQr xs=true from hx) (show jQr ys=true from hy)
  | _=>first | rfl | exact absurd (show false=true from hy) lJu
 | .ref _,_,ht,_=>absurd (show false=true from ht) lJu
 | .scr _,_,ht,_=>absurd (show false=true from ht) lJu
 | .ty _,_,ht,_=>absurd (show false=true from ht) lJu
theorem qVs:∀(xs ys:List T),jQr xs=true->jQr ys=true->PyData.eqvAll (tds xs) (tds ys)=eqTs xs ys
 | [],[],_,_=>rfl
 | [],_::_,_,_=>rfl
 | _::_,[],_,_=>rfl
 | x::xs,y::ys,hx,hy=>by
  have hx':tree x=true/\jQr xs=true:=by simpa[jQr] using hx
  have hy':tree y=true/\jQr ys=true:=by simpa[jQr] using hy
  show (PyData.eqv (td x) (td y)&&PyData.eqvAll (tds xs) (tds ys))=(eqT x y&&eqTs xs ys)
  rw[uXr x y hx'.1 hy'.1,qVs xs ys hx'.2 hy'.2]
end
theorem kZ4{b:V}{v:Value}{k:Bool}(I:Inv X pins σ H s)(hg:GRel X.K H G)(ra:Rep X.K H x a)(rb:Rep X.K H y b)(ru:RelV a u)(rv:RelV b v)(h:eqG G x y=some k):
  ∃da db as bs,Reads s.heap u da as/\Reads s.heap v db bs/\da.canLay0=true/\db.canLay0=true/\da.depth<=50/\PyData.eqv da db=k:=by
 rcases qVv h with ⟨p,q,xs,ys,ex,ey,hp,hq,ox,oy,e⟩ | ⟨ox,oy,e⟩
 .subst ex;subst ey;cases (show a= .ref p from ra);cases (show b= .ref q from rb)
  cases ru;cases rv;obtain⟨vs,h1,h2⟩:=hg.lst hp;obtain⟨ws,h3,h4⟩:=hg.lst hq;obtain⟨its,r1,⟨o,n,ho,hc,_,hd⟩,_⟩:=I.list (.of h1);obtain⟨its',r2,⟨o',n',ho',hc',_,hd'⟩,_⟩:=I.list (.of h3);simp only[kUx,lKv,lJ5] at ox oy;obtain⟨as,r3⟩:=jZ4 I xs ox.1.1 h2 r1;obtain⟨bs,r4⟩:=jZ4 I ys oy.1.1 h4 r2;exact⟨.list (tds xs),.list (tds ys),_,_,.list ho hc hd (by simpa using r3),.list ho' hc' hd' (by simpa using r4),ox.1.2,oy.1.2,ox.2,by rw[e];exact qVs xs ys ox.1.1 oy.1.1⟩
 .simp only[eqOk,lKv,lJ5] at ox oy;obtain⟨as,r3⟩:=kXz I x ox.1.1 ra ru;obtain⟨bs,r4⟩:=kXz I y oy.1.1 rb rv;exact⟨td x,td y,_,_,r3,r4,ox.1.2,oy.1.2,ox.2,by rw[e];exact uXr x y ox.1.1 oy.1.1⟩
theorem jU0(hu:X.A.units+64<cLine):Op3 X (compareOp .Eq) rEqA:=by
 rintro pins s τ G H x y v u Q ⟨σ,I,hs,hg⟩ ⟨a,ra,rv⟩ ⟨b,rb,ru⟩ ⟨k,hk,q⟩;obtain⟨da,db,as,bs,r1,r2,c1,c2,d,e⟩:=kZ4 I hg ra rb rv ru hk;exact SeqAt.compareEq_reads r1 r2 c1 c2 (by omega) ⟨.bl k,G,H,.refl H,⟨σ,I,hs,hg⟩,⟨.bl k,rfl,by rw[e];rfl⟩,q⟩
theorem uKs(hu:X.A.units+64<cLine):Op3 X (compareOp .NotEq) rNeA:=by
 rintro pins s τ G H x y v u Q ⟨σ,I,hs,hg⟩ ⟨a,ra,rv⟩ ⟨b,rb,ru⟩ ⟨k,hk,q⟩;obtain⟨da,db,as,bs,r1,r2,c1,c2,d,e⟩:=kZ4 I hg ra rb rv ru hk;exact SeqAt.compareNe_reads r1 r2 c1 c2 (by omega) ⟨.bl (!k),G,H,.refl H,⟨σ,I,hs,hg⟩,⟨.bl (!k),rfl,by rw[e];rfl⟩,q⟩
variable {K:PySem.W.Frag}
noncomputable def jX7:T->Bool
 | .non=>true
 | .bl _=>true
 | .int _=>true
 | .str _=>true
 | _=>false
theorem kJb(r:Rep K H x a)(f:jX7 x=true):kK2 a=true:=by
 cases x with
 | non=>cases (show a= .non from r);rfl
 | bl _=>cases (show a= .bl _ from r);rfl
 | int _=>cases (show a= .int _ from r);rfl
 | str _=>cases (show a= .str _ from r);rfl
 | _=>exact absurd (show false=true from f) lJu
theorem qVo{b:V}(r:Rep K H x a)(q:Rep K H y b)(f:jX7 x=true)(g:jX7 y=true):eqV a b=eqT x y:=by
 cases x with
 | non=>cases (show a= .non from r);cases y with
  | non=>cases (show b= .non from q);rfl
  | bl _=>cases (show b= .bl _ from q);rfl
  | int _=>cases (show b= .int _ from q);rfl
  | str _=>cases (show b= .str _ from q);rfl
  | _=>exact absurd (show false=true from g) lJu
 | bl _=>cases (show a= .bl _ from r);cases y with
  | non=>cases (show b= .non from q);rfl
  | bl _=>cases (show b= .bl _ from q);rfl
  | int _=>cases (show b= .int _ from q);rfl
  | str _=>cases (show b= .str _ from q);rfl
  | _=>exact absurd (show false=true from g) lJu
 | int _=>cases (show a= .int _ from r);cases y with
  | non=>cases (show b= .non from q);rfl
  | bl _=>cases (show b= .bl _ from q);rfl
  | int _=>cases (show b= .int _ from q);rfl
  | str _=>cases (show b= .str _ from q);rfl
  | _=>exact absurd (show false=true from g) lJu
 | str _=>cases (show a= .str _ from r);cases y with
  | non=>cases (show b= .non from q);rfl
  | bl _=>cases (show b= .bl _ from q);rfl
  | int _=>cases (show b= .int _ from q);rfl
  | str _=>cases (show b= .str _ from q);rfl
  | _=>exact absurd (show false=true from g) lJu
 | _=>exact absurd (show false=true from f) lJu
def inT(x:T)(xs:List T):Bool:=xs.any λy=>eqT y x
theorem kUu{K:PySem.W.Frag}{H:Hp}{x:T}{a:V}(r:Rep K H x a)(f:jX7 x=true):∀{xs:List T}{vs:List V},Reps K H xs vs->xs.all jX7=true->vs.all kK2=true/\inV a vs=inT x xs
 | [],_,h,_=>by cases h;exact⟨rfl,rfl⟩
 | y::ys,_,⟨v,ws,e,r1,r2⟩,g=>by
  subst e;rw[lQy,lKv] at g;obtain⟨h1,h2⟩:=kUu r f r2 g.2;refine⟨by rw[lQy,kJb r1 g.1,h1];rfl,?_⟩
  unfold inV inT at h2 ⊢;rw[lQo,lQo,qVo r1 r g.1 f,h2]
def rInF(neg:Bool):R3:=λx y G Q=>∃xs,seqT G y=some xs/\jX7 x=true/\xs.all jX7=true/\Q (.bl (if neg then !inT x xs else inT x xs)) G
theorem uK9{neg:Bool}{op:CmpOp}(h:OpR X (compareOp op) (L2.rIn X.K neg)):Op3 X (compareOp op) (rInF neg):=
 Op3.of h λH G x y a b Q hg ra rb ⟨xs,hx,fx,fs,q⟩=>by
  obtain⟨p,vs,e,hq,r⟩:=jUx hg rb hx;obtain⟨h1,h2⟩:=kUu ra fx r fs;exact⟨p,vs,e,hq,kJb ra fx,h1,.bl _,G,.refl H,hg,by rw[h2];rfl,q⟩
theorem o_notInF:Op3 X (compareOp .NotIn) (rInF true):=uK9 kVs
noncomputable def kT:Key->T
 | .inl i=> .int i
 | .inr x=> .str x
noncomputable def jZx:T->Option Key
 | .int i=>some (.inl i)
 | .str x=>some (.inr x)
 | _=>none
noncomputable def allK{K:Type}(f:T->Option K):List T->Option (List K)
 | []=>some []
 | x::xs=>match f x,allK f xs with
  | some k,some ks=>some (k::ks)
  | _,_=>none
noncomputable def key1:T->Option K1
 | .tup ts=>(allK jZx ts).map .inr
 | x=>(jZx x).map .inl
noncomputable def key2:T->Option K2
 | .tup ts=>(allK key1 ts).map .inr
 | x=>(jZx x).map .inl
noncomputable def jXm:List T->Option TKey:=allK key2
theorem jYn{k:Key}(h:jZx x=some k)(r:Rep K H x a):a=kV k:=by
 cases x with
 | int i=>cases h;exact r
 | str i=>cases h;exact r
 | non=>cases h
 | bl _=>cases h
 | tup _=>cases h
 | scr _=>cases h
 | ref _=>cases h
 | ty _=>cases h
theorem kJh{K:PySem.W.Frag}{H:Hp}{κ:Type}{f:T->Option κ}{R:κ->V->Prop}(hf:∀x k a,f x=some k->Rep K H x a->R k a):∀{xs:List T}{vs:List V}{ks:List κ},allK f xs=some ks->Reps K H xs vs->Paired R ks vs
 | [],_,_,h,r=>by cases h;cases (show _=[] from r);exact .nil
 | x::xs,_,ks,h,⟨v,ws,e,r1,r2⟩=>by
  subst e;unfold allK at h;cases e1:f x with
  | none=>rw[e1] at h;cases h
  | some k=>
   cases e2:allK f xs with
   | none=>rw[e1,e2] at h;cases h
   | some ks'=>
    rw[e1,e2] at h;cases h;exact .cons (hf _ _ _ e1 r1) (kJh hf e2 r2)
theorem qZa(x:T)(k:K1)(a:V)(h:key1 x=some k)(r:Rep K H x a):Rk1 H k a:=by
 cases x with
 | tup ts=>
  obtain⟨ks,h1,rfl⟩:=lQg.mp (show (allK jZx ts).map Sum.inr=some k from h)
  obtain⟨p,vs,e,h3,h4⟩:=(show ∃p vs,a= .ref p/\H p=some (.tup vs)/\Reps K H ts vs from r)
  exact⟨p,vs,e,h3,kJh (λx k a h r=>jYn h r) h1 h4⟩
 | int i=>cases h;exact r
 | str i=>cases h;exact r
 | non=>cases h
 | bl _=>cases h
 | scr _=>cases h
 | ref _=>cases h
 | ty _=>cases h
theorem qY9(x:T)(k:K2)(a:V)(h:key2 x=some k)(r:Rep K H x a):Rk2 H k a:=by
 cases x with
 | tup ts=>
  obtain⟨ks,h1,rfl⟩:=lQg.mp (show (allK key1 ts).map Sum.inr=some k from h)
  obtain⟨p,vs,e,h3,h4⟩:=(show ∃p vs,a= .ref p/\H p=some (.tup vs)/\Reps K H ts vs from r)
  exact⟨p,vs,e,h3,kJh qZa h1 h4⟩
 | int i=>cases h;exact r
 | str i=>cases h;exact r
 | non=>cases h
 | bl _=>cases h
 | scr _=>cases h
 | ref _=>cases h
 | ty _=>cases h
theorem jU4{xs:List T}{vs:List V}{ks:TKey}{p:Addr}(h:jXm xs=some ks)(e:H p=some (.tup vs))(r:Reps K H xs vs):TKeyAt H ks p:=⟨vs,e,kJh qY9 h r⟩
noncomputable def valT{κ:Type}[DecidableEq κ](kvs:List (κ×T))(k:κ):Option T:=(kvs.find? λkv=>decide (kv.1=k)).map (·.2)
noncomputable def putT{κ:Type}[DecidableEq κ](kvs:List (κ×T))(k:κ)(v:T):List (κ×T):=
 if (kvs.any λkv=>decide (kv.1=k))=true then kvs.map (λkv=>if kv.1=k then (kv.1,v) else kv) else kvs++[(k,v)]
theorem PKV.val{κ:Type}[DecidableEq κ]{kvs:List (κ×T)}{ws:List (κ×V)}(r:PKV K H kvs ws)(k:κ):(∀t,valT kvs k=some t->∃v,valV ws k=some v/\Rep K H t v)/\(valT kvs k).isSome=(valV ws k).isSome:=by
 unfold PKV at r
 induction r with
 | nil=>exact⟨λt h=>by simp[valT] at h,rfl⟩
 | @cons p q ps qs h t ih=>
  by_cases e:p.1=k
  .have e':q.1=k:=h.1.symm.trans e;have b:valT (p::ps) k=some p.2:=by simp[valT,lVa,e]
   rw[b,jZz e'];exact⟨λt ht=>by cases ht;exact⟨q.2,rfl,h.2⟩,rfl⟩
  .have e':¬ q.1=k:=λz=>e (h.1.trans z)
   have b:valT (p::ps) k=valT ps k:=by simp[valT,lVa,e]
   rw[b,jZ0 e'];exact ih
theorem PKV.any{κ:Type}[DecidableEq κ]{kvs:List (κ×T)}{ws:List (κ×V)}(r:PKV K H kvs ws)(k:κ):(kvs.any λkv=>decide (kv.1=k))=ws.any λkv=>decide (kv.1=k):=by
 unfold PKV at r
 induction r with
 | nil=>rfl
 | cons h t ih=>rw[lQo,lQo,ih,h.1]
theorem PKV.put{κ:Type}[DecidableEq κ]{kvs:List (κ×T)}{ws:List (κ×V)}(r:PKV K H kvs ws)(k:κ){t:T}{v:V}(rt:Rep K H t v):PKV K H (putT kvs k t) (putK ws k v):=by
 unfold putT putK;rw[r.any k]
 by_cases e:(ws.any λkv=>decide (kv.1=k))=true
 .rw[lJc e,lJc e];unfold PKV at r ⊢;clear e
  induction r with
  | nil=>exact .nil
  | @cons p q ps qs h t' ih=>
   rw[lJo,lJo];refine .cons ?_ ih;obtain⟨h1,h2⟩:=h
   by_cases e:p.1=k
   .rw[lJc e,lJc (h1.symm.trans e)];exact⟨h1,rt⟩
   .rw[lJa e,lJa (λz=>e (h1.trans z))];exact⟨h1,h2⟩
 .rw[lJa e,lJa e];exact Paired.snoc r ⟨rfl,rt⟩
theorem PKV.length{κ:Type}{kvs:List (κ×T)}{ws:List (κ×V)}(r:PKV K H kvs ws):kvs.length=ws.length:=lQ7 r
noncomputable def dAt(G:Gp)(x y:T):Option (Option T):=match x with
 | .ref p=>match G p with
  | some (.dct kvs)=>match y with
   | .tup ys=>match jXm ys with
    | some ks=>some (valT kvs ks)
    | none=>none
   | _=>none
  | some (.dck kvs)=>match jZx y with
   | some k=>some (valT kvs k)
   | none=>none
  | some (.fdc kvs)=>match y with
   | .tup ys=>match jXm ys with
    | some ks=>some (valT kvs ks)
    | none=>none
   | _=>none
  | _=>none
 | _=>none
theorem qV4{b:V}{o:Option T}(hg:GRel K H G)(ra:Rep K H x a)(rb:Rep K H y b)(h:dAt G x y=some o):
  ∃p ov,a= .ref p/\DGet H p b ov/\o.isSome=ov.isSome/\∀t,o=some t->∃v,ov=some v/\Rep K H t v:=by
 unfold dAt at h;split at h
 .rename_i p
  cases (show a= .ref p from ra)
  split at h
  .rename_i kvs hG
   split at h
   .rename_i ys
    split at h
    .rename_i ks hk
     cases h;obtain⟨ws,h1,h2⟩:=hg p _ hG;obtain⟨q,vs,e,h3,h4⟩:=(show ∃q vs,b= .ref q/\H q=some (.tup vs)/\Reps K H ys vs from rb)
     subst e;exact⟨p,_,rfl,DGet.t h1 (jU4 hk h3 h4),(h2.val ks).2,(h2.val ks).1⟩
    .cases h
   .cases h
  .rename_i kvs hG
   split at h
   .rename_i k hk
    cases h;obtain⟨ws,h1,h2⟩:=hg p _ hG;rw[jYn hk rb];exact⟨p,_,rfl,DGet.k h1,(h2.val k).2,(h2.val k).1⟩
   .cases h
  .rename_i kvs hG
   split at h
   .rename_i ys
    split at h
    .rename_i ks hk
     cases h;obtain⟨ob,ws,h1,h2⟩:=(show ∃ob ws,H p=some (.frz ob (.dT ws))/\PKV K H kvs ws from hg p _ hG)
     obtain⟨q,vs,e,h3,h4⟩:=(show ∃q vs,b= .ref q/\H q=some (.tup vs)/\Reps K H ys vs from rb)
     subst e;exact⟨p,_,rfl,.inr ⟨ws,ks,q,.inr ⟨ob,h1⟩,rfl,jU4 hk h3 h4,rfl⟩,(h2.val ks).2,(h2.val ks).1⟩
    .cases h
   .cases h
  .cases h
 .cases h
def uVf:R3:=λx y G Q=>∃t,dAt G x y=some (some t)/\Q t G
theorem uK1(hu:X.A.units+20<cLine):Ix3 X uVf:=by
 rintro value slice pins s τ G H x y v u Q ⟨σ,I,hs,hg⟩ ⟨a,ra,rv⟩ ⟨b,rb,ru⟩ ⟨t,hd,q⟩ hsl;obtain⟨p,ov,e,g,_,hh⟩:=qV4 hg ra rb hd;obtain⟨w,ew,rw'⟩:=hh t rfl;subst e;subst ew;cases rv;have hT:s.TypeIs (.ref p) "dict":=kYr I g;unfold subscriptTail;refine lJb ?_;rw[getitemInPython_of_ne hT.not_modules];refine lJb (mJd hT PySem.F.slot_dict_getitem.lookup ?_)
 have fin:wpAny (model X.prog X.w) X.A (subscripted slice false (.ref p) u) (λr s₃=>wpAny (model X.prog X.w) X.A (letTemporaryGo value (.ref p) r >>= λ_=>pure r) (EP3 X pins τ H Q) X.xe s₃) X.xe s:=by
  rw[hsl];exact wpAny_operating (qV3 hu I g ru λw' s' I' r'=>lJb (wpAny_letTemporaryGo (lJe ⟨t,G,H,.refl H,⟨σ,I',hs,hg⟩,⟨w,rw',r'⟩,q⟩)))
 first
  | exact lJe (lJb fin)
  | exact lJb (lJe (lJb fin))
  | exact lJb fin
theorem Ix3.or{r r':R3}(h:Ix3 X r)(h':Ix3 X r'):Ix3 X (λx y G Q=>r x y G Q\/r' x y G Q):=by
 intro value slice pins s τ G H x y v u Q I rx ry q hs
 rcases q with q | q
 .exact h value slice pins s τ G H x y v u Q I rx ry q hs
 .exact h' value slice pins s τ G H x y v u Q I rx ry q hs
def rIxA:R3:=λx y G Q=>rIx x y G Q\/uVf x y G Q
theorem uK2(hu:X.A.units+20<cLine):Ix3 X rIxA:=ix_any.or (uK1 hu)
def qUd:R3:=λx y G Q=>∃o,dAt G y x=some o/\Q (.bl (!o.isSome)) G
theorem qYv(hu:X.A.units+20<cLine):Op3 X (compareOp .NotIn) qUd:=by
 rintro pins s τ G H x y v u Q ⟨σ,I,hs,hg⟩ ⟨a,ra,rv⟩ ⟨b,rb,ru⟩ ⟨o,hd,q⟩;obtain⟨p,ov,e,g,e2,_⟩:=qV4 hg rb ra hd;subst e;cases ru;exact uQ2 hu I g rv λs' I'=>⟨.bl _,G,H,.refl H,⟨σ,I',hs,hg⟩,⟨.bl _,rfl,by rw[<-e2];rfl⟩,q⟩
def qQ9:R3:=λx y G Q=>rInF true x y G Q\/qUd x y G Q
theorem uKq(hu:X.A.units+20<cLine):Op3 X (compareOp .NotIn) qQ9:=o_notInF.or (qYv hu)
noncomputable def uJi:T->T->T->Gp->(Gp->Prop)->Prop:=λo i v G Q=>∃p ys ks kvs,o= .ref p/\i= .tup ys/\jXm ys=some ks/\G p=some (.dct kvs)/\kvs.length<sizeLine/\Q (gup G p (.dct (putT kvs ks v)))
def uJj:T->T->T->Gp->(Gp->Prop)->Prop:=λo i v G Q=>∃p k kvs,o= .ref p/\jZx i=some k/\G p=some (.dck kvs)/\kvs.length<sizeLine/\Q (gup G p (.dck (putT kvs k v)))
theorem uJ9(hu:X.A.units+20<cLine):Set3 X uJi:=by
 rintro pins s τ G H o i v ov iv u Q ⟨σ,I,hs,hg⟩ ⟨a,ra,rv⟩ ⟨b,rb,ru⟩ ⟨c,rc,rw'⟩ ⟨p,ys,ks,kvs,eo,ei,hk,hG,hz,q⟩;subst eo;subst ei;cases (show a= .ref p from ra);cases rv
 obtain⟨ws,h1,h2⟩:=hg p _ hG;obtain⟨b',vs,e,h3,h4⟩:=(show ∃q vs,b= .ref q/\H q=some (.tup vs)/\Reps X.K H ys vs from rb)
 subst e;have h3:=jU4 hk h3 h4;have e:Ext H (upd H p (.dT (putK ws ks c))):= .upd (.dT h1);exact kV9 hu I (DPut.t h1 h3 (by rw[<-h2.length];exact hz)) ru rw' λs' I'=>⟨_,_,e,⟨σ,I',hs.mono e,hg.upd (.dT h1) (go:= .dct (putT kvs ks v)) ⟨_,jK9,(h2.put ks rc).mono e⟩⟩,q⟩
theorem uKa(hu:X.A.units+20<cLine):Set3 X uJj:=by
 rintro pins s τ G H o i v ov iv u Q ⟨σ,I,hs,hg⟩ ⟨a,ra,rv⟩ ⟨b,rb,ru⟩ ⟨c,rc,rw'⟩ ⟨p,k,kvs,eo,hk,hG,hz,q⟩;subst eo;cases (show a= .ref p from ra);cases rv
 obtain⟨ws,h1,h2⟩:=hg p _ hG;have eb:=jYn hk rb;subst eb;have e:Ext H (upd H p (.dK (putK ws k c))):= .upd (.dK h1);exact kV9 hu I (DPut.k h1 (by rw[<-h2.length];exact hz)) ru rw' λs' I'=>⟨_,_,e,⟨σ,I',hs.mono e,hg.upd (.dK h1) (go:= .dck (putT kvs k v)) ⟨_,jK9,(h2.put k rc).mono e⟩⟩,q⟩
theorem Set3.or{r r':T->T->T->Gp->(Gp->Prop)->Prop}(h:Set3 X r)(h':Set3 X r'):Set3 X (λo i v G Q=>r o i v G Q\/r' o i v G Q):=by
 intro pins s τ G H o i v ov iv u Q I ro ri rv q
 rcases q with q | q
 .exact h pins s τ G H o i v ov iv u Q I ro ri rv q
 .exact h' pins s τ G H o i v ov iv u Q I ro ri rv q
def uVa:T->T->T->Gp->(Gp->Prop)->Prop:=λo i v G Q=>qYi o i v G Q\/uJi o i v G Q\/uJj o i v G Q
theorem uYo(hu:X.A.units+20<cLine):Set3 X uVa:=s_list.or ((uJ9 hu).or (uKa hu))
noncomputable def kKs(G:Gp):T->Option String
 | .non=>some "NoneType"
 | .bl _=>some "bool"
 | .int _=>some "int"
 | .str _=>some "str"
 | .tup _=>some "tuple"
 | .scr _=>some "list"
 | .ref p=>match G p with
  | some (.lst _)=>some "list"
  | some (.dct _)=>some "dict"
  | some (.dck _)=>some "dict"
  | some (.fdc _)=>none
  | some (.ins _ _)=>none
  | none=>none
 | .ty _=>none
noncomputable def subT(t n:String):Option Bool:=
 if n="bool"\/n="int"\/n="str"\/n="list"\/n="tuple" then some (t == n||(t == "bool"&&n == "int")) else none
variable {n:String}
theorem qY8(K:PySem.W.Frag)(h:subT "bool" n=some b):PySem.W.kitOne K (.type "bool") (.type n)=some b:=by
 unfold subT at h;split at h
 .rename_i hn
  rcases hn with rfl | rfl | rfl | rfl | rfl<;>(cases h;kernel_rfl)
 .cases h
theorem qY7(K:PySem.W.Frag)(h:subT "NoneType" n=some b):PySem.W.kitOne K (.type "NoneType") (.type n)=some b:=by
 unfold subT at h;split at h
 .rename_i hn
  rcases hn with rfl | rfl | rfl | rfl | rfl<;>(cases h;kernel_rfl)
 .cases h
theorem uKz(K:PySem.W.Frag)(h:subT "int" n=some b):PySem.W.kitOne K (.type "int") (.type n)=some b:=by
 unfold subT at h;split at h
 .rename_i hn
  rcases hn with rfl | rfl | rfl | rfl | rfl<;>(cases h;kernel_rfl)
 .cases h
theorem uKy(K:PySem.W.Frag)(h:subT "str" n=some b):PySem.W.kitOne K (.type "str") (.type n)=some b:=by
 unfold subT at h;split at h
 .rename_i hn
  rcases hn with rfl | rfl | rfl | rfl | rfl<;>(cases h;kernel_rfl)
 .cases h
theorem qU4(K:PySem.W.Frag)(h:subT "tuple" n=some b):PySem.W.kitOne K (.type "tuple") (.type n)=some b:=by
 unfold subT at h;split at h
 .rename_i hn
  rcases hn with rfl | rfl | rfl | rfl | rfl<;>(cases h;kernel_rfl)
 .cases h
theorem kZq(K:PySem.W.Frag)(h:subT "list" n=some b):PySem.W.kitOne K (.type "list") (.type n)=some b:=by
 unfold subT at h;split at h
 .rename_i hn
  rcases hn with rfl | rfl | rfl | rfl | rfl<;>(cases h;kernel_rfl)
 .cases h
theorem kZr(K:PySem.W.Frag)(h:subT "dict" n=some b):PySem.W.kitOne K (.type "dict") (.type n)=some b:=by
 unfold subT at h;split at h
 .rename_i hn
  rcases hn with rfl | rfl | rfl | rfl | rfl<;>(cases h;kernel_rfl)
 .cases h
variable {pos:Pos}{e:Expr}{te:TE3}
theorem e_ty{x:Str}(hg:Gl X x)(hm:X.mg x=none)(hv:bootBuiltins x=some (.type n))(hn:x≠"__name__":=by decide)(hd:(x == ("__debug__":Str))=false:=by decide):PE3 X (.Name x pos) (tC (.ty n)):=
 λpins s τ G H Q ⟨σ,I,hs,hg'⟩ q=>thn (uKh (v:= .ty n) hg hm hv rfl hn hd pins s σ H (up X.K H Q) I ⟨.ty n,G,.refl H,hg',rfl,q⟩) λu s' h=>jXi hs h
noncomputable def kitT(t:String):List T->Option Bool
 | []=>some false
 | .ty n::r=>match subT t n with
  | some true=>some true
  | some false=>kitT t r
  | none=>none
 | _::_=>none
noncomputable def isiC:Option String->T->Option Bool
 | some t,.ty n=>subT t n
 | some t,.tup cs=>kitT t cs
 | _,_=>none
def isiT(G:Gp)(x c:T):Option Bool:=isiC (kKs G x) c
def rIsi:List T->Gp->VK3->Prop:=λxs G Q=>∃x c b,xs=[x,c]/\isiT G x c=some b/\Q (.bl b) G
theorem qU5{K:PySem.W.Frag}{H:Hp}{t:String}(ok:∀n b,subT t n=some b->PySem.W.kitOne K (.type t) (.type n)=some b):∀{cs:List T}{vs:List V}{us:List Value}{b:Bool},Reps K H cs vs->Vals vs us->kitT t cs=some b->PySem.W.kitAny K (.type t) us=some b
 | [],_,_,_,r,q,h=>by cases r;cases q;exact h
 | c::cs,_,_,b,⟨v,ws,e,r1,r2⟩,q,h=>by
  subst e;cases q with
  | cons q1 q2=>
   cases c with
   | ty n=>
    cases (show v= .ty n from r1)
    cases q1;unfold kitT at h;unfold PySem.W.kitAny;cases e:subT t n with
    | none=>rw[e] at h;cases h
    | some k=>
     rw[e] at h;rw[ok n k e];cases k with
     | true=>exact h
     | false=>exact qU5 ok r2 q2 h
   | _=>cases h
theorem jQ2{τ:St3}{c:T}{cv:V}{cu:Value}{t:String}{Q:VK3}{Hh:Heap->Prop}(I:Inv X pins σ H s)(hs:SRel X.K H σ τ)(hg:GRel X.K H G)(Z:PySem.W.KitX X.K u (.type t) Hh)(p:Hh s.heap)(hx:u≠ .builtin "__main__.__loader__#opaque")(ok:∀n b,subT t n=some b->PySem.W.kitOne X.K (.type t) (.type n)=some b)(rc:Rep X.K H c cv)(ru:RelV cv cu)(h:isiC (some t) c=some b)(q:Q (.bl b) G):
  wpAny (model X.prog X.w) X.A (call (.builtin "isinstance") [u,cu]) (EP3 X pins τ H Q) X.xe s:=by
 have fin:∀tk,EP3 X pins τ H Q (.bool b) {s with toks:=tk}:=λtk=>⟨.bl b,G,H,.refl H,⟨σ,I.tok tk,hs,hg⟩,⟨.bl b,rfl,rfl⟩,q⟩
 cases c with
 | ty n=>
  cases (show cv= .ty n from rc);cases ru
  exact PySem.W.kia_one Z I.kIn p (ok n b h) hx fin
 | tup cs=>
  obtain⟨pp,vs,e,h1,h2⟩:=(show ∃p vs,cv= .ref p/\H p=some (.tup vs)/\Reps X.K H cs vs from rc)
  subst e;cases ru;obtain⟨its,rv,⟨⟨cls,dd,data,sl⟩,ho,hc,n,hd⟩,_⟩:=I.tuple (.of h1);simp only at hc hd;subst hc hd;exact PySem.W.kia_tup Z I.kIn p ho (qU5 ok h2 rv h) hx fin
 | _=>cases h
theorem jYa:Call3 X (.builtin "isinstance") rIsi:=by
 rintro pins s τ G H xs us Q ⟨σ,I,hs,hg⟩ ⟨as,ras,rvs⟩ ⟨x,c,b,e,h,q⟩;subst e;obtain⟨a,cv,rfl,ra,rc⟩:=qJw ras;obtain⟨u,cu,rfl,ru,rcu⟩:=rvs.two;unfold isiT at h;cases x with
 | non=>cases (show a= .non from ra);cases ru;exact jQ2 I hs hg PySem.W.kitx_none True.intro (λz=>nomatch z) (λn b=>qY7 _) rc rcu h q
 | bl k=>cases (show a= .bl k from ra);cases ru;exact jQ2 I hs hg PySem.W.kitx_bool True.intro (λz=>nomatch z) (λn b=>qY8 _) rc rcu h q
 | int k=>cases (show a= .int k from ra);obtain⟨t,rfl⟩:=ru;exact jQ2 I hs hg PySem.W.kitx_int True.intro (λz=>nomatch z) (λn b=>uKz _) rc rcu h q
 | str k=>cases (show a= .str k from ra);obtain⟨t,rfl⟩:=ru;exact jQ2 I hs hg PySem.W.kitx_str True.intro (λz=>nomatch z) (λn b=>uKy _) rc rcu h q
 | tup ys=>
  obtain⟨p,vs,e,h1,h2⟩:=(show ∃p vs,a= .ref p/\H p=some (.tup vs)/\Reps X.K H ys vs from ra)
  subst e;cases ru;obtain⟨its,rv,⟨o,ho,hc,_⟩,_⟩:=I.tuple (.of h1);exact jQ2 I hs hg PySem.W.kitx_tuple ⟨o,ho,hc⟩ (λz=>nomatch z) (λn b=>qU4 _) rc rcu h q
 | scr ys=>
  obtain⟨p,vs,e,h1,h2⟩:=(show ∃p vs,a= .ref p/\FrL X.K H p vs/\Reps X.K H ys vs from ra)
  subst e;cases ru;obtain⟨its,rv,⟨o,n,ho,hc,_⟩,_⟩:=I.list h1.sq;exact jQ2 I hs hg PySem.W.kitx_list ⟨o,ho,hc⟩ (λz=>nomatch z) (λn b=>kZq _) rc rcu h q
 | ref p=>
  cases (show a= .ref p from ra);cases ru
  cases hG:G p with
  | none=>simp only[kKs,hG] at h;cases h
  | some g=>
   cases g with
   | lst ys=>
    simp only[kKs,hG] at h;obtain⟨vs,h1,h2⟩:=hg.lst hG;obtain⟨its,rv,⟨o,n,ho,hc,_⟩,_⟩:=I.list (.of h1);exact jQ2 I hs hg PySem.W.kitx_list ⟨o,ho,hc⟩ (λz=>nomatch z) (λn b=>kZq _) rc rcu h q
   | fdc kvs=>simp only[kKs,hG] at h;cases h
   | ins _ _=>simp only[kKs,hG] at h;cases h
   | dct kvs=>
    simp only[kKs,hG] at h;obtain⟨ws,h1,_⟩:=hg p _ hG;obtain⟨_,_,xs,_,o,es,ep,h3,h4,_⟩:=(show ObjOk X.prog X.w H s.heap p (.dT ws) from I.hok p _ h1)
    exact jQ2 I hs hg PySem.W.kitx_dict ⟨o,h3,h4.1⟩ (λz=>nomatch z) (λn b=>kZr _) rc rcu h q
   | dck kvs=>
    simp only[kKs,hG] at h;obtain⟨ws,h1,_⟩:=hg p _ hG;obtain⟨_,_,vs,_,pp⟩:=(show ObjOk X.prog X.w H s.heap p (.dK ws) from I.hok p _ h1)
    obtain⟨o,es,ep,h3,h4,_⟩:=pp;exact jQ2 I hs hg PySem.W.kitx_dict ⟨o,h3,h4.1⟩ (λz=>nomatch z) (λn b=>kZr _) rc rcu h q
 | ty _=>cases h
abbrev TO3:=St3->Gp->(Option Int->Gp->Prop)->Prop
def PO3(X:Cx)(e:Option Expr)(t:TO3):Prop:=
 ∀(pins:List (Addr×Obj))(s:Shared)(τ:St3)(G:Gp)(H:Hp)(Q:Option Int->Gp->Prop),Inv3 X pins τ G H s->t τ G Q->
  wpAny (model X.prog X.w) X.A (evalPart e X.env) (λu s'=>∃o G' H',Ext H H'/\Inv3 X pins τ G' H' s'/\IsPart u o/\Q o G') X.xe s
def jJ5:TO3:=λ_ G Q=>Q none G
def jKr(t:TE3):TO3:=λτ G Q=>t τ G λx G1=>∃i,x= .int i/\Q (some i) G1
theorem jUz:PO3 X none jJ5:=by
 intro pins s τ G H Q I h;rw[evalPart_none];exact lJe ⟨none,G,H,.refl H,I,.none,h⟩
theorem jQ0(h:PE3 X e te):PO3 X (some e) (jKr te):=by
 intro pins s τ G H Q I hw;rw[evalPart_some];refine thn (h pins s τ G H _ I hw) λu s1 w_=>w_.el λx G1 H1 e1 I1 r_ ⟨i,ex,q⟩=>r_.el λv rv ru=> ?_
 subst ex;cases (show v= .int i from rv)
 obtain⟨t,rfl⟩:=ru;exact⟨some i,G1,H1,e1,I1,.int i t,q⟩
def Sl3(X:Cx)(r:T->Option Int->Option Int->Gp->VK3->Prop):Prop:=
 ∀(pins:List (Addr×Obj))(s:Shared)(τ:St3)(G:Gp)(H:Hp)(x:T)(v vl vu:Value)(lo hi:Option Int)(sl:Addr)(Q:VK3),Inv3 X pins τ G H s->RU X.K H x v->s.heap.IsSliceOf sl vl vu .none->IsPart vl lo->IsPart vu hi->r x lo hi G Q->
  ∃T id,typeLookup (.type T) "__getitem__"=pure (some (.builtin id))/\s.TypeIs v T/\wpAny (model X.prog X.w) X.A (getItem v (.ref sl)) (EP3 X pins τ H Q) X.xe s
def tSl(r:T->Option Int->Option Int->Gp->VK3->Prop)(te:TE3)(tl th:TO3):TE3:=λτ G Q=>te τ G λx G1=>tl τ G1 λl G2=>th τ G2 λu G3=>r x l u G3 Q
theorem jQd{r:T->Option Int->Option Int->Gp->VK3->Prop}{lo hi:Option Expr}{tl th:TO3}{p2:Pos}(hr:Sl3 X r)(he:PE3 X e te)(hl:PO3 X lo tl)(hu:PO3 X hi th):PE3 X (.Subscript e (.Slice lo hi none p2) pos) (tSl r te tl th):=by
 intro pins s τ G H Q I h;refine Subscript_ (thn (he pins s τ G H _ I h) λv s1 w_=>w_.el λx G1 H1 e1 I1 r1 q1=> ?_)
 refine wpAny_Slice (thn (hl pins s1 τ G1 H1 _ I1 q1) λvl s2 ⟨l,G2,H2,e2,I2,pl,q2⟩=>thn (hu pins s2 τ G2 H2 _ I2 q2) λvu s3 ⟨u,G3,H3,e3,⟨σ,I3,hs3,hg3⟩,pu,q3⟩=> ?_)
 rw[evalPart_none];refine lJe ?_;have I4:Inv X pins σ H3 {s3 with heap:=s3.heap.push {cls:= .type "slice",data:= .fields #[vl,vu,.none]} }:=I3.kept (t':=s3.toks) λb ob q=>lJm _ q
 obtain⟨T0,id,hT,ht,hg⟩:=hr pins {s3 with heap:=s3.heap.push {cls:= .type "slice",data:= .fields #[vl,vu,.none]} } τ G3 H3 x v vl vu l u s3.heap.objs.size Q ⟨σ,I4,hs3,hg3⟩ ((r1.mono e2).mono e3) (Heap.IsSliceOf.new ..) pl pu q3
 show wpAny (model X.prog X.w) X.A (subscriptTail e (.Slice lo hi none p2) v (.ref s3.heap.objs.size)) (EP3 X pins τ H Q) X.xe {s3 with heap:=s3.heap.push {cls:= .type "slice",data:= .fields #[vl,vu,.none]} }
 exact thn (tail_any (ops:=[.ref s3.heap.objs.size,v]) ht hT hg (by with_unfolding_all rfl)) λ_ _ z=>z.ext ((e1.trans e2).trans e3)
noncomputable def cutT(xs:List T)(lo hi:Option Int):List T:=(xs.drop (HT.sIx xs.length 0 lo)).take (HT.sIx xs.length xs.length hi-HT.sIx xs.length 0 lo)
noncomputable def rSlA:T->Option Int->Option Int->Gp->VK3->Prop:=λx lo hi G Q=>
 (∃xs,jU2 G x=some xs/\∀p,G p=none->Q (.ref p) (gup G p (.lst (cutT xs lo hi))))\/∃xs,x= .tup xs/\Q (.tup (cutT xs lo hi)) G
end L3
namespace HT
open PySem PyProof.Rows
theorem getItem_tuple_whole{prog:Program}{w:World}{A:Around}{E:Value->Shared->Prop}{s:Shared}{t sl:Addr}{items:Array Value}{vl vu:Value}{lo hi:Option Int}{Q:Value->Shared->Prop}(ht:IsTup s.heap t items)(hs:s.heap.IsSliceOf sl vl vu .none)(pl:IsPart vl lo)(pu:IsPart vu hi)(hw:sIx items.size 0 lo=0/\sIx items.size items.size hi=items.size)(h:Q (.ref t) s):wpAny (model prog w) A (getItem (.ref t) (.ref sl)) Q E s:=by
 obtain⟨os,hos,hcs,hds⟩:=id hs;have hTs:s.TypeIs (.ref sl) "slice":=⟨os,hos,hcs⟩;unfold getItem
 try with_reducible refine lKz ?_
 first | refine lJb (lJe ?_) | skip
 refine lJb (mJh ht.typeIs (by decide) ?_)
 refine lJb (lVt (name:=Str.ofString "__getitem__") ht.typeIs lQ9
  (lQn lQ9 ht.typeIs mJi ?_ (mJj _ _)))
 show wpAny _ _ (Builtin.Tuple.tupleItemsOf (.ref t) >>= _) _ _ s
 refine lJb (tupleItemsOf_ ht ?_);refine lJb (lVk hTs ?_);rw[lJc (by decide)]
 refine lJb (jVp hs pl pu ?_)
 have hyes:(((sIx items.size 0 lo:Nat):Int) == 0&&(1:Int) == 1&&(sIx items.size items.size hi-sIx items.size 0 lo) == items.size)=true:=by
  rw[hw.1,hw.2];simp
 show wpAny _ _ (if (((sIx items.size 0 lo:Nat):Int) == 0&&(1:Int) == 1&&(sIx items.size items.size hi-sIx items.size 0 lo) == items.size)=true then _ else _) _ _ s
 rw[lJc hyes];refine lJb ?_;unfold Builtin.Tuple.tupleIsExact;refine lJb (lVk ht.typeIs (lJe ?_));rw[lJc (by decide)]
 exact lJb (lQc (lJe ⟨_,rfl,lJe h⟩))
end HT
namespace L3
open PySem PySem.Spec PyProof.Rows L2
variable {X:Cx}{K:PySem.W.Frag}{H:Hp}{xs:List T}{vs:List V}
theorem Reps.cut(r:Reps K H xs vs)(lo hi:Option Int):Reps K H (cutT xs lo hi) (cutV vs lo hi):=by
 unfold cutT cutV;rw[<-r.length];exact (r.drop _).take _
theorem qKm{lo hi:Option Int}(h:HT.sIx xs.length 0 lo=0/\HT.sIx xs.length xs.length hi=xs.length):cutT xs lo hi=xs:=by
 unfold cutT;rw[h.1,h.2];simp
theorem sl_any:Sl3 X rSlA:=by
 rintro pins s τ G H x v vl vu lo hi sl Q ⟨σ,I,hs,hg⟩ ⟨a,ra,rv⟩ hsl pl pu h
 rcases h with ⟨xs,hx,q⟩ | ⟨xs,ex,q⟩
 .obtain⟨p,vs,e,hq,r⟩:=jV8 hg ra hx;subst e;obtain⟨T0,id,h1,h2,h3⟩:=uJ8 pins s σ H (.ref p) v vl vu lo hi sl (up X.K H Q) I rv hsl pl pu ⟨p,vs,rfl,hq,λl hl=>⟨.ref l,_,.upd (.none hl),hg.lstNew (r.cut lo hi) (.none hl),rfl,q l (hg.fresh hl)⟩⟩
  exact⟨T0,id,h1,h2,thn h3 λ_ _ z=>jXi hs z⟩
 .subst ex;obtain⟨p,vs,e,h1,h2⟩:=(show ∃p vs,a= .ref p/\H p=some (.tup vs)/\Reps X.K H xs vs from ra)
  subst e
  by_cases hw:HT.sIx xs.length 0 lo=0/\HT.sIx xs.length xs.length hi=xs.length
  .cases rv;obtain⟨its,rv',ht,hz⟩:=I.tuple (.of h1);have hlen:its.toArray.size=xs.length:=by rw[lJx,<-rv'.length,h2.length]
   refine⟨"tuple",_,lQ9.lookup,ht.typeIs,HT.getItem_tuple_whole ht hsl pl pu (by rw[hlen];exact hw) ?_⟩
   rw[qKm hw] at q;exact⟨.tup xs,G,H,.refl H,⟨σ,I,hs,hg⟩,⟨.ref p,ra,rfl⟩,q⟩
  .obtain⟨T0,id,h3,h4,h5⟩:=uU1 pins s σ H (.ref p) v vl vu lo hi sl (up X.K H Q) I rv hsl pl pu ⟨p,vs,rfl,.of h1,by rw[<-h2.length];exact hw,λl hl=>⟨.tup (cutT xs lo hi),G,.upd (.none hl),hg.tupNew hl,Rep.tupNew (h2.cut lo hi) hl,q⟩⟩
   exact⟨T0,id,h3,h4,thn h5 λ_ _ z=>jXi hs z⟩
def jUu(ta:TA3):TE3:=λτ G Q=>ta τ G λvs G1=>∃j:Int,vs=[.int j]/\ -(2^62)<=j/\j<=2^20/\∀p,G1 p=none->Q (.ref p) (gup G1 p (.lst (rngT 0 j.toNat)))
theorem qYd{n:Nat}(hl:vs.length=n)(h:∀(i:Nat) v,vs[i]? =some v->v= .int (0+i)):Reps K H (rngT 0 n) vs:=by
 have e:vs=(List.range n).map λ(k:Nat)=>V.int (0+k):=by
  apply lQ5;intro i;cases hv:vs[i]? with
  | none=>
   have:n<=i:=by rw[<-hl];exact List.getElem?_eq_none_iff.mp hv
   simp[this]
  | some v=>
   have hi:i<n:=by rw[<-hl];exact (lJk.mp hv).1
   rw[h i v hv];simp[hi]
 rw[e];unfold rngT
 generalize List.range n=l
 induction l with
 | nil=>rfl
 | cons k ks ih=>exact⟨_,_,rfl,rfl,ih⟩
variable {pos p:Pos}
theorem kKg{a:Expr}{ta:TA3}{p2 p3:Pos}(hgl:Gl X "list")(hml:X.mg "list"=none)(hgr:Gl X "range")(hmr:X.mg "range"=none)(hc:X.calm=true)(ha:PA3 X [a] ta)(hs:starEach [a] X.env=[(false,eval a X.env)]:=by rfl)(ho:starEach [Expr.Call (.Name "range" p2) [a] [] p3] X.env=[(false,eval (.Call (.Name "range" p2) [a] [] p3) X.env)]:=by rfl):
  PE3 X (.Call (.Name "list" p) [.Call (.Name "range" p2) [a] [] p3] [] pos) (jUu ta):=by
 intro pins s τ G H Q I h;obtain⟨σ0,I0,hs0,hg0⟩:=id I;refine lZg (jU3 I0 hgl hml (u:= .type "list") (by rfl) ?_)
 refine lVb (T:="list") ?_ ho rfl;rw[ho];show wpAny _ _ (spliced ((false,eval (.Call (.Name "range" p2) [a] [] p3) X.env)::backTo pos [])) _ _ s
 refine Calls.spliced_cons ?_;refine Call_ (jU3 I0 hgr hmr boot_range (lVb (thn (ha p3 pins s τ G H _ I h) λus s1 w_=>w_.el λxs G1 H1 e1 i_ r_ ⟨j,e,q1,q2,q⟩=>i_.el λσ I1 hs1 hg1=>r_.el λas ras rvs=> ?_) hs rfl))
 subst e;obtain⟨v,rfl,rv⟩:=jUg ras;cases (show v= .int j from rv)
 obtain⟨u,rfl,ru⟩:=rvs.one;obtain⟨t,rfl⟩:=ru;refine call_range_1 ?_;refine Calls.spliced_nil ?_;have I2:Inv X pins σ H1 {s1 with heap:=s1.heap.push {cls:= .type "range",data:= .fields #[.int 0 s1.toks,.int j t,.int 1 (s1.toks+1)]},toks:=s1.toks+1+1}:=I1.kept λb o e=>lJm _ e
 refine call_list_range (n:=j.toNat) (I1.ok.hd hc) (IsRange.new ..) (small_one (by omega) (by omega) q1 (by omega)) (by rw[rangeSize_one];split<;>omega) (by omega) λh' tk acc' c' hk hobj hit=> ?_
 have hf:H1 (s1.heap.push {cls:= .type "range",data:= .fields #[.int 0 s1.toks,.int j t,.int 1 (s1.toks+1)]}).objs.size=none:=I2.hok.fresh (lJh _);have hz:acc'.size<=sizeLine:=by rw[hit.1,lKw];omega
 obtain⟨vs,hvs,rr⟩:∃vs:List V,Vals vs acc'.toList/\Reps X.K H1 (rngT 0 j.toNat) vs:=by
  refine⟨(List.range j.toNat).map λ(k:Nat)=>V.int (0+k),?_,qYd (by simp) (λi v hv=> ?_)⟩
  .have all:∀(l:List Value)(n0:Nat),(∀(i:Nat) v,l[i]? =some v->∃t,v= .int ((0:Int)+((n0+i:Nat):Int)*1) t)->Vals ((List.range' n0 l.length).map λ(k:Nat)=>V.int (0+k)) l:=by
    intro l
    induction l with
    | nil=>intro n0 _;exact .nil
    | cons v l ih=>
     intro n0 hh;obtain⟨t,ht⟩:=hh 0 v rfl;rw[lJ8,List.range'_succ,lJo];refine .cons ⟨t,by rw[ht];simp⟩ (ih (n0+1) λi w hw=> ?_)
     obtain⟨t',ht'⟩:=hh (i+1) w (by simpa using hw)
     exact⟨t',by rw[ht'];congr 1;omega⟩
   have:=all acc'.toList 0 (λi v hv=>by
    obtain⟨t,ht⟩:=hit.2 i v (by simpa using hv)
    exact⟨t,by rw[ht];simp⟩)
   rw[List.range_eq_range'];rw[show acc'.toList.length=j.toNat by simpa using hit.1] at this
   exact this
  .rw[lJ0] at hv;cases e:(List.range j.toNat)[i]? with
   | none=>rw[e] at hv;cases hv
   | some k=>
    rw[e] at hv;cases hv;have:=lJk.mp e;obtain⟨h1,h2⟩:=this;simp at h2;rw[<-h2]
 refine⟨.ref _,_,_,e1.trans (.upd (.none hf)),⟨σ,I2.laid (t':=tk) (o:= .lst vs) hk (lJh _) ⟨by rw[hvs.length];simpa using hz,acc'.toList,c',hvs,by simpa using hobj⟩,hs1.mono (.upd (.none hf)),hg1.lstNew rr (.none hf)⟩,⟨.ref _,rfl,rfl⟩,q _ (hg1.fresh hf)⟩
noncomputable def insT(xs:List T)(k:Nat)(y:T):List T:=xs.take k++y::xs.drop k
noncomputable def uKd:T->List T->Gp->VK3->Prop:=λx as G Q=>∃p xs k y,x= .ref p/\as=[.int k,y]/\G p=some (.lst xs)/\0<=k/\k<=xs.length/\xs.length<sizeLine/\Q .non (gup G p (.lst (insT xs k.toNat y)))
noncomputable def kYx:List T->Option Bool
 | []=>some true
 | .bl b::r=>match kYx r with
  | some c=>some (b&&c)
  | none=>none
 | _::_=>none
def rAll:List T->Gp->VK3->Prop:=λas G Q=>∃p xs b,as=[.ref p]/\G p=some (.lst xs)/\kYx xs=some b/\Q (.bl b) G
theorem kXm:∀{xs:List T}{b:Bool},kYx xs=some b->∃bs:List Bool,xs=bs.map T.bl/\b=bs.all (λx=>x)
 | [],b,h=>by cases h;exact⟨[],rfl,rfl⟩
 | .bl c::r,b,h=>by
  unfold kYx at h;cases e:kYx r with
  | none=>rw[e] at h;cases h
  | some d=>
   rw[e] at h;cases h;obtain⟨bs,h1,h2⟩:=kXm e;exact⟨c::bs,by rw[h1];rfl,by rw[h2];rfl⟩
 | .non::_,_,h=>by cases h
 | .int _::_,_,h=>by cases h
 | .str _::_,_,h=>by cases h
 | .tup _::_,_,h=>by cases h
 | .scr _::_,_,h=>by cases h
 | .ref _::_,_,h=>by cases h
 | .ty _::_,_,h=>by cases h
theorem kZc{K:PySem.W.Frag}{H:Hp}:∀{bs:List Bool}{vs:List V}{us:List Value},Reps K H (bs.map T.bl) vs->Vals vs us->us=bs.map Value.bool
 | [],_,_,h,q=>by cases h;cases q;rfl
 | n::ns,_,_,⟨v,ws,e,r,rs⟩,q=>by
  subst e;cases (show v= .bl n from r)
  cases q with
  | cons q1 q2=>cases q1;rw[kZc rs q2];rfl
theorem kXk:∀(bs:List Bool),bs.all (λx=>x)=(List.range bs.length).all λi=>bs.getD i true
 | []=>rfl
 | b::bs=>by
  rw[lQy,kXk bs,lJ8,List.range_succ_eq_map,lQy,lXv];simp[Function.comp_def,List.getD]
theorem qXe(hc:X.calm=true):Call3 X (.builtin "all") rAll:=by
 rintro pins s τ G H as us Q ⟨σ,I,hs,hg⟩ ⟨bs',rbs,rus⟩ ⟨p,xs,b,e,hp,hb,q⟩;subst e;obtain⟨a,rfl,ra⟩:=jUg rbs;cases (show a= .ref p from ra)
 obtain⟨u,rfl,ru⟩:=rus.one;cases ru;obtain⟨vs,h1,h2⟩:=hg.lst hp;obtain⟨bs,ex,eb⟩:=kXm hb;subst ex;obtain⟨its,rv,pl,hz⟩:=I.list (.of h1);have eit:=kZc h2 rv;subst eit;refine call_all_walk (lYg pl.isList ?_);have hne:p≠s.heap.objs.size:=by obtain⟨o,n,ho,_⟩:=pl;exact lJr (lJi ho)
 refine⟨s.heap.objs.size,[s.heap.objs.size,p],[s.heap.objs.size],(bs.map Value.bool).toArray.size,_,_,λi=>bs.getD i true,rfl,Walks.list (A:=X.A.in1) (show X.A.in1.handled=none from I.ok.hd hc) s.heap.objs.size p hne (bs.map Value.bool).toArray,⟨⟨_,lKd _ rfl,rfl,rfl⟩,pl.isList.push _⟩,?_,?_⟩
 .intro i v s' Q' E' hP hQ;have hP':(bs.map Value.bool)[i]? =some v:=by simpa using hP
  rw[lJ0] at hP';cases e:bs[i]? with
  | none=>rw[e] at hP';cases hP'
  | some c=>
   rw[e] at hP';cases hP';have:bs.getD i true=c:=by simp[List.getD,e]
   have hQ':Q' (bs.getD i true) s':=hQ;rw[this] at hQ';exact lVi hQ'
 .intro h' tk hk;have hk2:∀b o,s.heap.get? b=some o->h'.get? b=some o:=λb o e=>hk b o (by simpa using lJr (lJi e)) (lJm _ e)
  refine⟨.bl b,G,H,.refl H,⟨σ,I.kept hk2,hs,hg⟩,⟨.bl b,rfl,?_⟩,q⟩;rw[eb,kXk];simp;rfl
structure Cal (P:Program) (w:World) (K:PySem.W.Frag) (mg:Str->Option Value) (base:Heap) (k:Nat) (x:Str) (ps:List Str) (sp:Sp3):Prop where
 ex:∃f fd,Fn3 P w K mg base k f fd ps sp/\mg x=some (.ref f)/\PySem.W.keepIn K (.ref f)=true/\Binds K fd ps []
 mono:Mono sp
 len:∀xs G Q,sp xs G Q->xs.length=ps.length
theorem jJt{k:Nat}{ps:List Str}{sp:Sp3}{x:Str}{e:Expr}{es:List Expr}{t:TA3}(C:Cal X.prog X.w X.K X.mg X.base k x ps sp)(hr:Room k X.A)(ha:PA3 X (e::es) t)(hg:Gl X x:=by rfl)(hdb:(x == ("__debug__":Str))=false:=by decide)(he:starEach (e::es) X.env=(false,eval e X.env)::starEach es X.env:=by rfl)(hpl:(backTo pos (starEach es X.env)).any (·.1)=false:=by rfl):
  PE3 X (.Call (.Name x p) (e::es) [] pos) (jJk sp t):=by
 intro pins s τ G H Q I h;obtain⟨f,fd,F,hm,hk,hb⟩:=C.ex;obtain⟨σ0,I0,hs0,hg0⟩:=id I;refine lZg (uKx I0 hg hm ?_ hdb);refine PySem.W.callWith_K (h₀:=X.base) I0.ok.mod.kin hk (thn (ha pos pins s τ G H _ I h) λus s1 w_=>w_.el λxs G1 H1 e1 i_ r_ q=>i_.el λσ I1 hs1 hg1=>r_.el λas ras rvs=>⟨I1.kIn,?_⟩) he hpl
 refine thn (uU5 (dvs:=[]) (ds:=[]) (E:=E0) (Q:=up X.K H1 Q) F hr hb .nil uYx I1 rvs ?_) λu s' z=>(jXi hs1 z).ext e1
 rw[lQd];exact⟨by rw[<-ras.length];exact C.len _ _ _ q,xs,G1,ras,hg1,C.mono _ _ _ _ (λt G' hq v H' e g r=>⟨t,G',e,g,r,hq⟩) q⟩
def jQc:=jV0
theorem jZi:Call3 X (.type "list") jQc:=uXz
end L3
namespace L3
open PySem PySem.Spec PyProof.Rows
inductive Res where
 | val (t:T) | newL (xs:List T)
def fin3:Res->Gp->VK3->Prop
 | .val t,G,Q=>Q t G
 | .newL xs,G,Q=>∀p,G p=none->Q (.ref p) (gup G p (.lst xs))
variable {X:L2.Cx}{r r':R3}
theorem Op3.imp{f:Value->Value->Sem Value}(h:Op3 X f r)(i:∀x y G Q,r' x y G Q->r x y G Q):Op3 X f r':=λpins s τ G H x y v u Q I rx ry q=>h pins s τ G H x y v u Q I rx ry (i x y G Q q)
theorem Ix3.imp(h:Ix3 X r)(i:∀x y G Q,r' x y G Q->r x y G Q):Ix3 X r':=λa b pins s τ G H x y v u Q I rx ry q hs=>h a b pins s τ G H x y v u Q I rx ry (i x y G Q q) hs
theorem Set3.imp{r r':T->T->T->Gp->(Gp->Prop)->Prop}(h:Set3 X r)(i:∀o j v G Q,r' o j v G Q->r o j v G Q):Set3 X r':=λpins s τ G H o j v a b c Q I ro rj rv q=>h pins s τ G H o j v a b c Q I ro rj rv (i o j v G Q q)
theorem Sl3.imp{r r':T->Option Int->Option Int->Gp->VK3->Prop}(h:Sl3 X r)(i:∀x l u G Q,r' x l u G Q->r x l u G Q):Sl3 X r':=λpins s τ G H x v vl vu lo hi sl Q I rx hs pl pu q=>h pins s τ G H x v vl vu lo hi sl Q I rx hs pl pu (i x lo hi G Q q)
noncomputable def addR(G:Gp):T->T->Option Res
 | .int i,.int j=>some (.val (.int (i+j)))
 | .ref p,.ref q=>match G p,G q with
  | some (.lst xs),some (.lst ys)=>if xs.length+ys.length<=sizeLine then some (.newL (xs++ys)) else none
  | _,_=>none
 | .tup xs,.tup ys=>if xs.length≠0/\xs.length+ys.length<=sizeLine then some (.val (.tup (xs++ys))) else none
 | _,_=>none
def jK8:R3:=λx y G Q=>∃r,addR G x y=some r/\fin3 r G Q
variable {x y:T}{G:Gp}{Q:VK3}
theorem uZt(h:jK8 x y G Q):uVh x y G Q:=by
 obtain⟨r,hr,q⟩:=h;unfold addR at hr;split at hr
 .cases hr;exact .inl ⟨_,_,rfl,rfl,q⟩
 .rename_i p q'
  split at hr
  .rename_i xs ys h1 h2
   split at hr
   .rename_i hz;cases hr;exact .inr (.inl ⟨p,q',xs,ys,rfl,rfl,h1,h2,hz,q⟩)
   .cases hr
  .cases hr
 .rename_i xs ys
  split at hr
  .rename_i hz;cases hr;exact .inr (.inr ⟨xs,ys,rfl,rfl,λz=>hz.1 (by rw[z];rfl),hz.2,q⟩)
  .cases hr
 .cases hr
theorem o_addF:Op3 X (binaryOp .Add) jK8:=o_addA.imp λ_ _ _ _=>uZt
noncomputable def mulR(G:Gp):T->T->Option Res
 | .int i,.int j=>some (.val (.int (i*j)))
 | .ref p,.int n=>match G p with
  | some (.lst xs)=>if n.toNat * xs.length<=sizeLine/\n<2^62/\ -(2^62)<n then some (.newL (List.replicate n.toNat xs).flatten) else none
  | _=>none
 | _,_=>none
def mulC:T->T->Prop
 | .int i,.int j=>L2.CMul i j
 | _,_=>True
def jZu:R3:=λx y G Q=>∃r,mulR G x y=some r/\mulC x y/\fin3 r G Q
theorem uY8(h:jZu x y G Q):uVe x y G Q:=by
 obtain⟨r,hr,c,q⟩:=h;unfold mulR at hr;split at hr
 .cases hr;exact .inl ⟨_,_,rfl,rfl,c,q⟩
 .rename_i p n
  split at hr
  .rename_i xs h1
   split at hr
   .rename_i hz;cases hr;exact .inr ⟨p,xs,n,rfl,rfl,h1,hz.1,hz.2.1,hz.2.2,q⟩
   .cases hr
  .cases hr
 .cases hr
theorem o_mulF:Op3 X (binaryOp .Mult) jZu:=o_mulA.imp λ_ _ _ _=>uY8
def ixR(G:Gp)(x y:T):Option T:=match seqT G x with
 | some xs=>match y with
  | .int i=>L2.atI xs i
  | _=>none
 | none=>match dAt G x y with
  | some o=>o
  | none=>none
def rIxF:R3:=λx y G Q=>∃t,ixR G x y=some t/\Q t G
theorem uZd(h:rIxF x y G Q):rIxA x y G Q:=by
 obtain⟨t,ht,q⟩:=h;unfold ixR at ht;split at ht
 .rename_i xs hx
  split at ht
  .rename_i i;exact .inl ⟨xs,i,t,hx,rfl,ht,q⟩
  .cases ht
 .split at ht
  .rename_i o ho;subst ht;exact .inr ⟨t,ho,q⟩
  .cases ht
theorem ix_F(hu:X.A.units+20<cLine):Ix3 X rIxF:=(uK2 hu).imp λ_ _ _ _=>uZd
noncomputable def setR(G:Gp)(o i v:T):Option Gp:=match o with
 | .ref p=>match G p with
  | some (.lst xs)=>match i with
   | .int k=>match L2.ixN xs.length k with
    | some j=>some (gup G p (.lst (xs.set j v)))
    | none=>none
   | _=>none
  | some (.dct kvs)=>match i with
   | .tup ys=>match jXm ys with
    | some ks=>if kvs.length<sizeLine then some (gup G p (.dct (putT kvs ks v))) else none
    | none=>none
   | _=>none
  | some (.dck kvs)=>match jZx i with
   | some k=>if kvs.length<sizeLine then some (gup G p (.dck (putT kvs k v))) else none
   | none=>none
  | some (.fdc _)=>none
  | some (.ins _ _)=>none
  | none=>none
 | _=>none
def kKw:T->T->T->Gp->(Gp->Prop)->Prop:=λo i v G Q=>∃G',setR G o i v=some G'/\Q G'
theorem uU3{o i v:T}{Q:Gp->Prop}(h:kKw o i v G Q):uVa o i v G Q:=by
 obtain⟨G',hr,q⟩:=h;unfold setR at hr;split at hr
 .rename_i p
  split at hr
  .rename_i xs h1
   split at hr
   .rename_i k
    split at hr
    .rename_i j hj;cases hr;exact .inl ⟨p,xs,k,j,rfl,rfl,h1,hj,q⟩
    .cases hr
   .cases hr
  .rename_i kvs h1
   split at hr
   .rename_i ys
    split at hr
    .rename_i ks hk
     split at hr
     .rename_i hz;cases hr;exact .inr (.inl ⟨p,ys,ks,kvs,rfl,rfl,hk,h1,hz,q⟩)
     .cases hr
    .cases hr
   .cases hr
  .rename_i kvs h1
   split at hr
   .rename_i k hk
    split at hr
    .rename_i hz;cases hr;exact .inr (.inr ⟨p,k,kvs,rfl,hk,h1,hz,q⟩)
    .cases hr
   .cases hr
  .cases hr
  .cases hr
  .cases hr
 .cases hr
theorem s_F(hu:X.A.units+20<cLine):Set3 X kKw:=(uYo hu).imp λ_ _ _ _ _=>uU3
noncomputable def rLeF:R3:=λx y G Q=>∃b,(match x,y with
 | .int i,.int j=>some (decide (i<=j))
 | .tup [.int a,.int b],.tup [.int c,.int d]=>some (HT.lexLe [a,b] [c,d])
 | _,_=>none)=some b/\Q (.bl b) G
theorem uY9(h:rLeF x y G Q):rLeA x y G Q:=by
 obtain⟨b,hb,q⟩:=h;split at hb
 .cases hb;exact .inl ⟨_,_,rfl,rfl,q⟩
 .cases hb;exact .inr ⟨_,_,rfl,rfl,q⟩
 .cases hb
theorem qJ9(hu:X.A.units+20<cLine):Op3 X (compareOp .LtE) rLeF:=(uY6 hu).imp λ_ _ _ _=>uY9
noncomputable def inR(G:Gp)(x y:T):Option Bool:=match seqT G y with
 | some xs=>if jX7 x=true/\xs.all jX7=true then some (inT x xs) else none
 | none=>match dAt G y x with
  | some o=>some o.isSome
  | none=>none
def jVk:R3:=λx y G Q=>∃b,inR G x y=some b/\Q (.bl (!b)) G
theorem qYz(h:jVk x y G Q):qQ9 x y G Q:=by
 obtain⟨b,hb,q⟩:=h;unfold inR at hb;split at hb
 .rename_i xs hx
  split at hb
  .rename_i hc;cases hb;exact .inl ⟨xs,hx,hc.1,hc.2,q⟩
  .cases hb
 .split at hb
  .rename_i o ho;cases hb;exact .inr ⟨o,ho,q⟩
  .cases hb
theorem kVv(hu:X.A.units+20<cLine):Op3 X (compareOp .NotIn) jVk:=(uKq hu).imp λ_ _ _ _=>qYz
noncomputable def slR(G:Gp)(x:T)(lo hi:Option Int):Option Res:=match x with
 | .tup xs=>some (.val (.tup (cutT xs lo hi)))
 | .scr xs=>some (.newL (cutT xs lo hi))
 | .ref p=>match G p with
  | some (.lst xs)=>some (.newL (cutT xs lo hi))
  | _=>none
 | _=>none
def rSlF:T->Option Int->Option Int->Gp->VK3->Prop:=λx lo hi G Q=>∃r,slR G x lo hi=some r/\fin3 r G Q
theorem uYl{lo hi:Option Int}(h:rSlF x lo hi G Q):rSlA x lo hi G Q:=by
 obtain⟨r,hr,q⟩:=h;unfold slR at hr;split at hr
 .cases hr;exact .inr ⟨_,rfl,q⟩
 .cases hr;exact .inl ⟨_,rfl,q⟩
 .split at hr
  .rename_i xs h1;cases hr;exact .inl ⟨xs,by simp only[jU2,h1,asL],q⟩
  .cases hr
 .cases hr
theorem sl_F:Sl3 X rSlF:=sl_any.imp λ_ _ _ _ _=>uYl
end L3
namespace L2
open PySem PySem.Spec PyProof.Rows
section
variable {X:Cx}{tg:Expr}
end
end L2
namespace L3
open PySem PySem.Spec PyProof.Rows L2
def Draw(P:Program)(w:World)(A:Around)(i:Addr)(r:Option Value)(S S':Heap->Prop):Prop:=
 ∀(s:Shared)(Q E:Value->Shared->Prop),S s.heap->
  (∀x g,r=some x->S' g->Heap.SameBut i s.heap g->Q x {s with heap:=g})->
  (∀g e o,r=none->Heap.ExtBut i s.heap g->g.get? e=some o->o.cls= .type "StopIteration"->E (.ref e) {s with heap:=g})->
  wpAny (model P w) A (Builtin.SmallTypes.nextOf (.ref i)) Q E s
def qKq(i t:Addr)(k:Nat)(xs:Array Value)(h:Heap):Prop:=h.IsTupleIter i t k/\h.IsTuple t xs
theorem kQu{P:Program}{w:World}{A:Around}{i t:Addr}{k:Nat}{xs:Array Value}(hh:A.handled=none)(ne:t≠i):Draw P w A i xs[k]? (qKq i t k xs) (qKq i t (k+1) xs):=by
 rintro s Q E ⟨⟨o,ho,hc,hd⟩,q,hq,hqc,n,hn⟩ item stop;have ty:s.TypeIs (.ref i) "tuple_iterator":=⟨o,ho,hc⟩;refine lJb (lVt (name:=Str.ofString "__next__") ty mJr (lQn mJr ty F.entry_tuple_iterator_next ?_ (F.args_tuple_iterator_next_1 _)));refine (show wpAny _ _ (field (.ref i) 0 >>= _) _ _ s from lJb (lVj ho hd (x:= .ref t) rfl ?_))
 refine (show wpAny _ _ (if (Value.ref t == Value.none)=true then _ else field (.ref i) 1 >>= _) _ _ s from ?_)
 rw[lJa (by exact lJu)]
 refine lJb (lVj ho hd (x:= .int k 0) rfl (show wpAny _ _ (seqItems? (.ref t) >>= _) _ _ s from lJb (wpAny_seqItems hq hn ?_)))
 cases hx:xs[k]? with
 | some x=>
  simp only[hx,lYr]
  have up:qKq i t (k+1) xs (s.heap.update i (Obj.mapFields (·.setIfInBounds 1 (rawInt ((k:Int)+1))))):=by
   refine⟨⟨_,lXo _ ho (Obj.isFreed_of_fields (Obj.data_mapFields hd _)),(Obj.cls_mapFields ..).trans hc,?_⟩,q,(lXw ..).extBut t q ne hq,hqc,n,hn⟩;rw[Obj.data_mapFields hd];simp[rawInt]
  exact lJb (wpAny_setField ho hd (by simp) (lJe ⟨x,rfl,lJe (item x _ hx up (lXw ..))⟩))
 | none=>
  simp only[hx,lYr];refine lJb (lQc (lJb (wpAny_setField ho hd (by simp) (show wpAny _ _ (newExc (.type "StopIteration") [] >>= _) _ _ _ from lJb ?_))))
  simp only[newExc,newTuple,raiseNew];refine lJb (lK3 (lJb (m:=firstArgMember _ _) (wpAny_of_eq (a:=Value.none) (by first | rfl | (simp only[firstArgMember];rfl)) (lK3 ?_ (by size_fits)))) (by size_fits))
  refine lJb (wpAny_handled ?_);rw[show A.in1.handled=none from hh]
  exact lJb (lJe (wpAny_throw (stop _ _ _ hx (((lXw ..).extBut.push _).push _) (lKd _ rfl) rfl)))
noncomputable def itOf(t:Addr):Obj:={cls:= .type "tuple_iterator",data:= .fields #[.ref t,.int 0 0]}
end L3
namespace L3
open PySem
variable {n:Nat}
theorem atN{α:Type}{xs:List α}:L2.atI xs (n:Int)=xs[n]? :=by
 unfold L2.atI L2.ixN
 by_cases h:n<xs.length
 .simp[h]
 .simp[h]
theorem at0{α:Type}{x:α}{xs:List α}:L2.atI (x::xs) 0=some x:=(atN (n:=0)).trans rfl
theorem at1{α:Type}{x y:α}{xs:List α}:L2.atI (x::y::xs) 1=some y:=(atN (n:=1)).trans rfl
theorem at2{α:Type}{x y z:α}{xs:List α}:L2.atI (x::y::z::xs) 2=some z:=(atN (n:=2)).trans rfl
variable {i:Int}
theorem atZ{α:Type}{xs:List α}(h:0<=i):L2.atI xs i=xs[i.toNat]? :=by
 obtain⟨n,rfl⟩:=lKu h
 simpa using atN
theorem qU9{k:Nat}(h:k<n):L2.ixN n (k:Int)=some k:=by simp[L2.ixN,h]
theorem ix0:L2.ixN (n+1) 0=some 0:=qU9 (k:=0) (by omega)
theorem ix1:L2.ixN (n+2) 1=some 1:=qU9 (k:=1) (by omega)
theorem ix2:L2.ixN (n+3) 2=some 2:=qU9 (k:=2) (by omega)
theorem ix30:L2.ixN 3 0=some 0:=ix0
theorem ix31:L2.ixN 3 1=some 1:=ix1
theorem ix32:L2.ixN 3 2=some 2:=ix2
theorem ixZ{k:Int}(h0:0<=k)(h:k<n):L2.ixN n k=some k.toNat:=by simp[L2.ixN,h0,h]
variable {G:Gp}{j:Int}
theorem qZx:addR G (.int i) (.int j)=some (.val (.int (i+j))):=rfl
variable {p:Addr}{xs:List T}
theorem jUn{q:Addr}{ys:List T}(h1:G p=some (.lst xs))(h2:G q=some (.lst ys))(hz:xs.length+ys.length<=sizeLine):addR G (.ref p) (.ref q)=some (.newL (xs++ys)):=by simp only[addR,h1,h2,hz,lKm]
theorem qY0:mulR G (.int i) (.int j)=some (.val (.int (i*j))):=rfl
theorem qY2:mulC (.int i) (.int j)=L2.CMul i j:=rfl
theorem qY1:mulC (.ref p) (.int j)=True:=rfl
variable {Q:VK3}
theorem uQf{t:T}:fin3 (.val t) G Q=Q t G:=rfl
theorem uQg:fin3 (.newL xs) G Q=∀p,G p=none->Q (.ref p) (gup G p (.lst xs)):=rfl
theorem uK3:ixR G (.tup xs) (.int i)=L2.atI xs i:=rfl
theorem uK4:ixR G (.scr xs) (.int i)=L2.atI xs i:=rfl
theorem jQv(h:G p=some (.lst xs)):ixR G (.ref p) (.int i)=L2.atI xs i:=by simp only[ixR,seqT,h,asL]
variable {v:T}
theorem qX5{k:Int}{j:Nat}(h:G p=some (.lst xs))(hj:L2.ixN xs.length k=some j):setR G (.ref p) (.int k) v=some (gup G p (.lst (xs.set j v))):=by simp only[setR,h,hj]
theorem qX8:seqT G (.tup xs)=some xs:=rfl
theorem jJn(h:G p=some (.lst xs)):seqT G (.ref p)=some xs:=by simp only[seqT,h,asL]
theorem kY8{k:Int}(h:G p=some (.lst xs)):setR G (.ref p) (.int k) v=(L2.ixN xs.length k).map λj=>gup G p (.lst (xs.set j v)):=by
 cases e:L2.ixN xs.length k with
 | none=>simp only[setR,h,e,Option.map_none]
 | some j=>simp only[setR,h,e,lQq]
theorem qX6{k:Int}:setR (gup G p (.lst xs)) (.ref p) (.int k) v=(L2.ixN xs.length k).map λj=>gup G p (.lst (xs.set j v)):=by
 rw[kY8 jJe];simp only[qVh]
theorem uK5:ixR (gup G p (.lst xs)) (.ref p) (.int i)=L2.atI xs i:=jQv jJe
theorem qYa:seqT (gup G p (.lst xs)) (.ref p)=some xs:=jJn jJe
def uZu(g:TG3)(tb:TS3)(D:Ends3)(τ:St3)(xs:List T)(stay:Gp->Prop)(G:Gp):Prop:=∃P:Nat->St3->Gp->Prop,P 0 τ G/\(∀i τ G,i<=xs.length->P i τ G->stay G)/\
 (∀i x τ G,xs[i]? =some x->P i τ G->g x τ G λτ2 G2=>tb {D with nx:=P (i+1),ct:=P (i+1),bk:=D.nx} τ2 G2)/\∀ τ G,P xs.length τ G->D.nx τ G
variable {wi:TI3}{g:TG3}{τ:St3}
theorem jKh{tb:TS3}{D:Ends3}:tFor wi g tb D τ G=wi τ G λxs stay G1=>uZu g tb D τ xs stay G1:=rfl
def kXt(mask:List Bool)(g:TG3)(tif:TT3)(te:TE3)(τ:St3)(xs:List T)(stay:Gp->Prop)(G:Gp)(Q:VK3):Prop:=kQx mask g tif te τ xs stay G Q
variable {mask:List Bool}{tif:TT3}{te:TE3}
theorem qXw:jKt mask wi g tif te τ G Q=wi τ G λxs stay G1=>kXt mask g tif te τ xs stay G1 Q:=rfl
def Sub(G G':Gp):Prop:=∀c o,G c=some o->G' c=some o
theorem Sub.refl(G:Gp):Sub G G:=λ_ _ h=>h
theorem Sub.trans{G1 G2:Gp}(h:Sub G G1)(h':Sub G1 G2):Sub G G2:=λc o e=>h' c o (h c o e)
variable {o:GO}
theorem Sub.new(hp:G p=none):Sub G (gup G p o):=λc u e=>by rw[jJw];exact e;rintro rfl;rw[hp] at e;cases e
variable {G':Gp}
theorem Sub.over(h:Sub G G')(hp:G p=none):Sub G (gup G' p o):=λc u e=>by rw[jJw];exact h c u e;rintro rfl;rw[hp] at e;cases e
theorem Sub.none(h:Sub G G')(hp:G' p=none):G p=none:=by
 cases e:G p with
 | none=>rfl
 | some o=>rw[h p o e] at hp;cases hp
variable {a:Addr}
theorem jQ3(h:gup G a o p=none):p≠a/\G p=none:=by
 by_cases e:p=a
 .subst e;rw[jJe] at h;cases h
 .rw[jJw e] at h;exact⟨e,h⟩
theorem jJi(h:G a=some o)(hp:G p=none):a≠p:=by rintro rfl;rw[h] at hp;cases hp
theorem Sub.seq{x:T}(h:Sub G G')(e:seqT G x=some xs):seqT G' x=some xs:=by
 cases x with
 | ref p=>have:=jXe e;simp only[seqT,h p _ this,asL]
 | tup _=>exact e
 | scr _=>exact e
 | non=>exact e
 | bl _=>exact e
 | int _=>exact e
 | str _=>exact e
 | ty _=>exact e
theorem jKy{α β:Type}{enc:α->β}{es:List α}{i:Nat}{x:β}(h:(es.map enc)[i]? =some x):∃e,es[i]? =some e/\x=enc e:=by
 rw[lJ0] at h;cases e1:es[i]? with
 | none=>rw[e1] at h;cases h
 | some e=>rw[e1] at h;exact⟨e,rfl,(lJ3 h).symm⟩
theorem kJe{α:Type}{es:List α}{enc:α->T}{stay:Gp->Prop}(f:α->Option T)(hz:es.length<=sizeLine)(hst:∀G',Sub G G'->stay G')(h:∀(i:Nat) e,es[i]? =some e->∀G' (K:T->Gp->Prop) (K0:Gp->Prop),Sub G G'->(∀y G4,f e=some y->Sub G' G4->K y G4)->(f e=none->∀G4,Sub G' G4->K0 G4)->g (enc e) (msk mask τ) G' λτ2 G2=>tif τ2 G2 λb G3=>if b=true then te τ2 G3 K else K0 G3)(hq:∀D G',G D=none->G' D=some (.lst (es.filterMap f))->Sub G G'->Q (.ref D) G'):kXt mask g tif te τ (es.map enc) stay G Q:=by
 intro D hD;refine⟨λi acc G'=>acc=(es.take i).filterMap f/\G' D=some (.lst acc)/\Sub G G',⟨by simp,jJe,.new hD⟩,?_,?_,?_⟩
 .rintro i acc G' hi ⟨ea,eg,hs⟩;exact⟨hst G' hs,eg⟩
 .rintro i x acc G' hx0 ⟨ea,eg,hs⟩;obtain⟨e,hx,rfl⟩:=jKy hx0;have hi:i<es.length:=(lJk.mp hx).1;have tk:es.take (i+1)=es.take i++[e]:=by rw[lQr,hx];rfl
  have hlen:acc.length<sizeLine:=by
   have h1:acc.length<=(es.take i).length:=by rw[ea];exact List.length_filterMap_le _ _
   rw[lKe] at h1;omega
  refine h i e hx G' _ _ hs (λy G4 hy h4=>⟨h4 D _ eg,hlen,?_,jJe,(hs.trans h4).over hD⟩) λhn G4 h4=>⟨?_,h4 D _ eg,hs.trans h4⟩
  .rw[tk,List.filterMap_append,<-ea];simp[hy]
  .rw[tk,List.filterMap_append,<-ea];simp[hn]
 .rintro acc G' ⟨ea,eg,hs⟩;rw[lJd,lQz] at ea;rw[ea] at eg;exact hq D G' hD eg hs
theorem jKe{α:Type}{es:List α}{enc:α->T}{stay:Gp->Prop}(f:α->T)(hz:es.length<=sizeLine)(hst:∀G',Sub G G'->stay G')(h:∀(i:Nat) e,es[i]? =some e->∀G' (K:T->Gp->Prop) (K0:Gp->Prop),Sub G G'->(∀G4,Sub G' G4->K (f e) G4)->g (enc e) (msk mask τ) G' λτ2 G2=>tif τ2 G2 λb G3=>if b=true then te τ2 G3 K else K0 G3)(hq:∀D G',G D=none->G' D=some (.lst (es.map f))->Sub G G'->Q (.ref D) G'):kXt mask g tif te τ (es.map enc) stay G Q:=by
 refine kJe (λe=>some (f e)) hz hst (λi e he G' K K0 hs hk _=>h i e he G' K K0 hs λG4 h4=>hk _ G4 rfl h4) λD G' hD h1 h2=>hq D G' hD ?_ h2
 rw[h1];congr 2;induction es with
 | nil=>rfl
 | cons a as ih=>simp
theorem jQq(h:G p=some (.lst xs)):tyT G "list" (.ref p)=True:=by simp[tyT,h]
theorem uJ3:tyT (gup G p (.lst xs)) "list" (.ref p)=True:=jQq jJe
theorem jXb{α:Type}{es:List α}{enc:α->T}{stay:Gp->Prop}(f:α->List T)(hz:es.length<=sizeLine)(hst:∀G',Sub G G'->stay G')(h:∀(i:Nat) e,es[i]? =some e->∀G' (K:T->Gp->Prop) (K0:Gp->Prop),Sub G G'->(∀p G4,G' p=none->G4 p=some (.lst (f e))->Sub G' G4->K (.ref p) G4)->g (enc e) (msk mask τ) G' λτ2 G2=>tif τ2 G2 λb G3=>if b=true then te τ2 G3 K else K0 G3)(hq:∀D rs G',G D=none->G' D=some (.lst (rs.map T.ref))->Sub G G'->rs.length=es.length->(D::rs).Nodup->(∀(i:Nat)(r:Addr)(e:α),rs[i]? =some r->es[i]? =some e->G r=none/\G' r=some (.lst (f e)))->Q (.ref D) G'):kXt mask g tif te τ (es.map enc) stay G Q:=by
 intro D hD;refine⟨λi acc G'=>∃rs:List Addr,acc=rs.map T.ref/\rs.length=i/\G' D=some (.lst acc)/\Sub G G'/\(D::rs).Nodup/\(∀(i:Nat)(r:Addr)(e:α),rs[i]? =some r->es[i]? =some e->G r=none/\G' r=some (.lst (f e))),⟨[],rfl,rfl,jJe,.new hD,by simp,by simp⟩,?_,?_,?_⟩
 .rintro i acc G' hi ⟨rs,ea,hl,eg,hs,hn,hr⟩;exact⟨hst G' hs,eg⟩
 .rintro i x acc G' hx0 ⟨rs,ea,hl,eg,hs,hn,hr⟩;obtain⟨e,hx,rfl⟩:=jKy hx0;have hi:i<es.length:=(lJk.mp hx).1;have hlen:acc.length<sizeLine:=by rw[ea,lJd];omega
  refine h i e hx G' _ _ hs λp G4 hp h4 s4=>⟨s4 D _ eg,hlen,rs++[p],by simp[ea],by simp[hl],jJe,(hs.trans s4).over hD,?_,?_⟩
  .have hDp:D≠p:=jJi eg hp
   have hpr:p∉rs:=by
    intro hm;obtain⟨j,hj⟩:∃j:Nat,_:=lJ9 hm
    have hjl:j<rs.length:=(lJk.mp hj).1;have:=(hr j p es[j] hj (lJl (by omega))).2
    rw[hp] at this;cases this
   rw[lK4] at hn;simp only[lK4,lJn,lJz,not_or,lXx,lKy,not_false_eq_true,lXy,and_true];exact⟨⟨hn.1,hDp⟩,hn.2,trivial,λa ha b hb=>by subst hb;rintro rfl;exact hpr ha⟩
  .intro j r e' hj he';have hjl:j<rs.length+1:=by have:=(lJk.mp hj).1;simpa using this
   by_cases hjr:j<rs.length
   .rw[lK6 hjr] at hj;obtain⟨q1,q2⟩:=hr j r e' hj he';have:r≠D:=by rintro rfl;exact (lK4.mp hn).1 (lJs hj)
    exact⟨q1,by rw[jJw this];exact s4 _ _ q2⟩
   .have hj2:j=rs.length:=by omega
    subst hj2;rw[lQb (lJh _)] at hj;simp at hj;subst hj;rw[hl,hx] at he';cases he';exact⟨hs.none hp,by rw[jJw (jJi eg hp).symm];exact h4⟩
 .rintro acc G' ⟨rs,ea,hl,eg,hs,hn,hr⟩;rw[ea] at eg;exact hq D rs G' hD eg hs (by simpa using hl) hn hr
end L3
namespace L3
open PySem PySem.Spec PyProof.Rows L2
variable {X:Cx}
def uVg:R3:=λx y G Q=>∃ys,x= .tup []/\y= .tup ys/\Q (.tup ys) G
theorem uV1:Op3 X (binaryOp .Add) uVg:=by
 rintro pins s τ G H x y v u Q ⟨σ,I,hs,hg⟩ ⟨a,ra,rv⟩ ⟨b,rb,ru⟩ ⟨ys,ex,ey,q⟩;subst ex;subst ey;obtain⟨pa,vs,rfl,h1,r1⟩:=(show ∃p vs,a= .ref p/\H p=some (.tup vs)/\Reps X.K H [] vs from ra)
 obtain⟨pb,ws,rfl,h2,r2⟩:=(show ∃p vs,b= .ref p/\H p=some (.tup vs)/\Reps X.K H ys vs from rb)
 cases rv;cases ru;obtain⟨its,q1,p1,_⟩:=I.tuple (.of h1);obtain⟨its2,q2,p2,_⟩:=I.tuple (.of h2)
 have e0:its.toArray.isEmpty=true:=by
  have e1:=r1.length;have e2:=q1.length;have:its=[]:=mJs (by simp at e1;omega)
  rw[this];rfl
 obtain⟨⟨cls,dd,data,sl⟩,ho,hc,n,hd⟩:=id p1;obtain⟨⟨cls2,dd2,data2,sl2⟩,ho2,hc2,n2,hd2⟩:=id p2;simp only at hc hd hc2 hd2;subst hc hd hc2 hd2
 exact concat_meets ⟨_,ho,rfl⟩ ⟨_,ho2,rfl⟩ mJg seq_tuple_add lZn lZo (lZp _ _) (tuple_addW0 pa pb its.toArray its2.toArray n n2 dd dd2 sl sl2 e0)
  ⟨ho,ho2,.tup ys,G,H,.refl H,⟨σ,I,hs,hg⟩,⟨.ref pb,⟨pb,ws,rfl,h2,r2⟩,rfl⟩,q⟩
def jJv:R3:=λx y G Q=>jK8 x y G Q\/uVg x y G Q
theorem jKm:Op3 X (binaryOp .Add) jJv:=o_addF.or uV1
variable {P:Program}{w:World}{A:Around}
theorem qVz(hh:A.handled=none)(it t:Addr)(ne:t≠it)(xs:Array Value):Draws P w A it [it,t] xs.size (λi v=>xs[i]? =some v) (λi h=>qKq it t i xs h) where
 live:=λ_ _ ⟨⟨o,ho,_⟩,_⟩=>⟨o,ho⟩
 frame:=λ_ _ _ ⟨⟨o,ho,r⟩,⟨q,hq,r'⟩⟩ k=>⟨⟨o,k it (by simp) o ho,r⟩,⟨q,k t (by simp) q hq,r'⟩⟩
 item:=λi s Q E hi st hQ=>kQu hh ne s Q E st (λx g e s' b=>hQ x g s.toks e s' b) λ_ _ _ e=>by rw[lK7 hi] at e;cases e
 done:=λs Q E st hE=>kQu hh ne s Q E st (λx _ e=>by rw[lVc (lJh _)] at e;cases e) λg e o _ b he hc=>hE g e b ⟨o,he,hc⟩
noncomputable def kZ7(i:Addr):Obj:={cls:= .type "enumerate",data:= .fields #[.none,.bool false,.ref i,rawInt 0,.none,.none]}
theorem qZl(t:Addr)(xs:Array Value):
  Meets (Builtin.«enumerate.__new__» ⟨[.type "enumerate",.ref t],[]⟩) λ_ R s=>s.heap.IsTuple t xs/\R (.ok (.ret (.ref (s.heap.push (itOf t)).objs.size))) {s with heap:=(s.heap.push (itOf t)).push (kZ7 s.heap.objs.size)}:=by
 refine .of_wp λP w A R s ⟨ht,h⟩=> ?_
 obtain⟨g,a1,a2,a3,a4⟩:=s;have sb:=sub_enumerate;have m1:Heap.IsTuple (Shared.heap ⟨g,a1,a2,a3,a4⟩) t xs:=ht;obtain⟨⟨c,dct,dt,sl⟩,hl,hc,n,hd⟩:=id ht
 replace hc:c= .type "tuple":=hc
 replace hd:dt= .seq xs n:=hd
 subst hc hd
 wp_walk using AutoSeq1.wpAny_loadPart' hl
 refine wpAny_stack_any (λstk=>lJe ?_)
 split
 .rename_i k _ _ _ _ _
  cases (k == Value.type "enumerate")<;>(wp_walk using AutoSeq1.wpAny_loadPart' hl,wpAny_pyIter_tuple m1;exact⟨_,rfl,h⟩)
 .wp_walk using AutoSeq1.wpAny_loadPart' hl,wpAny_pyIter_tuple m1;exact⟨_,rfl,h⟩
variable {s:Shared}{xs:Array Value}{E:Value->Shared->Prop}
theorem qVw{t:Addr}{Q:Value->Shared->Prop}(ht:s.heap.IsTuple t xs)(h:∀g n,n=s.heap.objs.size->IsEnum g (n+1) n 0 .none->qKq n t 0 xs g->(∀c o,s.heap.get? c=some o->g.get? c=some o)->Q (.ref (n+1)) {s with heap:=g}):wpAny (model P w) A (call (.type "enumerate") [.ref t]) Q E s:=by
 refine callType_new F.called_enumerate (by decide) (F.typeCall_enumerate_1 _) (F.newCall_enumerate_1 _) (λobj=>F.args_object_init_2 obj _) F.entry_enumerate_new (qZl t xs) ⟨ht,?_⟩
 have hn:∀(g:Heap)(o:Obj),(g.push o).objs.size=g.objs.size+1:=λ_ _=>lV1 ..
 have up:∀{g:Heap}{o q:Obj}{c:Addr},g.get? c=some q->(g.push o).get? c=some q:=λe=>lJm _ e
 obtain⟨q,hq,hr⟩:=ht;have c0:((s.heap.push (itOf t)).push (kZ7 s.heap.objs.size)).get? s.heap.objs.size=some (itOf t):=up (lKd _ rfl);have c1:((s.heap.push (itOf t)).push (kZ7 s.heap.objs.size)).get? (s.heap.push (itOf t)).objs.size=some (kZ7 s.heap.objs.size):=lKd _ rfl;show _/\_
 simp only[hn] at c1 ⊢;exact⟨⟨_,c1,rfl⟩,h _ _ rfl c1 ⟨⟨_,c0,rfl,rfl⟩,q,up (up hq),hr⟩ λc o e=>up (up e)⟩
variable {e it:Addr}{i:Int}
theorem jU8{t:Addr}{k:Nat}{old:Value}{Q:Option Value->Shared->Prop}(hh:A.handled=none)(ne:t≠it)(he:IsEnum s.heap e it i old)(st:qKq it t k xs s.heap)(hk:xs.size<=k)(hQ:∀g,Heap.ExtBut it s.heap g->Q none {s with heap:=g}):wpAny (model P w) A (pyNext (.ref e)) Q E s:=by
 have ty:s.TypeIs (.ref e) "enumerate":=⟨_,he,rfl⟩;refine lJb (lYh (lVt (name:=Str.ofString "__next__") ty F.slot_enumerate_next (lQn F.slot_enumerate_next ty F.entry_enumerate_next ?_ (F.args_enumerate_next_1 _))));refine (show wpAny _ _ (field (.ref e) 2 >>= _) _ _ _ from lJb (lVj he rfl (x:= .ref it) rfl (lJb ?_)))
 refine kQu (A:=A.in1) hh ne s _ _ st (λx _ e=>by rw[lVc hk] at e;cases e) λg x o _ b hx hc=> ?_
 exact lJb (lZe (T:="StopIteration") (b:=true) ⟨o,hx,hc⟩ isSubtype_stop (lJe (hQ g b)))
noncomputable def Itn(K:PySem.W.Frag)(a:Addr):It:=
 ⟨λi H=>∃xs x,SqT K H a xs/\xs[i]? =some x,λi H x H'=>∃p y,H p=none/\x= .ref p/\(∀xs,SqT K H a xs->xs[i]? =some y)/\H'=upd H p (.tup [.int i,y]),λi H=>∃xs,SqT K H a xs/\xs.length<=i⟩
theorem kZ6{h:Heap}{a:Addr}{old:Value}{k:Nat}(he:IsEnum h e it i old)(hi:h.IsTupleIter it a k)(ht:h.IsTuple a xs):a≠it/\e∉[it,a]:=by
 obtain⟨o,ho,hc,_⟩:=hi;obtain⟨q,hq,hqc,_⟩:=ht;refine⟨λz=> ?_,λm=> ?_⟩
 .subst z;rw[ho] at hq;cases hq;rw[hc] at hqc;simp at hqc
 .simp only[lJp,lKy,lQw] at m
  rcases m with rfl | rfl
  .rw[he] at ho;cases ho;simp at hc
  .rw[he] at hq;cases hq;simp at hqc
variable {K:PySem.W.Frag}{elts:List Expr}{pos:Pos}
theorem qJq{k:Nat}(a e it:Addr)(hei:e≠it):
  Turn P w K (.Tuple elts k pos) (Itn K a) [e,it] e (λi h=>(∃old,IsEnum h e it i old)/\h.IsTupleIter it a i) where
 mem:=lJv ..
 obj:=λi h ⟨⟨old,h1⟩,h2⟩ b hb=>by
  simp only[lKy,lJp,lQw] at hb
  rcases hb with rfl | rfl
  .exact⟨_,h1,λv z=>nomatch (show Data.fields _=Data.cell v from z)⟩
  .obtain⟨o,e2,c,d⟩:=h2;exact⟨o,e2,λv z=>by rw[d] at z;cases z⟩
 keep:=λi h h' ⟨⟨old,h1⟩,h2⟩ kp=>⟨⟨old,kp e (by simp) _ h1⟩,h2.at λo q=>kp it (by simp) o q⟩
 item:=by
  rintro X hP hw hK hc i pins s σ H E I hf ⟨⟨old,he⟩,hit⟩ ⟨xs,x,hq,hx⟩;subst hP hw hK;obtain⟨its,rv,p,hz⟩:=I.tuple hq;obtain⟨u,hu,ru⟩:=rv.get hx;have p':s.heap.IsTuple a its.toArray:=p;obtain⟨nei,hef⟩:=kZ6 he hit p';have hlt:i<its.toArray.size:=by simpa using (lJk.mp hu).1
  refine wpAny_pyNext_enum_itemD (qVz (A:=X.A.in1) (I.ok.hd hc) it a nei its.toArray) he ⟨hit,p'⟩ hlt hei hef λx' h1 tk hx' ho hit1 hT hsz hk=> ?_
  obtain rfl:u=x':=by simpa[hu] using hx'
  refine⟨_,rfl,mJy ho λh2 he2 hs2=> ?_⟩
  have hel:e<s.heap.objs.size:=lJi he
  have hp2:∀b o,b∉[e,it]->s.heap.get? b=some o->h2.get? b=some o:=λb o hb q=>by
   simp only[lJp,lKy,lQw,not_or] at hb;exact (hs2.2 b hb.1).trans (hk b o hb.1 hb.2 q)
  have hT2:h2.get? s.heap.objs.size=some {cls:= .type "tuple",data:= .seq #[.int i tk,u]}:=(hs2.2 _ (lQl hel)).trans hT;have I2:=kVb (t':=tk+1) (h':=h2) (p:=s.heap.objs.size) (vs:=[.int i,x]) (us:=[.int i tk,u]) I hp2 hf (lJh _) ⟨_,hT2,rfl,_,rfl,rfl⟩ (.cons ⟨_,rfl⟩ (.cons ru .nil)) (by show 2<=sizeLine;decide)
  refine⟨.ref s.heap.objs.size,_,I2,rfl,⟨_,x,I.hok.fresh (lJh _),rfl,λys hy=>by rw[I.tuple_inj hy hq];exact hx,rfl⟩,⟨⟨u,by simpa using he2⟩,hit1.1.at λo q=>(hs2.2 it hei.symm).trans q⟩,λb hb=> ?_⟩
  have hbs:∃o,s.heap.get? b=some o:=by
   have hb':=hb;simp only[lKy,lJp,lQw] at hb'
   rcases hb' with rfl | rfl
   .exact⟨_,he⟩
   .obtain⟨o,q,_⟩:=hit;exact⟨o,q⟩
  obtain⟨o,q⟩:=hbs;rw[jKf (lJr (lJi q))];exact (hf b hb).1
 done:=by
  rintro X hP hw hK hc i pins s σ H E I hf ⟨⟨old,he⟩,hit⟩ ⟨xs,hq,hx⟩;subst hP hw hK;obtain⟨its,rv,p,hz⟩:=I.tuple hq;have p':s.heap.IsTuple a its.toArray:=p;obtain⟨nei,hef⟩:=kZ6 he hit p';have hl:=rv.length;refine jU8 (I.ok.hd hc) nei he ⟨hit,p'⟩ (by simp;omega) λh1 hx1=>⟨rfl,qK1 (t':=s.toks) I (λb o hb q=>hx1 b o (λz=>hb (by simp[z])) q) hf⟩
 self:=λ_ _ _ _ _ ⟨⟨old,he⟩,_⟩ h=>lZj he h
def iEnT(ta:TA3):TI3:=λτ G R=>ta τ G λvs G1=>∃xs,vs=[.tup xs]/\R (numT xs) (λ_=>True) G1
theorem qVf{k:Nat}{tpos p:Pos}{a:Expr}{ta:TA3}(hg:Gl X "enumerate")(hm:X.mg "enumerate"=none)(hv:bootBuiltins "enumerate"=some (.type "enumerate"))(ha:PA3 X [a] ta)(hs:starEach [a] X.env=[(false,eval a X.env)]:=by rfl):
  PI3 X (.Tuple elts k tpos) (.Call (.Name "enumerate" p) [a] [] pos) (iEnT ta):=by
 intro pins s τ G H R I h;obtain⟨σ0,I0,_,_⟩:=id I;refine Call_ (jU3 I0 hg hm hv (lVb (thn (ha pos pins s τ G H _ I h) λus s1 w_=>w_.el λxs' G1 H1 e1 i_ r_ q1=>i_.el λσ I1 hs1 hg1=>r_.el λas ras rvs=> ?_) hs rfl))
 obtain⟨xs,e,q⟩:=q1;subst e;obtain⟨v,rfl,rv⟩:=jUg ras;obtain⟨u,rfl,ru⟩:=rvs.one;obtain⟨pa,vs,rfl,hq,r⟩:=(show ∃p vs,v= .ref p/\H1 p=some (.tup vs)/\Reps X.K H1 xs vs from rv)
 cases ru;obtain⟨its,rvv,pl,hz⟩:=I1.tuple (.of hq);refine qVw (show s1.heap.IsTuple pa its.toArray from pl) λh1 n hn he hit hk=> ?_
 subst hn;have I2:Inv X pins σ H1 {s1 with heap:=h1}:=I1.kept (t':=s1.toks) hk
 refine lZj (Q:=PIE3 X pins τ H (.Tuple elts k tpos) R) he ?_
 have fr:∀b∈[s1.heap.objs.size+1,s1.heap.objs.size],FpOk X pins H1 b:=λb hb=>by
  simp only[lKy,lJp,lQw] at hb;have hle:s1.heap.objs.size<=b:=by omega
  exact I1.fpOk hle (I1.hok.fresh hle)
 refine⟨s1.heap.objs.size+1,[s1.heap.objs.size+1,s1.heap.objs.size],_,_,numT xs,λ_=>True,G1,H1,rfl,e1,⟨σ,I2,hs1,hg1⟩,qJq pa _ _ (Nat.succ_ne_self _),⟨⟨.none,he⟩,hit.1⟩,fr,?_,q⟩
 intro i H2 G2 e2 g2 _;obtain⟨pb,ws,eb,h1',h2⟩:=(show ∃p vs,V.ref pa= .ref p/\H2 p=some (.tup vs)/\Reps X.K H2 xs vs from Rep.mono e2 _ rv)
 cases eb;have hlen:=h2.length;refine⟨λhi=> ?_,λhi=>⟨ws,.of h1',by rw[jJ4] at hi;omega⟩,λhi y H' ⟨pp,z,hn,ey,hy,eH⟩=> ?_⟩
 .rw[jJ4] at hi;exact⟨ws,ws[i]'(by omega),.of h1',by simp[hlen▸hi]⟩
 .subst ey;subst eH;obtain⟨t,ht,rt⟩:=h2.get' (hy ws (.of h1'));exact⟨.upd (.none hn),g2.tupNew hn,_,jYl ht,Rep.tupNew ⟨_,_,rfl,rfl,_,_,rfl,rt,rfl⟩ hn⟩
theorem qXk{K:PySem.W.Frag}{H:Hp}{y:T}{b:V}(ry:Rep K H y b)(fy:jX7 y=true):∀{xs:List T}{vs:List V}{us:List Value},Reps K H xs vs->Vals vs us->xs.all jX7=true->∀(m:Nat)(x:T)(u:Value),xs[m]? =some x->us[m]? =some u->eqU b u=eqT x y
 | [],_,_,_,_,_=>λm x u h=>by simp at h
 | x::xs,_,_,⟨v,ws,e,r1,r2⟩,q,f=>by
  subst e;cases q with
  | cons q1 q2=>
   rw[lQy,lKv] at f;intro m z u hz hu;cases m with
   | zero=>cases hz;cases hu;rw[qVt q1 (kJb r1 f.1),qVo r1 ry f.1 fy]
   | succ m=>exact qXk ry fy r2 q2 f.2 m z u hz hu
noncomputable def uJg:T->List T->Gp->VK3->Prop:=λx as G Q=>∃(p:Addr)(xs:List T)(y z:T)(j:Nat),x= .ref p/\as=[y]/\G p=some (.lst xs)/\jX7 y=true/\xs.all jX7=true/\xs[j]? =some z/\eqT z y=true/\(∀(m:Nat)(t:T),m<j->xs[m]? =some t->eqT t y=false)/\Q (.int j) G
theorem uKv:Mt3 X "list.index" uJg:=by
 rintro pins s τ G H x as v us Q ⟨σ,I,hs,hg⟩ ⟨a,ra,rv⟩ ⟨bs,rbs,rus⟩ ⟨p,xs,y,z,j,ex,ea,hp,fy,fs,hj,hit,hno,q⟩;subst ex;subst ea;cases (show a= .ref p from ra);cases rv
 obtain⟨b,rfl,rb⟩:=jUg rbs;obtain⟨u,rfl,ru⟩:=rus.one;obtain⟨vs,h1,h2⟩:=hg.lst hp;obtain⟨hz,its,n,r,hl,e⟩:=I.lstM h1;have fl:=(kUu rb fy h2 fs).1;have hlen:its.length=xs.length:=by have:=r.length;have:=h2.length;omega
 have hjl:j<xs.length:=(lJk.mp hj).1;have hsl:=kQf;refine lQ3 F.slot_list_index ⟨_,e,rfl⟩ F.entry_list_index (F.args_list_index_2 _ _) (SeqAt.list_indexAt p its.toArray n none #[] u (eqU b) j (by simp;omega) (by omega) ?_ ?_) ⟨e,λw hw=>jZ7 ru (kJb rb fy) r fl w (by simpa using hw),?_⟩
 .rw[qXk rb fy h2 r fs j z _ hj (by simp)];exact hit
 .intro m hm hmj;have hx:xs[m]? =some xs[m]:=lJl (by omega)
  rw[qXk rb fy h2 r fs m xs[m] _ hx (by simp)];exact hno m _ hmj hx
 .exact⟨.int _,G,H,.refl H,⟨σ,I.tok _,hs,hg⟩,⟨.int _,rfl,s.toks,rfl⟩,q⟩
noncomputable def qQa(tk tv:TE3):TE3:=λτ G Q=>∀p,G p=none->tk τ (gup G p (.dck [])) λx G1=>tv τ G1 λy G2=>∃k,jZx x=some k/\G2 p=some (.dck [])/\Q (.ref p) (gup G2 p (.dck [(k,y)]))
theorem uQs{k v:Expr}{tk tv:TE3}(hk:PE3 X k tk)(hv:PE3 X v tv):PE3 X (.Dict [some k] [v] pos) (qQa tk tv):=by
 rintro pins s τ G H Q ⟨σ,I,hs,hg⟩ h;have hn:=I.hok.fresh (lJh s.heap.objs.size);have I1:=I.laid (a:=s.heap.objs.size) (o:= .dK []) (h':=s.heap.push {cls:= .type "dict",data:= .dict #[]}) (t':=s.toks) (λ_ _ q=>lJm _ q) (lJh _) (qZq s.heap I.big)
 have I3:Inv3 X pins τ (gup G s.heap.objs.size (.dck [])) (upd H s.heap.objs.size (.dK [])) {s with heap:=s.heap.push {cls:= .type "dict",data:= .dict #[]},toks:=s.toks}:=
  ⟨σ,I1,hs.mono (.upd (.none hn)),hg.upd (.none hn) (go:= .dck []) ⟨[],jK9,.nil⟩⟩
 refine wpAny_Dict_walk (knd:=jJ8 X.prog X.w) rfl rfl (by simp) (by simp) (pairTrees_cons_walk (thn (hk pins _ τ _ _ _ I3 (h _ (hg.fresh hn))) λu s1 w_=>w_.el λx G1 H1 e1 J1 ru q1=>thn (hv pins s1 τ G1 H1 _ J1 q1) λu2 s2 w_=>w_.el λy G2 H2 e2 i_ ru2 ⟨key,hkey,hd,q2⟩=>i_.el λσ2 J2 hs2 hg2=>pairTrees_nil_walk ?_))
 obtain⟨ws,hH2,pk⟩:=(show ∃ws,H2 s.heap.objs.size=some (.dK ws)/\PKV X.K H2 [] ws from hg2 _ _ hd)
 cases pk;obtain⟨a,ra,rva⟩:=ru.mono e2;obtain⟨c,rc,rvc⟩:=ru2;obtain rfl:=jYn hkey ra;obtain⟨rs,cr,rk⟩:=kQn (P:=X.prog) (w:=X.w) (kvs:=[(key,c)]) (ws:=[(u,u2)]) (.cons ⟨rva,rvc⟩ .nil);obtain⟨z,hdd,vs0,r0,dd⟩:=uQz J2.hok hH2;cases r0;refine⟨rs,cr,dd,λh' dd' hsb=> ?_⟩
 have he:∃q,h'.get? s.heap.objs.size=some q:=let ⟨q,_,_,hq,_⟩:=dd';⟨q,hq⟩
 have JJ:=kYs (t':=s2.toks+[(u,u2)].length) J2 (by rw[hH2];exact True.intro) hsb he (uJw (kvs:=[(key,c)]) (by rw[lKw];exact Nat.succ_le_of_lt (lXf _)) hdd (rk.merge .nil) dd')
 have ext:Ext H2 (upd H2 s.heap.objs.size (.dK [(key,c)])):= .upd (.dK hH2);exact⟨.ref s.heap.objs.size,_,_,(((Ext.upd (.none hn)).trans e1).trans e2).trans ext,⟨σ2,JJ,hs2.mono ext,hg2.upd (.dK hH2) (go:= .dck [(key,y)]) ⟨_,jK9,PKV.put (kvs:=[]) .nil key (Rep.mono ext _ rc)⟩⟩,⟨.ref _,rfl,rfl⟩,q2⟩
theorem uZc{k:Key}{u:Value}(h:(jJ8 P w).is k u=true):RelV (kV k) u:=by
 cases k with
 | inl i=>exact Value.isInt_shape h
 | inr x=>
  have h':Value.isStrOf x u=true:=h;cases u<;>simp[Value.isStrOf] at h'
  subst h';exact⟨_,rfl⟩
theorem kVa:∀(us:List Value)(ks:List Key),us.length=ks.length->(∀(j:Nat)(v:Value)(k:Key),us[j]? =some v->ks[j]? =some k->RelV (kV k) v)->Vals (ks.map kV) us
 | [],[],_,_=> .nil
 | u::us,k::ks,hl,h=> .cons (h 0 u k rfl rfl) (kVa us ks (by simpa using hl) λj v k' h1 h2=>h (j+1) v k' h1 h2)
 | [],_::_,e,_=>by simp at e
 | _::_,[],e,_=>by simp at e
theorem kJp{K:PySem.W.Frag}{H:Hp}:∀ks:List Key,Reps K H (ks.map kT) (ks.map kV)
 | []=>rfl
 | .inl i::ks=>⟨_,_,rfl,rfl,kJp ks⟩
 | .inr x::ks=>⟨_,_,rfl,rfl,kJp ks⟩
theorem KV.keys{kvs:List (Key×V)}{vs:List (Key×Value)}(h:KV kvs vs):vs.map Prod.fst=kvs.map Prod.fst:=by
 unfold KV at h
 induction h with
 | nil=>rfl
 | cons h t ih=>rw[lJo,lJo,ih,h.1]
theorem PKV.keys{H:Hp}{kvs:List (Key×T)}{ws:List (Key×V)}(h:PKV K H kvs ws):ws.map Prod.fst=kvs.map Prod.fst:=by
 unfold PKV at h
 induction h with
 | nil=>rfl
 | cons h t ih=>rw[lJo,lJo,ih,h.1]
noncomputable def qUa:List T->Gp->VK3->Prop:=λxs G Q=>∃(p:Addr)(kvs:List (Key×T)),xs=[.ref p]/\G p=some (.dck kvs)/\∀q,G q=none->Q (.ref q) (gup G q (.lst (kvs.map λkv=>kT kv.1)))
theorem uQ5(hc:X.calm=true):Call3 X (.type "list") qUa:=by
 rintro pins s τ G H xs us Q ⟨σ,I,hs,hg⟩ ⟨as,ras,rvs⟩ ⟨p,kvs,e,hp,q⟩;subst e;obtain⟨v,rfl,rv⟩:=jUg ras;obtain⟨u,rfl,ru⟩:=rvs.one;cases (show v= .ref p from rv);cases ru
 obtain⟨ws,h1,h2⟩:=(show ∃ws,H p=some (.dK ws)/\PKV X.K H kvs ws from hg p _ hp)
 obtain⟨z,hd,vs,kv,dd⟩:=uQz I.hok h1;obtain⟨ep,dat⟩:=dd.dictAt;have hk:=KV.keys kv;have hk2:ws.map Prod.fst=kvs.map Prod.fst:=PKV.keys h2;have hlen:vs.length=ws.length:=by simpa using lKa List.length hk
 refine PySem.W.kdl_call (PySem.W.kdl_dict (knd:=jJ8 X.prog X.w) (kvs:=vs) (ep:=ep) hd) (I.ok.hd hc) dat (by omega) λh' tk acc c' kp hn it=> ?_
 have hv:Vals ((kvs.map Prod.fst).map kV) acc.toList:=kVa _ _ (by rw[<-hk2,<-hk];simpa using it.1) λj v k h1 h2=>by
  obtain⟨k',x,e1,e2⟩:=it.2 j v (by simpa using h1)
  rw[<-hk2,<-hk,lJ0,e1] at h2;cases h2;exact uZc e2
 have fr:=I.hok.fresh (lJh s.heap.objs.size);have hkl:(kvs.map Prod.fst).length=ws.length:=by rw[<-hk2];simp
 have I3:=I.laid (a:=s.heap.objs.size) (o:= .lst ((kvs.map Prod.fst).map kV)) (h':=h') (t':=tk) kp (lJh _) ⟨by rw[lJd,hkl];exact z,acc.toList,c',hv,by simpa using hn⟩
 have ext:Ext H (upd H s.heap.objs.size (.lst ((kvs.map Prod.fst).map kV))):= .upd (.none fr);refine⟨.ref _,_,_,ext,⟨σ,I3,hs.mono ext,hg.lstNew (kJp _) (.none fr)⟩,⟨.ref _,rfl,rfl⟩,?_⟩;have:=q _ (hg.fresh fr);rw[lJ1];exact this
end L3
namespace L3
open PySem PySem.Spec PyProof.Rows L2 MeetsSeq
section
variable {X:Cx}
end
end L3
namespace L3
open PySem PySem.Spec PyProof.Rows L2
variable {X:Cx}
section
variable {P:Program}{w:World}{A:Around}{E:Value->Shared->Prop}{s:Shared}{d:Addr}
theorem jZk{o:Obj}{es:Array DictEntry}{ep:Nat}{Q:Value->Shared->Prop}(hd:(d == sysModules)=false)(ho:s.heap.get? d=some o)(hc:o.ExactDict)(hx:o.data= .dict es ep)(hz:es.size<=sizeLine)(h:Q (.int es.size (s.toks+1)) {s with toks:=s.toks+1+1}):wpAny (model P w) A (call (.builtin "len") [.ref d]) Q E s:=by
 have hsl:=lKw;have ty:s.TypeIs (.ref d) "dict":=⟨o,ho,hc.1⟩;refine Calls.call_function_entry kind_len plain_len entry_len (args_len1 _) ?_;unfold Builtin.«len»; refine lJb (m:=oneArg "len" _) (lJe ?_)
 have M:MeetsIn P w (Builtin.«dict.__len__» ⟨[.ref d],[]⟩) (λ_ R z=>(∃o es ep,z.heap.get? d=some o/\o.data= .dict es ep/\R (.ok (.ret (.int es.size z.toks))) {z with toks:=z.toks+1})):=
  .of_wp λA R z ⟨o,es,ep,ho,hx,h⟩=>by
   refine (show wpAny _ _ (dictSize d >>= _) _ _ z from ?_)
   unfold dictSize;refine lJb (lJb (wpAny_dictEntries ho hx (lJe ?_)));refine (show wpAny _ _ (Builtin.Dict.pendingCount d >>= _) _ _ z from lJb (wpAny_pendingCount_other hd (wpAny_ret_mkInt ?_)))
   rw[lXg];exact h
 refine lJb (m:=callSpecial? (.ref d) (Str.ofString "__len__")) (lVt (name:=Str.ofString "__len__") ty F.slot_dict_len (call_meetsIn F.slot_dict_len ty F.entry_dict_len (F.args_dict_len_1 _) M ⟨o,es,ep,ho,hx,?_⟩));refine (show wpAny _ _ _ _ _ {s with toks:=s.toks+1} from lJb (lKz (lJe (lJb (wpAny_letGo ?_)))))
 refine (show wpAny _ _ (if ((es.size:Nat):Int)<0 then _ else _) _ _ _ from ?_);rw[lJa (by omega)]
 refine (show wpAny _ _ (if ((es.size:Nat):Int)>=2^63 then _ else _) _ _ _ from ?_);rw[lJa (by omega)]
 exact (lJb (wpAny_mkInt (lJe ⟨_,rfl,h⟩)))
end
noncomputable def lenG(G:Gp):T->Option Nat
 | .ref p=>match G p with
  | some (.lst xs)=>some xs.length
  | some (.dct kvs)=>some kvs.length
  | some (.dck kvs)=>some kvs.length
  | some (.fdc _)=>none
  | some (.ins _ _)=>none
  | none=>none
 | .tup xs=>some xs.length
 | .scr xs=>some xs.length
 | _=>none
def qUb:List T->Gp->VK3->Prop:=λxs G Q=>∃x n,xs=[x]/\lenG G x=some n/\Q (.int (n:Nat)) G
theorem qXd:Call3 X (.builtin "len") qUb:=by
 rintro pins s τ G H xs us Q I rs ⟨x,n,ex,hx,q⟩
 by_cases hd:∃p,x= .ref p/\((∃kvs,G p=some (.dct kvs))\/∃kvs,G p=some (.dck kvs))
 .subst ex;obtain⟨p,rfl,hk⟩:=hd;obtain⟨σ,I,hs,hg⟩:=I;obtain⟨as,ras,rvs⟩:=rs;obtain⟨v,rfl,rv⟩:=jUg ras;obtain⟨u,rfl,ru⟩:=rvs.one;cases (show v= .ref p from rv);cases ru
  rcases hk with ⟨kvs,hG⟩ | ⟨kvs,hG⟩
  .simp only[lenG,hG] at hx;cases hx;obtain⟨ws,h1,h2⟩:=hg p _ hG;obtain⟨z,y,xs,r,o,es,ep,e1,e2,e3,e4,e5⟩:=(show ObjOk X.prog X.w H s.heap p (.dT ws) from I.hok p _ h1)
   have l1:es.size=kvs.length:=by
    have a1:=lKa List.length e4;have a2:=lQ7 r;have a3:=h2.length;simp at a1;omega
   refine jZk y e1 e2 e3 (by have:=h2.length;omega) ?_
   rw[l1];exact⟨.int (kvs.length:Nat),G,H,.refl H,⟨σ,I.tok _,hs,hg⟩,⟨.int _,rfl,_,rfl⟩,q⟩
  .simp only[lenG,hG] at hx;cases hx;obtain⟨ws,h1,h2⟩:=hg p _ hG;obtain⟨z,y,vs,rel,o,es,ep,e1,e2,e3,e4,e5,e6⟩:=(show ObjOk X.prog X.w H s.heap p (.dK ws) from I.hok p _ h1)
   have l1:es.size=kvs.length:=by
    have a1:=e5.length;have a2:=rel.length;have a3:=h2.length;simp at a1;omega
   refine jZk y e1 e2 e3 (by have:=h2.length;omega) ?_
   rw[l1];exact⟨.int (kvs.length:Nat),G,H,.refl H,⟨σ,I.tok _,hs,hg⟩,⟨.int _,rfl,_,rfl⟩,q⟩
 .refine jK1 pins s τ G H xs us Q I rs ?_;cases x with
  | ref p=>
   cases hG:G p with
   | none=>simp only[lenG,hG] at hx;cases hx
   | some g=>
    cases g with
    | lst ys=>simp only[lenG,hG] at hx;cases hx;exact⟨_,ys,ex,by simp only[seqT,hG,asL],q⟩
    | dct kvs=>exact absurd ⟨p,rfl,.inl ⟨kvs,hG⟩⟩ hd
    | fdc kvs=>simp only[lenG,hG] at hx;cases hx
    | ins _ _=>simp only[lenG,hG] at hx;cases hx
    | dck kvs=>exact absurd ⟨p,rfl,.inr ⟨kvs,hG⟩⟩ hd
  | tup ys=>cases hx;exact⟨_,ys,ex,rfl,q⟩
  | scr ys=>cases hx;exact⟨_,ys,ex,rfl,q⟩
  | non=>cases hx
  | bl _=>cases hx
  | int _=>cases hx
  | str _=>cases hx
  | ty _=>cases hx
theorem jUs:∀{is:List Int}{us:List Value},Vals (is.map V.int) us->∃ps:List (Int×Tok),us=ps.map (λp=> .int p.1 p.2)/\ps.map (·.1)=is
 | [],_,.nil=>⟨[],rfl,rfl⟩
 | i::is,_,.cons ⟨t,e⟩ r=>by
  obtain⟨ps,e1,e2⟩:=jUs r;subst e1;subst e2;subst e;exact⟨(i,t)::ps,rfl,rfl⟩
theorem qKz:∀{xs:List V}{us:List Value},Vals xs us->Vals xs.reverse us.reverse
 | _,_,.nil=> .nil
 | x::xs,u::us,.cons r rs=>by
  rw[lXz,(lXz)];exact Vals.append (qKz rs) (.cons r .nil)
theorem qQt{K:PySem.W.Frag}{H:Hp}:∀{xs:List T}{vs:List V},Reps K H xs vs->Reps K H xs.reverse vs.reverse
 | [],_,h=>by cases (show _=_ from h);rfl
 | x::xs,_,⟨v,ws,e,r,rs⟩=>by
  subst e;rw[lXz,(lXz)];exact (qQt rs).append ⟨v,[],rfl,r,rfl⟩
section
variable {pos:Pos}
end
theorem szle{n:Nat}(h:Nat.ble n 16777216=true):n<=sizeLine:=by rw[lZt];exact Nat.le_of_ble_eq_true h
end L3
namespace L3
theorem xe1{A0:Type}{σ:Type}{f:A0->σ}{p:A0->Prop}{τ:σ}{C:σ->Prop}(h:∃a0,τ=f a0/\p a0)(k:∀a0,p a0->C (f a0)):C τ:=by
 obtain⟨a0,e,h⟩:=h;rw[e];exact k _ h
theorem xi1{A0:Type}{σ:Type}{f:A0->σ}{p:A0->Prop}{τ:σ}(a0:A0)(e:τ=f a0)(h:p a0):∃a0,τ=f a0/\p a0:=⟨a0,e,h⟩
theorem xe2{A0 A1:Type}{σ:Type}{f:A0->A1->σ}{p:A0->A1->Prop}{τ:σ}{C:σ->Prop}(h:∃a0 a1,τ=f a0 a1/\p a0 a1)(k:∀a0 a1,p a0 a1->C (f a0 a1)):C τ:=by
 obtain⟨a0,a1,e,h⟩:=h;rw[e];exact k _ _ h
theorem xi2{A0 A1:Type}{σ:Type}{f:A0->A1->σ}{p:A0->A1->Prop}{τ:σ}(a0:A0)(a1:A1)(e:τ=f a0 a1)(h:p a0 a1):∃a0 a1,τ=f a0 a1/\p a0 a1:=⟨a0,a1,e,h⟩
theorem xe3{A0 A1 A2:Type}{σ:Type}{f:A0->A1->A2->σ}{p:A0->A1->A2->Prop}{τ:σ}{C:σ->Prop}(h:∃a0 a1 a2,τ=f a0 a1 a2/\p a0 a1 a2)(k:∀a0 a1 a2,p a0 a1 a2->C (f a0 a1 a2)):C τ:=by
 obtain⟨a0,a1,a2,e,h⟩:=h;rw[e];exact k _ _ _ h
theorem xi3{A0 A1 A2:Type}{σ:Type}{f:A0->A1->A2->σ}{p:A0->A1->A2->Prop}{τ:σ}(a0:A0)(a1:A1)(a2:A2)(e:τ=f a0 a1 a2)(h:p a0 a1 a2):∃a0 a1 a2,τ=f a0 a1 a2/\p a0 a1 a2:=⟨a0,a1,a2,e,h⟩
theorem xe4{A0 A1 A2 A3:Type}{σ:Type}{f:A0->A1->A2->A3->σ}{p:A0->A1->A2->A3->Prop}{τ:σ}{C:σ->Prop}(h:∃a0 a1 a2 a3,τ=f a0 a1 a2 a3/\p a0 a1 a2 a3)(k:∀a0 a1 a2 a3,p a0 a1 a2 a3->C (f a0 a1 a2 a3)):C τ:=by
 obtain⟨a0,a1,a2,a3,e,h⟩:=h;rw[e];exact k _ _ _ _ h
theorem xe5{A0 A1 A2 A3 A4:Type}{σ:Type}{f:A0->A1->A2->A3->A4->σ}{p:A0->A1->A2->A3->A4->Prop}{τ:σ}{C:σ->Prop}(h:∃a0 a1 a2 a3 a4,τ=f a0 a1 a2 a3 a4/\p a0 a1 a2 a3 a4)(k:∀a0 a1 a2 a3 a4,p a0 a1 a2 a3 a4->C (f a0 a1 a2 a3 a4)):C τ:=by
 obtain⟨a0,a1,a2,a3,a4,e,h⟩:=h;rw[e];exact k _ _ _ _ _ h
theorem xe6{A0 A1 A2 A3 A4 A5:Type}{σ:Type}{f:A0->A1->A2->A3->A4->A5->σ}{p:A0->A1->A2->A3->A4->A5->Prop}{τ:σ}{C:σ->Prop}(h:∃a0 a1 a2 a3 a4 a5,τ=f a0 a1 a2 a3 a4 a5/\p a0 a1 a2 a3 a4 a5)(k:∀a0 a1 a2 a3 a4 a5,p a0 a1 a2 a3 a4 a5->C (f a0 a1 a2 a3 a4 a5)):C τ:=by
 obtain⟨a0,a1,a2,a3,a4,a5,e,h⟩:=h;rw[e];exact k _ _ _ _ _ _ h
theorem xe7{A0 A1 A2 A3 A4 A5 A6:Type}{σ:Type}{f:A0->A1->A2->A3->A4->A5->A6->σ}{p:A0->A1->A2->A3->A4->A5->A6->Prop}{τ:σ}{C:σ->Prop}(h:∃a0 a1 a2 a3 a4 a5 a6,τ=f a0 a1 a2 a3 a4 a5 a6/\p a0 a1 a2 a3 a4 a5 a6)(k:∀a0 a1 a2 a3 a4 a5 a6,p a0 a1 a2 a3 a4 a5 a6->C (f a0 a1 a2 a3 a4 a5 a6)):C τ:=by
 obtain⟨a0,a1,a2,a3,a4,a5,a6,e,h⟩:=h;rw[e];exact k _ _ _ _ _ _ _ h
theorem xe8{A0 A1 A2 A3 A4 A5 A6 A7:Type}{σ:Type}{f:A0->A1->A2->A3->A4->A5->A6->A7->σ}{p:A0->A1->A2->A3->A4->A5->A6->A7->Prop}{τ:σ}{C:σ->Prop}(h:∃a0 a1 a2 a3 a4 a5 a6 a7,τ=f a0 a1 a2 a3 a4 a5 a6 a7/\p a0 a1 a2 a3 a4 a5 a6 a7)(k:∀a0 a1 a2 a3 a4 a5 a6 a7,p a0 a1 a2 a3 a4 a5 a6 a7->C (f a0 a1 a2 a3 a4 a5 a6 a7)):C τ:=by
 obtain⟨a0,a1,a2,a3,a4,a5,a6,a7,e,h⟩:=h;rw[e];exact k _ _ _ _ _ _ _ _ h
theorem xe11{A0 A1 A2 A3 A4 A5 A6 A7 A8 A9 A10:Type}{σ:Type}{f:A0->A1->A2->A3->A4->A5->A6->A7->A8->A9->A10->σ}{p:A0->A1->A2->A3->A4->A5->A6->A7->A8->A9->A10->Prop}{τ:σ}{C:σ->Prop}(h:∃a0 a1 a2 a3 a4 a5 a6 a7 a8 a9 a10,τ=f a0 a1 a2 a3 a4 a5 a6 a7 a8 a9 a10/\p a0 a1 a2 a3 a4 a5 a6 a7 a8 a9 a10)(k:∀a0 a1 a2 a3 a4 a5 a6 a7 a8 a9 a10,p a0 a1 a2 a3 a4 a5 a6 a7 a8 a9 a10->C (f a0 a1 a2 a3 a4 a5 a6 a7 a8 a9 a10)):C τ:=by
 obtain⟨a0,a1,a2,a3,a4,a5,a6,a7,a8,a9,a10,e,h⟩:=h;rw[e];exact k _ _ _ _ _ _ _ _ _ _ _ h
variable {a0 a1 C:Prop}
theorem ae2(k:a0->a1->C)(h:a0/\a1):C:=k h.1 h.2
variable {a2:Prop}
theorem ae3(k:a0->a1->a2->C)(h:a0/\a1/\a2):C:=k h.1 h.2.1 h.2.2
variable {a3:Prop}
theorem ae4(k:a0->a1->a2->a3->C)(h:a0/\a1/\a2/\a3):C:=k h.1 h.2.1 h.2.2.1 h.2.2.2
variable {a4:Prop}
theorem ae5(k:a0->a1->a2->a3->a4->C)(h:a0/\a1/\a2/\a3/\a4):C:=k h.1 h.2.1 h.2.2.1 h.2.2.2.1 h.2.2.2.2
variable {a5:Prop}
theorem ae6(k:a0->a1->a2->a3->a4->a5->C)(h:a0/\a1/\a2/\a3/\a4/\a5):C:=k h.1 h.2.1 h.2.2.1 h.2.2.2.1 h.2.2.2.2.1 h.2.2.2.2.2
variable {a6 a7:Prop}
theorem ae8(k:a0->a1->a2->a3->a4->a5->a6->a7->C)(h:a0/\a1/\a2/\a3/\a4/\a5/\a6/\a7):C:=k h.1 h.2.1 h.2.2.1 h.2.2.2.1 h.2.2.2.2.1 h.2.2.2.2.2.1 h.2.2.2.2.2.2.1 h.2.2.2.2.2.2.2
variable {a8:Prop}
theorem ae9(k:a0->a1->a2->a3->a4->a5->a6->a7->a8->C)(h:a0/\a1/\a2/\a3/\a4/\a5/\a6/\a7/\a8):C:=k h.1 h.2.1 h.2.2.1 h.2.2.2.1 h.2.2.2.2.1 h.2.2.2.2.2.1 h.2.2.2.2.2.2.1 h.2.2.2.2.2.2.2.1 h.2.2.2.2.2.2.2.2
theorem ae10{a9:Prop}(k:a0->a1->a2->a3->a4->a5->a6->a7->a8->a9->C)(h:a0/\a1/\a2/\a3/\a4/\a5/\a6/\a7/\a8/\a9):C:=k h.1 h.2.1 h.2.2.1 h.2.2.2.1 h.2.2.2.2.1 h.2.2.2.2.2.1 h.2.2.2.2.2.2.1 h.2.2.2.2.2.2.2.1 h.2.2.2.2.2.2.2.2.1 h.2.2.2.2.2.2.2.2.2
end L3
namespace L3
open PySem PySem.Spec PyProof.Rows L2
variable {X:Cx}
theorem jZw:fillsNumberSlot (.type "tuple") "mul"=pure false:=
 PySem.fillsNumberSlot_seq (id:="tuple.__mul__") (r:=some (.builtin "tuple.__rmul__")) lYs.lookup (by decide +kernel) PySem.F.slot_tuple_rmul.lookup (by decide +kernel)
theorem kVi:seqRepeat? (.type "tuple")=pure (some (.builtin "tuple.__mul__")):=by
 unfold seqRepeat?;rw[PySem.seqSlot_of (T:="tuple") (name:="__mul__") (id:="tuple.__mul__") lYs.lookup (by decide +kernel),PySem.seqSlot_of (T:="tuple") (name:="__rmul__") (id:="tuple.__rmul__") PySem.F.slot_tuple_rmul.lookup (by decide +kernel)]
 rfl
theorem kKt(a:Int)(t:Tok)(l:Addr)(items:Array Value)(n:Nat)(dd:Option Addr)(sl:Array (Option Value)):
  Meets (Builtin.«int.__rmul__» ⟨[.int a t,.ref l],[]⟩) (λ_ R s=>s.heap.get? l=some {cls:= .type "tuple",dict:=dd,data:= .seq items n,slots:=sl}/\R (.ok (.ret Value.notImplemented)) s):=
 .of_wp λprog w A R s h=>by obtain⟨hp,g,d,tk,os⟩:=(s);obtain⟨hl,h⟩:=h;wp_walk;exact⟨_,rfl,h⟩
theorem kUl(t:Tok)(l:Addr)(items:Array Value)(n:Nat)(dd:Option Addr)(sl:Array (Option Value)):
  Meets (Builtin.«tuple.__mul__» ⟨[.ref l,.int 1 t],[]⟩) (λ_ R s=>s.heap.get? l=some {cls:= .type "tuple",dict:=dd,data:= .seq items n,slots:=sl}/\R (.ok (.ret (.ref l))) s):=
 .of_wp λprog w A R s h=>by
  obtain⟨hp,g,d,tk,os⟩:=(s);obtain⟨hl,h⟩:=h
  wp_walk
  exact⟨_,rfl,h⟩
theorem kKz(k:Int)(t:Tok)(l:Addr)(items:Array Value)(n:Nat)(dd:Option Addr)(sl:Array (Option Value))(h1:¬ (k< -(2^63)||k>=2^63)=true)(h2:¬ (items.isEmpty||k == 1)=true)(h3:¬ (decide (k<=0)||items.isEmpty)=true)(h4:¬ items.size*k>(2^63-1) / 8)(h5:¬ Builtin.Tuple.tupleTooMany (items.size*k)=true)(h6:¬ ((List.replicate k.toNat items).foldl (· ++ ·) #[]).size>sizeLine):
  Meets (Builtin.«tuple.__mul__» ⟨[.ref l,.int k t],[]⟩) (λ_ R s=>s.heap.get? l=some {cls:= .type "tuple",dict:=dd,data:= .seq items n,slots:=sl}/\R (.ok (.ret (.ref s.heap.objs.size))) {s with heap:=s.heap.push {cls:= .type "tuple",data:= .seq ((List.replicate k.toNat items).foldl (· ++ ·) #[])} }):=
 .of_wp λprog w A R s h=>by
  obtain⟨hp,g,d,tk,os⟩:=(s);obtain⟨hl,h⟩:=h
  wp_walk
  rw[if_neg h1];wp_walk;rw[if_neg h4];wp_walk;exact⟨_,rfl,h⟩
def uVd:R3:=λx y G Q=>∃xs k,x= .tup xs/\y= .int k/\xs≠[]/\1<=k/\k<2^40/\k.toNat * xs.length<=sizeLine/\Q (.tup (List.replicate k.toNat xs).flatten) G
theorem uVw:Op3 X (binaryOp .Mult) uVd:=by
 rintro pins s τ G H x y v u Q ⟨σ,I,hs,hg⟩ ⟨a,ra,rv⟩ ⟨b,rb,ru⟩ ⟨xs,k,ex,ey,hne,hk1,hk2,hz,q⟩;subst ex;subst ey;obtain⟨pa,vs,rfl,h1,r1⟩:=(show ∃p vs,a= .ref p/\H p=some (.tup vs)/\Reps X.K H xs vs from ra)
 cases (show b= .int k from rb)
 cases rv;obtain⟨t,rfl⟩:=ru;obtain⟨its,q1,p1,_⟩:=I.tuple (.of h1);have l1:=r1.length;have l2:=q1.length;obtain⟨m,hm⟩:=lKu (show 0<=k by omega)
 have em:k.toNat=m:=by omega
 rw[em] at hz q;have hsl:(sizeLine:Nat)=16777216:=lZt;have hzi:(its.toArray.size:Int)*k=((m*xs.length:Nat):Int):=by rw[hm,lJx,<-l2,<-l1,<-Int.natCast_mul,lYp]
 obtain⟨⟨cls,dd,data,sl⟩,ho,hc,n,hd⟩:=id p1;simp only at hc hd;subst hc hd
 have hxl:0<its.length:=by
  rcases lZu its.length with z | z
  .exact absurd (lQh.mp (by omega)) hne
  .exact z
 refine wpAny_binaryOp_repeat_ref (T:="tuple") (U:="int") (by decide) ⟨_,ho,rfl⟩ (λs'=>lYf s' k t) jZw PySem.F.fills_int_mul PySem.F.slot_int_rmul kVi PySem.F.slot_int_index.lookup
  (lQ3 PySem.F.slot_int_rmul (lYf s k t) PySem.F.entry_int_rmul (PySem.F.args_int_rmul_2 _ _) (kKt k t pa its.toArray n dd sl) ⟨ho,rfl,⟨_,ho,rfl⟩,?_⟩)
 by_cases e1:k=1
 .subst e1;refine lQ3 lYs ⟨_,ho,rfl⟩ PySem.F.entry_tuple_mul (PySem.F.args_tuple_mul_2 _ _) (kUl t pa its.toArray n dd sl) ⟨ho,?_⟩;exact⟨_,G,H,.refl H,⟨σ,I,hs,hg⟩,⟨.ref pa,ra,rfl⟩,by rw[show m=1 by omega] at q;simpa using q⟩
 .have f0:List.foldl (λx1 x2=>x1++x2) #[] (List.replicate k.toNat its.toArray)=(List.replicate k.toNat its).flatten.toArray:=by
   have:=kKf its k.toNat [];rw[lXe] at this;exact this
  refine lQ3 lYs ⟨_,ho,rfl⟩ PySem.F.entry_tuple_mul (PySem.F.args_tuple_mul_2 _ _) (kKz k t pa its.toArray n dd sl ?_ ?_ ?_ ?_ ?_ ?_) ⟨ho,?_⟩
  .rw[lX0];rintro (h | h)<;>(have:=lXa h;omega)
  .rw[lX0];rintro (h | h)
   .have:its=[]:=by simpa using h
    rw[this] at hxl;exact absurd hxl (lQx _)
   .exact e1 (by simpa using h)
  .rw[lX0];rintro (h | h)
   .have:=lXa h;omega
   .have:its=[]:=by simpa using h
    rw[this] at hxl;exact absurd hxl (lQx _)
  .rw[hzi];omega
  .rw[hzi];simp[Builtin.Tuple.tupleTooMany];omega
  .rw[em] at f0 ⊢;rw[f0,lJx,kYi,<-l2,<-l1];omega
  .rw[f0,em];have hz2:(List.replicate m vs).flatten.length<=sizeLine:=by rw[kYi,<-l1];exact hz
   have Il:=I.laid (t':=s.toks) (o:= .tup (List.replicate m vs).flatten) (λb ob q=>lJm _ q) (lJh _) ⟨hz2,_,q1.rep m,TupD.new _ _⟩
   refine jXi hs ⟨.ref _,_,Il,rfl,?_⟩;have hfr:=I.hok.fresh (lJh s.heap.objs.size);exact⟨.tup (List.replicate m xs).flatten,G,.upd (.none hfr),hg.tupNew hfr,Rep.tupNew (r1.rep m) hfr,q⟩
def qYj:R3:=λx y G Q=>jZu x y G Q\/uVd x y G Q
theorem uVx:Op3 X (binaryOp .Mult) qYj:=o_mulF.or uVw
def qK7:TS3:=λ_ _ _=>False
variable {A:Around}{E:Value->Shared->Prop}{s:Shared}{d:Addr}{i:Nat}
section
variable {P:Program}{w:World}{it:Addr}{o:Obj}{es:Array DictEntry}{ep:Nat}
end
theorem jQf:∀(names:List (Str×NameKind))(n:Nat)(acc:List (Str×Addr)),cellsFrom n names acc=cellsFrom n names []++acc
 | [],_,_=>rfl
 | (x,k)::r,n,acc=>by
  unfold cellsFrom;split
  .rw[jQf r (n+1) ((x,n)::acc),jQf r (n+1) [(x,n)]];simp
  .exact jQf r n acc
theorem jVn{x:Str}{c:Addr}:∀(names:List (Str×NameKind))(n:Nat)(acc:List (Str×Addr)),(x,c)∈cellsFrom n names acc->(x,c)∈acc\/(x,NameKind.cell)∈names
 | [],_,_,h=> .inl h
 | (y,k)::r,n,acc,h=>by
  unfold cellsFrom at h;split at h
  .rename_i hk
   rcases jVn r _ _ h with z | z
   .rcases (lJp.mp z) with q | q
    .cases q;rw[show k= .cell from eq_of_beq hk];exact .inr lJv
    .exact .inl q
   .exact .inr (lJw _ z)
  .exact (jVn r _ _ h).imp id (lJw _)
theorem jUr{x:Str}:∀(names:List (Str×NameKind))(n:Nat)(acc:List (Str×Addr)),(∃c,acc.lookup x=some c)->∃c,(cellsFrom n names acc).lookup x=some c
 | [],_,_,h=>h
 | (y,k)::r,n,acc,h=>by
  unfold cellsFrom;split
  .refine jUr r _ _ ?_;rw[lKt];cases x == y with
   | true=>exact⟨_,rfl⟩
   | false=>exact h
  .exact jUr r _ _ h
theorem jQ4{x:Str}:∀(names:List (Str×NameKind))(n:Nat)(acc:List (Str×Addr)),(x,NameKind.cell)∈names->∃c,(cellsFrom n names acc).lookup x=some c
 | [],_,_,h=>by cases h
 | (y,k)::r,n,acc,h=>by
  unfold cellsFrom
  rcases (lJp.mp h) with z | z
  .cases z;rw[lJc (show (NameKind.cell == NameKind.cell)=true from rfl)]
   exact jUr r _ _ ⟨n,by rw[lKt];simp⟩
  .split
   .exact jQ4 r _ _ z
   .exact jQ4 r _ _ z
theorem jXy{env:Env}{x:Str}:∀(names:List (Str×NameKind)),
  (names.map λ(n,k)=>if (k == NameKind.free&&env.scope.kind == .function&&env.kindOf n == some .cell) then (n,NameKind.cell) else (n,k)).lookup x=
   (names.lookup x).map λk=>if (k == NameKind.free&&env.scope.kind == .function&&env.kindOf x == some .cell) then NameKind.cell else k
 | []=>rfl
 | (n,k)::r=>by
  rw[lJo,lKt (b:=k)]
  by_cases hx:(x == n)=true
  .obtain rfl:x=n:=eq_of_beq hx
   by_cases hf:(k == NameKind.free&&env.scope.kind == .function&&env.kindOf x == some .cell)=true
   .simp only[hf,lKm,lKt,hx,lQq]
   .simp only[hf,lKi,lKs,lKt,hx,lQq]
  .by_cases hf:(k == NameKind.free&&env.scope.kind == .function&&env.kindOf n == some .cell)=true
   .simp only[hf,lKm,lKt,hx];exact jXy r
   .simp only[hf,lKi,lKs,lKt,hx];exact jXy r
variable {scope:Scope}{x:Str}
theorem jZj{env:Env}(h:(relabel scope env).names.lookup x=some .cell\/(relabel scope env).names.lookup x=some .free):scope.names.lookup x=some .free\/scope.names.lookup x=some .cell:=by
 have e:(relabel scope env).names.lookup x=_:=jXy (env:=env) scope.names;rw[e] at h;cases hq:scope.names.lookup x with
 | none=>rw[hq] at h;simp at h
 | some k=>
  rw[hq,lQq] at h
  by_cases hf:(k == NameKind.free&&env.scope.kind == .function&&env.kindOf x == some .cell)=true
  .have:(k == NameKind.free)=true:=by rw[lKv,lKv] at hf;exact hf.1.1
   rw[eq_of_beq this];exact .inl rfl
  .rw[lJa hf] at h;exact h.symm
noncomputable def jQp(X:Cx)(scope:Scope)(cl:List (Str×Addr))(C:Addr)(fp:List Addr)(s:Shared)(H:Hp):Cx:=
 {X with env:=compEnvC scope (cellsFrom (C+1) scope.names cl) C X.env,s₀:=s,H₀:=H,outer:=X.stack,stack:=X.stack,ex:=fp,fn:=λx=>scope.names.lookup x == some .cell,pn:=[],xe:=λ_ _=>False}
structure CmpOkC (X:Cx) (scope:Scope) (cl:List (Str×Addr)) (mask:List Bool):Prop where
 cl:clGo X.env scope.names []=some cl
 kind:scope.kind= .function
 cells:(scope.names.all λy=>y.2 != .cell||scope.names.lookup y.1 == some .cell)=true
 names:(scope.names.all λy=>y.2 != .local||scope.names.lookup y.1 == some .local)=true
 vis:(scope.names.all λy=>y.2 != .free||X.env.kindOf y.1 == some .cell||X.env.kindOf y.1 == some .free)=true
 len:mask.length=X.N.length
 mask:((X.N.zip mask).all λp=>p.2||(scope.names.lookup p.1 != some .local&&scope.names.lookup p.1 != some .cell))=true
section
variable {M:Model}
theorem jVs{globals:Addr}{closure:List (Str×Addr)}{qual:Str}{func:Option Addr}{code:Value}{outer:Env}{builtins:Addr}{Q:Env->Shared->Prop}(hQ:∀h',h'.Ns s.heap.objs.size (λ_=>none)->(∀b o,s.heap.get? b=some o->h'.get? b=some o)->CellsOk h' (s.heap.objs.size+1) (cellsFrom (s.heap.objs.size+1) scope.names [])->
   Q (newEnv scope s.heap.objs.size globals (cellsFrom (s.heap.objs.size+1) scope.names closure) qual func code (some outer) builtins) {s with heap:=h'}):
  wpAny M A (newFunctionEnv scope globals closure [] qual func code (some outer) builtins) Q E s:=by
 (simp only[newFunctionEnv,Option.isSome_some,lKm])
 (refine lJb (wpAny_alloc ?_))
 (refine lJb (wpAny_layCells _ (λname kind cells=>by cases hkc:kind == NameKind.cell<;>simp[hkc]) _ _ _ _ ?_))
 have ok:=cellsFrom_ok scope.names (s.heap.push {cls:= .type "dict",data:= .dict #[]}) (s.heap.objs.size+1) [] ⟨λ_ _ hm=>(nomatch hm),List.Pairwise.nil⟩ (by rw[lV1];exact lJh _)
 rw[lV1] at ok;rw[show ({s with heap:=s.heap.push {cls:= .type "dict",data:= .dict #[]} }:Shared).heap.objs.size=s.heap.objs.size+1 from lV1 ..]
 refine lJb ?_;rw[List.forIn_nil];exact lJe (lJe (hQ _ ((Heap.Ns.new s.heap (.type "dict")).keeps (pushCells_keeps _ _)) (λb o e=>pushCells_keeps _ _ b o (lJm _ e)) ok))
end
variable {mask:List Bool}{n:Nat}{pins:List (Addr×Obj)}{σ:L2.St}{H:Hp}{h4:Heap}{fp:List Addr}
section
variable {cl:List (Str×Addr)}
theorem CmpOkC.local(c:CmpOkC X scope cl mask)(h1:X.N[i]? =some x)(h2:mask[i]? =some false):scope.names.lookup x≠some .local/\scope.names.lookup x≠some .cell:=by
 have h:=c.mask;rw[lKo] at h;have hz:(X.N.zip mask)[i]? =some (x,false):=by rw[lYq];exact⟨h1,h2⟩
 have:=h _ (lJs hz)
 simpa using this
theorem CmpOkC.free(c:CmpOkC X scope cl mask)(h:scope.names.lookup x=some .free):X.env.kindOf x=some .cell\/X.env.kindOf x=some .free:=by
 have hv:=c.vis;rw[lKo] at hv;have:=hv (x,.free) (lK5 h)
 simpa using this
theorem CmpOkC.nm(c:CmpOkC X scope cl mask):∀y∈scope.names,y.2= .local->scope.names.lookup y.1=some .local:=by
 have hv:=c.names;rw[lKo] at hv;intro y hy e;have:=hv y hy;rw[e] at this
 simpa using this
theorem CmpOkC.own(c:CmpOkC X scope cl mask)(h:(cellsFrom n scope.names []).lookup x=some d):scope.names.lookup x=some .cell:=by
 rcases jVn _ _ _ (lK5 h) with z | z
 .cases z
 .have hv:=c.cells;rw[lKo] at hv;have:=hv _ z
  simpa using this
theorem CmpOkC.two(_:CmpOkC X scope cl mask)(h:(cellsFrom n scope.names cl).lookup x=some d):(cellsFrom n scope.names []).lookup x=some d\/((cellsFrom n scope.names []).lookup x=none/\cl.lookup x=some d):=by
 rw[jQf,List.lookup_append] at h;cases hf:(cellsFrom n scope.names []).lookup x with
 | none=>rw[hf] at h;exact .inr ⟨rfl,h⟩
 | some e=>rw[hf] at h;exact .inl h
theorem CmpOkC.apart(c:CmpOkC X scope cl mask){b:Addr}(hcs:CellsOk h4 (s.heap.objs.size+1) (cellsFrom (s.heap.objs.size+1) scope.names []))(_:Inv X pins σ H s)(hf:∀x c,X.env.cells.lookup x=some c->c≠b)(hb:b<s.heap.objs.size)(h:(cellsFrom (s.heap.objs.size+1) scope.names cl).lookup x=some d):d≠b:=by
 rcases c.two h with z | ⟨_,z⟩
 .have:=(hcs.empty _ _ (lK5 z)).2;exact lQl (lKc hb (lX1 this))
 .exact hf x d (jXc c.cl (by simp) _ _ z)
theorem qKn(c:CmpOkC X scope cl mask){tk:Nat}(I:Inv X pins σ H s)(hf:∀b∈fp,FpOk X pins H b)(ho:∀b∈fp,∃o,s.heap.get? b=some o)(hns:h4.Ns s.heap.objs.size λ_=>none)(hk:∀b o,s.heap.get? b=some o->h4.get? b=some o)(hcs:CellsOk h4 (s.heap.objs.size+1) (cellsFrom (s.heap.objs.size+1) scope.names [])):
  Inv (jQp X scope cl s.heap.objs.size fp s H) [] (msk mask σ) H {s with heap:=h4,toks:=tk}:=by
 have sub:=jXc c.cl (by simp)
 have old:∀x d,cl.lookup x=some d->d<s.heap.objs.size:=λx d h=>let ⟨_,q⟩:=I.cell x d (sub _ _ h);q.lt
 have new:∀x d,(cellsFrom (s.heap.objs.size+1) scope.names []).lookup x=some d->s.heap.objs.size+1<=d:=λx d h=>(hcs.empty _ _ (lK5 h)).2
 have fre:∀x d,scope.names.lookup x=some .free->cl.lookup x=some d->(cellsFrom (s.heap.objs.size+1) scope.names cl).lookup x=some d:=λx d h1 h2=>by
  rw[jQf,List.lookup_append];cases hq:(cellsFrom (s.heap.objs.size+1) scope.names []).lookup x with
  | none=>exact h2
  | some e=>exact absurd (c.own hq) (by rw[h1];simp)
 have ok:(jQp X scope cl s.heap.objs.size fp s H).Ok:=by
  refine⟨I.ok.mod,c.kind,I.ok.glob,I.ok.blt,lJh _,λx y d h1 h2=> ?_,λx hx=> ?_,λx d hx hd=> ?_,I.ok.hd,I.ok.gd,I.ok.frames,.inl rfl,
   λb hb=> ?_,I.bs,lKx I.ok.bsz I.sz,λb o e hb=> ?_,λb hb hz=> ?_,I.stack,I.stkFree⟩
  .rcases c.two h1 with z1 | ⟨_,z1⟩<;>rcases c.two h2 with z2 | ⟨_,z2⟩
   .exact name_of_addr hcs.apart (lK5 z1) (lK5 z2)
   .exact absurd (lKc (old _ _ z2) (lX1 (new _ _ z1))) (lQx _)
   .exact absurd (lKc (old _ _ z1) (lX1 (new _ _ z2))) (lQx _)
   .exact I.ok.inj x y d (sub _ _ z1) (sub _ _ z2)
  .have hx':=jZj (scope:=scope) (env:=X.env) hx
   rcases hx' with z | z
   .obtain⟨d,hd⟩:=jXd c.cl z;exact⟨d,fre x d z hd⟩
   .exact jQ4 _ _ _ (lK5 z)
  .have hx':scope.names.lookup x=some .cell:=eq_of_beq hx
   rcases c.two hd with z | ⟨z,_⟩
   .exact lX1 (new _ _ z)
   .obtain⟨e,he⟩:=jQ4 scope.names (s.heap.objs.size+1) [] (lK5 hx');rw[he] at z;cases z
  .obtain⟨o,e⟩:=ho b hb;exact⟨lJr (lJi e),λx d hd=>c.apart hcs I (hf b hb).2.2.2.2.1 (lJi e) hd⟩
  .rcases (hf b hb).2.2.2.1 with z | z
   .exact I.ok.noex b o e z
   .exact absurd (lKc (lJi e) I.ok.bsz) (Nat.not_lt.mpr z)
  .rcases lJp.mp (I.stkSub b hz) with z | z
   .exact (hf b hb).2.1 z
   .exact (hf b hb).2.2.1 z
 refine⟨ok,rfl,I.bare,Un.kept hk,⟨_,hns,λi x v h1 h2 h3=> ?_⟩,λx d hd=> ?_,I.hok.fresh (lJh _),λx d hd=> ?_,λp hp=>absurd (show p∈([]:List (Addr×Obj)) from hp) (by simp),I.hok.kept hk,?_⟩
 .obtain⟨m1,m2⟩:=kJ7 h2;obtain⟨nl,nc⟩:=c.local h1 m1
  have fr:scope.names.lookup x=some .free:=by
   rcases h3 with z | z
   .exact absurd (jQb (env:=X.env) z) nl
   .exact (jZj (scope:=scope) (env:=X.env) z).elim id λq=>absurd q nc
  have hkk:=c.free fr;obtain⟨m,hn,hl⟩:=I.loc;have vis:Vis X.env.scope x:=by rcases hkk with z | z;exact .inr (.inl z);exact .inr (.inr z)
  obtain⟨u,ru,lk⟩:=hl i x v h1 m2 vis;refine⟨u,ru,?_⟩
  rcases lk with ⟨z,_⟩ | ⟨_,d,hd,cd⟩
  .exfalso;rcases hkk with q | q<;>(rw[z] at q;cases q)
  .obtain⟨d',hd'⟩:=jXd c.cl fr;have:d'=d:=by have:=sub _ _ hd';rw[hd] at this;exact (lJ3 this).symm
   subst this;refine .inr ⟨?_,d',fre x d' fr hd',cd.keeps hk⟩
   rcases h3 with z | z
   .exact absurd (jQb (env:=X.env) z) nl
   .exact z
 .rcases c.two hd with z | ⟨_,z⟩
  .exact⟨none,(hcs.empty _ _ (lK5 z)).1⟩
  .obtain⟨v,hv⟩:=I.cell x d (sub _ _ z);exact⟨v,hv.keeps hk⟩
 .rcases c.two hd with z | ⟨_,z⟩
  .exact I.hok.fresh (lX1 (new _ _ z))
  .exact I.freeC x d (sub _ _ z)
 .exact (jVl (c.len.trans I.len.symm)).trans I.len
theorem qZs{σ':L2.St}{H':Hp}{s':Shared}{pl:List (Addr×Obj)}{C:Addr}(I:Inv X pins σ H s)(hf:∀b∈fp,FpOk X pins H b)(hC:s.heap.objs.size<=C)(J:Inv (jQp X scope cl C fp s H) pl σ' H' s'){h':Heap}(hb:Heap.SameBut C s'.heap h'):Inv X pins σ H' {s' with heap:=h'}:=by
 have ne:∀b o,s.heap.get? b=some o->b≠C:=λb o e=>lJr (lKc (lJi e) hC)
 have u:=J.base;have hfree:H' C=none:=J.free
 have u':Un (frs X.stack) fp H H' s.heap h':=⟨λb o e n hb' hx=>(hb.2 b (ne b o e)).trans (u.keep b o e n hb' hx),λb o e n hb' hx=>let ⟨sl,z⟩:=u.slot b o e n hb' hx;⟨sl,(hb.2 b (ne b o e)).trans z⟩,
  u.free,λb o e hx=>let ⟨o',z⟩:=u.there b o e hx;⟨o',(hb.2 b (ne b o e)).trans z⟩,u.tups,u.frzs,u.tbls⟩
 have hok:HOk X.prog X.w H' h':=λb ob e=>(J.hok b ob e).stay (λc w' hc q=>(hb.2 c (by
  rintro rfl
  rcases hc with rfl | hc
  .rw[hfree] at e;cases e
  .rw[hfree] at hc;cases hc)).trans q) (λ_ q=>q) λ_ _ q=>q
 exact I.call' (s':={s' with heap:=h'}) J.os u' hok J.bare λb hb=>⟨(hf b hb).2.2.2.1,(hf b hb).2.1,(hf b hb).2.2.2.2.1,(hf b hb).2.2.2.2.2⟩
end
section
variable {cl:List (Str×Addr)}{elt iter tg:Expr}{ifs:List Expr}{pos:Pos}{wi:TI3}{g:TG3}{tif:TT3}{te:TE3}
theorem kYu(hc:X.calm=true)(ok:CmpOkC X scope cl mask)(hgk:kXs mask g)(hg:∀C fp s H,PG3 (jQp X scope cl C fp s H) tg g)(hif:∀C fp s H,PIf3 (jQp X scope cl C fp s H) ifs tif)(he:∀C fp s H,PE3 (jQp X scope cl C fp s H) elt te){τ:St3}{Q:VK3}{itv:Value}{s2:Shared}{E:Value->Shared->Prop}{RR:Value->Addr->Result->Shared->Prop}(h2:PIE3 X pins τ H tg (λxs stay G=>kQx mask g tif te τ xs stay G Q) itv s2)(hRR:∀D C s' m,s'.heap.Ns C m->(∃G1 H1,Ext H H1/\H1 C=none/\Q (.ref D) G1/\∀h',Heap.SameBut C s'.heap h'->Inv3 X pins τ G1 H1 {s' with heap:=h'})->(∃oC,s'.heap.get? C=some oC/\C≠X.env.locals/\C∉X.fs/\∀v,oC.data≠ .cell v)->(∀x c,X.env.cells.lookup x=some c->c≠C)->(∀p∈X.pn++pins,p.1≠C)->X.s₀.heap.objs.size<=C->RR (.ref D) C (.ok .next) s'):
  wpAny (model X.prog X.w) X.A (newList []) (λacc s₃=>wpAny (model X.prog X.w) X.A (newFunctionEnv scope X.env.globals cl [] X.env.qual none .none (some X.env)) (λcenv s₄=>
   codeAny (model X.prog X.w) X.A (.compStart (.ListComp elt [⟨tg,iter,ifs,0⟩] scope pos) 0 itv acc {cenv with scope:=relabel scope X.env}) (RR acc cenv.locals) s₄) E s₃) E s2:=by
 obtain⟨it,fp,tn,J,xs,stay,G2,H2,e,eH,⟨σ,I2,hs2,hg2⟩,T0,st2,f2,IT,hq⟩:=h2;subst e;refine lK3 (jVs λh4 hns hk4 hcs=> ?_)
 dsimp only at hns hk4 hcs ⊢
 have hD:H2 s2.heap.objs.size=none:=I2.hok.fresh (lJh _)
 generalize hs3:({s2 with heap:=s2.heap.push {cls:= .type "list",dict:=none,data:= .seq ([]:List Value).toArray} }:Shared)=s3
 have eh3:s2.heap.push {cls:= .type "list",dict:=none,data:= .seq ([]:List Value).toArray}=s3.heap:=by rw[<-hs3]
 have I3:Inv X pins σ (upd H2 s2.heap.objs.size (.lst [])) s3:=by
  rw[<-hs3];exact I2.laid (t':=s2.toks) (λb u e=>lJm _ e) (lJh _) ⟨lJ6 _,[],0,.nil,lKd _ rfl⟩
 rw[eh3] at hns hk4 hcs ⊢
 generalize hDd:s2.heap.objs.size=D at *
 have e3:Ext H2 (upd H2 D (.lst [])):= .upd (.none hD);have hg3:GRel X.K (upd H2 D (.lst [])) (gup G2 D (.lst [])):=hg2.lstNew (show Reps X.K H2 [] [] from rfl) (.none hD)
 have obj2:∀b∈fp,∃o,s2.heap.get? b=some o:=λb hb=>let ⟨o,e,_⟩:=T0.obj 0 _ st2 b hb;⟨o,e⟩
 have fD:∀b∈fp,b≠D:=λb hb=>by obtain⟨o,e⟩:=obj2 b hb;rw[<-hDd];exact lJr (lJi e)
 have f3:∀b∈fp,FpOk X pins (upd H2 D (.lst [])) b:=λb hb=>⟨by rw[jKf (fD b hb)];exact (f2 b hb).1,(f2 b hb).2⟩
 have k3:∀b o,s2.heap.get? b=some o->s3.heap.get? b=some o:=λb o e=>by rw[<-eh3];exact lJm _ e
 have obj3:∀b∈fp,∃o,s3.heap.get? b=some o:=λb hb=>let ⟨o,e⟩:=obj2 b hb;⟨o,k3 b o e⟩
 have k4:∀b o,s3.heap.get? b=some o->h4.get? b=some o:=hk4
 have Ic:Inv (jQp X scope cl s3.heap.objs.size fp s3 (upd H2 D (.lst []))) [] (msk mask σ) (upd H2 D (.lst [])) {s3 with heap:=h4,toks:=s3.toks}:=qKn ok I3 f3 obj3 hns k4 hcs
 have st4:tn 0 h4:=T0.keep _ _ _ st2 λb _ o e=>k4 b o (k3 b o e)
 have hl3:mask.length=τ.length:=ok.len.trans (I3.len.symm.trans hs2.1);obtain⟨P,p0,hst,turn,fin⟩:=hq D (hg2.fresh hD)
 have fpc:∀{H':Hp}{pl:List (Addr×Obj)},(∀b∈fp,H' b=none)->(∀p∈pl,p.1∉fp)->∀b∈fp,FpOk (jQp X scope cl s3.heap.objs.size fp s3 (upd H2 D (.lst []))) pl H' b:=λ{H' pl} hn hp b hb=>by
  obtain⟨o,e⟩:=obj3 b hb;refine⟨hn b hb,lJr (lJi e),?_,.inl hb,λx d hd=>ok.apart hcs I3 (f3 b hb).2.2.2.2.1 (lJi e) hd,λp hpp z=> ?_⟩
  .intro z
   rcases lJp.mp (I3.stkSub b z) with q | q
   .exact (f3 b hb).2.1 q
   .exact (f3 b hb).2.2.1 q
  .have hpp':p∈pl:=by simpa[jQp] using hpp
   exact hp p hpp' (z▸hb)
 have loop:∀s4:Shared,s4={s3 with heap:=h4,toks:=s3.toks}->
   codeAny (model X.prog X.w) X.A (.compLoop (.ListComp elt [⟨tg,iter,ifs,0⟩] scope pos) 0 (.ref it) (.ref D) (compEnvC scope (cellsFrom (s3.heap.objs.size+1) scope.names cl) s3.heap.objs.size X.env)) (RR (.ref D) s3.heap.objs.size) s4:=by
  rintro s4 rfl
  refine kXa (λn s'=>∃i acc G' H',n=xs.length-i/\i<=xs.length/\Ext H2 H'/\Inv3 (jQp X scope cl s3.heap.objs.size fp s3 (upd H2 D (.lst []))) [] (msk mask τ) G' H' s'/\tn i s'.heap/\(∀b∈fp,H' b=none)/\P i acc G') ?_ xs.length
   ⟨0,[],_,_,rfl,lJ6 _,e3,⟨_,Ic,kUm (hs2.mono e3) hl3,hg3⟩,st4,λb hb=>(f3 b hb).1,p0⟩
  rintro n s5 ⟨i,acc,G5,H5,en,hi5,e5,⟨σ5,I5,hs5,hg5⟩,st5,fr5,p5⟩;obtain⟨hstay,hacc⟩:=hst i acc G5 hi5 p5;obtain⟨go,stop,yl⟩:=IT i H5 G5 e5 hg5 hstay
  by_cases hlt:i<xs.length
  .refine thn (T0.item (jQp X scope cl s3.heap.objs.size fp s3 (upd H2 D (.lst []))) rfl rfl rfl hc i [] s5 σ5 H5 (λ_ _=>False) I5 (fpc fr5 (by simp)) st5 (go hlt)) λr s6 ⟨u,hr,h6⟩=> ?_
   subst hr;refine thn h6 λ_ s7 ⟨x,H7,I7,r7,y7,st7,fr7⟩=> ?_
   obtain⟨e7,g7,t,ht,rt⟩:=yl hlt x H7 y7;have I7':=I7.pinned (fpc fr7 (by simp)) (T0.obj _ _ st7)
   refine thn (hg _ _ _ _ ([]++jUb fp s7.heap) s7 (msk mask τ) G5 H7 t u _ ⟨σ5,I7',hs5.mono e7,g7⟩ ⟨x,rt,r7⟩ (hgk _ _ _ _ (turn i t acc G5 ht p5))) λ_ s8 ⟨τ8,G8,H8,e8,I8,q8,ql8,qk8⟩=> ?_
   refine thn (hif _ _ _ _ ([]++jUb fp s7.heap) s8 τ8 G8 H8 _ I8 q8) λb s9 ⟨G9,H9,e9,I9,q9⟩=> ?_
   have back:∀{Ga:Gp}{Ha:Hp}{sa:Shared}{acc':List T},Ext H7 Ha->Inv3 (jQp X scope cl s3.heap.objs.size fp s3 (upd H2 D (.lst []))) ([]++jUb fp s7.heap) τ8 Ga Ha sa->P (i+1) acc' Ga->
     ∃m,m<n/\∃i acc G' H',m=xs.length-i/\i<=xs.length/\Ext H2 H'/\Inv3 (jQp X scope cl s3.heap.objs.size fp s3 (upd H2 D (.lst []))) [] (msk mask τ) G' H' sa/\tn i sa.heap/\(∀b∈fp,H' b=none)/\P i acc G':=by
    rintro Ga Ha sa acc' ea ⟨σa,Ia,hsa,hga⟩ pa;have e2a:Ext H5 Ha:=e7.trans ea;have hla:mask.length=τ8.length:=by rw[ql8,jVl hl3];exact hl3
    have hsm:=kUm (mask:=mask) hsa hla;rw[kZk hl3 ql8 qk8] at hsm;refine⟨xs.length-(i+1),by omega,i+1,acc',Ga,Ha,rfl,hlt,e5.trans e2a,⟨msk mask σa,(Ia.weak (jVl (hla.trans hsa.1.symm)) λj v hv=>(kJ7 hv).2).pins_of (λp hp=>absurd hp (by simp)),hsm,hga⟩,?_,λb hb=> ?_,pa⟩
    .exact T0.keep _ _ _ st7 λb hb o e=>(Ia.pin (b,o) (lJ7 _ (lJ7 _ (jQ5 hb e)))).1
    .obtain⟨o,e,d⟩:=T0.obj _ _ st7 b hb;exact (Ia.pin (b,o) (lJ7 _ (lJ7 _ (jQ5 hb e)))).2.1
   cases b with
   | false=>
    rw[lJa lJu] at q9 ⊢;exact back (e8.trans e9) I9 q9
   | true=>
    rw[lJc rfl] at q9 ⊢;refine thn (he _ _ _ _ ([]++jUb fp s7.heap) s9 τ8 G9 H9 _ I9 q9) λy s10 w_=>w_.el λty G10 H10 e10 I10 r10 ⟨hD10,hz10,q10⟩=> ?_
    obtain⟨vy,rvy,ruy⟩:=r10;refine thn (jUl ([]++jUb fp s7.heap) s10 τ8 G10 H10 (.ref D) [ty] (.ref D) [y] (λ_ G'=>P (i+1) (acc++[ty]) G') I10 ⟨.ref D,rfl,rfl⟩ ⟨[vy],.one rvy,.cons ruy .nil⟩ ⟨D,acc,ty,rfl,rfl,hD10,hz10,q10⟩) λ_ s11 w_=>w_.el λ_ G11 H11 e11 I11 _ q11=> ?_
    exact back (((e8.trans e9).trans e10).trans e11) I11 q11
  .have ei:i=xs.length:=by omega
   refine thn (T0.done (jQp X scope cl s3.heap.objs.size fp s3 (upd H2 D (.lst []))) rfl rfl rfl hc i [] s5 σ5 H5 (λ_ _=>False) I5 (fpc fr5 (by simp)) st5 (stop (by omega))) λr s6 ⟨hr,I6⟩=> ?_
   subst hr;subst ei;obtain⟨m,hn,_⟩:=I6.loc;obtain⟨oC,es,ep,hoC,hdC,_⟩:=id hn
   refine hRR D s3.heap.objs.size s6 m hn ⟨G5,H5,eH.trans e5,I6.free,fin acc G5 p5,λh' hb=>⟨σ,qZs I3 f3 (lJh _) I6 hb,hs2.mono e5,hg5⟩⟩
    ⟨oC,hoC,lQl I3.lt,I3.nofs (lJh _),λv z=>by rw[hdC] at z;cases z⟩ (λx d hd=> ?_) (λp hp=> ?_) I3.sz
   .obtain⟨v,q⟩:=I3.cell x d hd;exact lJr q.lt
   .exact lJr (lJi (I3.pin p hp).1)
 exact codeAny_compStart_list (loop _ (by rw[<-hs3])) (T0.self _ 0 _ _ _ st4 (loop _ (by rw[<-hs3])))
theorem uQt(hc:X.calm=true)(ok:CmpOkC X scope cl mask)(hi:PI3 X tg iter wi)(hgk:kXs mask g)(hg:∀C fp s H,PG3 (jQp X scope cl C fp s H) tg g)(hif:∀C fp s H,PIf3 (jQp X scope cl C fp s H) ifs tif)(he:∀C fp s H,PE3 (jQp X scope cl C fp s H) elt te)(hs:∀x,foldedSetIterable iter X.env x=pure x:=by intro _;rfl):PE3 X (.ListComp elt [⟨tg,iter,ifs,0⟩] scope pos) (jKt mask wi g tif te):=by
 intro pins s τ G H Q I h;rw[eval_ListComp];refine mJm (use:=none) rfl hs (jZh ok.cl) ok.kind ok.nm (thn (hi pins s τ G H _ I h) λxv s1 h1=>thn h1 λitv s2 h2=> ?_)
 refine kYu (RR:=λacc C=>compPost (model X.prog X.w) X.A X.xe none (EP3 X pins τ H Q) acc C) hc ok hgk hg hif he h2 ?_
 rintro D C s' m hn ⟨G1,H1,e1,_,q1,hI⟩ _ _ _ _;exact⟨m,hn,λh' hb=>⟨.ref D,G1,H1,e1,hI h' hb,⟨.ref D,rfl,rfl⟩,q1⟩⟩
end
end L3
namespace L3
open PySem
noncomputable def itr{α:Type}(f:α->α):Nat->α->α
 | 0,a=>a
 | n+1,a=>itr f n (f a)
theorem jUe{α:Type}(f:α->α):∀(m n:Nat)(a:α),itr f (m+n) a=itr f n (itr f m a)
 | 0,n,a=>by rw[lV2];rfl
 | m+1,n,a=>by rw[Nat.add_right_comm];exact jUe f m n (f a)
theorem kJa{α:Type}(f:α->α)(n:Nat)(a:α):itr f (n+1) a=f (itr f n a):=jUe f n 1 a
namespace St
open SetTable
variable {xs:Array Nat}
theorem getD_at{k d:Nat}(h:k<xs.size):xs.getD k d=xs[k]:=by simp[Array.getD,h]
theorem uQb(xs:Array Nat)(j:Nat)(hs:∀a b:Nat,a<b->∀(hb:b<xs.size),xs.getD a 0<xs[b]):∀(fuel lo hi:Nat),hi<=xs.size->lo<=hi->hi-lo<=fuel->(∀k,k<lo->xs.getD k 0<j)->(∀k (h:k<xs.size),hi<=k->j<=xs[k])->
  (below.go xs j fuel lo hi)<=xs.size/\(∀k,k<below.go xs j fuel lo hi->xs.getD k 0<j)/\(∀k (h:k<xs.size),below.go xs j fuel lo hi<=k->j<=xs[k])
 | 0,lo,hi,h1,h2,h3,h4,h5=>by
  have e:hi=lo:=by omega
  subst e;exact⟨h1,h4,h5⟩
 | fuel+1,lo,hi,h1,h2,h3,h4,h5=>by
  unfold below.go
  by_cases c:lo<hi
  .rw[lJc c];have hm:(lo+hi) / 2<xs.size:=by omega
   by_cases d:xs.getD ((lo+hi) / 2) j<j
   .simp only[d,lKm];refine uQb xs j hs fuel _ hi h1 (by omega) (by omega) (λk hk=> ?_) h5
    rw[getD_at hm] at d
    by_cases e:k=(lo+hi) / 2
    .subst e;rw[getD_at hm];exact d
    .exact lV0 (hs k _ (by omega) hm) d
   .simp only[d,lKi];refine uQb xs j hs fuel lo _ (by omega) (by omega) (by omega) h4 λk h hk=> ?_
    rw[getD_at hm] at d
    by_cases e:k=(lo+hi) / 2
    .subst e;omega
    .have:=hs ((lo+hi) / 2) k (by omega) h
     rw[getD_at hm] at this;omega
  .rw[lJa c];have e:hi=lo:=by omega
   subst e;exact⟨h1,h4,h5⟩
def Ris(xs:Array Nat):Prop:=xs.toList.Pairwise (· < ·)
theorem Ris.lt(h:Ris xs)(a b:Nat)(hab:a<b)(hb:b<xs.size):xs.getD a 0<xs[b]:=by
 rw[getD_at (by omega)]
 have:=lZv.mp h a b (by simpa using (by omega:a<xs.size)) (by simpa using hb) hab
 simpa using this
theorem kJg(h:Ris xs)(j:Nat):below xs j<=xs.size/\(∀k,k<below xs j->xs.getD k 0<j)/\(∀k (h:k<xs.size),below xs j<=k->j<=xs[k]):=
 uQb xs j h.lt xs.size 0 xs.size (lJh _) (lJ6 _) (lJh _) (λk hk=>absurd hk (lK0 _)) λk h1 h2=>absurd h1 (by omega)
variable {i:Nat}
theorem qZv(h:Ris xs)(hi:i<xs.size):below xs xs[i]=i:=by
 obtain⟨h1,h2,h3⟩:=kJg h xs[i]
 rcases lYt (below xs xs[i]) i with c | c | c
 .have a:=h3 (below xs xs[i]) (by omega) (lJh _)
  have b:=h.lt _ i c hi;rw[getD_at (by omega)] at b
  omega
 .exact c
 .have:=h2 i c;rw[getD_at hi] at this;omega
theorem below_next(h:Ris xs)(hi:i<xs.size):below xs (xs[i]+1)=i+1:=by
 obtain⟨h1,h2,h3⟩:=kJg h (xs[i]+1)
 rcases lYt (below xs (xs[i]+1)) (i+1) with c | c | c
 .have:=h3 i hi (by omega)
  omega
 .exact c
 .have a:=h2 (i+1) c;have hi1:i+1<xs.size:=by omega
  rw[getD_at hi1] at a;have b:=h.lt i (i+1) (by omega) hi1
  rw[getD_at hi] at b;omega
theorem below_zero(h:Ris xs):below xs 0=0:=by
 obtain⟨h1,h2,h3⟩:=kJg h 0
 rcases lZu (below xs 0) with c | c
 .exact c
 .exact absurd (h2 0 c) (lK0 _)
variable {j:Nat}
theorem insertAt_ris(h:Ris xs)(hj:j∉xs.toList):Ris (insertAt xs (below xs j) j):=by
 obtain⟨h1,h2,h3⟩:=kJg h j;unfold Ris;rw[SetTable.toList_insertAt,lKh,List.pairwise_cons]
 have up:∀b,b∈xs.toList.drop (below xs j)->j<b:=by
  intro b hb;obtain⟨k,hk,e⟩:=lXh hb;rw[lQf] at hk;rw[lZw] at e;have hk':below xs j+k<xs.size:=by simp at hk;omega
  have:=h3 _ hk' (by omega)
  have e':xs[below xs j+k]=b:=by simpa using e
  have ne:b≠j:=λz=>hj (z▸lQs hb)
  omega
 have dn:∀a,a∈xs.toList.take (below xs j)->a<j:=by
  intro a ha;obtain⟨k,hk,e⟩:=lXh ha;rw[lKe] at hk;rw[lYu] at e;have:=h2 k (by omega)
  rw[getD_at (by simp at hk;omega)] at this
  have e':xs[k]'(by simp at hk;omega)=a:=by simpa using e
  omega
 refine⟨List.Pairwise.sublist (lQ8 _ _) h,⟨up,List.Pairwise.sublist (lVd _ _) h⟩,?_⟩;intro a ha b hb
 (rcases lJp.mp hb with rfl | hb)
 .exact dn a ha
 .exact lV0 (dn a ha) (up b hb)
theorem has_nil(j:Nat):has #[] j=false:=rfl
theorem slot_cases{t:SetTable}(hd:t.dummies= #[])(j:Nat):(t.slot j= .empty/\(Ris t.place->j∉t.place.toList))\/∃i,t.slot j= .live i/\∃h:i<t.place.size,t.place[i]=j/\i=below t.place j:=by
 unfold SetTable.slot
 by_cases c:(t.place[below t.place j]? == some j)=true
 .right
  refine⟨below t.place j,?_,?_⟩
  .simp only[c,lKm]
  .have c':=eq_of_beq c;obtain⟨h,e⟩:=mJt.mp c';exact⟨h,e,rfl⟩
 .left
  refine⟨?_,λhr hm=> ?_⟩
  .rw[hd];simp only[c,has_nil,lKs,lKi]
  .obtain⟨k,hk,e⟩:=lXh hm;have hk':k<t.place.size:=by simpa using hk
   have e':t.place[k]=j:=by simpa using e
   apply c;rw[<-e',qZv hr hk',lK7 hk'];exact lZk _
theorem slot_empty{t:SetTable}(hd:t.dummies= #[])(h:j∉t.place.toList):t.slot j= .empty:=by
 rcases slot_cases hd j with c | ⟨i,_,hi,e,_⟩
 .exact c.1
 .exact absurd (by rw[<-e];simp) h
theorem qQo(mask i:Nat):runEnd mask i-i<=9:=by unfold runEnd;split<;>omega
def kQp(t:SetTable)(p:Probe):Prop:=p.j=p.i/\p.more=runEnd t.mask p.i-p.i
theorem kJi(t:SetTable):∀(m:Nat)(p:Probe),m<=p.more->itr t.advance m p={p with j:=p.j+m,more:=p.more-m}
 | 0,p,_=>by cases p;rfl
 | m+1,p,h=>by
  show itr t.advance m (t.advance p)=_
  have e:t.advance p={p with j:=p.j+1,more:=p.more-1}:=by unfold SetTable.advance;rw[lJc (by omega)]
  rw[e,kJi t m _ (by show m<=p.more-1;omega)]
  simp only[Probe.mk.injEq,and_true,true_and];omega
theorem qZw(t:SetTable)(p:Probe):∃m,m<=p.more+1/\kQp t (itr t.advance m p)/\(itr t.advance m p).i=(leap t.mask p.i p.perturb).1/\(itr t.advance m p).perturb=p.perturb / 32:=by
 refine⟨p.more+1,lJh _,?_⟩;rw[kJa,kJi t p.more p (lJh _)];unfold SetTable.advance;rw[lJa (by show ¬ p.more-p.more>0;omega)]
 exact⟨⟨rfl,rfl⟩,rfl,rfl⟩
noncomputable def lp(mask:Nat)(x:Nat×Nat):Nat×Nat:=leap mask x.1 x.2
theorem kKm(t:SetTable):∀(k:Nat)(p:Probe),kQp t p->∃m,m<=10*k/\kQp t (itr t.advance m p)/\((itr t.advance m p).i,(itr t.advance m p).perturb)=itr (lp t.mask) k (p.i,p.perturb)
 | 0,p,h=>⟨0,lJh _,h,rfl⟩
 | k+1,p,h=>by
  obtain⟨m,h1,h2,h3,h4⟩:=qZw t p;obtain⟨m',h1',h2',h3'⟩:=kKm t k _ h2;have hm:p.more<=9:=by rw[h.2];exact qQo _ _
  refine⟨m+m',by omega,?_,?_⟩
  .rw[jUe];exact h2'
  .rw[jUe,h3',h3,h4];rfl
theorem kYf(mask:Nat):∀(k:Nat)(x:Nat×Nat),(itr (lp mask) k x).2=x.2 / 32^k
 | 0,x=>by simp[itr]
 | k+1,x=>by
  show (itr (lp mask) k (lp mask x)).2=_
  rw[kYf mask k];show x.2 / 32 / 32^k=_
  rw[Nat.div_div_eq_div_mul,Nat.pow_succ,lYp]
noncomputable def five(mask i:Nat):Nat:=(i*5+1)%(mask+1)
theorem kYg(mask:Nat):∀(k i:Nat),itr (lp mask) k (i,0)=(itr (five mask) k i,0)
 | 0,i=>rfl
 | k+1,i=>by
  show itr (lp mask) k (lp mask (i,0))=_
  have e:lp mask (i,0)=(five mask i,0):=by simp[lp,leap,five]
  rw[e];exact kYg mask k _
noncomputable def orb(mask:Nat):Nat->Nat->List Nat
 | 0,_=>[]
 | n+1,i=>i::orb mask n (five mask i)
theorem qUn(mask:Nat):∀(n i k:Nat),k<n->(orb mask n i)[k]? =some (itr (five mask) k i)
 | n+1,i,0,_=>rfl
 | n+1,i,k+1,h=>by
  show (orb mask n (five mask i))[k]? =_
  exact qUn mask n _ k (by omega)
theorem kX7(mask:Nat):∀(n i:Nat),(orb mask n i).length=n
 | 0,_=>rfl
 | n+1,i=>by simp[orb,kX7 mask n]
variable {mask:Nat}
theorem qUm{n:Nat}(h:j∈orb mask n i):∃k,k<n/\itr (five mask) k i=j:=by
 obtain⟨k,hk,e⟩:=lXh h;rw[kX7] at hk;refine⟨k,hk,?_⟩;have:=qUn mask n i k hk;rw[lJl (by rw[kX7];exact hk),e] at this
 (exact (lJ3 this).symm)
def Full(mask:Nat):Prop:=(∀j,j<=mask->∃k,k<=mask/\itr (five mask) k 0=j)/\itr (five mask) (mask+1) 0=0
theorem kYo(h:(List.range (mask+1)).all (λj=>(orb mask (mask+1) 0).contains j)=true)(h0:itr (five mask) (mask+1) 0=0):Full mask:=by
 refine⟨λj hj=> ?_,h0⟩
 rw[lKo] at h;have:=h j (lKb.mpr (by omega))
 obtain⟨k,hk,e⟩:=qUm (lYv.mp this);exact⟨k,by omega,e⟩
theorem full7:Full 7:=kYo (by decide +kernel) (by decide +kernel)
theorem full31:Full 31:=kYo (by decide +kernel) (by decide +kernel)
theorem full127:Full 127:=kYo (by decide +kernel) (by decide +kernel)
noncomputable def bts(mask:Nat):Nat->Nat->Nat->Nat
 | 0,_,acc=>acc
 | n+1,i,acc=>bts mask n (five mask i) (acc ||| 2^i)
theorem qXf{mask j:Nat}:∀{n i acc:Nat},(bts mask n i acc).testBit j=true->acc.testBit j=true\/j∈orb mask n i
 | 0,i,acc,h=> .inl h
 | n+1,i,acc,h=>by
  rcases qXf (n:=n) h with h | h
  .rw[Nat.testBit_or,lX0] at h
   rcases h with h | h
   .exact .inl h
   .rw[Nat.testBit_two_pow] at h;exact .inr (by rw[show j=i from (lXa h).symm];exact lJv ..)
  .exact .inr (lJw _ h)
theorem kZ1(h:bts mask (mask+1) 0 0=2^(mask+1)-1)(h0:itr (five mask) (mask+1) 0=0):Full mask:=by
 refine⟨λj hj=> ?_,h0⟩
 have hb:(bts mask (mask+1) 0 0).testBit j=true:=by rw[h,Nat.testBit_two_pow_sub_one];exact lJq (by omega)
 rcases qXf hb with z | z
 .rw[Nat.zero_testBit] at z;cases z
 .obtain⟨k,hk,e⟩:=qUm z;exact⟨k,by omega,e⟩
theorem full511:Full 511:=kZ1 (by decide +kernel) (by decide +kernel)
theorem full2047:Full 2047:=kZ1 (by decide +kernel) (by decide +kernel)
theorem Full.all(h:Full mask)(hi:i<=mask)(hj:j<=mask):∃k,k<=mask/\itr (five mask) k i=j:=by
 obtain⟨a,ha,ea⟩:=h.1 i hi;obtain⟨b,hb,eb⟩:=h.1 j hj
 by_cases c:a<=b
 .refine⟨b-a,by omega,?_⟩
  rw[<-ea,<-jUe,show a+(b-a)=b by omega,eb]
 .refine⟨mask+1-a+b,by omega,?_⟩
  rw[<-ea,<-jUe,show a+(mask+1-a+b)=mask+1+b by omega,jUe,h.2,eb]
theorem qXg(h:Int):bits h<2^64:=by
 unfold bits;have h1:=lVe h (show (2^64:Int)≠0 by decide)
 have h2:=lVo h (show (0:Int)<2^64 by decide)
 omega
theorem kQc(t:SetTable)(h:Int):kQp t (t.probeStart h):=⟨rfl,rfl⟩
theorem met{t:SetTable}(hf:Full t.mask)(h:Int)(hj:j<=t.mask):∃n,n<=10*(t.mask+14)/\(itr t.advance n (t.probeStart h)).j=j:=by
 obtain⟨m,h1,h2,h3⟩:=kKm t 13 _ (kQc t h)
 have hp:(itr t.advance m (t.probeStart h)).perturb=0:=by
  have e:=lKa Prod.snd h3;rw[kYf] at e;refine e.trans (Nat.div_eq_of_lt (lKc (qXg h) (by decide)))
 have hi:(itr t.advance m (t.probeStart h)).i<=t.mask:=by
  have e:=lKa Prod.fst h3;rw[kJa] at e
  have:(lp t.mask (itr (lp t.mask) 12 ((t.probeStart h).i,(t.probeStart h).perturb))).1<=t.mask:=by
   unfold lp leap;exact lK8 (lVp _ (lXf _))
  rw[<-e] at this;exact this
 obtain⟨k,hk,ek⟩:=hf.all hi hj;obtain⟨m',h1',h2',h3'⟩:=kKm t k _ h2;refine⟨m+m',by omega,?_⟩
 rw[jUe,h2'.1];rw[hp,kYg] at h3';exact (lKa Prod.fst h3').trans ek
theorem qXm(t:SetTable)(p:Probe):(t.advance p).dummy=p.dummy:=by unfold SetTable.advance;split<;>rfl
def Miss(t:SetTable)(hashAt:Nat->Int)(h:Int)(j:Nat):Prop:=∃i,t.slot j= .live i/\hashAt i≠h
theorem pgo_ok{t:SetTable}(hd:t.dummies= #[])(hashAt:Nat->Int)(h:Int):∀(n fuel:Nat)(p:Probe),t.slot (itr t.advance n p).j= .empty->n<fuel->p.dummy=none->
  (∃m,m<=n/\t.slot (itr t.advance m p).j= .empty/\(∀k,k<m->Miss t hashAt h (itr t.advance k p).j)/\probe.go t hashAt h fuel p=some (.empty (itr t.advance m p).j none))\/
  (∃m i,m<n/\t.slot (itr t.advance m p).j= .live i/\hashAt i=h/\(∀k,k<m->Miss t hashAt h (itr t.advance k p).j)/\probe.go t hashAt h fuel p=some (.candidate (itr t.advance m p).j i (itr t.advance (m+1) p)))
 | n,0,p,_,hn,_=>absurd hn (lK0 _)
 | n,fuel+1,p,he,hn,hp=>by
  rcases slot_cases hd p.j with ⟨c,_⟩ | ⟨i,c,_⟩
  .left
   refine⟨0,lJ6 _,c,λk hk=>absurd hk (lK0 _),?_⟩
   unfold probe.go;rw[c,hp];rfl
  .by_cases q:hashAt i=h
   .right
    have n0:n≠0:=by rintro rfl;rw[show itr t.advance 0 p=p from rfl,c] at he;cases he
    refine⟨0,i,by omega,c,q,λk hk=>absurd hk (lK0 _),?_⟩
    unfold probe.go;simp only[c,q,lZk,lKm];rfl
   .have n0:n≠0:=by rintro rfl;rw[show itr t.advance 0 p=p from rfl,c] at he;cases he
    obtain⟨n',rfl⟩:∃n',n=n'+1:=⟨n-1,by omega⟩
    have e:probe.go t hashAt h (fuel+1) p=probe.go t hashAt h fuel (t.advance p):=by
     conv=>lhs;unfold probe.go
     have q':(hashAt i == h)=false:=by simpa using q
     simp only[c,q',lKs,lKi]
    have ih:=pgo_ok hd hashAt h n' fuel (t.advance p) he (by omega) (by rw[qXm];exact hp)
    rw[e]
    rcases ih with ⟨m,h1,h2,h3,h4⟩ | ⟨m,i',h1,h2,h3,h4,h5⟩
    .left
     refine⟨m+1,by omega,h2,λk hk=> ?_,h4⟩
     cases k with
     | zero=>exact⟨i,c,q⟩
     | succ k=>exact h3 k (by omega)
    .right
     refine⟨m+1,i',by omega,h2,h3,λk hk=> ?_,h5⟩
     cases k with
     | zero=>exact⟨i,c,q⟩
     | succ k=>exact h4 k (by omega)
end St
end L3
namespace L3
open PySem
namespace St
open SetTable
theorem fm_congr{α β:Type}{f g:α->Option β}:∀{l:List α},(∀x,x∈l->f x=g x)->l.filterMap f=l.filterMap g
 | [],_=>rfl
 | a::l,h=>by rw[lQe,lQe,h a (lJv ..),fm_congr λx hx=>h x (lJw _ hx)]
theorem jYp{g f:Nat->Option Nat}{j k:Nat}(hf:f j=none)(hg:g j=some k)(he:∀i,i≠j->g i=f i):∀{l:List Nat},l.Nodup->j∈l->(l.filterMap g).Perm (k::l.filterMap f)
 | [],_,h=>absurd h (lKy)
 | a::l,hn,h=>by
  rw[lK4] at hn
  by_cases e:a=j
  .subst e;rw[lX2 hg,lZx hf];refine List.Perm.cons _ (List.Perm.of_eq (fm_congr λx hx=>he x ?_))
   rintro rfl;exact hn.1 hx
  .have ih:=jYp hf hg he hn.2 ((lJp.mp h).resolve_left (λz=>e z.symm))
   cases q:f a with
   | none=>rw[lZx (by rw[he a e];exact q),lZx q];exact ih
   | some b=>
    rw[lX2 (by rw[he a e];exact q),lX2 q]
    exact (List.Perm.cons b ih).trans (List.Perm.swap _ _ _)
noncomputable def jK7(owner:Array (Option Nat))(j:Nat):Option Nat:=owner.getD j none
def uYf(t:SetTable)(owner:Array (Option Nat))(h:Int)(j:Nat):Prop:=∃n,(itr t.advance n (t.probeStart h)).j=j/\∀k,k<n->jK7 owner (itr t.advance k (t.probeStart h)).j≠none
structure Own (t:SetTable) (hashes:List Int) (owner:Array (Option Nat)) (n:Nat):Prop where
 size:owner.size=t.mask+1
 perm:((List.range (t.mask+1)).filterMap (jK7 owner)).Perm (List.range n)
 chain:∀j i,jK7 owner j=some i->∃h,hashes[i]? =some h/\uYf t owner h j
variable {mask:Nat}
theorem uKw{x:Nat×Nat}(hx:x.1<=mask):∀(k:Nat),(itr (lp mask) k x).1<=mask
 | 0=>hx
 | k+1=>by
  rw[kJa];unfold lp leap;exact lK8 (lVp _ (lXf _))
theorem kXy{i:Nat}(h:i<=mask):runEnd mask i<=mask:=by unfold runEnd;split<;>omega
theorem qQp(mask i:Nat):i<=runEnd mask i:=by unfold runEnd;split<;>omega
theorem qVl{t:SetTable}{owner:Array (Option Nat)}(hz:owner.size=t.mask+1):∀(fuel:Nat)(p:Probe),kQp t p->p.i<=t.mask->∀K,K<fuel->jK7 owner (itr (lp t.mask) K (p.i,p.perturb)).1=none->
  ∃n j,layClean.free t.mask owner fuel p.i p.perturb=some j/\(itr t.advance n p).j=j/\j<=t.mask/\jK7 owner j=none/\∀k,k<n->jK7 owner (itr t.advance k p).j≠none
 | 0,p,_,_,K,hK,_=>absurd hK (lK0 _)
 | fuel+1,p,hl,hi,K,hK,he=>by
  have hr:=kXy hi;have hg:=qQp t.mask p.i
  have sl:∀k,k<runEnd t.mask p.i+1-p.i->((owner.getD (p.i+k) (some 0)).isNone=true↔jK7 owner (p.i+k)=none):=by
   intro k hk;unfold jK7;have:p.i+k<owner.size:=by omega
   simp[Array.getD,this]
  have pj:∀k,k<runEnd t.mask p.i+1-p.i->(itr t.advance k p).j=p.i+k:=by
   intro k hk;rw[kJi t k p (by rw[hl.2];omega)]
   show p.j+k=_
   rw[hl.1]
  unfold layClean.free;cases q:(List.range (runEnd t.mask p.i+1-p.i)).find? (λk=>(owner.getD (p.i+k) (some 0)).isNone) with
  | some k=>
   obtain⟨h1,as,bs,h2,h3⟩:=List.find?_eq_some_iff_append.mp q
   have hk:k<runEnd t.mask p.i+1-p.i:=by
    have:k∈List.range (runEnd t.mask p.i+1-p.i):=by rw[h2];simp
    exact lKb.mp this
   have ha:∀x,x<k->x∈as:=by
    intro x hx
    have e:as.length=k:=by
     have e1:(List.range (runEnd t.mask p.i+1-p.i))[as.length]? =some k:=by rw[h2];simp
     rw[lXi (by have:=lKa List.length h2;simp at this;omega)] at e1
     exact lJ3 e1
    have e2:(List.range (runEnd t.mask p.i+1-p.i))[x]? =as[x]? :=by rw[h2,lK6 (by omega)]
    rw[lXi (by omega)] at e2
    exact lJs e2.symm
   refine⟨k,p.i+k,rfl,pj k hk,by omega,(sl k hk).mp h1,λx hx=> ?_⟩
   rw[pj x (by omega)]
   intro z;have:=h3 x (ha x hx);rw[(sl x (by omega)).mpr z] at this
   exact absurd this (by decide)
  | none=>
   have none_:∀k,k<runEnd t.mask p.i+1-p.i->jK7 owner (p.i+k)≠none:=by
    intro k hk z;have:=List.find?_eq_none.mp q k (lKb.mpr hk);exact this ((sl k hk).mpr z)
   have K0:K≠0:=by
    rintro rfl;exact none_ 0 (by omega) he
   obtain⟨K',rfl⟩:∃K',K=K'+1:=⟨K-1,by omega⟩
   have hm:p.more=runEnd t.mask p.i-p.i:=hl.2
   have e1:itr t.advance (p.more+1) p={p with j:=(leap t.mask p.i p.perturb).1,more:=runEnd t.mask (leap t.mask p.i p.perturb).1-(leap t.mask p.i p.perturb).1,i:=(leap t.mask p.i p.perturb).1,perturb:=(leap t.mask p.i p.perturb).2}:=by
    rw[kJa,kJi t p.more p (lJh _)];unfold SetTable.advance;rw[lJa (by show ¬ p.more-p.more>0;omega)]
   have hl2:kQp t (itr t.advance (p.more+1) p):=by rw[e1];exact⟨rfl,rfl⟩
   have hi2:(itr t.advance (p.more+1) p).i<=t.mask:=by
    rw[e1];exact lK8 (lVp _ (lXf _))
   obtain⟨n,j,g1,g2,g3,g4,g5⟩:=qVl hz fuel _ hl2 hi2 K' (by omega) (by rw[e1];exact he)
   refine⟨p.more+1+n,j,?_,?_,g3,g4,λk hk=> ?_⟩
   .rw[e1] at g1;exact g1
   .rw[jUe];exact g2
   .by_cases c:k<p.more+1
    .rw[pj k (by omega)];exact none_ k (by omega)
    .have:=g5 (k-(p.more+1)) (by omega)
     rw[<-jUe,show p.more+1+(k-(p.more+1))=k by omega] at this
     exact this
variable {owner:Array (Option Nat)}
theorem jYg{j k:Nat}(hj:j<owner.size)(i:Nat):jK7 (owner.setIfInBounds j (some k)) i=if i=j then some k else jK7 owner i:=by
 unfold jK7;rw[lXj,lXj,lYw]
 by_cases e:j=i
 .subst e;simp[hj]
 .rw[lJa e,lJa (λz=>e z.symm)]
variable {n:Nat}
theorem qVk{t:SetTable}(hf:Full t.mask){hashes:List Int}(o:Own t hashes owner n)(hn:n<=t.mask)(h:Int):∃K,K<turns t.mask/\jK7 owner (itr (lp t.mask) K ((t.probeStart h).i,(t.probeStart h).perturb)).1=none:=by
 have hex:∃j,j<=t.mask/\jK7 owner j=none:=by
  apply lVw;intro q
  have all:∀j,j∈List.range (t.mask+1)->(jK7 owner j).isSome=true:=by
   intro j hj;cases e:jK7 owner j with
   | none=>exact absurd ⟨j,by have:=lKb.mp hj;omega,e⟩ q
   | some _=>rfl
  have len:∀l:List Nat,(∀j,j∈l->(jK7 owner j).isSome=true)->(l.filterMap (jK7 owner)).length=l.length:=by
   intro l hl
   induction l with
   | nil=>rfl
   | cons a l ih=>
    obtain⟨b,hb⟩:=lVn.mp (hl a (lJv ..));rw[lX2 hb,lJ8,lJ8,ih λj hj=>hl j (lJw _ hj)]
  have:=o.perm.length_eq;rw[len _ all,lK1,lK1] at this;omega
 obtain⟨j,hj,e⟩:=hex;have hs:(t.probeStart h).i<=t.mask:=lK8 (lVp _ (lXf _));have h13:=kYf t.mask 13 ((t.probeStart h).i,(t.probeStart h).perturb);have z:(t.probeStart h).perturb / 32^13=0:=Nat.div_eq_of_lt (lKc (qXg h) (by decide))
 obtain⟨k,hk,ek⟩:=hf.all (uKw (x:=((t.probeStart h).i,(t.probeStart h).perturb)) hs 13) hj;refine⟨13+k,by unfold turns;omega,?_⟩
 rw[jUe]
 generalize hy:itr (lp t.mask) 13 ((t.probeStart h).i,(t.probeStart h).perturb)=y at h13 ek
 obtain⟨y1,y2⟩:=y;have y0:y2=0:=h13.trans z;subst y0;rw[kYg,ek];exact e
theorem qYq{t:SetTable}(hf:Full t.mask){hashes:List Int}{h:Int}(o:Own t hashes owner n)(hn:n<t.mask+1)(hh:hashes[n]? =some h)(hn':n<=t.mask):
  ∃j,layClean.free t.mask owner (turns t.mask) (bits h%(t.mask+1)) (bits h)=some j/\Own t hashes (owner.setIfInBounds j (some n)) (n+1):=by
 obtain⟨K,hK,eK⟩:=qVk hf o hn' h;have hs:(t.probeStart h).i<=t.mask:=lK8 (lVp _ (lXf _));obtain⟨m,j,g1,g2,g3,g4,g5⟩:=qVl o.size (turns t.mask) (t.probeStart h) (kQc t h) hs K hK eK;have hj:j<owner.size:=by rw[o.size];omega
 have grow:∀i,jK7 owner i≠none->jK7 (owner.setIfInBounds j (some n)) i≠none:=by
  intro i hi;rw[jYg hj];split
  .simp
  .exact hi
 refine⟨j,g1,by rw[lZy];exact o.size,?_,?_⟩
 .refine (jYp (f:=jK7 owner) (j:=j) (k:=n) g4 (by rw[jYg hj,lJc rfl]) (λi hi=>by rw[jYg hj,lJa hi]) (lV3) (lKb.mpr (by omega))).trans ?_
  rw[lX3 (n:=n)];exact (List.Perm.cons n o.perm).trans (List.perm_append_singleton n _).symm
 .intro i x hx;rw[jYg hj] at hx
  by_cases e:i=j
  .subst e;rw[lJc rfl] at hx;cases hx;exact⟨h,hh,m,g2,λk hk=>grow _ (g5 k hk)⟩
  .rw[lJa e] at hx;obtain⟨h',e1,n',e2,e3⟩:=o.chain i x hx;exact⟨h',e1,n',e2,λk hk=>grow _ (e3 k hk)⟩
theorem qUl(t:SetTable)(hashes:List Int):Own t hashes (Array.replicate (t.mask+1) none) 0:=by
 have z:∀j,jK7 (Array.replicate (t.mask+1) none) j=none:=by
  intro j;unfold jK7;rw[lXj,Array.getElem?_replicate];split<;>rfl
 refine⟨by simp,?_,λj i h=>by rw[z] at h;cases h⟩
 have:(List.range (t.mask+1)).filterMap (jK7 (Array.replicate (t.mask+1) none))=[]:=by
  rw[List.filterMap_eq_nil_iff];intro j _;exact z j
 rw[this];exact List.Perm.nil
theorem qVm{t:SetTable}(hf:Full t.mask)(all:List Int)(hn:all.length<=t.mask):∀(l:List Int)(done:List Int)(owner:Array (Option Nat)),all=done++l->Own t all owner done.length->
  ∃owner',l.foldl (λ(acc:Option (Array (Option Nat)×Nat)) h=>do
   let (owner,k) <-acc
   let j <-layClean.free t.mask owner (turns t.mask) (bits h%(t.mask+1)) (bits h)
   pure (owner.setIfInBounds j (some k),k+1)) (some (owner,done.length))=some (owner',all.length)/\Own t all owner' all.length
 | [],done,owner,e,o=>by
  rw[lQd] at e;subst e;exact⟨owner,rfl,o⟩
 | h::l,done,owner,e,o=>by
  have hlt:done.length<all.length:=by rw[e];simp
  obtain⟨j,h1,o'⟩:=qYq (h:=h) hf o (by omega) (by rw[e];simp) (by omega)
  have e':all=(done++[h])++l:=by rw[e];simp
  obtain⟨owner',h2,h3⟩:=qVm hf all hn l (done++[h]) _ e' (by simpa using o')
  refine⟨owner',?_,h3⟩;rw[lXd]
  have:(do
   let (owner,k) <-some (owner,done.length)
   let j <-layClean.free t.mask owner (turns t.mask) (bits h%(t.mask+1)) (bits h)
   pure (owner.setIfInBounds j (some k),k+1))=some (owner.setIfInBounds j (some done.length),done.length+1):=by
   show (layClean.free t.mask owner (turns t.mask) (bits h%(t.mask+1)) (bits h)).bind _=_
   rw[h1];rfl
  rw[this]
  simpa using h2
theorem kYj{t:SetTable}(hf:Full t.mask)(hashes:Array Int)(hn:hashes.size<=t.mask):∃owner,layClean t.mask hashes=some owner/\Own t hashes.toList owner hashes.size:=by
 obtain⟨owner,h1,h2⟩:=qVm hf hashes.toList (by simpa using hn) hashes.toList [] _ rfl (qUl t _)
 refine⟨owner,?_,by simpa using h2⟩
 unfold layClean;rw[<-Array.foldl_toList];have h1':=h1;simp only[lQp] at h1';rw[h1'];rfl
def uYg(t:SetTable)(h:Int)(j:Nat):Prop:=∃n,(itr t.advance n (t.probeStart h)).j=j/\∀k,k<n->(itr t.advance k (t.probeStart h)).j∈t.place.toList
structure Good (t:SetTable) (hs:List Int):Prop where
 len:t.place.size=hs.length
 ris:Ris t.place
 dum:t.dummies= #[]
 chain:∀x,x∈t.place.toList.zip hs->uYg t x.2 x.1
theorem laid_ok(hf:Full mask)(finger moves:Nat)(led plain:Bool)(hashes:Array Int)(hn:hashes.size<=mask):
  ∃t order,laid mask finger moves led plain hashes=some (t,order)/\t.mask=mask/\t.led=led/\t.plain=plain/\order.toList.Perm (List.range hashes.size)/\Good t (order.toList.filterMap (hashes[·]?)):=by
 let t0:SetTable:={mask:=mask,place:= #[],dummies:= #[],finger:=finger,led:=led,moves:=moves,plain:=plain}
 obtain⟨owner,h1,o⟩:=kYj (t:=t0) hf hashes hn;have hl:layClean mask hashes=some owner:=h1
 let live:=(List.range (mask+1)).filterMap λj=>((owner.getD j none).map (j,·))
 refine⟨{mask:=mask,place:=(live.map (·.1)).toArray,dummies:= #[],finger:=finger,led:=led,moves:=moves,plain:=plain},(live.map (·.2)).toArray,?_,rfl,rfl,rfl,?_,?_⟩
 .unfold laid;rw[hl];rfl
 .have e:live.map (·.2)=(List.range (mask+1)).filterMap (jK7 owner):=by
   show ((List.range (mask+1)).filterMap λj=>(owner.getD j none).map (j,·)).map (·.2)=_
   rw[List.map_filterMap];refine fm_congr λj _=> ?_
   unfold jK7;cases owner.getD j none<;>rfl
  show (live.map (·.2)).Perm _
  rw[e];exact o.perm
 .have live_mem:∀j k,(j,k)∈live->jK7 owner j=some k/\j<=mask:=by
   intro j k hm;obtain⟨j',hj',e⟩:=lYl.mp hm;obtain⟨k',e1,e2⟩:=lQg.mp e;cases e2;exact⟨e1,by have:=lKb.mp hj';omega⟩
  have mem_place:∀j,j∈live.map (·.1)↔jK7 owner j≠none/\j<=mask:=by
   intro j
   constructor
   .intro hm;obtain⟨⟨j',k⟩,h2,rfl⟩:=lJj.mp hm;obtain⟨h3,h4⟩:=live_mem _ _ h2;exact⟨by rw[h3];simp,h4⟩
   .rintro⟨h2,h3⟩;obtain⟨k,hk⟩:=Option.ne_none_iff_exists'.mp h2;refine lJj.mpr ⟨(j,k),lYl.mpr ⟨j,lKb.mpr (by omega),?_⟩,rfl⟩
    show (jK7 owner j).map _=_
    rw[hk];rfl
  have hin:∀k,k∈live.map (·.2)->k<hashes.size:=by
   intro k hk;obtain⟨⟨j,k'⟩,h2,rfl⟩:=lJj.mp hk;obtain⟨h',e1,_⟩:=o.chain j k' (live_mem _ _ h2).1;have:=(lJk.mp e1).1
   simpa using this
  have fm:∀l:List Nat,(∀k,k∈l->k<hashes.size)->∀i:Nat,(l.filterMap (hashes[·]?)).length=l.length/\(l.filterMap (hashes[·]?))[i]? =(l[i]?).bind (hashes[·]?):=by
   intro l
   induction l with
   | nil=>intro _ i;exact⟨rfl,by simp⟩
   | cons a l ih=>
    intro hl i;have ha:=hl a (lJv ..);have e:hashes[a]? =some hashes[a]:=lK7 ha;have ih':=ih (λk hk=>hl k (lJw _ hk))
    rw[lX2 e];refine⟨by rw[lJ8,lJ8,(ih' 0).1],?_⟩
    cases i with
    | zero=>simp[e]
    | succ i=>simpa using (ih' i).2
  refine⟨?_,?_,rfl,?_⟩
  .show (live.map (·.1)).toArray.size=_
   rw[lJx,lJd];have:=(fm (live.map (·.2)) hin 0).1
   rw[lJd] at this;exact this.symm
  .show (live.map (·.1)).Pairwise (· < ·)
   rw[lV4]
   have:live.Pairwise λa b=>a.1<b.1:=by
    show ((List.range (mask+1)).filterMap λj=>(owner.getD j none).map (j,·)).Pairwise _
    rw[List.pairwise_filterMap];refine (List.pairwise_lt_range).imp λ{a b} hab x hx y hy=> ?_
    obtain⟨k,_,e⟩:=lQg.mp hx;obtain⟨k',_,e'⟩:=lQg.mp hy;rw[<-e,<-e'];exact hab
   exact this
  .intro x hx;obtain⟨i,hi,hxe⟩:=lXh hx;rw[List.getElem_zip] at hxe;obtain⟨xj,h⟩:=x;obtain⟨pe,he⟩:=Prod.mk.inj hxe;have hi':i<live.length:=by rw[lX4] at hi;have:=lKc hi (Nat.min_le_left _ _);simpa using this
   have hh:((live.map (·.2)).filterMap (hashes[·]?))[i]? =some h:=by rw[<-he];exact lJl _
   have pl:live[i].1=xj:=by rw[<-pe];simp
   show uYg _ h xj
   rw[<-pl];have e2:=(fm (live.map (·.2)) hin i).2
   have hh':((live.map (·.2)).filterMap (hashes[·]?))[i]? =some h:=hh
   rw[hh',lJ0,lJl hi'] at e2;have e3:hashes[live[i].2]? =some h:=e2.symm;obtain⟨h3,h4⟩:=live_mem live[i].1 live[i].2 (lQi hi');obtain⟨h',e4,n,e5,e6⟩:=o.chain _ _ h3
   have:h'=h:=by
    have:hashes.toList[live[i].2]? =some h:=by simpa using e3
    rw[this] at e4;exact (lJ3 e4).symm
   subst this;refine⟨n,e5,λk hk=> ?_⟩
   show (itr t0.advance k (t0.probeStart h')).j∈live.map (·.1)
   refine (mem_place _).mpr ⟨e6 k hk,?_⟩;apply lVw;intro z;refine e6 k hk ?_;unfold jK7;rw[lXj,lVc (by rw[o.size];show mask+1<=_;omega)]
   rfl
end St
end L3
namespace L3
open PySem PySem.Spec PyProof.Rows L2
def kKo(h h':Heap):Prop:=∀b o,h.get? b=some o->o.cls= .type "tuple"->h'.get? b=some o
variable {prog:Program}{w:World}{h h':Heap}{a:Addr}
section
variable {K:Type}[DecidableEq K]{c:Nat}
def Stab(V:KeyV prog w K c):Prop:=∀{h h':Heap}{k:K}{v:Value},kKo h h'->V.is h k v->V.is h' k v
theorem qJs{V:KeyV prog w K c}(hV:Stab V)(kp:kKo h h'){ks:List K}{vs:List Value}(hi:ItemsV V h ks vs):ItemsV V h' ks vs:=by
 induction hi with
 | nil=>exact .nil
 | cons a _ ih=>exact .cons (hV kp a) ih
theorem kY5{V:KeyV prog w K c}(hV:Stab V):Stab (jVt V):=by
 rintro h h' k v kp ⟨a,o,items,n,rfl,ho,hc,hd,hi⟩;exact⟨a,o,items,n,rfl,kp a o ho hc,hc,hd,qJs hV kp hi⟩
theorem kY6{V:KeyV prog w K c}(hV:Stab V):Stab (qXy V):=by
 rintro h h' (k | k) v kp hx
 .exact hx
 .exact kY5 hV kp hx
theorem qQe:Stab (kQo prog w):=λ_ hx=>hx
theorem jYe{k:TKey}(kp:kKo h h')(hx:(jJu prog w).is h k a):(jJu prog w).is h' k a:=kY5 (kY6 (kY6 qQe)) kp hx
noncomputable def intK:Key->Bool
 | .inl _=>true
 | .inr _=>false
noncomputable def intS{α:Type}(f:α->Bool):Key ⊕ List α->Bool
 | .inl k=>intK k
 | .inr ks=>ks.all f
noncomputable def intT:TKey->Bool:=λks=>ks.all (intS (intS intK))
end
variable {A:Around}{E:Value->Shared->Prop}{s:Shared}{n:Nat}
def hashes(prog:Program)(w:World)(es:List (TKey×Addr)):List Int:=es.map λe=>(jJu prog w).hash e.1
def MaskOk(mask n:Nat):Prop:=(mask=7/\n<=4)\/(mask=31/\n<=18)\/(mask=127/\n<=76)\/(mask=511/\n<=306)\/(mask=2047/\n<=1228)
theorem MaskOk.full{mask:Nat}(h:MaskOk mask n):St.Full mask/\n<=mask/\mask%2=1:=by
 rcases h with ⟨rfl,h⟩ | ⟨rfl,h⟩ | ⟨rfl,h⟩ | ⟨rfl,h⟩ | ⟨rfl,h⟩
 .exact⟨St.full7,by omega,rfl⟩
 .exact⟨St.full31,by omega,rfl⟩
 .exact⟨St.full127,by omega,rfl⟩
 .exact⟨St.full511,by omega,rfl⟩
 .exact⟨St.full2047,by omega,rfl⟩
theorem uXo{t:SetTable}(hd:t.dummies= #[])(hn:t.place.size<=t.mask):∃j,j<=t.mask/\t.slot j= .empty:=by
 have:∃j,j<=t.mask/\j∉t.place.toList:=by
  apply lVw;intro q
  have sub:(List.range (t.mask+1)) ⊆ t.place.toList:=by
   intro j hj;apply lVw;intro z;exact q ⟨j,by have:=lKb.mp hj;omega,z⟩
  have:=lV3.length_le_of_subset sub;simp at this;omega
 obtain⟨j,h1,h2⟩:=this;exact⟨j,h1,St.slot_empty hd h2⟩
theorem qUe{o:Obj}{arr:Array (Int×Value)}{ep:Nat}{t:SetTable}(ho:h.get? a=some o)(hd:o.data= .set arr ep t)(arr':Array (Int×Value))(t':SetTable):
  (h.update a (Obj.putSet arr' t')).get? a=some {o with data:= .set arr' (ep+1) t'}:=by
 have:=lXo (Obj.putSet arr' t') ho (by rw[putSet_of arr' t' hd];rfl)
 rw[putSet_of arr' t' hd] at this;exact this
theorem kQe{α:Type}{l:List Nat}{xs:List α}(hp:l.Perm (List.range xs.length)):(l.filterMap (xs[·]?)).Perm xs:=by
 have:=hp.filterMap (λi=>xs[i]?)
 rw[List.filterMap_getElem?_range_length] at this;exact this
theorem kJ9{α β:Type}(f:α->β)(xs:List α):∀l:List Nat,(l.filterMap (xs[·]?)).map f=l.filterMap ((xs.map f)[·]?)
 | []=>rfl
 | a::l=>by
  rw[lQe,lQe,lJ0];cases xs[a]? with
  | none=>exact kJ9 f xs l
  | some x=>rw[lJo,kJ9 f xs l];rfl
section
noncomputable def bt(w:World):Bool:=w.params.followText "set-order"
section
variable {R:Result->Shared->Prop}{I:Addr}{fp:List Addr}{G:Array GenState->Array GenState->Prop}{P:Nat->Value->Prop}{St:Nat->Shared->Prop}
end
theorem qX3(a:Value){Q₁:Value->Shared->Prop}(h:Q₁ (.ref s.heap.objs.size) {s with heap:=s.heap.push {cls:= .type "set",dict:=none,data:= .set #[] 0 (.fresh 0 0 (!bt w))} }):codeAny (model prog w) A (.call (.builtin "set.__new__") ⟨[.type "set",a],[]⟩) (wants Q₁ E) s:=by
 refine codeAny_of_tree ?_;refine (show wpAny _ A.in1 (do checkBuiltinCall "set.__new__" ⟨[.type "set",a],[]⟩;again (.builtin "set.__new__" ⟨[.type "set",a],[]⟩)) _ _ s from ?_)
 (refine lJb (wpAny_of_eq (F.newCall_set_1 a) (lJe ⟨lVl F.plain_set_new _,lQ4 F.entry_set_new ?_⟩)))
 (rw[lVf F.plain_set_new _])
 (unfold Builtin.«set.__new__» Builtin.Frozenset.newClass)
 have hsub:=sub_set_self
 (obtain⟨hp,g,d,tk,os⟩:=s)
 dsimp only
 wp_walk
 (refine lYi (lJe ?_))
 dsimp only
 simp only[newObj]
 (refine lJb (wpAny_alloc (lJe ?_)))
 exact lJe h
noncomputable def jXk(w:World):Obj:={cls:= .type "set",dict:=none,data:= .set #[] 0 (.fresh 0 0 (!bt w))}
end
namespace Si
theorem own:Manifest.owners.lookup (String.ofList ['r','o','t','a','r','e','t','i','_','t','e','s'].reverse)=some Manifest.sig_set_iterator:=by kernel_rfl
theorem slot_next:Slot "set_iterator" "__next__" "set_iterator.__next__":=
 .of (owner:="set_iterator") (n:="__next__") (by rw[mJn,mJo];kernel_rfl) (by decide +kernel) (by decide +kernel) (by decide +kernel) (by first | exact .inl (by decide +kernel) | exact .inr (by decide +kernel)) (by rw[isSubtype_type];kernel_rfl)
theorem entry_next:entryFor table "set_iterator.__next__"=some Builtin.«set_iterator.__next__» :=entryFor_of_tree (by kernel_rfl)
theorem args_next(a:Value):argsOk "set_iterator.__next__" ⟨[a],[]⟩:=by
 unfold argsOk;rw[signature?_of (id:="set_iterator.__next__") (n:=['_','_','t','x','e','n','_','_']) (o:=['r','o','t','a','r','e','t','i','_','t','e','s']) (by kernel_rfl) own];kernel_rfl
theorem entry_iter:entryFor table "set.__iter__"=some Builtin.«frozenset.__iter__» :=entryFor_alias (id':="frozenset.__iter__") (by kernel_rfl) rfl (by decide +kernel) (by kernel_rfl)
theorem slot_iter:Slot "set_iterator" "__iter__" "set_iterator.__iter__":=
 .of (owner:="set_iterator") (n:="__iter__") (by rw[mJn,mJo];kernel_rfl) (by decide +kernel) (by decide +kernel) (by decide +kernel) (by first | exact .inl (by decide +kernel) | exact .inr (by decide +kernel)) (by rw[isSubtype_type];kernel_rfl)
theorem entry_it:entryFor table "set_iterator.__iter__"=some Builtin.«dict_keyiterator.__iter__» :=entryFor_alias (id':="dict_keyiterator.__iter__") (by kernel_rfl) rfl (by decide +kernel) (by kernel_rfl)
theorem args_it(a:Value):argsOk "set_iterator.__iter__" ⟨[a],[]⟩:=by
 unfold argsOk;rw[signature?_of (id:="set_iterator.__iter__") (n:=['_','_','r','e','t','i','_','_']) (o:=['r','o','t','a','r','e','t','i','_','t','e','s']) (by kernel_rfl) own];kernel_rfl
end Si
section
variable {prog:Program}{w:World}{A:Around}{E:Value->Shared->Prop}{s:Shared}
theorem kQk{α:Type}:∀{l:List α}{i:Nat}(h:i<l.length),(l[i]::l.eraseIdx i).Perm l
 | a::l,0,_=> .refl _
 | a::l,i+1,h=>by
  have hi:i<l.length:=by simpa using h
  exact (List.Perm.swap _ _ _).trans (List.Perm.cons a (kQk hi))
theorem qUi{α:Type}(next:Nat->Nat):∀(fuel k:Nat)(left:List α)(out:Array α),fuel=left.length->(pickOrder.go next fuel k left out).toList.Perm (out.toList++left)
 | 0,k,left,out,h=>by
  have:left=[]:=mJs h.symm;subst this;rw[lQd];exact .refl _
 | fuel+1,k,left,out,h=>by
  have hl:next k%left.length<left.length:=lVp _ (by omega)
  unfold pickOrder.go;rw[lJl hl]
  dsimp only
  refine (qUi next fuel (k+1) _ _ (by rw[List.length_eraseIdx_of_lt hl];omega)).trans ?_
  rw[Array.toList_push,lJt]
  (refine lV5 _ ?_)
  rw[List.singleton_append];exact kQk hl
theorem qUh{α:Type}(next:Nat->Nat)(xs:Array α):(pickOrder next xs).toList.Perm xs.toList:=by
 have:=qUi next xs.size 0 xs.toList #[] (by simp)
 rw[show (#[]:Array α).toList++xs.toList=xs.toList from rfl] at this
 exact this
noncomputable def ordS(w:World)(S:Addr)(ep:Nat)(arr:Array (Int×Value)):Array (Int×Value):=if bt w=true then pickOrder (w.params.setOrder S ep) arr else arr
theorem jYk(w:World)(S:Addr)(ep:Nat)(arr:Array (Int×Value)):(ordS w S ep arr).toList.Perm arr.toList:=by
 unfold ordS;split
 .exact qUh _ _
 .exact .refl _
noncomputable def jXg(w:World)(t:SetTable)(i:Nat):Nat:=if bt w=true then 0 else if i=0 then 0 else t.place.getD (i-1) 0+1
noncomputable def qKg(S:Addr)(ep n slot i:Nat):Obj:={cls:= .type "set_iterator",dict:=none,data:= .fields #[.int slot 0,.int i 0,.ref S,.int n 0,.int ep 0],slots:= #[]}
theorem qZe{S:Addr}{o:Obj}(hg:s.heap.get? S=some o)(hc:o.cls= .type "set"){Q:Bool->Shared->Prop}(h:Q false s):wpAny (model prog w) A (Builtin.List.listLengthHint (.ref S)) Q E s:=by
 have hT:s.TypeIs (.ref S) "set":=⟨o,hg,hc⟩
 (unfold Builtin.List.listLengthHint)
 refine lJb (mJd hT PySem.F.slot_set_len.lookup ?_)
 generalize hn:("set.__len__":String)=nm
 wp_delta
 rw[show splitId nm=some ("set","__len__") by subst hn;decide +kernel];subst hn
 refine lJb (lZe (T:="set") (b:=true) hT (by rw[isSubtype_type];kernel_rfl) (mJp (λz=>absurd z (by decide)) λ_=> ?_))
 refine mJp (λ_=> ?_) λz=>absurd (by decide +kernel) z
 exact lJb (lVk hT (lJe h))
end
end L3
namespace L3
open PySem PySem.Spec PyProof.Rows L2
noncomputable def lexLt{K:Type}[DecidableEq K](lt:K->K->Option Bool):List K->List K->Option Bool
 | [],[]=>some false
 | [],_::_=>some true
 | _::_,[]=>some false
 | x::xs,y::ys=>if x=y then lexLt lt xs ys else lt x y
noncomputable def ltI:Key->Key->Option Bool
 | .inl i,.inl j=>some (decide (i<j))
 | _,_=>none
def ltS{K:Type}[DecidableEq K](lt:K->K->Option Bool):Key ⊕ List K->Key ⊕ List K->Option Bool
 | .inl x,.inl y=>ltI x y
 | .inr x,.inr y=>lexLt lt x y
 | _,_=>none
def ltK:TKey->TKey->Option Bool:=lexLt (ltS (ltS ltI))
section
variable {prog:Program}{w:World}{K:Type}[DecidableEq K]{c:Nat}
def LtV(V:KeyV prog w K c)(lt:K->K->Option Bool):Prop:=∀{A:Around}{E:Value->Shared->Prop}{s:Shared}{x y:K}{u v:Value}{b:Bool}{Q:Value->Shared->Prop},A.units+c<cLine->V.is s.heap x u->V.is s.heap y v->lt x y=some b->Q (.bool b) s->wpAny (model prog w) A (compareOp .Lt u v) Q E s
theorem qUz:LtV (kQo prog w) ltI:=by
 intro A E s x y u v b Q _ hx hy hl h
 rcases jJs (show jZb x u=true from hx) with ⟨i,t,rfl,rfl⟩ | ⟨i,t,rfl,rfl⟩
 .rcases jJs (show jZb y v=true from hy) with ⟨j,t',rfl,rfl⟩ | ⟨j,t',rfl,rfl⟩
  .cases hl;exact PyProof.Rows.lt_int h
  .cases hl
 .cases hl
open PySem.SeqAt in
open PySem.AutoSeq1 (wpAny_loadPart') in
open PySem.MeetsSeq PySem.MeetsSeq2 PySem.MeetsSeq3 in
theorem uV6{V:KeyV prog w K c}{lt:K->K->Option Bool}(hV:LtV V lt):LtV (jVt V) (lexLt lt):=by
 rintro A E s x y u v b Q hu ⟨a1,o1,its1,n1,rfl,ho1,hc1,hd1,hi1⟩ ⟨a2,o2,its2,n2,rfl,ho2,hc2,hd2,hi2⟩ hl h;obtain⟨cls,dd,data,sl⟩:=o1;obtain⟨cls2,dd2,data2,sl2⟩:=o2;simp only at hc1 hd1 hc2 hd2;subst hc1 hd1 hc2 hd2;have hT1:s.TypeIs (.ref a1) "tuple":=⟨_,ho1,rfl⟩;have hT2:s.TypeIs (.ref a2) "tuple":=⟨_,ho2,rfl⟩;refine (show wpAny _ _ (richCompare .Lt (.ref a1) (.ref a2)) _ _ s from wpAny_richCompare_same_room hT1 hT2 PySem.F.slot_tuple_lt (lQn PySem.F.slot_tuple_lt hT1 PySem.F.entry_tuple_lt ?_ (PySem.F.args_tuple_lt_2 _ _)) (by omega))
 have f2:=AutoSeq1.sub_tuple_tuple
 (obtain⟨hp,g,d,tk,os⟩:=s)
 have z1:its1.size=x.length:=by rw[hi1.length];simp
 have z2:its2.size=y.length:=by rw[hi2.length];simp
 wp_walk using wpAny_loadPart' ho1,wpAny_loadPart' ho2,wpAny_forIn_list _ (λrest bb s'=>bb.1=none/\s'=⟨hp,g,d,tk,os⟩/\∃(vs ws:List Value)(x' y':List K),rest=vs.zip ws/\ItemsV V hp x' vs/\ItemsV V hp y' ws/\x'.length+its2.size=y'.length+its1.size/\lexLt lt x' y'=some b) _
 case turn=>
  rintro⟨p,q⟩ rest bb s' ⟨hb',rfl,vs,ws,x',y',hz,hv1,hv2,hlen,hR⟩;cases hv1 with
  | nil=>rw[List.zip_nil_left] at hz;cases hz
  | @cons k1 v1 ks1 vs1 h1 hv1'=>
   cases hv2 with
   | nil=>rw[List.zip_nil_right] at hz;cases hz
   | @cons k2 v2 ks2 vs2 h2 hv2'=>
    rw[lXu] at hz;injection hz with hyx hrest
    injection hyx with hy hx
    subst hy hx;simp only[lJ8] at hlen;have he:=V.eqAt (A:=A.in1) (s:=⟨hp,g,d,tk,os⟩) (by rw[lQ6];omega) h1 h2
    refine lJb (he prog w _ _ ?_)
    by_cases e:k1=k2
    .have hR':lexLt lt ks1 ks2=some b:=by
      have:=hR;unfold lexLt at this;rw[lJc e] at this;exact this
     rw[lJq e]
     wp_walk
     exact⟨rfl,rfl,_,_,_,_,hrest,hv1',hv2',by omega,hR'⟩
    .have hR':lt k1 k2=some b:=by
      have:=hR;unfold lexLt at this;rw[lJa e] at this;exact this
     rw[lJy e];have hri:∀{Q':Value->Shared->Prop}{E':Value->Shared->Prop},Q' (.bool b) ⟨hp,g,d,tk,os⟩->wpAny (model prog w) A.in1 (richCompare .Lt p q) Q' E' ⟨hp,g,d,tk,os⟩:=λhq=>(hV (A:=A.in1) (s:=⟨hp,g,d,tk,os⟩) (by rw[lQ6];omega) h1 h2 hR' hq:wpAny (model prog w) A.in1 (compareOp .Lt p q) _ _ _)
     wp_walk using hri
     exact⟨_,rfl,(λz=>nomatch z),h⟩
 case fin=>
  rintro⟨b1,b2⟩ s' ⟨hb',rfl,vs,ws,x',y',hz,hv1,hv2,hlen,hR⟩;simp only at hb';subst hb'
  have hv:b=decide (its1.size<its2.size):=by
   cases hv1 with
   | nil=>
    cases hv2 with
    | nil=>simp only[lQp] at hlen;cases hR;exact (lJy (by omega)).symm
    | cons _ _=>simp only[lQp,lJ8] at hlen;cases hR;exact (lJq (by omega)).symm
   | cons _ hv1'=>
    cases hv2 with
    | nil=>simp only[lQp,lJ8] at hlen;cases hR;exact (lJy (by omega)).symm
    | cons _ _=>rw[lXu] at hz;cases hz
  wp_walk
  refine⟨_,rfl,(λz=>nomatch z),?_⟩
  simpa[Builtin.Tuple.tupleCompareSizes,<-hv] using h
 case h=>
  exact⟨rfl,rfl,its1.toList,its2.toList,x,y,rfl,hi1,hi2,by omega,hl⟩
theorem uJo{V:KeyV prog w K c}{lt:K->K->Option Bool}(hV:LtV V lt):LtV (qXy V) (ltS lt):=by
 rintro A E s (x | x) (y | y) u v b Q hu hx hy hl h
 .exact qUz (by omega) hx hy hl h
 .cases hl
 .cases hl
 .exact uV6 hV hu hx hy hl h
end
end L3
namespace L3
open PySem PySem.Spec PyProof.Rows L2 PySem.W
variable {n:Nat}
section
variable {lt:Nat->Nat->Bool}
end
structure KOrd {K:Type} (lt:K->K->Option Bool):Prop where
 neg:∀ {a b},a≠b->∀ {c},lt a b=some c->lt b a=some !c
 tr:∀ {a b c},a≠b->b≠c->lt a b=some true->lt b c=some true->lt a c=some true
 ir:∀ {a b},a≠b->lt a b=some true->lt b a=some true->False
theorem kord_I:KOrd ltI:=by
 refine⟨?_,?_,?_⟩
 .rintro (a | a) (b | b) h c e
  .have hab:a≠b:=λz=>h (by rw[z])
   simp only[ltI,lYx] at e ⊢;rw[<-e]
   by_cases q:a<b
   .rw[lJq q,lJy (by omega)];rfl
   .rw[lJy q,lJq (by omega)];rfl
  .cases e
  .cases e
  .cases e
 .rintro (a | a) (b | b) (c | c) _ _ e1 e2<;>first | cases e1;done | cases e2;done | skip
  simp only[ltI,lYx,lJ5] at e1 e2 ⊢;omega
 .rintro (a | a) (b | b) _ e1 e2<;>first | cases e1;done | skip
  simp only[ltI,lYx,lJ5] at e1 e2;omega
section
variable {K:Type}[DecidableEq K]{lt:K->K->Option Bool}
theorem kYh(o:KOrd lt):∀{a b:List K},a≠b->∀ {c},lexLt lt a b=some c->lexLt lt b a=some !c
 | [],[],h,_,_=>absurd rfl h
 | [],_::_,_,c,e=>by cases e;rfl
 | _::_,[],_,c,e=>by cases e;rfl
 | x::xs,y::ys,h,c,e=>by
  unfold lexLt at e ⊢
  by_cases q:x=y
  .rw[lJc q] at e;rw[lJc q.symm];exact kYh o (λz=>h (by rw[q,z])) e
  .rw[lJa q] at e;rw[lJa (λz=>q z.symm)]
   exact o.neg q e
theorem kZn:∀(a:List K),lexLt lt a a=some false
 | []=>rfl
 | x::xs=>by unfold lexLt;rw[lJc rfl];exact kZn xs
theorem kZm(o:KOrd lt):∀{a b c:List K},lexLt lt a b=some true->lexLt lt b c=some true->lexLt lt a c=some true
 | [],[],_,e,_=>by cases e
 | _::_,[],_,e,_=>by cases e
 | [],_::_,[],_,e=>by cases e
 | [],_::_,_::_,_,_=>(rfl)
 | _::_,_::_,[],_,e=>by cases e
 | x::xs,y::ys,z::zs,e1,e2=>by
  unfold lexLt at e1 e2 ⊢
  by_cases q1:x=y
  .subst q1;rw[lJc rfl] at e1
   by_cases q2:x=z
   .rw[lJc q2] at e2 ⊢;exact kZm o e1 e2
   .rw[lJa q2] at e2 ⊢;exact e2
  .rw[lJa q1] at e1
   by_cases q2:y=z
   .subst q2;rw[lJa q1];exact e1
   .rw[lJa q2] at e2
    by_cases q3:x=z
    .subst q3;exact (o.ir q1 e1 e2).elim
    .rw[lJa q3];exact o.tr q1 q2 e1 e2
theorem kUp(o:KOrd lt):KOrd (lexLt lt):=by
 refine⟨?_,?_,?_⟩
 .intro a b h c e;exact kYh o h e
 .intro a b c _ _ e1 e2;exact kZm o e1 e2
 .intro a b h e1 e2;have:=kYh o h e1;rw[e2] at this;cases this
theorem kZp(o:KOrd lt):KOrd (ltS lt):=by
 refine⟨?_,?_,?_⟩
 .rintro (a | a) (b | b) h c e
  .exact kord_I.neg (λz=>h (by rw[z])) e
  .cases e
  .cases e
  .exact (kUp o).neg (λz=>h (by rw[z])) e
 .rintro (a | a) (b | b) (c | c) h1 h2 e1 e2<;>first | cases e1;done | cases e2;done | skip
  .exact kord_I.tr (λz=>h1 (by rw[z])) (λz=>h2 (by rw[z])) e1 e2
  .exact kZm o e1 e2
 .rintro (a | a) (b | b) h e1 e2<;>first | cases e1;done | skip
  .exact kord_I.ir (λz=>h (by rw[z])) e1 e2
  .exact (kUp o).ir (λz=>h (by rw[z])) e1 e2
end
theorem kord:KOrd ltK:=kUp (kZp (kZp kord_I))
theorem qU3{a b c:TKey}(h1:ltK a b=some true)(h2:ltK b c=some true):ltK a c=some true:=kZm (kZp (kZp kord_I)) h1 h2
def kV1:TKey->Bool->Prop
 | .inl _::_,b=>b=true
 | .inr _::_,b=>b=false
 | [],_=>False
variable {prog:Program}{w:World}{A:Around}{E:Value->Shared->Prop}{s:Shared}{b:Bool}
theorem kVy{Q:Bool->Shared->Prop}{b:Bool}{n1 n2:Nat}{c:Bool}(hu:A.units+6<cLine)(hq:Q c s):∀(i:Nat)(x y:TKey)(vs ws:List Value),ItemsV (vk2 prog w) s.heap x vs->ItemsV (vk2 prog w) s.heap y ws->x.length+n2=y.length+n1->lexLt (ltS (ltS ltI)) x y=some c->((b&&i == 0)=true->(∀k,k∈x->i=0->x.head? =some k->∃z,k= .inl z)/\(∀k,k∈y->i=0->y.head? =some k->∃z,k= .inl z))->
  KatLex prog w A b (decide (n1<n2)) Q (vs.zip ws) i s
 | i,_,_,_,_,.nil,.nil,hn,hl,_=>by
  simp only[lQp] at hn;cases hl;refine kat_nil ?_;rw[lJy (by omega)];exact hq
 | i,_,_,_,_,.nil,.cons _ _,hn,hl,_=>by
  simp only[lQp,lJ8] at hn;cases hl;refine kat_nil ?_;rw[lJq (by omega)];exact hq
 | i,_,_,_,_,.cons _ _,.nil,hn,hl,_=>by
  simp only[lQp,lJ8] at hn;cases hl;refine kat_nil ?_;rw[lJy (by omega)];exact hq
 | i,_,_,_,_,@ItemsV.cons _ _ _ _ _ _ _ k1 v1 ks1 vs1 h1 t1,@ItemsV.cons _ _ _ _ _ _ _ k2 v2 ks2 vs2 h2 t2,hn,hl,hb=>by
  simp only[lJ8] at hn;rw[lXu];refine kat_cons (((vk2 prog w).eqAt (by omega) h1 h2) prog w _ _ ?_)
  unfold lexLt at hl
  by_cases e:k1=k2
  .rw[lJc e] at hl;rw[lJq e];refine kat_yes (kVy hu hq (i+1) _ _ _ _ t1 t2 (by omega) hl λz=> ?_)
   simp at z
  .rw[lJa e] at hl;rw[lJy e];refine kat_no ?_;cases q:(b&&i == 0) with
   | false=>exact kat_one _ _ (uJo (uJo qUz) (by omega) h1 h2 hl hq)
   | true=>
    have hi:i=0:=by simp at q;exact q.2
    obtain⟨z1,z2⟩:=hb q;obtain⟨a,rfl⟩:=z1 k1 (lJv ..) hi rfl;obtain⟨a',rfl⟩:=z2 k2 (lJv ..) hi rfl
    rcases jJs (show jZb a v1=true from h1) with ⟨p,t,rfl,rfl⟩ | ⟨p,t,rfl,rfl⟩
    .rcases jJs (show jZb a' v2=true from h2) with ⟨p',t',rfl,rfl⟩ | ⟨p',t',rfl,rfl⟩
     .cases hl;exact oneLt_int hq
     .cases hl
    .cases hl
theorem uX9{x y:TKey}{a1 a2:Addr}{c:Bool}{Q:Bool->Shared->Prop}(hu:A.units+6<cLine)(h1:(jJu prog w).is s.heap x a1)(h2:(jJu prog w).is s.heap y a2)(hl:ltK x y=some c)(hx:kV1 x b)(hy:kV1 y b)(hq:Q c s):wpAny (model prog w) A (keyLt' (tuples' b) (.ref a1) (.ref a2)) Q E s:=by
 obtain⟨p1,o1,its1,n1,e1,ho1,hc1,hd1,hi1⟩:=(show kKr _ _ _ _ from h1)
 obtain⟨p2,o2,its2,n2,e2,ho2,hc2,hd2,hi2⟩:=(show kKr _ _ _ _ from h2)
 cases e1;cases e2;refine kat_lt ho1 hd1 ho2 hd2 (kVy hu hq 0 x y _ _ hi1 hi2 ?_ hl λz=> ?_)
 .have l1:=hi1.length;have l2:=hi2.length;simp at l1 l2;omega
 .have hb:b=true:=by simpa using z
  subst hb;refine⟨λk _ _ hk=> ?_,λk _ _ hk=> ?_⟩
  .match x,hx,hk with
   | .inl u::_,_,e=>cases e;exact⟨u,rfl⟩
  .match y,hy,hk with
   | .inl u::_,_,e=>cases e;exact⟨u,rfl⟩
noncomputable def tyOf(b:Bool):Value:=if b=true then .type "int" else .type "tuple"
theorem kVx{b:Bool}:∀(es:List (TKey×Addr)),(∀e,e∈es->(jJu prog w).is s.heap e.1 e.2/\kV1 e.1 b/\intT e.1=true)->∃fs,KatTups s.heap (es.map λe=> .ref e.2) fs/\fs.length=es.length/\∀v,v∈fs->Looks (model prog w) s.heap (typeOf v) (tyOf b)
 | [],_=>⟨[],.nil,rfl,λv hv=>absurd hv (lKy)⟩
 | (k,a)::es,h=>by
  obtain⟨fs,t,l,hf⟩:=kVx es λe he=>h e (lJw _ he)
  obtain⟨h1,h2,h3⟩:=h (k,a) (lJv ..);obtain⟨p1,o1,its1,n1,e1,ho1,hc1,hd1,hi1⟩:=(show kKr _ _ _ _ from h1)
  cases e1
  match k,h2,h3,hi1 with
  | .inl u::ks,hb,h3,hi=>
   cases (show b=true from hb)
   generalize hits:its1.toList=its at hi
   cases hi with
   | @cons _ v _ vs hv ht=>
    refine⟨v::fs,.cons ho1 hc1 hd1 (by rw[<-lKf,hits];rfl) t,by simp[l],λx hx=> ?_⟩
    (rcases lJp.mp hx with rfl | hx)
    .rcases jJs (show jZb u x=true from hv) with ⟨i,tk,_,rfl⟩ | ⟨i,tk,rfl,rfl⟩
     .exact Looks.of_pure rfl
     .simp[intT,intS,intK] at h3
    .exact hf x hx
  | .inr u::ks,hb,h3,hi=>
   cases (show b=false from hb)
   generalize hits:its1.toList=its at hi
   cases hi with
   | @cons _ v _ vs hv ht=>
    obtain⟨p2,o2,its2,n2,e2,ho2,hc2,hd2,hi2⟩:=(show kKr _ _ u v from hv)
    subst e2;refine⟨.ref p2::fs,.cons ho1 hc1 hd1 (by rw[<-lKf,hits];rfl) t,by simp[l],λx hx=> ?_⟩
    (rcases lJp.mp hx with rfl | hx)
    .have:=(Looks.ld (M:=model prog w) (part:=none) ho2).andThen (f:=λo=>pure o.cls) .now
     rw[hc2] at this;exact this
    .exact hf x hx
theorem uK0{es:List (TKey×Addr)}(h:∀e,e∈es->(jJu prog w).is s.heap e.1 e.2/\kV1 e.1 b/\intT e.1=true)(hne:0<es.length){Q:SortKind->Shared->Prop}(hq:Q (tuples' b) s):wpAny (model prog w) A (keyKind' (List.toArray (es.map λe=>Value.ref e.2))) Q E s:=by
 obtain⟨fs,t,l,hf⟩:=kVx es h;refine kat_kind (T:=tyOf b) t (by omega) hf (by cases b<;>decide) ?_
 rw[show (tyOf b != Value.type "tuple")=b by cases b<;>decide]
 exact hq
theorem jX3{α β:Type}{f:α->β}{l l':List β}(h:l.Perm l'):∀es:List α,l'=es.map f->∃es':List α,es'.Perm es/\l=es'.map f:=by
 induction h with
 | nil=>intro es e;cases es with | nil=>exact⟨[],.refl _,rfl⟩ | cons _ _=>cases e
 | cons x _ ih=>
  intro es e;cases es with
  | nil=>cases e
  | cons a es=>
   rw[lJo,lVg] at e;obtain⟨es',h1,h2⟩:=ih es e.2;exact⟨a::es',h1.cons a,by rw[lJo,e.1,h2]⟩
 | swap x y l=>
  intro es e
  match es,e with
  | a::b::es,e=>
   rw[lJo,lJo,lVg,lVg] at e;exact⟨b::a::es,.swap _ _ _,by rw[lJo,lJo,e.1,e.2.1,e.2.2]⟩
 | trans _ _ ih1 ih2=>
  intro es e;obtain⟨es',h1,h2⟩:=ih2 es e;obtain⟨es'',h3,h4⟩:=ih1 es' h2;exact⟨es'',h3.trans h1,h4⟩
def SKey(b:Bool)(ts:List T)(k:TKey):Prop:=jXm ts=some k/\kV1 k b/\intT k=true
theorem qK4{K:PySem.W.Frag}{H:Hp}{b:Bool}:∀{tks:List (List T×TKey)}{vs:List V}{its:List Value},(∀e,e∈tks->SKey b e.1 e.2)->Reps K H (tks.map λe=> .tup e.1) vs->Vals vs its->
  ∃tb:List ((List T×TKey)×Addr),tb.map (·.1)=tks/\vs=tb.map (λe=> .ref e.2)/\its=tb.map (λe=>Value.ref e.2)/\∀e,e∈tb->TKeyAt H e.1.2 e.2/\Rep K H (.tup e.1.1) (.ref e.2)
 | [],_,_,_,r,v=>by
  cases (show _=[] from r)
  cases v;exact⟨[],rfl,rfl,rfl,λe he=>absurd he (lKy)⟩
 | (ts,k)::tks,_,its,hk,⟨v,ws,e,r1,r2⟩,vv=>by
  subst e;cases vv with
  | @cons _ u _ us hr hrs=>
  obtain⟨tb,h1,h2,h3,h4⟩:=qK4 (λe he=>hk e (lJw _ he)) r2 hrs
  obtain⟨a,vs',e,ha,hrep⟩:=(show ∃a vs',v= .ref a/\H a=some (.tup vs')/\Reps K H ts vs' from r1)
  subst e;cases (show u=Value.ref a from hr)
  refine⟨((ts,k),a)::tb,by rw[lJo,h1],by rw[lJo,h2],by rw[lJo,h3],λe he=> ?_⟩
  (rcases lJp.mp he with rfl | he)
  .exact⟨jU4 (hk _ (lJv ..)).1 ha hrep,r1⟩
  .exact h4 e he
theorem qQr{K:PySem.W.Frag}{H:Hp}:∀(tb:List ((List T×TKey)×Addr)),(∀e,e∈tb->Rep K H (.tup e.1.1) (.ref e.2))->Reps K H (tb.map λe=> .tup e.1.1) (tb.map λe=>V.ref e.2)
 | [],_=>rfl
 | e::tb,h=>⟨_,_,rfl,h e (lJv ..),qQr tb λx hx=>h x (lJw _ hx)⟩
theorem kK7:∀(bs:List ((List T×TKey)×Addr)),Vals (bs.map λe=>V.ref e.2) (bs.map λe=>Value.ref e.2)
 | []=> .nil
 | e::bs=> .cons rfl (kK7 bs)
variable {X:Cx}
variable {h h':Heap}{a:Addr}{o:Obj}{arr:Array (Int×Value)}{ep:Nat}{es:List (Int×Tok)}{tk:Tok}
noncomputable def entN(e:Int×Tok):Int×Value:=(hashInt e.1,.int e.1 e.2)
structure SetN (prog:Program) (w:World) (h:Heap) (a:Addr) (o:Obj) (arr:Array (Int×Value)) (ep:Nat) (t:SetTable) (es:List (Int×Tok)):Prop where
 get:h.get? a=some o
 exact_:o.ExactSet
 data:o.data= .set arr ep t
 arr_:arr.toList=es.map entN
 ris:St.Ris t.place
 len:t.place.size=es.length
 dum:t.dummies= #[]
 mask:MaskOk t.mask es.length
 plain:t.plain=true
theorem SetN.size{t:SetTable}(d:SetN prog w h a o arr ep t es):arr.size=es.length:=by
 rw[<-lKg,d.arr_,lJd]
theorem qVq{t:SetTable}(hd:t.dummies= #[])(hl:t.place.size=n)(hm:n<=t.mask):t.fits n=true:=by
 simp only[SetTable.fits,SetTable.fill,hd,hl,lKv,beq_iff_eq,lJ5];exact⟨trivial,by simpa using hm⟩
theorem SetN.fits{t:SetTable}(d:SetN prog w h a o arr ep t es):t.fits arr.size=true:=
 qVq d.dum (d.len.trans d.size.symm) (by rw[d.size];exact d.mask.full.2.1)
theorem SetN.state{t:SetTable}(d:SetN prog w s.heap a o arr ep t es){Q:(Array (Int×Value)×Nat×SetTable)->Shared->Prop}(h:Q (arr,ep,t) s):wpAny (model prog w) A (setState a) Q E s:=
 wpAny_setState_of d.get d.data d.fits h
theorem SetN.move{t:SetTable}(d:SetN prog w h a o arr ep t es)(hg:h'.get? a=some o):SetN prog w h' a o arr ep t es:=
 ⟨hg,d.exact_,d.data,d.arr_,d.ris,d.len,d.dum,d.mask,d.plain⟩
theorem SetN.elems{t:SetTable}(d:SetN prog w h a o arr ep t es):ElemsOf (intKind prog w) arr.toList:=by
 intro e he;rw[d.arr_] at he;obtain⟨x,_,rfl⟩:=lJj.mp he;exact⟨⟨x.1,lYj _ _ _ _,rfl⟩,rfl⟩
theorem qKk{t:SetTable}(hd:t.dummies= #[])(hr:St.Ris t.place)(hl:t.place.size=n)(hm:MaskOk t.mask n)(h:Int):∃j,t.freeSlot h=some (j,false)/\j∉t.place.toList:=by
 obtain⟨hf,hmm,_⟩:=hm.full;obtain⟨j,hj,ej⟩:=uXo (t:=t) hd (by omega)
 obtain⟨m,hm1,em⟩:=St.met hf h hj
 rcases St.pgo_ok hd (λ_=>h+1) h m (10*SetTable.turns t.mask) (t.probeStart h) (by rw[em];exact ej) (by unfold SetTable.turns;omega) rfl with ⟨q,_,e1,_,e3⟩ | ⟨q,i,_,_,e2,_⟩
 .refine⟨(itr t.advance q (t.probeStart h)).j,?_,?_⟩
  .unfold SetTable.freeSlot;rw[show t.probe (λ_=>h+1) h (t.probeStart h)=_ from e3]
   rfl
  .rcases St.slot_cases hd (itr t.advance q (t.probeStart h)).j with c | ⟨i,c,_⟩
   .exact c.2 hr
   .rw[c] at e1;cases e1
 .exact absurd e2 (by omega)
noncomputable def putN(p:Nat)(e:Int×Tok)(es:List (Int×Tok)):List (Int×Tok):=es.take p++e::es.drop p
theorem kJ2(p:Nat)(e:Int×Tok)(es:List (Int×Tok)):(putN p e es).Perm (e::es):=by
 unfold putN;refine lYy.trans ?_;rw[lK9]
theorem uU7{t:SetTable}(ha:arr.toList=es.map entN){wanted mask:Nat}(hw:SetTable.sizeAbove wanted-1=mask)(hM:MaskOk mask es.length):
  ∃(arr':Array (Int×Value))(t':SetTable)(es':List (Int×Tok)),relayAll t arr wanted=(arr',t',false)/\es'.Perm es/\arr'.toList=es'.map entN/\St.Ris t'.place/\t'.place.size=es.length/\t'.dummies= #[]/\t'.mask=mask/\t'.led=t.led/\t'.plain=t.plain:=by
 have hsz:arr.size=es.length:=by rw[<-lKg,ha,lJd]
 obtain⟨hfull,hle,_⟩:=hM.full;obtain⟨t',order,e1,e2,e3,e4,e5,e6⟩:=St.laid_ok hfull t.finger (t.movedTo mask) t.led t.plain (arr.map (·.1)) (by rw[Array.size_map,hsz];exact hle)
 have e1':t.relaid (arr.map (·.1)) wanted=some (t',order):=by unfold SetTable.relaid;rw[hw];exact e1
 rw[Array.size_map,hsz] at e5
 have em:(order.filterMap (arr[·]?)).toList=(order.toList.filterMap (es[·]?)).map entN:=by
  rw[Array.toList_filterMap,kJ9,<-ha];exact St.fm_congr λx _=>by rw[lKf]
 have pe:(order.toList.filterMap (es[·]?)).Perm es:=kQe e5
 have sz2:(order.filterMap (arr[·]?)).size=es.length:=by rw[<-lKg,em,lJd,pe.length_eq]
 have pl:t'.place.size=es.length:=by
  have hl:((arr.map (·.1)).toList).length=es.length:=by rw[lKg,Array.size_map,hsz]
  have e7:order.toList.filterMap ((arr.map (·.1))[·]?)=order.toList.filterMap ((arr.map (·.1)).toList[·]?):=St.fm_congr λx _=>by rw[lKf]
  have:=(kQe (xs:=(arr.map (·.1)).toList) (l:=order.toList) (by rw[hl];exact e5)).length_eq
  rw[e6.len,e7,this,hl]
 refine⟨order.filterMap (arr[·]?),t',_,?_,pe,em,e6.ris,pl,e6.dum,e2,e3,e4⟩
 unfold relayAll;rw[e1']
 dsimp only
 rw[lJc];rw[lKv];refine⟨?_,qVq e6.dum (pl.trans sz2.symm) (by rw[sz2,e2];exact hle)⟩
 unfold coversAll;rw[hsz];exact List.isPerm_iff.mpr e5
theorem uUc{t:SetTable}(d:SetN prog w s.heap a o arr ep t es){k:Int}(hn:es.length<64){Q:Bool->Shared->Prop}(h1:k∈es.map (·.1)->Q false s)(h2:k∉es.map (·.1)->∀h' o' arr' ep' t' es',Heap.SameBut a s.heap h'->es'.Perm ((k,tk)::es)->t'.led=t.led->SetN prog w h' a o' arr' ep' t' es'->Q true {s with heap:=h'}):
  wpAny (model prog w) A (setAddHashed a (.int k tk) (hashInt k)) Q E s:=by
 have hk:(intKind prog w).is k (.int k tk)=true:=lYj _ _ _ _;have hsz:=d.size;have hb:arr.size<scanBound:=by rw[hsz];show _<4096;omega
 (unfold setAddHashed setAddHashedIn)
 refine lKz (lJb (d.state ?_))
 dsimp only
 rw[byScan_of (knd:=intKind prog w) rfl hb d.elems];simp only[↓reduceIte];unfold setAddByScan;refine lJb ?_;refine lJb (lQc ?_);refine lJb (wpAny_setScan_of (knd:=intKind prog w) hk d.get d.data d.fits d.elems ?_)
 have hmem:(∃e∈arr.toList,(intKind prog w).is k e.2=true)↔k∈es.map (·.1):=by
  rw[d.arr_]
  constructor
  .rintro⟨e,he,hp⟩;obtain⟨x,hx,rfl⟩:=lJj.mp he;have:k=x.1:=(intKind prog w).inj _ _ _ hp (lYj _ _ _ _);exact lJj.mpr ⟨x,hx,this.symm⟩
  .intro hm
   (obtain⟨x,hx,rfl⟩:=lJj.mp hm)
   exact⟨entN x,lJj.mpr ⟨x,hx,rfl⟩,lYj _ _ _ _⟩
 cases hr:List.findIdx? (λe=>(intKind prog w).is k e.2) arr.toList with
 | some j=>
  dsimp only
  (obtain⟨hj,hpj,_⟩:=List.findIdx?_eq_some_iff_getElem.mp hr)
  exact lJe (lJe (h1 (hmem.mp ⟨arr.toList[j],lQi hj,hpj⟩)))
 | none=>
  dsimp only
  have hnk:k∉es.map (·.1):=by
   intro z;obtain⟨e,he,hp⟩:=hmem.mpr z
   (have:=List.findIdx?_eq_none_iff.mp hr e he)
   rw[hp] at this;exact Bool.noConfusion this
  obtain⟨j,ej,hj⟩:=qKk d.dum d.ris d.len d.mask (hashInt k)
  have ae:(SetTable.insertAt arr (t.put j).2 (hashInt k,Value.int k tk)).toList=(putN (t.put j).2 (k,tk) es).map entN:=by
   rw[SetTable.toList_insertAt,d.arr_];unfold putN;rw[lKp,lJo,lV6,lX5];rfl
  have pl:=(kJ2 (t.put j).2 (k,tk) es).length_eq;rw[lJ8] at pl
  have asz:(SetTable.insertAt arr (t.put j).2 (hashInt k,Value.int k tk)).size=es.length+1:=by
   rw[<-lKg,ae,lJd,pl]
  have ep_:(t.put j).1.place=SetTable.insertAt t.place (SetTable.below t.place j) j:=rfl
  have plc:(t.put j).1.place.size=es.length+1:=by
   rw[ep_,<-lKg,SetTable.toList_insertAt];have:=d.len;simp;omega
  have rs:St.Ris (t.put j).1.place:=by rw[ep_];exact St.insertAt_ris d.ris hj
  have dm:(t.put j).1.dummies= #[]:=by
   show (if SetTable.has t.dummies j=true then _ else t.dummies)= #[]
   rw[d.dum,St.has_nil];rfl
  have mk:(t.put j).1.mask=t.mask:=rfl;have hpl:(t.put j).1.plain=true:=d.plain;have lm:es.length+1<=t.mask:=by rcases d.mask with ⟨e,z⟩ | ⟨e,z⟩ | ⟨e,z⟩ | ⟨e,z⟩ | ⟨e,z⟩<;>omega
  have ft:(t.put j).1.fits (SetTable.insertAt arr (t.put j).2 (hashInt k,Value.int k tk)).size=true:=qVq dm (plc.trans asz.symm) (by rw[asz];exact lm)
  have eL:layNew t arr (hashInt k) (.int k tk)=(SetTable.insertAt arr (t.put j).2 (hashInt k,Value.int k tk),(t.put j).1,false,false):=by
   unfold layNew;rw[ej]
   dsimp only
   unfold SetTable.orStandIn;rw[lJc ft,ft];rfl
  rw[eL]
  dsimp only
  have fl:(t.put j).1.fill=es.length+1:=by
   unfold SetTable.fill;rw[dm,plc];rfl
  refine lJb (lJe ?_);rw[lJc hpl];refine lJb (lJe ?_);simp only[↓reduceIte];refine lJb (wpAny_storeSet_of d.get d.data ?_ (by rw[asz,lKw];omega))
  have sb1:=lXw s.heap a (Obj.putSet (SetTable.insertAt arr (t.put j).2 (hashInt k,Value.int k tk)) (t.put j).1);have ob1:=qUe d.get d.data (SetTable.insertAt arr (t.put j).2 (hashInt k,Value.int k tk)) (t.put j).1
  by_cases full:(t.put j).1.tooFull=true
  .rw[full];simp only[Bool.not_false,Bool.and_self,↓reduceIte]
   have full':(es.length+1)*5>=t.mask*3:=by
    unfold SetTable.tooFull at full;rw[fl,mk] at full;exact lXa full
   have w1:MaskOk (SetTable.sizeAbove (SetTable.grown (es.length+1))-1) (putN (t.put j).2 (k,tk) es).length:=by
    rw[pl]
    rcases d.mask with ⟨e,z⟩ | ⟨e,z⟩ | ⟨e,z⟩ | ⟨e,z⟩ | ⟨e,z⟩
    .have:es.length=4:=by omega
     rw[this];exact .inr (.inl ⟨by decide,by omega⟩)
    .have:es.length=18:=by omega
     rw[this];exact .inr (.inr (.inl ⟨by decide,by omega⟩))
    .have:es.length=76:=by omega
     rw[this];exact .inr (.inr (.inr (.inl ⟨by decide,by omega⟩)))
    .have:es.length=306:=by omega
     rw[this];exact .inr (.inr (.inr (.inr ⟨by decide,by omega⟩)))
    .omega
   rw[asz];obtain⟨arr',t',es',q1,q2,q3,q4,q5,q6,q7,q8,q9⟩:=uU7 (t:=(t.put j).1) ae rfl w1;rw[q1]
   dsimp only
   have l':es'.length=es.length+1:=by rw[q2.length_eq,pl]
   have a':arr'.size=es.length+1:=by rw[<-lKg,q3,lJd,l']
   refine lJb (lJe (lJb (wpAny_storeSet_of (s:={s with heap:=s.heap.update a (Obj.putSet (SetTable.insertAt arr (t.put j).2 (hashInt k,Value.int k tk)) (t.put j).1)}) ob1 rfl (lJe (lJe ?_)) (by rw[a',lKw];omega))))
   refine h2 hnk _ _ _ _ t' es' (sb1.trans (lXw _ a _)) (q2.trans (kJ2 _ _ _)) q8 ⟨qUe ob1 rfl _ _,d.exact_,rfl,q3,q4,by rw[q5,pl,l'],q6,?_,q9.trans hpl⟩
   rw[q7,l'];rw[pl] at w1;exact w1
  .rw[show (t.put j).1.tooFull=false from by simpa using full]
   simp only[Bool.and_false,lKs,↓reduceIte]
   have full':(es.length+1)*5<t.mask*3:=by
    unfold SetTable.tooFull at full;rw[fl,mk] at full
    simpa using full
   refine lJe (lJe (h2 hnk _ _ _ _ (t.put j).1 _ sb1 (kJ2 _ _ _) rfl ⟨ob1,d.exact_,rfl,ae,rs,by rw[plc,pl],dm,?_,hpl⟩))
   rw[pl,mk]
   rcases d.mask with ⟨e,_⟩ | ⟨e,_⟩ | ⟨e,_⟩ | ⟨e,_⟩ | ⟨e,_⟩
   .exact .inl ⟨e,by omega⟩
   .exact .inr (.inl ⟨e,by omega⟩)
   .exact .inr (.inr (.inl ⟨e,by omega⟩))
   .exact .inr (.inr (.inr (.inl ⟨e,by omega⟩)))
   .exact .inr (.inr (.inr (.inr ⟨e,by omega⟩)))
variable {us:List Int}{R:Result->Shared->Prop}{I:Addr}{Q:Value->Shared->Prop}
section
structure PutN (es:List (Int×Tok)) (is:List Int):Prop where
 nod:(es.map (·.1)).Nodup
 mem:∀z,z∈es.map (·.1)↔z∈is
theorem PutN.old{is:List Int}(p:PutN es is){k:Int}(h:k∈es.map (·.1)):PutN es (is++[k]):=by
 refine⟨p.nod,λz=> ?_⟩
 rw[p.mem,lJn,lJz];refine⟨.inl,λq=>q.elim id λe=> ?_⟩
 rw[e];exact (p.mem k).mp h
theorem PutN.new{es':List (Int×Tok)}{is:List Int}(p:PutN es is){k:Int}(h:k∉es.map (·.1))(hp:es'.Perm ((k,tk)::es)):PutN es' (is++[k]):=by
 have hm:(es'.map (·.1)).Perm (k::es.map (·.1)):=hp.map _
 refine⟨hm.nodup_iff.mpr (lK4.mpr ⟨h,p.nod⟩),λz=> ?_⟩
 rw[hm.mem_iff,lJp,p.mem,lJn,lJz];exact⟨Or.symm,Or.symm⟩
theorem PutN.few{is:List Int}(p:PutN es is)(h:∀z,z∈is->z∈us):es.length<=us.length:=by
 have h1:(es.map (·.1)) ⊆ us:=λz hz=>h z ((p.mem z).mp hz)
 have:=p.nod.length_le_of_subset h1
 simpa using this
def SetNs(prog:Program)(w:World)(h:Heap)(a:Addr)(is:List Int):Prop:=∃o arr ep t es,SetN prog w h a o arr ep t es/\PutN es is/\t.led= !bt w
theorem SetNs.move{is:List Int}(d:SetNs prog w h a is)(hg:∀o,h.get? a=some o->h'.get? a=some o):SetNs prog w h' a is:=by
 obtain⟨o,arr,ep,t,es,d,p,l⟩:=d;exact⟨o,arr,ep,t,es,d.move (hg o d.get),p,l⟩
section
variable {fp:List Addr}{G:Array GenState->Array GenState->Prop}{P:Nat->Value->Prop}{St:Nat->Shared->Prop}
theorem qQk(W:WalksS prog w A.in1 I fp [I] G n P St)(S:Addr)(hSf:S∉fp)(kb:List Int)(hval:∀i v,P i v->∃k tk,kb[i]? =some k/\v= .int k tk)(hn:n=kb.length)(hus:us.length<64)(hkus:∀z,z∈kb->z∈us):
  ∀(q i:Nat)(s:Shared),n-i=q->i<=n->St i s->SetNs prog w s.heap S (kb.take i)->
   (∀s',Moved (S::[I]) G s s'->SetNs prog w s'.heap S kb->R (.ok (.ret .none)) s')->codeAny (model prog w) A (.builtin "set.update.loop" ⟨[.ref S,.ref I],[]⟩) R s:=by
 have hSw:S∉[I]:=λh=>hSf (W.sub _ h)
 have hsub:∀b∈[I],b∈S::[I]:=λb hb=>lJw _ hb
 intro q
 induction q with
 | zero=>
  intro i s hq hi hst hS hR;have hin:i=n:=by omega
  subst hin;refine lQ4 mJu ?_;rw[lVf lYz _];refine (show wpAny _ A.in1 (pyNext (.ref I) >>= _) _ _ s from ?_)
  (refine lJb (W.done s _ _ hst λs' hm=> ?_))
  refine (show wpAny _ A.in1 (ret Value.none) _ _ s' from ?_)
  refine lJe (hR s' (hm.mono hsub) ?_);rw[hn,lQz] at hS;exact hS.move (λo e=>hm.heap S o hSw e)
 | succ q ih=>
  intro i s hq hi hst hS hR;have hlt:i<n:=by omega
  refine lQ4 mJu ?_;rw[lVf lYz _];refine (show wpAny _ A.in1 (pyNext (.ref I) >>= _) _ _ s from ?_)
  (refine lJb (W.item i s _ _ hlt hst λv s' hP hst' hm=> ?_))
  obtain⟨k,b,he,rfl⟩:=hval i v hP;have hmem:k∈kb:=lJs he;have hS':=hS.move (h':=s'.heap) (λo e=>hm.heap S o hSw e)
  refine (show wpAny _ A.in1 (holding [Value.int k b] (setAdd S (.int k b)) >>= _) _ _ s' from ?_)
  (refine lJb (lKz ?_))
  unfold setAdd;refine lKz ?_;refine lJb ((intKind prog w).pyHash (k:=k) (lYj _ _ _ _) ?_);obtain⟨o,arr,ep,t,es,d,p,l⟩:=hS';have hl:=p.few λe he=>hkus e (lQa he)
  have tk1:kb.take (i+1)=kb.take i++[k]:=by
   rw[lQr,he];rfl
  refine uUc (s:={s' with toks:=s'.toks+1}) d (by omega) (λz=> ?_) (λz h' o' arr' ep' t' es' sb pe el d'=> ?_)
  .refine lJe ⟨lVl lYz _,ih (i+1) _ (by omega) hlt (W.frame _ s' _ _ hst' (lY0 _ _) λb hb o e=>e) ?_ λs'' hm'' hS''=> ?_⟩
   .rw[tk1];exact⟨o,arr,ep,t,es,d,p.old z,l⟩
   .exact hR s'' (Moved.trans W.gtrans ((hm.mono hsub).then_heap (lY0 _ _) λb o hb e=>e) hm'') hS''
  .refine lJe ⟨lVl lYz _,ih (i+1) _ (by omega) hlt (W.frame _ s' _ _ hst' (lY0 _ _) λb hb o e=> ?_) ?_ λs'' hm'' hS''=> ?_⟩
   .exact (sb.2 b (λz=>hSf (z▸hb))).trans e
   .rw[tk1];exact⟨o',arr',ep',t',es',d',p.new z pe,el.trans l⟩
   .refine hR s'' (Moved.trans W.gtrans ((hm.mono hsub).then_heap (lY0 _ _) λb o hb e=> ?_) hm'') hS''
    exact (sb.2 b (λz=>hb (by rw[z];exact lJv ..))).trans e
end
section
theorem qJu{led:Bool}(hl:led= !bt w):SetNs prog w (h.push {cls:= .type "set",dict:=none,data:= .set #[] 0 (.fresh 0 0 led)}) h.objs.size []:=
 ⟨_,#[],0,_,[],⟨lKd _ rfl,⟨rfl,rfl,rfl⟩,rfl,rfl,List.Pairwise.nil,rfl,rfl,.inl ⟨rfl,lJ6 _⟩,rfl⟩,⟨lXy,λz=>Iff.rfl⟩,hl⟩
set_option maxHeartbeats 3201000 in
theorem qQl{l:Addr}{items:Array Value}{ps:List (Int×Tok)}(hh:A.handled=none)(hl:s.heap.IsList l items)(hi:items.toList=ps.map λe=> .int e.1 e.2)(hus:us.length<64)(hkus:∀z,z∈ps.map (·.1)->z∈us)(h:∀(h':Heap)(tk:Nat),SetNs prog w h' s.heap.objs.size (ps.map (·.1))->(∀b o,s.heap.get? b=some o->h'.get? b=some o)->Q (.ref s.heap.objs.size) {s with heap:=h',toks:=tk}):wpAny (model prog w) A (call (.type "set") [.ref l]) Q E s:=by
 (obtain⟨c,tl,hmro⟩:=lVq.mro)
 (have hmade:=lVq.made)
 have hsub:=lVq.sub;have hsz:items.size=(ps.map (·.1)).length:=by rw[<-lKg,hi,lJd,lJd]
 (refine wpAny_call (codeAny_of_tree ?_))
 refine (show wpAny _ _ (callAny (.type "set") _) _ _ _ from ?_)
 (refine lJe ⟨Code.quiet_builtin _ (by decide +kernel),lQ4 F.entry_type_call ?_⟩)
 (rw[Around.under_plain (weight_type_call_type "set" [.ref l] []) rfl])
 (have h1:=lVq.notType)
 (have h2:=lVq.canCreate)
 (have hct:=F.typeCall_set_1 (.ref l))
 (repeat (any_goals (first | assumption | wp_step)))
 refine lYe (qX3 (.ref l) (E:=E) (Q₁:=λobj s₁=>obj= .ref s.heap.objs.size/\s₁={s with heap:=s.heap.push (jXk w)}) ⟨rfl,rfl⟩) λr s₁ hr=> ?_
 cases r with
 | error e=>exact hr
 | ok fl=>
  cases fl with
  | ret obj=>
   obtain⟨rfl,rfl⟩:=hr;have hS:(s.heap.push (jXk w)).get? s.heap.objs.size=some (jXk w):=lKd _ rfl;have hT:Shared.TypeIs {s with heap:=s.heap.push (jXk w)} (.ref s.heap.objs.size) "set":=⟨_,hS,rfl⟩
   (have hli:=lVq.init.lookup)
   (have hbi:=lVq.init.bind (.ref s.heap.objs.size))
   (repeat (any_goals (first | assumption | wp_step)))
   refine lYe (codeAny_call_builtin (R:=wants (λr s₂=>r= .none/\∃h' tk,s₂={s with heap:=h',toks:=tk}/\SetNs prog w h' s.heap.objs.size (ps.map (·.1))/\(∀b o,s.heap.get? b=some o->h'.get? b=some o)) E) lVq.init.plain F.entry_set_init (check_set_init_1 hT ?_)) λr₂ s₂ hr₂=> ?_
   ·(obtain⟨ol,hol,hcl,nl,hdl⟩:=hl)
    (obtain⟨ocls,odict,odata,oslots⟩:=ol)
    simp only at hcl hdl;subst hcl;subst hdl;have hol':(s.heap.push (jXk w)).get? l=some {cls:= .type "list",dict:=odict,data:= .seq items nl,slots:=oslots}:=lJm _ hol;have hsls:=F.sub_list_set
    (have hslf:=F.sub_list_frozenset)
    (have hne:(Value.type "list" == Value.type "dict")=false:=by decide)
    have hl1:(s.heap.push (jXk w)).IsList l items:=⟨_,hol',rfl,nl,rfl⟩
    (unfold Builtin.«set.__init__» noKeywords Builtin.Frozenset.updateFrom)
    generalize hPI:pyIter=PI
    unfold jXk at hS hol' hl1 ⊢
    wp_walk
    subst hPI
    (refine lYg hl1 ?_)
    (refine lJb (wpAny_runValue ?_))
    (have hlS:l<s.heap.objs.size:=lJi hol)
    (have hh3:A.in1.in1.in1.handled=none:=by simp[hh])
    have hneI:l≠(s.heap.push (jXk w)).objs.size:=by
     (rw[lV1];exact lJr (Nat.lt_succ_of_lt hlS))
    have hSf:s.heap.objs.size∉[(s.heap.push (jXk w)).objs.size,l]:=by
     rw[lV1];simp only[lJp,lKy,lQw,not_or]
     (exact⟨lJr (Nat.lt_succ_self _),lQl hlS⟩)
    have hval:∀(i:Nat)(v:Value),items[i]? =some v->∃k tk,(ps.map (·.1))[i]? =some k/\v= .int k tk:=by
     intro i v hv;rw[<-lKf,hi,lJ0] at hv;obtain⟨e,e1,e2⟩:=lQg.mp hv;exact⟨e.1,e.2,by rw[lJ0,e1];rfl,e2.symm⟩
    have up:∀b o,s.heap.get? b=some o->((s.heap.push (jXk w)).push {cls:= .type "list_iterator",data:= .fields #[.ref l,.int 0 0]}).get? b=some o:=λb o e=>lJm _ (lJm _ e)
    refine qQk (A:=A.in1.in1) ((Walks.list hh3 _ l hneI items).toS) s.heap.objs.size hSf (ps.map (·.1)) hval hsz hus hkus (items.size-0) 0 _ (by omega) (lJ6 _) ⟨⟨_,lKd _ rfl,rfl,rfl⟩,(hl1.push _)⟩ ?hS0 ?hR
    case hS0=>
     exact (qJu (prog:=prog) (w:=w) rfl (h:=s.heap)).move (λo e=>lJm _ e)
    case hR=>
     intro s' hm hS'
     (obtain⟨h',g',d',tk',os'⟩:=s')
     cases (show g'=s.gens from hm.gens)
     cases (show d'=s.drawn from hm.drawn)
     cases (show os'=s.os from hm.os)
     refine (show wpAny _ _ _ _ _ _ from lJe ?_)
     refine (show wpAny _ _ (ret Value.none) _ _ _ from lJe ⟨rfl,h',tk',rfl,hS',λb o e=> ?_⟩)
     have hb:=lJi e;refine hm.heap b o ?_ (up b o e);simp only[lJp,lKy,lQw,not_or];exact⟨lJr hb,by rw[lV1];exact lJr (Nat.lt_succ_of_lt hb)⟩
   .cases r₂ with
    | error e=>exact hr₂
    | ok fl₂=>
     cases fl₂ with
     | ret r=>
      (obtain⟨rfl,h',tk,rfl,hS',hk'⟩:=hr₂)
      (repeat (any_goals (first | assumption | wp_step)))
      exact h _ _ hS' hk'
     | _=>exact hr₂.elim
  | _=>exact hr.elim
end
end
variable {i:Nat}{h0:Heap}{S:Addr}
theorem kYv{t:SetTable}(g:St.Ris t.place)(hb:bt w=false)(hi:i<=t.place.size):SetTable.below t.place (jXg w t i)=i:=by
 unfold jXg;rw[hb,lJa (by decide)]
 by_cases c:i=0
 .subst c;exact St.below_zero g
 .rw[lJa c,St.getD_at (by omega),St.below_next g (by omega)]
  omega
theorem SetN.stateB{t:SetTable}(d:SetN prog w h0 S o arr ep t es)(hg:s.heap.get? S=some o){Q:(Array (Int×Value)×Nat×SetTable)->Shared->Prop}(h:Q (arr,ep,t) s):wpAny (model prog w) A (setState S) Q E s:=
 wpAny_setState_of hg d.data d.fits h
theorem qVb{t:SetTable}(d:SetN prog w s.heap S o arr ep t es)(hQ:Q (.ref s.heap.objs.size) {s with heap:=s.heap.push {cls:= .type "set_iterator",data:= .fields #[.int 0 0,.int 0 0,.ref S,.int es.length 0,.int ep 0]} }):wpAny (model prog w) A (pyIter (.ref S)) Q E s:=by
 have hT:s.TypeIs (.ref S) "set":=⟨o,d.get,d.exact_.1⟩;refine wpAny_pyIter_slot hT PySem.F.slot_set_iter (lQn PySem.F.slot_set_iter hT Si.entry_iter ?_ (PySem.F.args_set_iter_1 _));unfold Builtin.«frozenset.__iter__» Builtin.Frozenset.slot0 slotArgs
 (simp only[List.isEmpty_nil,lYk,lKs,↓reduceIte,bind_assoc,lQp,bne_self_eq_false])
 (unfold Builtin.Frozenset.addrOf Builtin.Frozenset.sizeOf)
 refine lJb (lJe ?_)
 try dsimp only
 refine lJb (lJe ?_);simp only[setEntries,setDrawn,bind_assoc];refine lJb (d.state ?_);refine lJb (lJe (lJb (lJe (lJb (d.state ?_)))))
 dsimp only[setsByText]
 refine lJb (lJb (lYi (lJe (lJb (lJe ?_)))));rw[lJa (λz=> ?_)]
 ·(refine lJb (lJe ?_))
  unfold setEpoch;refine lJb (lJb (d.state (lJe ?_)));refine lJb (lK3 (lJe ⟨_,rfl,"set_iterator",_,⟨_,lKd _ rfl,rfl⟩,Si.slot_next.lookup,?_⟩));have:=d.size
  simpa[rawInt,this] using hQ
 .have z':(!(w.params.followText "set-order")&&(!t.plain&&decide (arr.size>1)))=true:=z;rw[d.plain] at z';simp at z'
theorem kJm{t:SetTable}(d:SetN prog w h0 S o arr ep t es)(hg:s.heap.get? S=some o)(hl:t.led= !bt w)(hi:i<=arr.size){Q:Option (Value×Nat)->Shared->Prop}(hQ:Q (((ordS w S ep arr)[i]?).map λe=>(e.2,jXg w t (i+1))) s):wpAny (model prog w) A (setNext S (jXg w t i) i ep) Q E s:=by
 have hp:t.place.size=arr.size:=by
  rw[d.len,d.size]
 unfold setNext;refine lJb (d.stateB hg ?_)
 dsimp only[setsByText]
 (refine lJb (lJb (lYi (lJe ?_))))
 refine (show wpAny _ _ (if bt w=true then _ else _) _ _ _ from ?_)
 cases hb:bt w with
 | true=>
  rw[lJc rfl,lJa (by simp)]
  unfold setWalk;refine lJb (lJb (d.stateB hg ?_))
  dsimp only[setsByText]
  (refine lJb (lJb (lYi (lJe ?_))))
  refine (show wpAny _ _ (if bt w=true then _ else _) _ _ _ from ?_)
  rw[hb,lJc rfl];refine lJb (lYi (lJe (lJe ?_)));have e1:jXg w t i=jXg w t (i+1):=by unfold jXg;rw[hb];rfl
  unfold ordS at hQ;rw[hb,lJc rfl,<-e1] at hQ;exact hQ
 | false=>
  rw[lJa (by decide)]
  rw[lJa (λz=> ?_)]
  .refine lJb (m:=(if (!t.led&& !arr.isEmpty)=true then unsupported "set:maker-not-led" else pure ())) ?_
   rw[hl,hb];simp only[Bool.not_false,lYk,Bool.false_and,lKs,↓reduceIte]
   (refine lJe (lJe ?_))
   rw[kYv d.ris hb (by omega)]
   unfold ordS at hQ;rw[hb,lJa (by decide)] at hQ
   by_cases c:i<arr.size
   .have hi':i<t.place.size:=by omega
    rw[lK7 c,lK7 hi'];rw[lK7 c] at hQ
    dsimp only
    have e1:jXg w t (i+1)=t.place[i]+1:=by
     unfold jXg;rw[hb,lJa (by decide),lJa (by omega),lY1,St.getD_at hi']
    rw[e1] at hQ;exact hQ
   .rw[lVc (by omega)]
    rw[lVc (by omega)] at hQ
    exact hQ
  .have z':(!t.plain&&decide (arr.size>1))=true:=z;rw[d.plain] at z';simp at z'
theorem qUw{t:SetTable}(d:SetN prog w h0 S o arr ep t es)(hl:t.led= !bt w)(hg:s.heap.get? S=some o)(hI:s.heap.get? I=some (qKg S ep arr.size (jXg w t i) i)){e:Int×Value}(he:(ordS w S ep arr)[i]? =some e){Q:Option Value->Shared->Prop}(hQ:∀h',Heap.SameBut I s.heap h'->h'.get? I=some (qKg S ep arr.size (jXg w t (i+1)) (i+1))->Q (some e.2) {s with heap:=h'}):wpAny (model prog w) A (pyNext (.ref I)) Q E s:=by
 have hT:s.TypeIs (.ref I) "set_iterator":=⟨_,hI,rfl⟩;have hsz:(ordS w S ep arr).size=arr.size:=by rw[<-lKg,(jYk w S ep arr).length_eq,lKg]
 have hi:i<arr.size:=by have:=(mJt.mp he).1;omega
 unfold pyNext;refine lJb (lYh (lVt (name:=Str.ofString "__next__") hT Si.slot_next (lQn Si.slot_next hT Si.entry_next ?_ (Si.args_next _))));unfold Builtin.«set_iterator.__next__»;refine lJb (lJe ?_);refine lJb (wpAny_fieldsOf hI rfl ?_)
 dsimp only
 unfold setEntries;refine lJb (lJb (d.stateB hg (lJe ?_)))
 dsimp only
 rw[lJa (by simp)]
 simp only[lYr];refine lJb (kJm d hg hl (lVx hi) ?_);rw[he]
 dsimp only[Option.map_some]
 refine lJb (mJq hI (by simp) λh1 e1 sb1=> ?_)
 refine lJb (mJq (s:={s with heap:=h1}) e1 (by simp) λh2 e2 sb2=> ?_)
 refine lJe ⟨_,rfl,lJe (hQ h2 (sb1.trans sb2) ?_)⟩
 simpa[rawInt,qKg] using e2
theorem qZm{t:SetTable}(d:SetN prog w h0 S o arr ep t es)(hl:t.led= !bt w)(hh:A.handled=none)(hg:s.heap.get? S=some o)(hI:s.heap.get? I=some (qKg S ep arr.size (jXg w t arr.size) arr.size)){Q:Option Value->Shared->Prop}(hQ:∀h',Heap.ExtBut I s.heap h'->Q none {s with heap:=h'}):wpAny (model prog w) A (pyNext (.ref I)) Q E s:=by
 have hT:s.TypeIs (.ref I) "set_iterator":=⟨_,hI,rfl⟩;have hsz:(ordS w S ep arr).size=arr.size:=by rw[<-lKg,(jYk w S ep arr).length_eq,lKg]
 unfold pyNext;refine lJb (lYh (lVt (name:=Str.ofString "__next__") hT Si.slot_next (lQn Si.slot_next hT Si.entry_next ?_ (Si.args_next _))));unfold Builtin.«set_iterator.__next__»;refine lJb (lJe ?_);refine lJb (wpAny_fieldsOf hI rfl ?_)
 dsimp only
 unfold setEntries;refine lJb (lJb (d.stateB hg (lJe ?_)))
 dsimp only
 rw[lJa (by simp)]
 simp only[lYr];refine lJb (kJm d hg hl (lJh _) ?_);rw[lVc (by omega)]
 dsimp only[Option.map_none]
 refine lJb (mJq hI (by simp) λh1 e1 sb1=> ?_)
 refine (show wpAny _ _ (newExc (.type "StopIteration") [] >>= _) _ _ _ from lJb ?_)
 simp only[newExc,newTuple];refine lJb (lK3 ?_ (by size_fits));refine lJb (m:=firstArgMember _ _) (wpAny_of_eq (a:=Value.none) (by first | rfl | (simp only[firstArgMember];rfl)) (lK3 ?_ (by size_fits)))
 simp only[raiseNew];refine lJb (wpAny_handled ?_);rw[show A.in1.handled=none from hh];refine lJb (lJe (wpAny_throw ?_))
 exact lJb (lZe (T:="StopIteration") (b:=true) ⟨_,lKd _ rfl,rfl⟩ isSubtype_stop (lJe (hQ _ ((sb1.extBut.push _).push _))))
theorem qJm{t:SetTable}(d:SetN prog w h0 S o arr ep t es)(hl:t.led= !bt w)(hh:A.handled=none)(hIS:I≠S):
  WalksS prog w A I [I,S] [I] (λa b=>b=a) arr.size (λi v=>((ordS w S ep arr)[i]?).map (·.2)=some v) (λi s=>s.heap.get? S=some o/\s.heap.get? I=some (qKg S ep arr.size (jXg w t i) i)) where
 sub:=λb hb=>by rw[lJz.mp hb];exact lJv ..
 grefl:=λ_=>rfl
 gtrans:=λ_ _ _ h1 h2=>(h2.trans h1)
 frame:=λi s h' _ st _ hk=>⟨hk S (by simp) _ st.1,hk I (by simp) _ st.2⟩
 item:=by
  intro i s Q E hi st hQ;have hsz:(ordS w S ep arr).size=arr.size:=by rw[<-lKg,(jYk w S ep arr).length_eq,lKg]
  refine qUw d hl st.1 st.2 (e:=(ordS w S ep arr)[i]) (lK7 (by omega)) λh' sb e=> ?_
  refine hQ _ _ (by rw[lK7 (by omega)];rfl) ⟨(sb.2 S (λz=>hIS z.symm)).trans st.1,e⟩ ⟨λb ob hb e=> ?_,rfl,rfl,rfl,lJh _⟩
  exact (sb.2 b (λz=>hb (lJz.mpr z))).trans e
 done:=by
  intro s Q E st hQ;refine qZm d hl hh st.1 st.2 λh' eb=>hQ _ ⟨λb ob hb e=> ?_,rfl,rfl,rfl,lJh _⟩
  exact eb b ob (λz=>hb (lJz.mpr z)) e
 self:=by
  intro i s Q E st hQ;have hT:s.TypeIs (.ref I) "set_iterator":=⟨_,st.2,rfl⟩;refine wpAny_pyIter_slot hT Si.slot_iter (lQn Si.slot_iter hT Si.entry_it ?_ (Si.args_it _));exact (show wpAny _ _ (ret (.ref I)) _ _ s from lJe ⟨_,rfl,"set_iterator",_,hT,Si.slot_next.lookup,hQ⟩)
theorem kYp{L:Addr}{t:SetTable}(d:SetN prog w s.heap S o arr ep t es)(hl:t.led= !bt w)(hh:A.handled=none)(res:Value)(c0:Nat)(hL:s.heap.get? L=some {cls:= .type "list",data:= .seq #[] c0})(hLS:L≠S)(hR:∀(g:Heap)(tk:Nat)(acc:Array Value)(c':Nat),(∀b ob,b≠L->s.heap.get? b=some ob->g.get? b=some ob)->g.get? L=some {cls:= .type "list",dict:=none,data:= .seq acc c',slots:= #[]}->ItemsOf (λi v=>((ordS w S ep arr)[i]?).map (·.2)=some v) acc arr.size->R (.ok (.ret res)) {s with heap:=g,toks:=tk}):
  wpAny (model prog w) A.in1 (Builtin.List.listExtendWith (.ref L) (.ref S) res) (λfin z=>match fin with | .done f=>R (.ok f) z | .again c'=>c'.quiet=true/\codeAny (model prog w) A c' R z) (λe z=>R (.error e) z) s:=by
 have hT:s.TypeIs (.ref S) "set":=⟨o,d.get,d.exact_.1⟩;have hIS:s.heap.objs.size≠S:=lQl (lJi d.get);have hIL:L≠s.heap.objs.size:=lJr (lJi hL);have hSf:L∉[s.heap.objs.size,S]:=by simp[hIL,hLS]
 have asz:arr.size<=sizeLine:=by
  rw[d.size,lKw]
  rcases d.mask with ⟨_,z⟩ | ⟨_,z⟩ | ⟨_,z⟩ | ⟨_,z⟩ | ⟨_,z⟩<;>omega
 (unfold Builtin.List.listExtendWith)
 (refine lJb (lVk hT ?_))
 have z1:Builtin.List.listSameRef (.ref L) (.ref S)=false:=by simp[Builtin.List.listSameRef,hLS]
 have z2:(Value.type "set" == Value.type "list")=false:=by decide
 have z3:(Value.type "set" == Value.type "tuple")=false:=by decide
 simp only[z1,z2,z3,Bool.or_false,lKs,lKi];refine lJb (qVb d ?_);refine lJb (lKz (qZe (o:=o) (lJm _ d.get) d.exact_.1 ?_));refine mJp (λ_=> ?_) λz=>absurd (by decide +kernel) z
 refine lJb (lQc ?_)
 generalize hg1:s.heap.push {cls:=Value.type "set_iterator",data:=Data.fields #[Value.int 0 0,Value.int 0 0,Value.ref S,Value.int (es.length:Int) 0,Value.int (ep:Int) 0]}=h1
 have hI1:h1.get? s.heap.objs.size=some (qKg S ep arr.size (jXg w t 0) 0):=by
  rw[<-hg1,d.size,show jXg w t 0=0 by unfold jXg;split<;>rfl]
  exact lKd _ rfl
 have up:∀b ob,s.heap.get? b=some ob->h1.get? b=some ob:=λb ob e=>by rw[<-hg1];exact lJm _ e
 have hL1:=up L _ hL;refine lJb ?_;refine (show wpAny _ A.in1 (updateSeq L (·.push .none) >>= λ_=>updateSeq L (·.pop)) _ _ {s with heap:=h1} from ?_)
 refine lJb (wpAny_updateSeq hL1 rfl ?_);have hL2:=lXo (Obj.mapSeq (·.push Value.none)) hL1 rfl
 refine wpAny_updateSeq (s:={s with heap:=h1.update L (Obj.mapSeq (·.push Value.none))}) hL2 rfl ?_
 have hL3:=lXo (Obj.mapSeq (·.pop)) hL2 rfl
 have oth:∀b ob,b≠L->h1.get? b=some ob->((h1.update L (Obj.mapSeq (·.push Value.none))).update L (Obj.mapSeq (·.pop))).get? b=some ob:=
  λb ob hb e=>(lYn _ _ (Ne.symm hb)).trans ((lYn _ _ (Ne.symm hb)).trans e)
 refine lJe ⟨lVl F.plain_extend_loop _,?_⟩;refine codeAny_extend_loopS (qJm (A:=A.in1) d hl hh hIS) asz L hSf res arr.size 0 _ #[] _ rfl (lJ6 _) ⟨oth S o (Ne.symm hLS) (up S o d.get),oth _ _ (Ne.symm hIL) hI1⟩ hL3 (ItemsOf.nil _) λz acc c' hm hL' hacc=> ?_
 rw[Moved.eq_with hm];refine hR z.heap z.toks acc c' (λb ob hb e=>hm.heap b ob ?_ (oth b ob hb (up b ob e))) hL' hacc
 simp only[lJp,lKy,lQw,not_or];exact⟨hb,lJr (lJi e)⟩
theorem kXb{t:SetTable}(d:SetN prog w s.heap S o arr ep t es)(hl:t.led= !bt w)(hh:A.handled=none){Q:List Value->Shared->Prop}(hQ:∀(g:Heap)(tk:Nat)(acc:List Value),(∀b ob,s.heap.get? b=some ob->g.get? b=some ob)->s.heap.objs.size<g.objs.size->acc.Perm (es.map λe=> .int e.1 e.2)->Q acc {s with heap:=g,toks:=tk}):wpAny (model prog w) A (collect (.ref S)) Q E s:=by
 have hLS:s.heap.objs.size≠S:=lQl (lJi d.get)
 have key:∀R:Result->Shared->Prop,(∀(g:Heap)(tk:Nat)(acc:Array Value)(c':Nat),(∀b ob,s.heap.get? b=some ob->g.get? b=some ob)->g.get? s.heap.objs.size=some {cls:= .type "list",dict:=none,data:= .seq acc c',slots:= #[]}->ItemsOf (λi v=>((ordS w S ep arr)[i]?).map (·.2)=some v) acc arr.size->R (.ok (.ret (.ref s.heap.objs.size))) {s with heap:=g,toks:=tk})->
   codeAny (model prog w) A (.builtin "proto.collect" ⟨[.ref S],[]⟩) R s:=by
  intro R hR;refine lQ4 F.entry_proto_collect ?_
  (rw[lVf F.plain_proto_collect _])
  refine (show wpAny _ A.in1 (newList [] >>= λl=>again (.builtin "list.__iadd__" ⟨[l,.ref S],[]⟩)) _ _ s from lJb (lK3 (lJe ⟨lVl F.plain_list_iadd _,lQ4 F.entry_list_iadd ?_⟩)))
  (rw[lVf F.plain_list_iadd _])
  have hS1:(s.heap.push {cls:= .type "list",data:= .seq ([]:List Value).toArray}).get? s.heap.objs.size=some {cls:= .type "list",data:= .seq ([]:List Value).toArray}:=lKd _ rfl;have d1:SetN prog w (s.heap.push {cls:= .type "list",data:= .seq ([]:List Value).toArray}) S o arr ep t es:=d.move (lJm _ d.get);exact kYp (A:=A) (R:=R) (s:={s with heap:=s.heap.push {cls:= .type "list",data:= .seq ([]:List Value).toArray} }) d1 hl hh (.ref s.heap.objs.size) 0 hS1 hLS λg tk acc c' kp hL' hacc=>hR g tk acc c' (λb ob e=>kp b ob (lJr (lJi e)) (lJm _ e)) hL' hacc
 unfold collect;refine lJb (wpAny_runValue (key _ λg tk acc c' kp hL' hacc=>(show wpAny _ A (load s.heap.objs.size >>= _) _ _ _ from lJb (wpAny_load hL' (lJe (hQ g tk acc.toList kp (lJi hL') ?_))))))
 have e1:acc.toList=(ordS w S ep arr).toList.map (·.2):=by
  have hsz:(ordS w S ep arr).size=arr.size:=by rw[<-lKg,(jYk w S ep arr).length_eq,lKg]
  apply lQ5;intro i;rw[lJ0,lKf,lKf]
  by_cases hi:i<acc.size
  .have:=hacc.2 i acc[i] (lK7 hi);rw[lK7 hi];exact this.symm
  .rw[lVc (by omega),lVc (by rw[hsz,<-hacc.1];omega)]
   rfl
 rw[e1];refine ((jYk w S ep arr).map _).trans ?_;rw[d.arr_,lJ1];exact .refl _
theorem kYl:∀(ps:List (Int×Tok)),IntsAre (ps.map λp=>Value.int p.1 p.2) (ps.map (·.1))
 | []=> .nil
 | p::ps=> .cons _ _ (kYl ps)
theorem uKg{vs:List Value}{ns:List Int}(h:IntsAre vs ns):∃ps:List (Int×Tok),vs=ps.map (λp=> .int p.1 p.2)/\ps.map (·.1)=ns:=by
 induction h with
 | nil=>exact⟨[],rfl,rfl⟩
 | @cons i t vs ns _ ih=>
  obtain⟨ps,e1,e2⟩:=ih;exact⟨(i,t)::ps,by rw[lJo,e1],by rw[lJo,e2]⟩
theorem qKy:∀(ps:List (Int×Tok)),Vals ((ps.map (·.1)).map V.int) (ps.map λp=>Value.int p.1 p.2)
 | []=> .nil
 | p::ps=> .cons ⟨p.2,rfl⟩ (qKy ps)
theorem qQs{K:PySem.W.Frag}{H:Hp}:∀(is:List Int),Reps K H (is.map T.int) (is.map V.int)
 | []=>rfl
 | _::is=>⟨_,_,rfl,rfl,qQs is⟩
theorem kXw{is:List Int}(hS:SetNs prog w s.heap S is)(hh:A.handled=none)(hus:us.length<64)(hkus:∀z,z∈is->z∈us)(k:∀(ps:List (Int×Tok))(h':Heap)(tk:Nat)(D c:Nat),PutN ps is->s.heap.objs.size<=D->h'.get? D=some (seqObj "list" (List.toArray (ps.map λe=>Value.int e.1 e.2)) c)->(∀p o,s.heap.get? p=some o->h'.get? p=some o)->Q (.ref D) {s with heap:=h',toks:=tk}):
  wpAny (model prog w) A (call (.builtin "sorted") [.ref S]) Q E s:=by
 obtain⟨o,arr,ep,t,es,d,p,l⟩:=hS;have el:es.length<64:=lZr (p.few hkus) hus
 (refine Calls.call_function_entry kind_sorted plain_sorted entry_sorted (args_sorted1 _) ?_)
 unfold Builtin.«sorted»
 (refine lJb (m:=checkCount "sorted" 1 1 _) (lJe ?_))
 refine lJb (kXb (A:=A.in1) d l (by simpa using hh) λg tk acc kp big pe=> ?_)
 obtain⟨es2,pe2,rfl⟩:=jX3 pe es rfl;have l2:es2.length=es.length:=pe2.length_eq;refine lJb (wpAny_newList ?_ (by rw[lJd,lKw];omega))
 have hoL:(g.push (seqObj "list" (List.toArray (es2.map λe=>Value.int e.1 e.2)) 0)).get? g.objs.size=some (seqObj "list" (List.toArray (es2.map λe=>Value.int e.1 e.2)) 0):=lKd _ rfl
 refine lJb (lKz (lQn slot_list_sort ⟨_,hoL,rfl⟩ entry_list_sort ?_ (args_list_sort _)));refine list_sort_tree (s:={s with heap:=g.push (seqObj "list" (List.toArray (es2.map λe=>Value.int e.1 e.2)) 0),toks:=tk}) hoL (kYl es2) (by rw[lJd];omega) λout ns' hI hp _=> ?_
 obtain⟨ps,e1,e2⟩:=uKg hI;have eo:out=List.toArray (ps.map λe=>Value.int e.1 e.2):=by rw[<-e1]
 subst eo;subst e2;have pp:(ps.map (·.1)).Perm (es.map (·.1)):=hp.trans (pe2.map _)
 have ho1:=lZl hoL λ_=>(#[]:Array Value)
 have ho2:=lJm (seqObj "list" #[] 0) (lJm (seqObj "tuple" (List.toArray (es2.map λe=>Value.int e.1 e.2)) 0) ho1)
 have ho3:=lZl ho2 λ_=>List.toArray (ps.map λ(e:Int×Tok)=>Value.int e.1 e.2)
 refine⟨_,rfl,lJe ⟨_,rfl,k ps _ tk _ _ ⟨pp.nodup_iff.mpr p.nod,λz=>pp.mem_iff.trans (p.mem z)⟩ (lVx big) ho3 λq ob e=> ?_⟩⟩
 .have ne:q≠g.objs.size:=lJr (lKc (lJi e) (lVx big));exact (lX6 _ _ _ _ ne).trans (lJm _ (lJm _ ((lX6 _ _ _ _ ne).trans (lJm _ (kp q ob e)))))
theorem qJr{σ:List Int}{v:Int}(h:σ.Nodup):(step_dedup σ v).Nodup:=by
 unfold step_dedup;split
 .exact h
 .rename_i c
  have hv:v∉σ:=λz=>c (lY2.mpr ⟨v,z,lZk _⟩)
  rw[lXx];refine⟨h,lK4.mpr ⟨lKy,lXy⟩,λa ha b hb e=> ?_⟩
  rw[lJz.mp hb] at e;exact hv (e▸ha)
theorem jXo(val:Nat->Int):∀i,(firstMet val i).Nodup
 | 0=>lXy
 | i+1=>by rw[firstMet_succ];exact qJr (jXo val i)
theorem kV4(is:List Int)(z:Int):z∈firstMet (λi=>is.getD i 0) is.length↔z∈is:=by
 have h:=firstMet_any (λi=>is.getD i 0) is.length z
 have e:(List.range is.length).map (λi=>is.getD i 0)=is:=by
  apply List.ext_getElem (by simp)
  intro i h1 h2;simp[h2]
 rw[e] at h
 have c:∀l:List Int,l.any (· == z)=true↔z∈l:=λl=>by
  rw[lY2];exact⟨λ⟨x,hx,q⟩=>(eq_of_beq q)▸hx,λq=>⟨z,q,lZk z⟩⟩
 rw[<-c,<-c,h]
variable {pos pos' p p':Pos}{ta:TA3}
noncomputable def qK9(ta:TA3):TE3:=λτ G Q=>ta τ G λvs G1=>∃(x:T)(is:List Int),vs=[x]/\jU2 G1 x=some (is.map T.int)/\is.length<=1000/\∀ys:List Int,ys.Nodup->(∀z,z∈ys↔z∈is)->Q (.int ys.length) G1
noncomputable def qK6(ta:TA3):TE3:=λτ G Q=>ta τ G λvs G1=>∃(x:T)(is:List Int),vs=[x]/\jU2 G1 x=some (is.map T.int)/\is.length<=1000/\(∃us:List Int,us.length<64/\∀z,z∈is->z∈us)/\∀(p:Addr)(ys:List Int),G1 p=none->ys.Nodup->(∀z,z∈ys↔z∈is)->Q (.ref p) (gup G1 p (.lst (ys.map T.int)))
theorem uQr{a:Expr}(hc:X.calm=true)(hu:X.A.units+20<cLine)(hl:Gl X "len")(hlm:X.mg "len"=none)(hlv:bootBuiltins "len"=some (.builtin "len"))(hg:Gl X "set")(hm:X.mg "set"=none)(hv:bootBuiltins "set"=some (.type "set"))(ha:PA3 X [a] ta)(hs:starEach [a] X.env=[(false,eval a X.env)]:=by rfl)(hs':starEach [Expr.Call (.Name "set" p) [a] [] pos] X.env=[(false,eval (.Call (.Name "set" p) [a] [] pos) X.env)]:=by rfl):
  PE3 X (.Call (.Name "len" p') [.Call (.Name "set" p) [a] [] pos] [] pos') (qK9 ta):=by
 intro pins s τ G H Q I h;obtain⟨σ,I0,_,_⟩:=id I;refine Call_ (jU3 I0 hl hlm hlv (lZs ?_ hs' rfl));rw[hs'];refine Calls.spliced_cons (Call_ (jU3 I0 hg hm hv (lVb (thn (ha pos pins s τ G H _ I h) λus s1 w_=>w_.el λys G1 H1 e1 i_ r_ q1=>i_.el λσ1 I1 hs1 hg1=>r_.el λas ras rvs=> ?_) hs rfl)))
 obtain⟨x,is,e,hx,hn,q⟩:=q1;subst e;obtain⟨v,rfl,rv⟩:=jUg ras;obtain⟨u,rfl,ru⟩:=rvs.one;obtain⟨pa,vs,rfl,hq,r⟩:=jV8 hg1 rv hx;cases ru;cases jQo r;obtain⟨its,rvv,pl,hz⟩:=I1.list hq;obtain⟨ps,rfl,rfl⟩:=jUs rvv;rw[lJd] at hn;have sz:(ps.map λp=>Value.int p.1 p.2).toArray.size=(ps.map (·.1)).length:=by simp
 refine call_set_list (I1.ok.hd hc) pl.isList (ns:=ps.map (·.1)) (by rw[List.toList_toArray];exact kYl ps) (by rw[sz,lJd];show _<4096;omega) λh2 tk2 hS kp2=> ?_
 rw[sz] at hS;obtain⟨o,es,ep,t,ho,hex,hd,_,_,hb,hf,en⟩:=hS;refine Calls.spliced_nil ?_;refine call_len_set (s:={s1 with heap:=h2,toks:=tk2}) ho hex hd hf (by have:es.size<4096:=hb;omega) ?_
 rw[en];refine⟨.int _,G1,H1,e1,⟨σ1,?_,hs1,hg1⟩,⟨.int _,rfl,⟨_,rfl⟩⟩,q _ (jXo _ _) (kV4 _)⟩;exact I1.kept λb ob e=>kp2 b ob (lJi e) e
theorem uQp{a:Expr}(hc:X.calm=true)(hu:X.A.units+20<cLine)(hl:Gl X "sorted")(hlm:X.mg "sorted"=none)(hlv:bootBuiltins "sorted"=some (.builtin "sorted"))(hg:Gl X "set")(hm:X.mg "set"=none)(hv:bootBuiltins "set"=some (.type "set"))(ha:PA3 X [a] ta)(hs:starEach [a] X.env=[(false,eval a X.env)]:=by rfl)(hs':starEach [Expr.Call (.Name "set" p) [a] [] pos] X.env=[(false,eval (.Call (.Name "set" p) [a] [] pos) X.env)]:=by rfl):
  PE3 X (.Call (.Name "sorted" p') [.Call (.Name "set" p) [a] [] pos] [] pos') (qK6 ta):=by
 intro pins s τ G H Q I h;obtain⟨σ,I0,_,_⟩:=id I;refine Call_ (jU3 I0 hl hlm hlv (lZs ?_ hs' rfl));rw[hs'];refine Calls.spliced_cons (Call_ (jU3 I0 hg hm hv (lVb (thn (ha pos pins s τ G H _ I h) λus s1 w_=>w_.el λys G1 H1 e1 i_ r_ q1=>i_.el λσ1 I1 hs1 hg1=>r_.el λas ras rvs=> ?_) hs rfl)))
 obtain⟨x,is,e,hx,hn,⟨us,hus,hkus⟩,q⟩:=q1;subst e;obtain⟨v,rfl,rv⟩:=jUg ras;obtain⟨u,rfl,ru⟩:=rvs.one;obtain⟨pa,vs,rfl,hq,r⟩:=jV8 hg1 rv hx;cases ru;cases jQo r;obtain⟨its,rvv,pl,hz⟩:=I1.list hq;obtain⟨ps,rfl,rfl⟩:=jUs rvv;refine qQl (ps:=ps) (I1.ok.hd hc) pl.isList (by rw[List.toList_toArray]) hus hkus λh2 tk2 hS kp2=> ?_
 refine Calls.spliced_nil ?_;have hS0:=hS;refine kXw (s:={s1 with heap:=h2,toks:=tk2}) hS (I1.ok.hd hc) hus hkus λps' h3 tk3 D c hp hD hoD kp3=> ?_
 have kp:∀b o,s1.heap.get? b=some o->h3.get? b=some o:=λb o e=>kp3 b o (kp2 b o e)
 have hD1:s1.heap.objs.size<=D:=by
  obtain⟨o,_,_,_,_,d,_⟩:=hS0;exact lKx (lVx (lJi d.get)) hD
 have fr:=I1.hok.fresh hD1;have pl_:=hp.few hkus;have I3:=I1.laid (a:=D) (o:= .lst ((ps'.map (·.1)).map V.int)) (h':=h3) (t':=tk3) kp hD1 ⟨by rw[lJd,lJd,lKw];omega,ps'.map λe=>Value.int e.1 e.2,c,qKy ps',hoD⟩
 have ext:Ext H1 (upd H1 D (.lst ((ps'.map (·.1)).map V.int))):= .upd (.none fr)
 refine⟨.ref D,_,_,e1.trans ext,⟨σ1,I3,hs1.mono ext,hg1.lstNew (qQs _) (.none fr)⟩,⟨.ref D,rfl,rfl⟩,?_⟩;exact q D (ps'.map (·.1)) (hg1.fresh fr) hp.nod hp.mem
end L3
namespace L3
open PySem PySem.Spec PyProof.Rows L2
variable {X:Cx}
noncomputable def kUb:T->List T->Gp->VK3->Prop:=λx as G Q=>∃p q xs ys,x= .ref p/\as=[.ref q]/\G p=some (.lst xs)/\G q=some (.lst ys)/\xs.length+ys.length<=sizeLine/\Q .non (gup G p (.lst (xs++ys)))
theorem kUn:Mt3 X "list.extend" kUb:=by
 rintro pins s τ G H x as v us Q ⟨σ,I,hs,hg⟩ ⟨a,ra,rv⟩ ⟨bs,rbs,rus⟩ ⟨p,q,xs,ys,ex,ea,hp,hq,hz,k⟩;subst ex;subst ea;cases (show a= .ref p from ra);cases rv
 obtain⟨b1,rfl,r1⟩:=jUg rbs;cases (show b1= .ref q from r1)
 obtain⟨u1,rfl,ru1⟩:=rus.one;cases ru1;obtain⟨vs,h1,h2⟩:=hg.lst hp;obtain⟨ws,h3,h4⟩:=hg.lst hq;obtain⟨z,its,n,r,hl,e⟩:=I.lstM h1;obtain⟨z',its',n',r',hl',e'⟩:=I.lstM h3;have hlen:=h2.length;have hlen':=h4.length;have q1:=r.length;have q2:=r'.length
 have hc:¬(!its.toArray.isEmpty&&Builtin.List.listTooLong (its.toArray.size+its'.toArray.size))=true:=by
  have:Builtin.List.listTooLong (its.toArray.size+its'.toArray.size)=false:=by
   unfold Builtin.List.listTooLong
   (rw[lJx,lJx])
   exact lJy (by omega)
  rw[this,Bool.and_false];exact lJu
 refine lQ3 F.slot_list_extend ⟨_,e,rfl⟩ F.entry_list_extend (F.args_list_extend_2 _ _) (AutoSeq1.list_extend_list_list_0 p its.toArray n q its'.toArray n' hc (by rw[lJx];omega) (by rw[lJx,lJx];omega)) ⟨e,e',?_⟩
 have e2:Ext H (upd H p (.lst (vs++ws))):= .upd (.lst h1);refine⟨.non,_,_,e2,⟨σ,I.lset (its':=its++its') h1 e ?_ (r.append r') ?_,hs.mono e2,hg.lstNew (xs:=xs++ys) (h2.append h4) (.lst h1)⟩,⟨.non,rfl,rfl⟩,k⟩
 .simp
 .rw[lJ4];omega
variable {P:Program}{w:World}
section
variable {d:Addr}
end
variable {A:Around}{E:Value->Shared->Prop}{s:Shared}
section
variable {prog:Program}
end
section
variable {it l:Addr}{xs:Array Value}
end
variable {pos:Pos}{a:Expr}{ta:TE3}
section
variable {e:Expr}{es:List Expr}{te:TE3}{t:TA3}{st:Stmt}{rest:List Stmt}{ts us:TS3}
structure PEi (X:Cx) (e:Expr) (t:TE3):Prop where
 out:PE3 X e t
structure PAi (X:Cx) (es:List Expr) (t:TA3):Prop where
 out:PA3 X es t
structure PSi (X:Cx) (s:Stmt) (t:TS3):Prop where
 out:PS3 X s t
structure PSsi (X:Cx) (s:List Stmt) (t:TS3):Prop where
 out:PSs3 X s t
theorem kQl {i j}:PEi X (.Constant (.int i) j pos) (tC (.int i)):=⟨jJj⟩
theorem jZn {x1}(h:PAi X es t):PEi X (.Tuple es x1 pos) (tTup t):=⟨jKl h.out⟩
theorem uXu(h:PAi X es t):PEi X (.List es pos) (tLst t):=⟨jQe h.out⟩
theorem jYv:PAi X [] tNil:=⟨jJd⟩
theorem jQg(ha:PEi X e te)(hr:PAi X es t)(hs:starEach (e::es) X.env=(false,eval e X.env)::starEach es X.env:=by rfl):PAi X (e::es) (jJa te t):=⟨jJb ha.out hr.out hs⟩
theorem uU2(he:PEi X e te):PSi X (.Return (some e) pos) (tRet te):=⟨jJ3 he.out⟩
theorem qQf(h:PSi X st ts):PSsi X [st] ts:=⟨jJl h.out⟩
theorem kQy(h:PSi X st ts)(h':PSsi X rest us):PSsi X (st::rest) (tSeq ts us):=⟨jJf h.out h'.out⟩
end
theorem uZp{b:Expr}{tb:TE3}{r:R3}(hr:Ix3 X r)(ha:PEi X a ta)(hb:PEi X b tb)(hs:qXn b):PEi X (.Subscript a b pos) (tOp r ta tb):=⟨e_ix hr ha.out hb.out hs⟩
theorem uYm{c:Expr}{a b:List Stmt}{tc:TT3}{t u:TS3}(hc:PT3 X c tc)(ha:PSsi X a t)(hb:PSsi X b u):PSi X (.If c a b pos) (tIfS tc t u):=⟨s_if hc ha.out hb.out⟩
theorem kY7{sts:List Stmt}:PSs3 X sts qK7:=λ_ _ _ _ _ _ _ h=>h.elim
end L3
namespace PySem
open Sem (wp)
set_option maxRecDepth 100000
theorem uQx:typeLookup (.type "list") "keys"=pure none:=by rw[mJn,mJo];kernel_rfl
theorem kV8{prog:Program}{w:World}{A:Around}{E:Value->Shared->Prop}{s:Shared}{a:Addr}{xs:Array Value}{k:Nat}{Q:Option Value->Shared->Prop}(hA:A.handled=none)(hx:s.heap.get? a=some {cls:= .type "list",dict:=none,data:= .seq xs k,slots:= #[]})(h:∀h' tk,(∀b o,s.heap.get? b=some o->h'.get? b=some o)->Q none {s with heap:=h',toks:=tk}):wpAny (model prog w) A (getAttr? (.ref a) "keys") Q E s:=by
 (obtain⟨hp,g,d,tk,os⟩:=s)
 (have hT:∀tk',(⟨hp,g,d,tk',os⟩:Shared).TypeIs (.ref a) "list":=λ_=>⟨_,hx,rfl⟩)
 have f1:=sub_AttributeError
 (have f3:=lZz.lookup)
 (have f4:=lZz.bind (.ref a))
 (have f5:=am_list_getattr_none)
 unfold getAttr? getAttrBy?
 (refine lJb (wpAny_mkText ?_))
 (refine lJb (lYh ?_))
 unfold getAttrBy
 repeat (any_goals (first | assumption | exact hT _ | ((with_reducible show wpAny _ _ (call (Value.builtin "list.__getattribute__") _ _) _ _ _);refine lQ3 lZz (hT _) am_entry_list_getattribute (F.args_list_getattribute_2 _ _) (meets_getattribute_miss_list a xs k #[] _ _ uQx (by decide +kernel) (by show 4+100<=sizeLine;rw[lKw];decide)) ⟨hx,hA,λh' tk' e hx'=> ?_⟩) | wp_step))
 (obtain⟨t',u',he⟩:=hx'.there)
 refine (show wpAny _ _ (getattributeRaised _ _ _ _ _ _ _) _ _ _ from ?_)
 unfold getattributeRaised
 (repeat (any_goals (first | assumption | wp_step)))
 exact h _ _ hx'.keeps
end PySem
namespace L3
open PySem PySem.Spec PyProof.Rows L2
variable {s:Shared}{y:Value}{l:Addr}{ts:List Addr}{ps:List ((Int×Tok)×Value)}
section
variable {prog:Program}{w:World}{A:Around}{E:Value->Shared->Prop}
theorem kJd:entryFor table "dict.update.loop"=some Builtin.«dict.update.loop» :=entryFor_of_tree (by kernel_rfl)
theorem jUm:plainId "dict.update.loop"=true:=by decide +kernel
theorem qV2{p:Addr}{x:Value}{Q:List Value->Shared->Prop}(hp:IsTup s.heap p #[x,y])(k:Q [x,y] s):wpAny (model prog w) A (Builtin.Dict.pairItems (.ref p)) Q E s:=by
 obtain⟨o,ho,hc,n,hd⟩:=id hp;unfold Builtin.Dict.pairItems;refine lJb (lVk hp.typeIs ?_);rw[lJc (by decide)]
 exact lJb (wpAny_seqItems ho hd (lJe k))
theorem qV1{kvs:List (Key×Value)}{i:Int}(h:(Sum.inl i:Key)∉kvs.map (·.1)):stored kvs (.inl i) y=kvs++[(.inl i,y)]:=by
 unfold stored;rw[lJa];intro z;obtain⟨x,hx,e⟩:=lY2.mp z;exact h (lJj.mpr ⟨x,hx,lXa e⟩)
structure DlAt (h:Heap) (l:Addr) (ts:List Addr) (ps:List ((Int×Tok)×Value)):Prop where
 li:h.IsList l (ts.map Value.ref).toArray
 len:ts.length=ps.length
 at_:∀(i:Nat) t p,ts[i]? =some t->ps[i]? =some p->IsTup h t #[.int p.1.1 p.1.2,p.2]
theorem DlAt.moved{h h':Heap}(a:DlAt h l ts ps)(k:∀b o,h.get? b=some o->(o.cls= .type "tuple"\/b=l)->h'.get? b=some o):DlAt h' l ts ps:=
 ⟨a.li.at λo e=>k _ o e (.inr rfl),a.len,λi t p e1 e2=>let ⟨o,ho,hc,r⟩:=a.at_ i t p e1 e2;⟨o,k _ o ho (.inl hc),hc,r⟩⟩
noncomputable def dlK(ps:List ((Int×Tok)×Value)):List (Key×Value):=ps.map λp=>(Sum.inl p.1.1,p.2)
theorem uQw{R:Result->Shared->Prop}{it d:Addr}(hh:A.handled=none)(dl:d≠l)(di:d≠it)(li:l≠it)(hn:(ps.map (·.1.1)).Nodup)(hs:ps.length<=sizeLine):
  ∀(k i:Nat)(s:Shared)(j:Int)(jt:Tok),ps.length-i=k->i<=ps.length->DlAt s.heap l ts ps->s.heap.IsListIter it l i->s.heap.DictOf (jJ8 prog w) d ((dlK ps).take i)->
   (∀h' t',h'.DictOf (jJ8 prog w) d (dlK ps)->(∀b o,b≠d->b≠it->s.heap.get? b=some o->h'.get? b=some o)->R (.ok (.ret .none)) {s with heap:=h',toks:=t'})->
   codeAny (model prog w) A (.builtin "dict.update.loop" ⟨[.ref d,.ref it,.int j jt,.none],[]⟩) R s:=by
 have zl:(dlK ps).length=ps.length:=by simp[dlK]
 intro k
 induction k with
 | zero=>
  intro i s j jt hk hi a hit hd hR;have hin:i=ps.length:=by omega
  subst hin;refine lQ4 kJd ?_;rw[lVf jUm _];refine (show wpAny _ A.in1 (pyNext (.ref it) >>= _) _ _ s from ?_)
  refine lJb (mJf (A:=A.in1) (by simpa using hh) hit a.li (by have:=a.len;simp;omega) λh' kp=> ?_)
  refine (show wpAny _ A.in1 (Builtin.Dict.addKeywords d [] >>= _) _ _ _ from lJb (lJe (lJe ?_)))
  rw[<-zl,lQz] at hd
  have hd':h'.DictOf (jJ8 prog w) d (dlK ps):=by
   obtain⟨o',es,ep,ho',r⟩:=hd;exact⟨o',es,ep,kp d o' di ho',r⟩
  exact hR h' s.toks hd' λb o _ c1 e=>kp b o c1 e
 | succ k ih=>
  intro i s j jt hk hi a hit hd hR;have hlt:i<ps.length:=by omega
  have hlt2:i<ts.length:=by rw[a.len];exact hlt
  have tp:=a.at_ i ts[i] ps[i] (lJl hlt2) (lJl hlt);refine lQ4 kJd ?_;rw[lVf jUm _];refine (show wpAny _ A.in1 (pyNext (.ref it) >>= _) _ _ s from ?_)
  refine lJb (mJe (A:=A.in1) hit a.li (x:= .ref ts[i]) (by simp[hlt2]) λh' hit' sb=> ?_)
  have tne:∀b o,s.heap.get? b=some o->o.cls= .type "tuple"->b≠it:=λb o ho hc=>by
   rintro rfl;obtain⟨o',ho',hc',_⟩:=hit;rw[ho] at ho';cases ho';rw[hc] at hc';exact absurd hc' (by decide)
  have kp1:∀b o,s.heap.get? b=some o->(o.cls= .type "tuple"\/b=l)->h'.get? b=some o:=λb o e z=>(sb.2 b (z.elim (λhc=>tne b o e hc) λq=>by rw[q];exact li)).trans e
  have a':=a.moved kp1
  have hd':h'.DictOf (jJ8 prog w) d ((dlK ps).take i):=by
   obtain⟨o',es,ep,ho',r⟩:=hd;exact⟨o',es,ep,(sb.2 d di).trans ho',r⟩
  have tp':IsTup h' ts[i] #[.int ps[i].1.1 ps[i].1.2,ps[i].2]:=a'.at_ i _ _ (lJl hlt2) (lJl hlt)
  have nk:(Sum.inl ps[i].1.1:Key)∉((dlK ps).take i).map (·.1):=by
   rw[lV6,dlK,lJ1];intro z;obtain⟨m,hm,e⟩:=lXh z;rw[lKe] at hm;have hm':m<ps.length:=by simp at hm;omega
   rw[lYu,List.getElem_map] at e;have e':ps[m].1.1=ps[i].1.1:=Sum.inl.inj e;have:=(List.getElem_inj (i:=m) (j:=i) (h₀:=by simpa using hm') (h₁:=by simpa using hlt) hn).mp (by simpa using e')
   simp at hm;omega
  have tk1:(dlK ps).take i++[(.inl ps[i].1.1,ps[i].2)]=(dlK ps).take (i+1):=by
   rw[lQr,lJl (by rw[zl];exact hlt)]
   simp[dlK]
  refine lJb (lKz (lJb (wpAny_tryCatch (qV2 (s:={s with heap:=h'}) tp' (lKz (wpAny_dictSet_pairs (s:={s with heap:=h'}) (kJ8 prog w _ _) hd' (λh2 hd2 sb2=> ?_) (by rw[lKe];omega)))))))
  rw[qV1 nk,tk1] at hd2
  have dne:∀b o,h'.get? b=some o->o.cls= .type "tuple"->b≠d:=λb o ho hc=>by
   rintro rfl;obtain⟨o',ho',hc'⟩:=hd'.typeIs (s:={s with heap:=h'})
   rw[show h'.get? b=some o' from ho'] at ho;cases ho
   rw[hc] at hc';exact absurd hc' (by decide)
  refine lJe ⟨lVl jUm _,ih (i+1) _ _ _ (by omega) hlt (a'.moved λb o e z=>(sb2.2 b (z.elim (λhc=>dne b o e hc) λq=>by rw[q];exact dl.symm)).trans e) (hit'.at λo e=>(sb2.2 it di.symm).trans e) hd2 λh3 t3 hd3 kp3=>hR h3 t3 hd3 λb o c1 c2 e=>kp3 b o c1 c2 ((sb2.2 b c1).trans ((sb.2 b c2).trans e))⟩
theorem uQy{c:Nat}(hh:A.handled=none)(hl:s.heap.get? l=some {cls:= .type "list",dict:=none,data:= .seq (ts.map Value.ref).toArray c,slots:= #[]})(a:DlAt s.heap l ts ps)(hn:(ps.map (·.1.1)).Nodup)(hs:ps.length<=sizeLine){Q:Value->Shared->Prop}(k:∀h' t',h'.DictOf (jJ8 prog w) s.heap.objs.size (dlK ps)->(∀b o,s.heap.get? b=some o->h'.get? b=some o)->Q (.ref s.heap.objs.size) {s with heap:=h',toks:=t'}):
  wpAny (model prog w) A (call (.type "dict") [.ref l]) Q E s:=by
 refine callType_codes (Q₁:=λobj s₁=>obj= .ref s.heap.objs.size/\s₁={s with heap:=s.heap.push {cls:= .type "dict",data:= .dict #[]} }) PySem.F.kt_called_dict (mJv _) PySem.F.entry_dict_init (kt_code_dict_new _ ⟨rfl,rfl⟩) ?_
 rintro obj s₁ ⟨rfl,rfl⟩;have hnew:(s.heap.push {cls:= .type "dict",data:= .dict #[]}).DictOf (jJ8 prog w) s.heap.objs.size []:=Heap.DictOf.new s.heap;refine⟨hnew.typeIs,PySem.F.args_dict_init_2 _ _,?_⟩
 (unfold Builtin.«dict.__init__»)
 refine lJb ?_
 (unfold Builtin.Dict.selfAndRest)
 (refine lJb (wpAny_notOrdered_dict hnew.typeIs ?_))
 refine (show wpAny _ _ (pure (s.heap.objs.size,[Value.ref l])) _ _ _ from ?_)
 refine lJe ?_;refine (show wpAny _ _ (Builtin.Dict.updateFrom "dict.__init__" s.heap.objs.size (.ref l) [] .none) _ _ _ from ?_)
 (unfold Builtin.Dict.updateFrom)
 have up:∀b o,s.heap.get? b=some o->(s.heap.push {cls:= .type "dict",data:= .dict #[]}).get? b=some o:=λb o e=>lJm _ e
 have hl0:=up _ _ hl;have hTl:Shared.TypeIs {s with heap:=s.heap.push {cls:= .type "dict",data:= .dict #[]} } (.ref l) "list":=⟨_,hl0,rfl⟩
 refine lJb (lVk hTl ?_);rw[lJc (by decide)]
 refine lJb (kV8 (s:={s with heap:=s.heap.push {cls:= .type "dict",data:= .dict #[]} }) (by simpa using hh) hl0 λg tk kp=> ?_)
 simp only[Option.isNone_none,lKm];refine lJb (lQc ?_);have kp':∀b o,s.heap.get? b=some o->g.get? b=some o:=λb o e=>kp b o (up b o e)
 have a1:DlAt g l ts ps:=a.moved λb o e _=>kp' b o e
 refine lJb (lYg (s:={s with heap:=g,toks:=tk}) a1.li ?_)
 have hd0:g.DictOf (jJ8 prog w) s.heap.objs.size []:=by
  obtain⟨o',es,ep,ho',r⟩:=hnew;exact⟨o',es,ep,kp _ o' ho',r⟩
 have gd:s.heap.objs.size<g.objs.size:=by obtain⟨o',es,ep,ho',r⟩:=hd0;exact lJi ho'
 have ll:l<s.heap.objs.size:=lJi hl;refine lJe ⟨lVl jUm _,uQw (A:=A.in1) (ts:=ts) (ps:=ps) (l:=l) (by simpa using hh) (lQl ll) (lJr gd) (lJr (lV0 ll gd)) hn hs ps.length 0 _ _ _ (by omega) (lJ6 _) (a1.moved λb o e _=>lJm _ e) ⟨_,lKd _ rfl,rfl,rfl⟩ ?_ λh4 t4 hd4 kp4=>⟨rfl,k h4 t4 hd4 λb o e=>kp4 b o (lJr (lJi e)) (lJr (lV0 (lJi e) gd)) (lJm _ (kp' b o e))⟩⟩
 obtain⟨o',es,ep,ho',r⟩:=hd0;exact⟨o',es,ep,lJm _ ho',r⟩
end
theorem kZi{K:PySem.W.Frag}{H:Hp}:∀{kvs:List (Int×T)}{vs:List V},Reps K H (kvs.map λkv=>T.tup [.int kv.1,kv.2]) vs->∃qs:List (Addr×V),vs=qs.map (λq=>V.ref q.1)/\Reps K H (kvs.map (·.2)) (qs.map (·.2))/\Paired (λ(kv:Int×T)(q:Addr×V)=>H q.1=some (.tup [.int kv.1,q.2])) kvs qs
 | [],_,h=>by cases h;exact⟨[],rfl,rfl,.nil⟩
 | kv::kvs,_,⟨v,ws,e,r,rs⟩=>by
  subst e;obtain⟨a,us,e,h1,h2⟩:=(show ∃a us,v= .ref a/\H a=some (.tup us)/\Reps K H [.int kv.1,kv.2] us from r)
  subst e;obtain⟨x,y,rfl,r1,r2⟩:=qJw h2;cases (show x= .int kv.1 from r1)
  obtain⟨qs,e1,e2,e3⟩:=kZi rs;exact⟨(a,y)::qs,by rw[e1];rfl,⟨_,_,rfl,r2,e2⟩,.cons h1 e3⟩
variable {X:Cx}{kvs:List (Int×T)}
theorem qYp{pins:List (Addr×Obj)}{σ:L2.St}{H:Hp}(I:Inv X pins σ H s){qs:List (Addr×V)}(h:Paired (λ(kv:Int×T)(q:Addr×V)=>H q.1=some (.tup [.int kv.1,q.2])) kvs qs):
  ∃ps:List ((Int×Tok)×Value),ps.map (·.1.1)=kvs.map (·.1)/\Vals (qs.map (·.2)) (ps.map (·.2))/\Paired (λ(q:Addr×V)(p:(Int×Tok)×Value)=>IsTup s.heap q.1 #[.int p.1.1 p.1.2,p.2]) qs ps:=by
 induction h with
 | nil=>exact⟨[],rfl,.nil,.nil⟩
 | @cons kv q kvs qs h t ih=>
  obtain⟨ps,e1,e2,e3⟩:=ih;obtain⟨its,r,tp,_⟩:=I.tuple (.of h);obtain⟨u,v,rfl,ru,rv⟩:=r.two;obtain⟨tk,rfl⟩:=ru;exact⟨((kv.1,tk),v)::ps,by rw[lJo,e1];rfl,.cons rv e2,.cons tp e3⟩
theorem qUj{α β:Type}{R:α->β->Prop}{l:List α}{m:List β}(h:Paired R l m):∀(i:Nat) a b,l[i]? =some a->m[i]? =some b->R a b:=by
 induction h with
 | nil=>intro i a b e;simp at e
 | @cons x y l m r t ih=>
  intro i a b e1 e2;cases i with
  | zero=>cases e1;cases e2;exact r
  | succ i=>exact ih i a b (by simpa using e1) (by simpa using e2)
theorem kJj:∀{ts:List Addr}{us:List Value},Vals (ts.map V.ref) us->us=ts.map Value.ref
 | [],_,.nil=>rfl
 | t::ts,_,.cons r rs=>by rw[lJo,<-kJj rs];exact lKa (· ::_) r
theorem uZa{ws:List V}(h1:ps.map (·.1.1)=kvs.map (·.1))(h2:Vals ws (ps.map (·.2))):KV ((kvs.map λkv=>(Sum.inl kv.1:Key)).zip ws) (dlK ps):=by
 induction ps generalizing kvs ws with
 | nil=>cases kvs with
  | nil=>exact .nil
  | cons=>simp at h1
 | cons p ps ih=>cases kvs with
  | nil=>simp at h1
  | cons kv kvs=>
   cases h2 with
   | cons r rs=>
    simp only[lJo,lVg] at h1;exact .cons ⟨(lKa Sum.inl h1.1).symm,r⟩ (ih h1.2 rs)
theorem uJl{K:PySem.W.Frag}{H:Hp}:∀{kvs:List (Int×T)}{ws:List V},Reps K H (kvs.map (·.2)) ws->PKV K H (kvs.map λkv=>((Sum.inl kv.1:Key),kv.2)) ((kvs.map λkv=>(Sum.inl kv.1:Key)).zip ws)
 | [],_,h=>by cases h;exact .nil
 | kv::kvs,_,⟨v,ws,e,r,rs⟩=>by subst e;exact .cons ⟨rfl,r⟩ (uJl rs)
noncomputable def qUc:List T->Gp->VK3->Prop:=λvs G1 Q=>∃(p:Addr)(kvs:List (Int×T)),vs=[.ref p]/\G1 p=some (.lst (kvs.map λkv=> .tup [.int kv.1,kv.2]))/\(kvs.map (·.1)).Nodup/\kvs.length<=1000/\∀q,G1 q=none->Q (.ref q) (gup G1 q (.dck (kvs.map λkv=>(.inl kv.1,kv.2))))
theorem uQ7(hc:X.calm=true):Call3 X (.type "dict") qUc:=by
 rintro pins s τ G H xs us Q ⟨σ,I,hs,hg⟩ ⟨as,ras,rvs⟩ ⟨p,kvs,ex,hp,hnd,hl,q⟩;subst ex;obtain⟨v,rfl,rv⟩:=jUg ras;obtain⟨u,rfl,ru⟩:=rvs.one;cases (show v= .ref p from rv)
 cases ru;obtain⟨vs,h1,h2⟩:=hg.lst hp;obtain⟨qs,rfl,r2,pr⟩:=kZi h2;obtain⟨hz,its,n,r,hlen,e⟩:=I.lstM h1;obtain⟨ps,p1,p2,p3⟩:=qYp I pr;have ei:=kJj (ts:=qs.map (·.1)) (us:=its) (by rw[lJ1];exact r)
 subst ei;have lq:qs.length=ps.length:=lQ7 p3;have lk:kvs.length=qs.length:=lQ7 pr;have big:=I.big;have hsl:=lKw;refine uQy (s:=s) (ts:=qs.map (·.1)) (ps:=ps) (I.ok.hd hc) e ⟨⟨_,e,rfl,_,rfl⟩,by rw[lJd];exact lq,λi t p e1 e2=> ?_⟩ (by rw[p1];exact hnd) (by omega) λh' t' dd kp=> ?_
 .rw[lJ0] at e1;cases e3:qs[i]? with
  | none=>rw[e3] at e1;cases e1
  | some q=>rw[e3] at e1;cases e1;exact qUj p3 i q p e3 e2
 .have fr:=I.hok.fresh (lJh s.heap.objs.size);have I3:=I.laid (a:=s.heap.objs.size) (o:= .dK ((kvs.map λkv=>(Sum.inl kv.1:Key)).zip (qs.map (·.2)))) (h':=h') (t':=t') kp (lJh _) ⟨by rw[lX4,lJd,lJd];omega,beq_eq_false_iff_ne.mpr (Ne.symm (lJr big)),dlK ps,uZa p1 p2,dd⟩
  have ext:Ext H (upd H s.heap.objs.size (.dK ((kvs.map λkv=>(Sum.inl kv.1:Key)).zip (qs.map (·.2))))):= .upd (.none fr)
  exact⟨.ref _,_,_,ext,⟨σ,I3,hs.mono ext,hg.upd (.none fr) (go:= .dck (kvs.map λkv=>(.inl kv.1,kv.2))) ⟨_,jK9,(uJl r2).mono ext⟩⟩,⟨.ref _,rfl,rfl⟩,q _ (hg.fresh fr)⟩
end L3
namespace L3
open PySem PySem.Spec PyProof.Rows L2 PySem.W
section
variable {prog:Program}{w:World}{A:Around}{E:Value->Shared->Prop}{s:Shared}{d:Addr}{o:Obj}{es:Array DictEntry}{ep:Nat}
end
noncomputable def hf(r d:Nat):Int:=reduceHash (Builtin.Tuple.tupleHashOf [hashInt r,hashInt d])
noncomputable def hfs:List Int:=(List.range 12).flatMap λr=>(List.range 12).map (hf r)
section
variable {X:Cx}
def uJf:R3:=λx y G Q=>∃(p q:Addr)(xs:List T),x= .ref p/\y= .ref q/\G p=some (.lst xs)/\G q=some (.lst [])/\Q (.bl (!xs.isEmpty)) G
theorem uKr(hu:X.A.units+64<cLine):Op3 X (compareOp .NotEq) uJf:=by
 rintro pins s τ G H x y v u Q ⟨σ,I,hs,hg⟩ ⟨a,ra,rv⟩ ⟨b,rb,ru⟩ ⟨p,q',xs,ex,ey,hp,hq,q⟩;subst ex;subst ey;cases (show a= .ref p from ra);cases (show b= .ref q' from rb)
 cases rv;cases ru;obtain⟨vs,h1,h2⟩:=hg.lst hp;obtain⟨ws,h3,h4⟩:=hg.lst hq;obtain⟨its,r1,p1,_⟩:=I.list (.of h1);obtain⟨its',r2,p2,_⟩:=I.list (.of h3);have l1:its.length=xs.length:=by rw[<-r1.length,<-h2.length]
 have l2:its'.length=0:=by rw[<-r2.length,<-h4.length];rfl
 cases xs with
 | nil=>
  refine PySem.SeqAt.RcNeAt.lists p1.isList p2.isList (e:=λ_=>true) (by simp at l1;simp[l1,l2]) (by omega) (λj h1 h2=>absurd h1 (by simp at l1;simp[l1])) X.prog X.w _ _ ?_
  have e0:(!(List.range its.toArray.size).all λ_=>true)=false:=by simp at l1;simp[l1]
  rw[e0];exact⟨.bl false,G,H,.refl H,⟨σ,I,hs,hg⟩,⟨.bl false,rfl,rfl⟩,q⟩
 | cons t xs=>
  refine PySem.SeqAt.RcNeAt.lists_lengths p1.isList p2.isList (by simp at l1;simp[l1,l2]) (by omega) X.prog X.w _ _ ?_
  exact⟨.bl true,G,H,.refl H,⟨σ,I,hs,hg⟩,⟨.bl true,rfl,rfl⟩,q⟩
end
end L3
namespace L3
open PySem PySem.Spec PyProof.Rows L2
variable {X:Cx}
mutual
inductive RdG (G:Gp):T->PyData->Prop
 | non:RdG G .non .none
 | bl (b:Bool):RdG G (.bl b) (.bool b)
 | int (i:Int):RdG G (.int i) (.int i)
 | str (x:Str):RdG G (.str x) (.str x)
 | tup {xs:List T} {ds:List PyData}:RdGs G xs ds->RdG G (.tup xs) (.tuple ds)
 | lst {p:Addr} {xs:List T} {ds:List PyData}:G p=some (.lst xs)->RdGs G xs ds->RdG G (.ref p) (.list ds)
inductive RdGs (G:Gp):List T->List PyData->Prop
 | nil:RdGs G [] []
 | cons {x:T} {d:PyData} {xs:List T} {ds:List PyData}:RdG G x d->RdGs G xs ds->RdGs G (x::xs) (d::ds)
end
mutual
theorem jY0{pins:List (Addr×Obj)}{σ:L2.St}{H:Hp}{s:Shared}{G:Gp}(I:Inv X pins σ H s)(hg:GRel X.K H G):∀{x:T}{d:PyData}{a:V}{u:Value},RdG G x d->Rep X.K H x a->RelV a u->∃as,Reads s.heap u d as
 | _,_,a,u,.non,r,q=>by cases (show a= .non from r);cases q;exact⟨_,.none⟩
 | _,_,a,u,.bl b,r,q=>by cases (show a= .bl b from r);cases q;exact⟨_,.bool b⟩
 | _,_,a,u,.int b,r,q=>by cases (show a= .int b from r);obtain⟨t,rfl⟩:=q;exact⟨_,.int b t⟩
 | _,_,a,u,.str b,r,q=>by cases (show a= .str b from r);obtain⟨t,rfl⟩:=q;exact⟨_,.str b t⟩
 | .tup xs,_,a,u,.tup h,r,q=>by
  obtain⟨p,vs,e1,h1,h2⟩:=(show ∃p vs,a= .ref p/\H p=some (.tup vs)/\Reps X.K H xs vs from r)
  subst e1;cases q;obtain⟨its,rv,⟨o,ho,hc,n,hd⟩,_⟩:=I.tuple (.of h1);obtain⟨as,ra⟩:=kQ2 I hg h h2 rv;exact⟨_,.tuple ho hc hd (by simpa using ra)⟩
 | .ref p,_,a,u,.lst hp h,r,q=>by
  cases (show a= .ref p from r);cases q
  obtain⟨vs,h1,h2⟩:=hg.lst hp;obtain⟨its,rv,⟨o,n,ho,hc,_,hd⟩,_⟩:=I.list (.of h1);obtain⟨as,ra⟩:=kQ2 I hg h h2 rv;exact⟨_,.list ho hc hd (by simpa using ra)⟩
theorem kQ2{pins:List (Addr×Obj)}{σ:L2.St}{H:Hp}{s:Shared}{G:Gp}(I:Inv X pins σ H s)(hg:GRel X.K H G):∀{xs:List T}{ds:List PyData}{vs:List V}{us:List Value},RdGs G xs ds->Reps X.K H xs vs->Vals vs us->∃as,ReadsAll s.heap us ds as
 | _,_,_,_,.nil,r,q=>by cases r;cases q;exact⟨_,.nil⟩
 | _,_,_,_,.cons h hs,⟨v,ws,e,r1,r2⟩,q=>by
  subst e;cases q with
  | cons q1 q2=>
   obtain⟨as,ra⟩:=jY0 I hg h r1 q1;obtain⟨bs,rb⟩:=kQ2 I hg hs r2 q2;exact⟨_,.cons ra rb⟩
end
def rEqD:R3:=λx y G Q=>∃dx dy,RdG G x dx/\RdG G y dy/\dx.canLay0=true/\dy.canLay0=true/\dx.depth<=50/\Q (.bl (PyData.eqv dx dy)) G
def rNeD:R3:=λx y G Q=>∃dx dy,RdG G x dx/\RdG G y dy/\dx.canLay0=true/\dy.canLay0=true/\dx.depth<=50/\Q (.bl (!PyData.eqv dx dy)) G
theorem uVz(hu:X.A.units+64<cLine):Op3 X (compareOp .Eq) rEqD:=by
 rintro pins s τ G H x y v u Q ⟨σ,I,hs,hg⟩ ⟨a,ra,rv⟩ ⟨b,rb,ru⟩ ⟨dx,dy,h1,h2,c1,c2,d,q⟩;obtain⟨as,r1⟩:=jY0 I hg h1 ra rv;obtain⟨bs,r2⟩:=jY0 I hg h2 rb ru;exact SeqAt.compareEq_reads r1 r2 c1 c2 (by omega) ⟨.bl (PyData.eqv dx dy),G,H,.refl H,⟨σ,I,hs,hg⟩,⟨.bl (PyData.eqv dx dy),rfl,rfl⟩,q⟩
theorem uY4(hu:X.A.units+64<cLine):Op3 X (compareOp .NotEq) rNeD:=by
 rintro pins s τ G H x y v u Q ⟨σ,I,hs,hg⟩ ⟨a,ra,rv⟩ ⟨b,rb,ru⟩ ⟨dx,dy,h1,h2,c1,c2,d,q⟩;obtain⟨as,r1⟩:=jY0 I hg h1 ra rv;obtain⟨bs,r2⟩:=jY0 I hg h2 rb ru;exact SeqAt.compareNe_reads r1 r2 c1 c2 (by omega) ⟨.bl (!PyData.eqv dx dy),G,H,.refl H,⟨σ,I,hs,hg⟩,⟨.bl (!PyData.eqv dx dy),rfl,rfl⟩,q⟩
noncomputable def strD(d:PyData):Str:=match d with
 | .str x=>x
 | d=>d.shown
noncomputable def qJ0:List T->Gp->VK3->Prop:=λxs G Q=>∃x d,xs=[x]/\RdG G x d/\d.showable=true/\d.depth<=50/\d.hasDict=false/\d.shown.length<=sizeLine/\(∀i,d= .int i->i.natAbs.log2<1920)/\Q (.str (strD d)) G
theorem uJz(hc:X.calm=true)(hu:X.A.units+64<cLine):Call3 X (.type "str") qJ0:=by
 rintro pins s τ G H xs us Q ⟨σ,I,hs,hg⟩ ⟨as,ras,rvs⟩ ⟨x,d,ex,hr,hsh,hd,hdict,hz,hi,q⟩;subst ex;obtain⟨v,rfl,rv⟩:=jUg ras;obtain⟨u,rfl,ru⟩:=rvs.one
 have ref:∀(p:Addr) as,u= .ref p->Reads s.heap u d as->strD d=d.shown->wpAny (model X.prog X.w) X.A (call (.type "str") [u]) (EP3 X pins τ H Q) X.xe s:=λp as e rd ed=>by
  subst e;refine str_of_reads rd hsh (λz=>by rw[hdict] at z;cases z) (I.ok.gd hc) (by omega) (λ_ _ e=>e) (λh' u tk hk=> ?_) hz
  exact⟨.str _,G,H,.refl H,⟨σ,I.kept hk,hs,hg⟩,⟨.str _,rfl,⟨u,rfl⟩⟩,by rw[<-ed];exact q⟩
 obtain⟨bs,rd⟩:=jY0 I hg hr rv ru;cases hr with
 | non=>
  cases (show v= .non from rv);cases ru
  refine PySem.P.str_of_none ?_;exact⟨.str _,G,H,.refl H,⟨σ,I.kept (λb o e=>e),hs,hg⟩,⟨.str _,rfl,⟨_,rfl⟩⟩,q⟩
 | bl b=>
  cases (show v= .bl b from rv);cases ru
  refine PySem.P.str_of_bool ?_;exact⟨.str _,G,H,.refl H,⟨σ,I.kept (λb o e=>e),hs,hg⟩,⟨.str _,rfl,⟨_,rfl⟩⟩,by cases b<;>exact q⟩
 | int i=>
  cases (show v= .int i from rv)
  obtain⟨tk,rfl⟩:=(show ∃tk,u= .int i tk from ru)
  refine PySem.P.str_of_int (hi i rfl) ?_;exact⟨.str _,G,H,.refl H,⟨σ,I.kept (λb o e=>e),hs,hg⟩,⟨.str _,rfl,⟨_,rfl⟩⟩,q⟩
 | str x=>
  cases (show v= .str x from rv)
  obtain⟨tk,rfl⟩:=(show ∃tk,u= .str x tk from ru)
  refine PySem.P.str_of_str ?_;exact⟨.str _,G,H,.refl H,⟨σ,I,hs,hg⟩,⟨.str _,rfl,⟨_,rfl⟩⟩,q⟩
 | tup h=>
  obtain⟨p,vs,e,hq,r⟩:=(show ∃a vs,v= .ref a/\H a=some (.tup vs)/\Reps X.K H _ vs from rv)
  subst e;cases ru;exact ref _ _ rfl rd rfl
 | lst hp h=>
  rename_i p _ _
  cases (show v= .ref p from rv);cases ru
  exact ref _ _ rfl rd rfl
end L3
namespace HT
open PySem PyProof.Rows
variable {sl:Addr}{vk:Value}
section
variable {prog:Program}{w:World}{A:Around}{E:Value->Shared->Prop}{s:Shared}
theorem qKo(n:Nat):Builtin.Slice.sliceAdjust none none (-1) (n:Int)=((n:Int)-1,-1):=by
 simp[Builtin.Slice.sliceAdjust]
theorem qJ2(n:Nat):Builtin.Slice.slicePlaces ((n:Int)-1) (-1) (-1)=n:=by
 unfold Builtin.Slice.slicePlaces
 (have h1:¬ ((-1:Int)>0):=by decide)
 have e:((n:Int)-1- -1-1) / (- -1)=(n:Int)-1:=by
  rw[show (- -1:Int)=1 by decide,Int.ediv_one];omega
 simp only[h1,lKi,e];split<;>omega
theorem fm_congr{α β:Type}{f g:α->Option β}:∀{l:List α},(∀x,x∈l->f x=g x)->l.filterMap f=l.filterMap g
 | [],_=>rfl
 | a::l,h=>by
  rw[lQe,lQe,h a (lJv ..),fm_congr λx hx=>h x (lJw _ hx)]
theorem qYn(xs:Array Value):((List.range xs.size).filterMap λ(m:Nat)=>xs[((xs.size:Int)-1+(m:Int)*(-1)).toNat]?).toArray=xs.toList.reverse.toArray:=by
 have e:((List.range xs.size).filterMap λ(m:Nat)=>xs[((xs.size:Int)-1+(m:Int)*(-1)).toNat]?)=((List.range xs.size).map λk=>xs.size-1-k).filterMap (xs[·]?):=by
  rw[lYm];apply fm_congr;intro k hk;have:=lKb.mp hk;show xs[((xs.size:Int)-1+(k:Int)*(-1)).toNat]? =xs[xs.size-1-k]?
  congr 1;omega
 rw[e,PySem.W.krv_range,List.filterMap_reverse,PySem.W.krv_all]
theorem jZq{n:Nat}{Q:Int×Int×Nat->Shared->Prop}(hs:s.heap.IsSliceOf sl .none .none vk)(pk:IsPart vk (some (-1)))(h:Q ((n:Int)-1,-1,n) s):wpAny (model prog w) A (Builtin.Slice.sliceApplied (.ref sl) (pure (n:Int))) Q E s:=by
 obtain⟨os,hos,hcs,hds⟩:=id hs;unfold Builtin.Slice.sliceApplied Builtin.Slice.sliceFields;refine lJb (lJb (lVj hos hds (x:= .none) rfl (lJb (lVj hos hds (x:= .none) rfl (lJb (lVj hos hds (x:=vk) rfl (lJe ?_)))))));refine lJb (jYz pk ?_);show wpAny _ _ (if ((-1:Int) == 0)=true then _ else _) _ _ s
 rw[lJa (by decide)]
 refine lJb (lZf (lJb (lZf (lJb (lJe ?_)))));show wpAny _ _ (match Builtin.Slice.sliceAdjust none none (-1) (n:Int) with | (lo,hi)=>pure (lo,(-1:Int),Builtin.Slice.slicePlaces lo hi (-1))) _ _ s
 rw[qKo n];show wpAny _ _ (pure ((n:Int)-1,(-1:Int),Builtin.Slice.slicePlaces ((n:Int)-1) (-1) (-1))) _ _ s
 rw[qJ2];exact lJe h
theorem getItem_tuple_rev{t:Addr}{items:Array Value}{Q:Value->Shared->Prop}(ht:IsTup s.heap t items)(hs:s.heap.IsSliceOf sl .none .none vk)(pk:IsPart vk (some (-1)))(h:Q (.ref s.heap.objs.size) {s with heap:=s.heap.push {cls:= .type "tuple",data:= .seq items.toList.reverse.toArray} })(hsz:items.size<=sizeLine):wpAny (model prog w) A (getItem (.ref t) (.ref sl)) Q E s:=by
 have htake:sizeOk (.seq items.toList.reverse.toArray):=by
  show items.toList.reverse.toArray.size<=sizeLine
  rw[lJx,lZ0,lKg];exact hsz
 obtain⟨os,hos,hcs,hds⟩:=id hs;have hTs:s.TypeIs (.ref sl) "slice":=⟨os,hos,hcs⟩;unfold getItem
 try with_reducible refine lKz ?_
 first | refine lJb (lJe ?_) | skip
 refine lJb (mJh ht.typeIs (by decide) ?_)
 refine lJb (lVt (name:=Str.ofString "__getitem__") ht.typeIs lQ9
  (lQn lQ9 ht.typeIs mJi ?_ (mJj _ _)))
 show wpAny _ _ (Builtin.Tuple.tupleItemsOf (.ref t) >>= _) _ _ s
 refine lJb (tupleItemsOf_ ht ?_);refine lJb (lVk hTs ?_);rw[lJc (by decide)]
 refine lJb (jZq hs pk ?_)
 have hno:¬ ((((items.size:Int)-1) == 0&&(-1:Int) == 1&&items.size == items.size)=true):=by
  rw[show ((-1:Int) == 1)=false by decide];simp
 show wpAny _ _ (if (((items.size:Int)-1) == 0&&(-1:Int) == 1&&items.size == items.size)=true then _ else _) _ _ s
 rw[lJa hno,qYn]
 first
  | exact lJb (m:=Builtin.Tuple.tupleExact _) (lK3 (lJe ⟨_,rfl,lJe h⟩) htake)
  | exact lJb (m:=Builtin.Tuple.tupleExact _) (lK3 (lJb (lJe (lJe ⟨_,rfl,lJe h⟩))) htake)
  | exact lJb (lJb (m:=Builtin.Tuple.tupleExact _) (lK3 (lJe (lJe ⟨_,rfl,lJe h⟩)) htake))
end
end HT
namespace L3
open PySem PySem.Spec PyProof.Rows L2
variable {X:Cx}
def kQw(te:TE3)(tk:TO3):TE3:=λτ G Q=>te τ G λx G1=>tk τ G1 λk G2=>k=some (-1)/\∃xs,x= .tup xs/\Q (.tup xs.reverse) G2
theorem uXw{e st:Expr}{te:TE3}{tk:TO3}{pos p2:Pos}(he:PE3 X e te)(hk:PO3 X (some st) tk):PE3 X (.Subscript e (.Slice none none (some st) p2) pos) (kQw te tk):=by
 intro pins s τ G H Q I h;refine Subscript_ (thn (he pins s τ G H _ I h) λv s1 w_=>w_.el λx G1 H1 e1 I1 r1 q1=> ?_)
 refine wpAny_Slice ?_;rw[evalPart_none];refine lJe (lJe (thn (hk pins s1 τ G1 H1 _ I1 q1) λvk s3 ⟨k,G3,H3,e3,⟨σ,I3,hs3,hg3⟩,pk,ek,xs,hx,q3⟩=> ?_))
 subst ek hx;have I4:Inv X pins σ H3 {s3 with heap:=s3.heap.push {cls:= .type "slice",data:= .fields #[.none,.none,vk]} }:=I3.kept (t':=s3.toks) λb ob q=>lJm _ q
 obtain⟨a,ra,rv⟩:=r1.mono e3;obtain⟨p,vs,ea,h1,h2⟩:=(show ∃p vs,a= .ref p/\H3 p=some (.tup vs)/\Reps X.K H3 xs vs from ra)
 subst ea;cases rv;obtain⟨its,rr,ht,hz⟩:=I4.tuple (.of h1);have hlen:=rr.length
 have hg:wpAny (model X.prog X.w) X.A (getItem (.ref p) (.ref s3.heap.objs.size)) (EP3 X pins τ H3 Q) X.xe {s3 with heap:=s3.heap.push {cls:= .type "slice",data:= .fields #[.none,.none,vk]} }:=by
  refine HT.getItem_tuple_rev ht (Heap.IsSliceOf.new ..) pk ?_ (by rw[lJx];omega)
  have hl:=I4.hok.fresh (lJh _);refine jXi hs3 ⟨.ref _,_,I4.laid (t':=s3.toks) (o:= .tup vs.reverse) (λb ob q=>lJm _ q) (lJh _) ⟨by rw[lZ0];exact hz,_,qKz rr,TupD.new _ _⟩,rfl,?_⟩
  exact⟨.tup xs.reverse,_,.upd (.none hl),hg3.tupNew hl,Rep.tupNew (qQt h2) hl,q3⟩
 show wpAny (model X.prog X.w) X.A (subscriptTail e (.Slice none none (some st) p2) (.ref p) (.ref s3.heap.objs.size)) (EP3 X pins τ H Q) X.xe {s3 with heap:=s3.heap.push {cls:= .type "slice",data:= .fields #[.none,.none,vk]} }
 exact thn (tail_any (ops:=[.ref p,.ref s3.heap.objs.size]) ht.typeIs lQ9.lookup hg (by with_unfolding_all rfl)) λ_ _ z=>z.ext (e1.trans e3)
theorem Reps.erase{K:PySem.W.Frag}{H:Hp}{xs:List T}{vs:List V}(r:Reps K H xs vs)(k:Nat):Reps K H (xs.eraseIdx k) (vs.eraseIdx k):=by
 rw[lX7,lX7];exact (r.take _).append (r.drop _)
noncomputable def uVb:T->List T->Gp->VK3->Prop:=λx as G Q=>∃(p:Addr)(ys:List T)(y:T)(k:Nat),x= .ref p/\as=[.int k]/\G p=some (.lst ys)/\k<2^40/\ys[k]? =some y/\Q y (gup G p (.lst (ys.eraseIdx k)))
theorem uV4:Mt3 X "list.pop" uVb:=
 Mt3.of qY3 λH G x xs a as Q hg ra ras ⟨p,ys,y,k,ex,exs,hp,hk,hy,q⟩=>by
  subst ex;subst exs;cases (show a= .ref p from ra)
  obtain⟨b,rfl,rb⟩:=jUg ras;cases (show b= .int k from rb)
  obtain⟨vs,h1,h2⟩:=hg.lst hp;obtain⟨v,h3,h4⟩:=h2.get hy;have hl:=h2.length;have hkl:=(lJk.mp h3).1;have e:Ext H (upd H p (.lst (vs.eraseIdx k))):= .upd (.lst h1);refine⟨p,vs,k,k,v,rfl,rfl,h1,by omega,by omega,?_,h3,y,_,e,hg.lstNew (xs:=ys.eraseIdx k) (h2.erase k) (.lst h1),Rep.mono e _ h4,q⟩
  unfold seqIndex?;have:¬ (k:Int)<0:=by omega
  simp[this];omega
end L3
namespace L3
open PySem PyProof.Rows
noncomputable def uQd:Bool->Keyed->Array Keyed->Nat->Nat->Nat->StateT SortSt Sem (Option Nat):=sortPriv%PySem.Builtin.gallop
noncomputable def qY4:Array Keyed->Array Keyed->StateT SortSt Sem (Array Keyed):=sortPriv%PySem.Builtin.mergeLo
noncomputable def qY5:Array Keyed->Array Keyed->StateT SortSt Sem (Array Keyed):=sortPriv%PySem.Builtin.mergeHi
variable {A:Around}{E:Value->Shared->Prop}{s:Shared}{M:Model}{κ:SortKind}{le:Keyed->Keyed->Prop}{x y key:Keyed}{st:SortSt}{Q:Option Bool->SortSt->Prop}{arr:Array Keyed}{i n:Nat}{left:Bool}
section
structure Asks (M:Model) (A:Around) (s:Shared) (κ:SortKind) (mem:Keyed->Prop) (le:Keyed->Keyed->Prop) [∀x y,Decidable (le x y)]:Prop where
 ask:∀x y,mem x->mem y->∀(E:Value->Shared->Prop)(Q:Bool->Shared->Prop),Q (!decide (le y x)) s->wpAny M A (keyLt' κ x.1 y.1) Q E s
 tot:∀x y,mem x->mem y->le x y\/le y x
 tr:∀x y z,mem x->mem y->mem z->le x y->le y z->le x z
variable {mem:Keyed->Prop}[∀x y,Decidable (le x y)]
theorem qUy(H:Asks M A s κ mem le)(hx:mem x)(hy:mem y)(hk:kindOf st=κ)(h:Q (some (!decide (le y x))) st):wpS M A E s (lt' x y) Q st:=by
 rw[lt'_eq];refine lJf (lQj ?_);rw[hk];refine lJf (lVu (lYh (H.ask x y hx hy _ _ ?_)));exact⟨rfl,lJg h⟩
theorem jKc{Q:Keyed->SortSt->Prop}(hi:arr[i]? =some x)(h:Q x st):wpS M A E s (elem' arr i) Q st:=by
 rw[elem'_eq,hi];exact lJg h
noncomputable def bey(le:Keyed->Keyed->Prop)[∀x y,Decidable (le x y)](left:Bool)(key x:Keyed):Bool:=if left=true then !decide (le key x) else decide (le x key)
theorem qXi(H:Asks M A s κ mem le){b:Nat}(hk:kindOf st=κ)(hkey:mem key)(hx:arr[b]? =some x)(hm:mem x)(h:Q (some (bey le left key x)) st):
  wpS M A E s (do let y <-elem' arr b;if left=true then lt' y key else do let r <-lt' key y;pure (r.map λz=> !z)) Q st:=by
 refine lJf (jKc hx ?_);cases left with
 | true=>rw[lJc rfl];exact qUy H hm hkey hk h
 | false=>
  rw[lJa (by decide)]
  refine lJf (qUy H hkey hm hk (lJg ?_))
  simpa[bey] using h
theorem jU5{base hint:Nat}{Q:Option Nat->SortSt->Prop}(H:Asks M A s κ mem le)(hk:kindOf st=κ)(hkey:mem key){f:Nat->Keyed}(hf:∀i,i<n->arr[base+i]? =some (f i))(hm:∀i,i<n->mem (f i))(hs:∀i j,i<=j->j<n->le (f i) (f j))(hh:hint<n)(h:∀k,k<=n->(∀i,i<k->bey le left key (f i)=true)->(∀i,k<=i->i<n->bey le left key (f i)=false)->Q (some k) st):
  wpS M A E s (uQd left key arr base n hint) Q st:=by
 have ask:∀(i:Nat){Q:Option Bool->SortSt->Prop},i<n->Q (some (bey le left key (f i))) st->wpS M A E s (do let y <-elem' arr (base+i);if left=true then lt' y key else do let r <-lt' key y;pure (r.map λz=> !z)) Q st:=λi {Q} hi q=>qXi H hk hkey (hf i hi) (hm i hi) q
 have mono:∀i j,i<=j->j<n->bey le left key (f j)=true->bey le left key (f i)=true:=by
  intro i j hij hj hb;unfold bey at hb ⊢;cases left with
  | true=>
   rw[lJc rfl] at hb ⊢;simp only[lX8,lVv] at hb ⊢;exact λz=>hb (H.tr _ _ _ hkey (hm i (by omega)) (hm j hj) z (hs i j hij hj))
  | false=>
   rw[lJa (by decide)] at hb ⊢
   rw[lJ5] at hb ⊢;exact H.tr _ _ _ (hm i (by omega)) (hm j hj) hkey (hs i j hij hj) hb
 refine lJf (ask hint hh ?_);cases hbh:bey le left key (f hint) with
 | true=>
  dsimp only
  rw[lJc rfl]
  refine lJf (lKq (lKr (I:=λi (c:Option (Option Nat)×Nat×Nat) st'=>st=st'/\c.1=none/\c.2.1<c.2.2/\i+1<=c.2.2/\hint+c.2.1<n/\bey le left key (f (hint+c.2.1))=true)
   (Q:=λ(c:Option (Option Nat)×Nat×Nat) st'=>st=st'/\c.1=none/\c.2.1<c.2.2/\hint+c.2.1<n/\bey le left key (f (hint+c.2.1))=true/\(c.2.2<n-hint->bey le left key (f (hint+c.2.2))=false)) ?_ ?_ ⟨rfl,rfl,by decide,by decide,hh,hbh⟩) ?_)
  .rintro x ⟨r,la,of⟩ st' _ hx ⟨rfl,rfl,i1,i2,i3,i4⟩
   dsimp only at i1 i2 i3 i4 ⊢
   by_cases c:of>=n-hint
   .rw[lJc c];exact wpS_pure ⟨rfl,rfl,i1,i3,i4,λz=>absurd c (by dsimp only at z;omega)⟩
   .rw[lJa c];refine lJf (ask _ (by omega) ?_)
    cases hbo:bey le left key (f (hint+of)) with
    | false=>
     dsimp only
     (rw[lJc (show (!false)=true from rfl)])
     exact lJg ⟨rfl,rfl,i1,i3,i4,λ_=>hbo⟩
    | true=>
     dsimp only
     rw[lJa (by decide)]
     exact wpS_pure ⟨rfl,rfl,by dsimp only;omega,by dsimp only;omega,by dsimp only;omega,hbo⟩
  .rintro⟨r,la,of⟩ st' ⟨rfl,rfl,i1,i2,i3,i4⟩
   dsimp only at i1 i2 i3 i4 ⊢
   exact⟨rfl,rfl,i1,i3,i4,λz=>absurd z (by omega)⟩
  .rintro⟨r,la,of⟩ st' ⟨rfl,rfl,i1,i3,i4,i5⟩
   dsimp only at i1 i3 i4 i5 ⊢
   have PL:∀i,i<hint+la+1->bey le left key (f i)=true:=λi hi=>mono i _ (by omega) i3 i4
   have PH:∀i,hint+min of (n-hint)<=i->i<n->bey le left key (f i)=false:=λi hi hin=>by
    have hon:=i5 (by omega)
    cases hbi:bey le left key (f i) with
    | false=>rfl
    | true=>rw[mono (hint+of) i (by omega) hin hbi] at hon;cases hon
   have LO:hint+la+1<=hint+min of (n-hint):=by omega
   have HI:hint+min of (n-hint)<=n:=by omega
   refine lJf (lKq (lKr (I:=λi (c:Option (Option Nat)×Nat×Nat) st'=>st=st'/\c.1=none/\c.2.1<=c.2.2/\c.2.2<=n/\c.2.2-c.2.1<=n-i/\(∀i,i<c.2.1->bey le left key (f i)=true)/\(∀i,c.2.2<=i->i<n->bey le left key (f i)=false))
    (Q:=λ(c:Option (Option Nat)×Nat×Nat) st'=>st=st'/\c.1=none/\c.2.2<=n/\(∀i,i<c.2.2->bey le left key (f i)=true)/\(∀i,c.2.2<=i->i<n->bey le left key (f i)=false)) ?_ ?_ ⟨rfl,rfl,LO,HI,by dsimp only;omega,PL,PH⟩) ?_)
   .rintro x ⟨r,lo,hi⟩ st' _ hx ⟨rfl,rfl,i1,i2,i3,i4,i5⟩
    dsimp only at i1 i2 i3 i4 i5 ⊢
    by_cases c:lo>=hi
    .rw[lJc c];exact wpS_pure ⟨rfl,rfl,i2,λi hi'=>i4 i (by dsimp only at hi';omega),i5⟩
    .rw[lJa c];have hmm:lo+(hi-lo) / 2<hi:=by omega
     refine lJf (ask _ (by omega) ?_)
     cases hbm:bey le left key (f (lo+(hi-lo) / 2)) with
     | true=>
      dsimp only
      rw[lJc rfl];exact wpS_pure ⟨rfl,rfl,by dsimp only;omega,i2,by dsimp only;omega,λi hi'=>mono i _ (by dsimp only at hi';omega) (by omega) hbm,i5⟩
     | false=>
      dsimp only
      rw[lJa (by decide)]
      refine wpS_pure ⟨rfl,rfl,by dsimp only;omega,by dsimp only;omega,by dsimp only;omega,i4,λi hi' hin=> ?_⟩
      dsimp only at hi'
      cases hbi:bey le left key (f i) with
      | false=>rfl
      | true=>rw[mono _ i hi' hin hbi] at hbm;cases hbm
   .rintro⟨r,lo,hi⟩ st' ⟨rfl,rfl,i1,i2,i3,i4,i5⟩
    dsimp only at i1 i2 i3 i4 i5 ⊢
    exact⟨rfl,rfl,i2,λi hi'=>i4 i (by omega),i5⟩
   .rintro⟨r,lo,hi⟩ st' ⟨rfl,rfl,i1,i2,i3⟩
    dsimp only at i1 i2 i3 ⊢
    exact lJg (h hi i1 i2 i3)
 | false=>
  dsimp only
  rw[lJa (by decide)]
  refine lJf (lKq (lKr (I:=λi (c:Option (Option Nat)×Nat×Nat) st'=>st=st'/\c.1=none/\c.2.1<c.2.2/\i+1<=c.2.2/\c.2.1<=hint/\bey le left key (f (hint-c.2.1))=false)
   (Q:=λ(c:Option (Option Nat)×Nat×Nat) st'=>st=st'/\c.1=none/\c.2.1<c.2.2/\c.2.1<=hint/\bey le left key (f (hint-c.2.1))=false/\(c.2.2<hint+1->bey le left key (f (hint-c.2.2))=true)) ?_ ?_ ⟨rfl,rfl,by decide,by decide,lJ6 _,hbh⟩) ?_)
  .rintro x ⟨r,la,of⟩ st' _ hx ⟨rfl,rfl,i1,i2,i3,i4⟩
   dsimp only at i1 i2 i3 i4 ⊢
   by_cases c:of>=hint+1
   .rw[lJc c];exact wpS_pure ⟨rfl,rfl,i1,i3,i4,λz=>absurd c (by dsimp only at z;omega)⟩
   .rw[lJa c];refine lJf (ask _ (by omega) ?_)
    cases hbo:bey le left key (f (hint-of)) with
    | true=>
     dsimp only
     rw[lJc rfl];exact lJg ⟨rfl,rfl,i1,i3,i4,λ_=>hbo⟩
    | false=>
     dsimp only
     rw[lJa (by decide)]
     exact wpS_pure ⟨rfl,rfl,by dsimp only;omega,by dsimp only;omega,by dsimp only;omega,hbo⟩
  .rintro⟨r,la,of⟩ st' ⟨rfl,rfl,i1,i2,i3,i4⟩
   dsimp only at i1 i2 i3 i4 ⊢
   exact⟨rfl,rfl,i1,i3,i4,λz=>absurd z (by omega)⟩
  .rintro⟨r,la,of⟩ st' ⟨rfl,rfl,i1,i3,i4,i5⟩
   dsimp only at i1 i3 i4 i5 ⊢
   have PL:∀i,i<hint+1-min of (hint+1)->bey le left key (f i)=true:=λi hi=>mono i (hint-of) (by omega) (by omega) (i5 (by omega))
   have PH:∀i,hint-la<=i->i<n->bey le left key (f i)=false:=λi hi hin=>by
    cases hbi:bey le left key (f i) with
    | false=>rfl
    | true=>rw[mono (hint-la) i hi hin hbi] at i4;cases i4
   have LO:hint+1-min of (hint+1)<=hint-la:=by omega
   have HI:hint-la<=n:=by omega
   refine lJf (lKq (lKr (I:=λi (c:Option (Option Nat)×Nat×Nat) st'=>st=st'/\c.1=none/\c.2.1<=c.2.2/\c.2.2<=n/\c.2.2-c.2.1<=n-i/\(∀i,i<c.2.1->bey le left key (f i)=true)/\(∀i,c.2.2<=i->i<n->bey le left key (f i)=false))
    (Q:=λ(c:Option (Option Nat)×Nat×Nat) st'=>st=st'/\c.1=none/\c.2.2<=n/\(∀i,i<c.2.2->bey le left key (f i)=true)/\(∀i,c.2.2<=i->i<n->bey le left key (f i)=false)) ?_ ?_ ⟨rfl,rfl,LO,HI,by dsimp only;omega,PL,PH⟩) ?_)
   .rintro x ⟨r,lo,hi⟩ st' _ hx ⟨rfl,rfl,i1,i2,i3,i4,i5⟩
    dsimp only at i1 i2 i3 i4 i5 ⊢
    by_cases c:lo>=hi
    .rw[lJc c];exact wpS_pure ⟨rfl,rfl,i2,λi hi'=>i4 i (by dsimp only at hi';omega),i5⟩
    .rw[lJa c];have hmm:lo+(hi-lo) / 2<hi:=by omega
     refine lJf (ask _ (by omega) ?_)
     cases hbm:bey le left key (f (lo+(hi-lo) / 2)) with
     | true=>
      dsimp only
      rw[lJc rfl];exact wpS_pure ⟨rfl,rfl,by dsimp only;omega,i2,by dsimp only;omega,λi hi'=>mono i _ (by dsimp only at hi';omega) (by omega) hbm,i5⟩
     | false=>
      dsimp only
      rw[lJa (by decide)]
      refine wpS_pure ⟨rfl,rfl,by dsimp only;omega,by dsimp only;omega,by dsimp only;omega,i4,λi hi' hin=> ?_⟩
      dsimp only at hi'
      cases hbi:bey le left key (f i) with
      | false=>rfl
      | true=>rw[mono _ i hi' hin hbi] at hbm;cases hbm
   .rintro⟨r,lo,hi⟩ st' ⟨rfl,rfl,i1,i2,i3,i4,i5⟩
    dsimp only at i1 i2 i3 i4 i5 ⊢
    exact⟨rfl,rfl,i2,λi hi'=>i4 i (by omega),i5⟩
   .rintro⟨r,lo,hi⟩ st' ⟨rfl,rfl,i1,i2,i3⟩
    dsimp only at i1 i2 i3 ⊢
    exact lJg (h hi i1 i2 i3)
end
variable {a b o:Array Keyed}{j:Nat}
section
variable {out:Array Keyed}{ia ib k:Nat}
def Fin2(le:Keyed->Keyed->Prop)(a b r:Array Keyed):Prop:=r.toList.Perm (a.toList++b.toList)/\r.toList.Pairwise le
structure Lw (le:Keyed->Keyed->Prop) (a b out:Array Keyed) (ia ib:Nat):Prop where
 perm:(out.toList++(a.toList.drop ia++b.toList.drop ib)).Perm (a.toList++b.toList)
 srt:out.toList.Pairwise le
 up:∀x,x∈out.toList->∀y,y∈a.toList.drop ia++b.toList.drop ib->le x y
theorem Lw.size(h:Lw le a b out ia ib):out.size+((a.size-ia)+(b.size-ib))=a.size+b.size:=by
 have:=h.perm.length_eq
 simpa using this
theorem jXa:(arr.extract i j).toList=(arr.toList.drop i).take (j-i):=by simp[List.extract]
theorem uJr(h:k<=a.size):(a.extract ia (ia+k)).toList=(a.toList.drop ia).take k:=by rw[jXa];congr 1;omega
theorem kUv:(a.extract ia).toList=a.toList.drop ia:=by
 rw[jXa]
 (exact lQm (by simp))
theorem Lw.takeA(h:Lw le a b out ia ib)(sa:a.toList.Pairwise le)(ho:o.toList=out.toList++(a.toList.drop ia).take k)(hx:∀x,x∈(a.toList.drop ia).take k->∀y,y∈b.toList.drop ib->le x y):Lw le a b o (ia+k) ib:=by
 have e:a.toList.drop ia=(a.toList.drop ia).take k++a.toList.drop (ia+k):=by rw[<-List.drop_drop];exact (lK9 k _).symm
 have sd:(a.toList.drop ia).Pairwise le:=sa.sublist (lVd ..);have up:=h.up;have perm:=h.perm;rw[e] at sd up perm;obtain⟨s1,s2,s3⟩:=lKh.mp sd;refine⟨?_,?_,?_⟩
 .rw[ho,lJt,<-lJt _ _ (b.toList.drop ib)];exact perm
 .rw[ho];exact lKh.mpr ⟨h.srt,s1,λx hx' y hy=>up x hx' y (lKk _ (lKk _ hy))⟩
 .intro x hx' y hy;rw[ho] at hx'
  rcases (lJn.mp hx') with z | z
  .refine up x z y ?_
   rcases (lJn.mp hy) with w | w
   .exact lKk _ (lJ7 _ w)
   .exact lJ7 _ w
  .rcases (lJn.mp hy) with w | w
   .exact s3 x z y w
   .exact hx x z y w
theorem Lw.takeB(h:Lw le a b out ia ib)(sb:b.toList.Pairwise le)(ho:o.toList=out.toList++(b.toList.drop ib).take k)(hx:∀x,x∈(b.toList.drop ib).take k->∀y,y∈a.toList.drop ia->le x y):Lw le a b o ia (ib+k):=by
 have e:b.toList.drop ib=(b.toList.drop ib).take k++b.toList.drop (ib+k):=by rw[<-List.drop_drop];exact (lK9 k _).symm
 have sd:(b.toList.drop ib).Pairwise le:=sb.sublist (lVd ..);have up:=h.up;have perm:=h.perm;rw[e] at sd up perm;obtain⟨s1,s2,s3⟩:=lKh.mp sd;refine⟨?_,?_,?_⟩
 .rw[ho,lJt];refine List.Perm.trans (lV5 _ ?_) perm
  (rw[<-lJt,<-lJt])
  (exact lX9 _ lY3)
 .rw[ho];exact lKh.mpr ⟨h.srt,s1,λx hx' y hy=>up x hx' y (lJ7 _ (lKk _ hy))⟩
 .intro x hx' y hy;rw[ho] at hx'
  rcases (lJn.mp hx') with z | z
  .refine up x z y ?_
   rcases (lJn.mp hy) with w | w
   .exact lKk _ w
   .exact lJ7 _ (lJ7 _ w)
  .rcases (lJn.mp hy) with w | w
   .exact hx x z y w
   .exact s3 x z y w
theorem jVm(h:arr[i]? =some x):arr.toList.drop i=x::arr.toList.drop (i+1):=by
 have hl:arr.toList[i]? =some x:=by rw[lKf];exact h
 obtain⟨h1,h2⟩:=lJk.mp hl;rw[lYa h1,h2]
theorem Lw.pushA(h:Lw le a b out ia ib)(sa:a.toList.Pairwise le)(hi:a[ia]? =some x)(hx:∀y,y∈b.toList.drop ib->le x y):Lw le a b (out.push x) (ia+1) ib:=by
 have e:(a.toList.drop ia).take 1=[x]:=by rw[jVm hi];rfl
 refine h.takeA sa (k:=1) (by rw[e];simp) λz hz y hy=> ?_
 rw[e,lJz] at hz;rw[hz];exact hx y hy
theorem Lw.pushB(h:Lw le a b out ia ib)(sb:b.toList.Pairwise le)(hi:b[ib]? =some x)(hx:∀y,y∈a.toList.drop ia->le x y):Lw le a b (out.push x) ia (ib+1):=by
 have e:(b.toList.drop ib).take 1=[x]:=by rw[jVm hi];rfl
 refine h.takeB sb (k:=1) (by rw[e];simp) λz hz y hy=> ?_
 rw[e,lJz] at hz;rw[hz];exact hx y hy
theorem Lw.done(h:Lw le a b out ia ib)(sa:a.toList.Pairwise le)(sb:b.toList.Pairwise le)(hi:ib=b.size\/ia=a.size):Fin2 le a b (out++a.extract ia++b.extract ib):=by
 have e:(out++a.extract ia++b.extract ib).toList=out.toList++(a.toList.drop ia++b.toList.drop ib):=by rw[lQt,lQt,kUv,kUv,lJt]
 unfold Fin2;rw[e];refine⟨h.perm,lKh.mpr ⟨h.srt,?_,h.up⟩⟩;refine lKh.mpr ⟨sa.sublist (lVd ..),sb.sublist (lVd ..),λx hx y hy=> ?_⟩
 rcases hi with z | z
 .rw[z,lVr (by simp)] at hy;cases hy
 .rw[z,lVr (by simp)] at hx;cases hx
theorem Lw.lastA(h:Lw le a b out ia ib)(sa:a.toList.Pairwise le)(sb:b.toList.Pairwise le)(hi:ia+1=a.size)(hl:∀x,a[ia]? =some x->∀y,y∈b.toList->le y x):Fin2 le a b (out++b.extract ib++a.extract ia):=by
 have e:(out++b.extract ib++a.extract ia).toList=out.toList++(b.toList.drop ib++a.toList.drop ia):=by rw[lQt,lQt,kUv,kUv,lJt]
 unfold Fin2;rw[e];have hx:a[ia]? =some a[ia]:=lK7 (by omega)
 have ed:a.toList.drop ia=[a[ia]]:=by rw[jVm hx,lVr (by simp;omega)]
 refine⟨(lV5 _ lY3).trans h.perm,lKh.mpr ⟨h.srt,?_,λx hx' y hy=>h.up x hx' y ?_⟩⟩
 .refine lKh.mpr ⟨sb.sublist (lVd ..),sa.sublist (lVd ..),λx hx' y hy=> ?_⟩
  rw[ed,lJz] at hy;rw[hy];exact hl _ hx x (lQs hx')
 .rcases (lJn.mp hy) with w | w
  .exact lJ7 _ w
  .exact lKk _ w
end
variable {l:List Keyed}{m ja jb:Nat}{c:Prop}
section
variable {mem:Keyed->Prop}[∀x y,Decidable (le x y)]
noncomputable abbrev jKu(st:SortSt)(g:Nat):SortSt:=SortSt.mk' (kindOf st) (arrOf st) (pendingOf st) g (failedOf st)
theorem kUc(h:l.Pairwise le)(hi:l[i]? =some x)(hij:i<j)(hj:l[j]? =some y):le x y:=by
 obtain⟨a1,a2⟩:=lJk.mp hi;obtain⟨b1,b2⟩:=lJk.mp hj;have:=lZv.mp h i j a1 b1 hij
 rwa [a2,b2] at this
theorem jZc(H:Asks M A s κ mem le)(hs:arr.toList.Pairwise le)(hm:∀x,x∈arr.toList->mem x)(hx:arr[i]? =some x)(hy:mem y)(h:le y x):∀z,z∈arr.toList.drop i->le y z:=by
 intro z hz;rw[jVm hx] at hz
 rcases (lJp.mp hz) with rfl | hz
 .exact h
 .have hxl:x∈arr.toList:=by rw[Array.mem_toList_iff];exact Array.mem_of_getElem? hx
  have hzl:z∈arr.toList:=lQs hz;have hd:(arr.toList.drop i).Pairwise le:=hs.sublist (lVd ..);rw[jVm hx] at hd;exact H.tr _ _ _ hy (hm x hxl) (hm z hzl) h (List.rel_of_pairwise_cons hd hz)
theorem jKj(hx:arr[i]? =some x):x∈arr.toList:=by rw[Array.mem_toList_iff];exact Array.mem_of_getElem? hx
theorem jXn(h:i<arr.size):∃x,arr[i]? =some x:=⟨arr[i],lK7 h⟩
theorem kY2{k:Nat}(h:x∈(arr.toList.drop i).take k):∃j,j<k/\arr[i+j]? =some x:=by
 obtain⟨j,hj⟩:=lJ9 h;rw[lQ0] at hj;split at hj
 .rename_i hl
  rw[lXk,lKf] at hj;exact⟨j,hl,hj⟩
 .cases hj
theorem jJ7{α:Type}{p q:StateT SortSt Sem α}{Q:α->SortSt->Prop}(h1:m=n->wpS M A E s p Q st)(h2:¬ m=n->wpS M A E s q Q st):wpS M A E s (if (m == n)=true then p else q) Q st:=by
 by_cases c:m=n
 .rw[lJc (by simpa using c)];exact h1 c
 .rw[lJa (by simpa using c)];exact h2 c
theorem uK7{α:Type}[Decidable c]{F:Nat->StateT SortSt Sem α}{x y:Nat}{p q:StateT SortSt Sem α}{Q:α->SortSt->Prop}(h2:q=F y)(h1:p=F x)(h:∀z,wpS M A E s (F z) Q st):wpS M A E s (if c then p else q) Q st:=by
 split
 .rw[h1];exact h x
 .rw[h2];exact h y
theorem uJp{α γ δ:Type}[Decidable c]{F:γ->δ->StateT SortSt Sem α}{p q:StateT SortSt Sem α}{Q:α->SortSt->Prop}(y1:γ)(y2:δ)(h2:q=F y1 y2)(R:γ->δ->Prop)(hn:¬ c->R y1 y2)(hp:c->(∀z1 z2,R z1 z2->wpS M A E s (F z1 z2) Q st)->wpS M A E s p Q st)(key:∀z1 z2,R z1 z2->wpS M A E s (F z1 z2) Q st):wpS M A E s (if c then p else q) Q st:=by
 by_cases h:c
 .rw[lJc h];exact hp h key
 .rw[lJa h,h2];exact key y1 y2 (hn h)
noncomputable abbrev kd:Keyed:=(Value.none,Value.none)
theorem at_d(i:Nat)(hi:i<a.size-ja):a[ja+i]? =some (a.getD (ja+i) kd):=by simp[Array.getD,show ja+i<a.size by omega]
theorem uUx(H:Asks M A s κ mem le)(sa:a.toList.Pairwise le)(ma:∀x,x∈a.toList->mem x)(i j:Nat)(hij:i<=j)(hj:j<a.size-ja):le (a.getD (ja+i) kd) (a.getD (ja+j) kd):=by
 have h1:=at_d (a:=a) (ja:=ja) i (by omega)
 have h2:=at_d (a:=a) (ja:=ja) j hj
 rcases lK2 hij with q | rfl
 .exact kUc sa (i:=ja+i) (j:=ja+j) (by rw[lKf];exact h1) (by omega) (by rw[lKf];exact h2)
 .exact (H.tot _ _ (ma _ (jKj h1)) (ma _ (jKj h1))).elim id id
theorem galA(H:Asks M A s κ mem le){k:Nat}(sa:a.toList.Pairwise le)(ma:∀x,x∈a.toList->mem x)(sb:b.toList.Pairwise le)(mb:∀x,x∈b.toList->mem x)(hy:b[jb]? =some y)(hk1:k<=a.size-ja)(hk2:∀i,i<k->bey le false y (a.getD (ja+i) kd)=true)(hk3:∀i,k<=i->i<a.size-ja->bey le false y (a.getD (ja+i) kd)=false):
  (∀x,x∈(a.toList.drop ja).take k->∀z,z∈b.toList.drop jb->le x z)/\(ja+k<a.size->∀z,z∈a.toList.drop (ja+k)->le y z):=by
 have my:=mb y (jKj hy);simp only[bey,lKs,lKi,lJ5,lVv] at hk2 hk3;refine⟨λx hx z hz=> ?_,λhlt=> ?_⟩
 .obtain⟨j,hj,hxj⟩:=kY2 hx;have e:=at_d (a:=a) (ja:=ja) j (by omega)
  rw[hxj] at e;have hle:=hk2 j hj;rw[<-lJ3 e] at hle;exact jZc H sb mb hy (ma x (jKj hxj)) hle z hz
 .have e:=at_d (a:=a) (ja:=ja) k (by omega)
  have hm:=ma _ (jKj e);exact jZc H sa ma e my ((H.tot _ _ hm my).resolve_left (hk3 k (lJh _) (by omega)))
theorem galB(H:Asks M A s κ mem le){k:Nat}(sa:a.toList.Pairwise le)(ma:∀x,x∈a.toList->mem x)(sb:b.toList.Pairwise le)(mb:∀x,x∈b.toList->mem x)(hx:a[ja]? =some x)(hk1:k<=b.size-jb)(hk2:∀i,i<k->bey le true x (b.getD (jb+i) kd)=true)(hk3:∀i,k<=i->i<b.size-jb->bey le true x (b.getD (jb+i) kd)=false):
  (∀y,y∈(b.toList.drop jb).take k->∀z,z∈a.toList.drop ja->le y z)/\(jb+k<b.size->∀z,z∈b.toList.drop (jb+k)->le x z):=by
 have mx:=ma x (jKj hx);simp only[bey,lKm,lX8,lVv,lZ1,lJ5] at hk2 hk3;refine⟨λy hy z hz=> ?_,λhlt=> ?_⟩
 .obtain⟨j,hj,hyj⟩:=kY2 hy;have e:=at_d (a:=b) (ja:=jb) j (by omega)
  rw[hyj] at e;have hle:=hk2 j hj;rw[<-lJ3 e] at hle;have my:=mb y (jKj hyj);exact jZc H sa ma hx my ((H.tot _ _ mx my).resolve_left hle) z hz
 .have e:=at_d (a:=b) (ja:=jb) k (by omega)
  exact jZc H sb mb e mx (hk3 k (lJh _) (by omega))
theorem qKa{Q:Array Keyed->SortSt->Prop}(H:Asks M A s κ mem le)(hk:kindOf st=κ)(hA:1<=a.size)(hB:1<=b.size)(sa:a.toList.Pairwise le)(sb:b.toList.Pairwise le)(ma:∀x,x∈a.toList->mem x)(mb:∀x,x∈b.toList->mem x)(hf:∀x,b[0]? =some x->∀y,y∈a.toList->le x y)(hl:∀x,a[a.size-1]? =some x->∀y,y∈b.toList->le y x)(h:∀r g,Fin2 le a b r->Q r (jKu st g)):
  wpS M A E s (qY4 a b) Q st:=by
 obtain⟨x0,hb0⟩:=jXn (arr:=b) (i:=0) (by omega)
 have hl':∀i,i+1=a.size->∀x,a[i]? =some x->∀y,y∈b.toList->le y x:=λi hi x hx=>hl x (by rw[show a.size-1=i by omega];exact hx)
 have L0:Lw le a b #[x0] 0 1:=by
  refine⟨?_,by simp,?_⟩
  .rw[lYb];have:b.toList=x0::b.toList.drop 1:=by have:=jVm hb0;rwa [lYb] at this
   conv=>rhs;rw[this]
   show (x0::(a.toList++List.drop 1 b.toList)).Perm _
   exact lYy.symm
  .intro x hx y hy;simp at hx;subst hx
   rcases (lJn.mp hy) with z | z
   .exact hf x hb0 y (lQs z)
   .have hd:=sb;have e:b.toList=x::b.toList.drop 1:=by have:=jVm hb0;rwa [lYb] at this
    rw[e] at hd;exact List.rel_of_pairwise_cons hd z
 have fin0:∀r,Fin2 le a b r->Q r st:=λr hr=>h r (gallopOf st) hr
 (refine lJf (lVu (lQc ⟨rfl,?_⟩)))
 refine lJf (jKc hb0 ?_)
 dsimp only
 by_cases c1:1=b.size
 .rw[lJc (by simpa using c1)]
  exact lJg (fin0 _ (L0.done sa sb (.inl c1)))
 rw[lJa (by simpa using c1)]
 by_cases c2:0+1=a.size
 .rw[lJc (by simpa using c2)]
  exact lJg (fin0 _ (L0.lastA sa sb c2 (hl' 0 c2)))
 rw[lJa (by simpa using c2)]
 refine lJf (lQj ?_)
 refine lJf (lKq (lKr (I:=λi (c:Option (Array Keyed)×Array Keyed×Nat×Nat×Nat) st'=>(∃g,jKu st g=st')/\c.1=none/\Lw le a b c.2.1 c.2.2.1 c.2.2.2.1/\c.2.2.1+1<a.size/\c.2.2.2.1<b.size/\i+1<=c.2.1.size)
  (Q:=λ(c:Option (Array Keyed)×Array Keyed×Nat×Nat×Nat) st'=>(∃g,jKu st g=st')/\∃r,c.1=some r/\Fin2 le a b r) ?_ ?_ ⟨⟨_,rfl⟩,rfl,L0,by dsimp only;omega,by dsimp only;omega,by simp⟩) ?_)
 .rintro i ⟨r,out,ia,ib,mg⟩ st' _ hi ⟨⟨g,rfl⟩,rfl,L,ha,hb,hsz⟩
  dsimp only at L ha hb hsz ⊢
  refine lJf (lKq (lKr (I:=λi1 (c:Option (Array Keyed)×Array Keyed×Nat×Nat×Nat×Nat) st'=>jKu st g=st'/\c.1=none/\Lw le a b c.2.1 c.2.2.1 c.2.2.2.1/\c.2.2.1+1<a.size/\c.2.2.2.1<b.size/\out.size+i1<=c.2.1.size)
   (Q:=λ(c:Option (Array Keyed)×Array Keyed×Nat×Nat×Nat×Nat) st'=>jKu st g=st'/\((∃r,c.1=some r/\Fin2 le a b r)\/(c.1=none/\Lw le a b c.2.1 c.2.2.1 c.2.2.2.1/\c.2.2.1+1<a.size/\c.2.2.2.1<b.size/\out.size+1<=c.2.1.size))) ?_ ?_ ⟨rfl,rfl,L,ha,hb,lJh _⟩) ?_)
  .rintro i1 ⟨r,out1,ia1,ib1,ac,bc⟩ st' _ hi1 ⟨rfl,rfl,L1,ha1,hb1,hsz1⟩
   dsimp only at L1 ha1 hb1 hsz1 ⊢
   obtain⟨y,hy⟩:=jXn hb1;obtain⟨x,hx⟩:=jXn (arr:=a) (i:=ia1) (by omega)
   have my:=mb y (jKj hy);have mx:=ma x (jKj hx);refine lJf (jKc hy (lJf (jKc hx (lJf (qUy (st:=jKu st g) H my mx hk ?_)))))
   by_cases w:le x y
   .rw[lJq w]
    dsimp only
    rw[lJa (by decide)]
    refine lJf (jKc hx ?_);have L2:=L1.pushA sa hx (jZc H sb mb hy mx w)
    by_cases c3:ia1+1+1=a.size
    .rw[lJc (by simpa using c3)]
     exact lJg ⟨rfl,.inl ⟨_,rfl,L2.lastA sa sb c3 (hl' _ c3)⟩⟩
    .rw[lJa (by simpa using c3)]
     by_cases c4:ac+1>=mg
     .rw[lJc c4];exact wpS_pure ⟨rfl,.inr ⟨rfl,L2,by dsimp only;omega,hb1,by simp;omega⟩⟩
     .rw[lJa c4];exact wpS_pure ⟨rfl,rfl,L2,by dsimp only;omega,hb1,by simp;omega⟩
   .rw[lJy w]
    dsimp only
    (rw[lJc (show (!false)=true from rfl)])
    refine lJf (jKc hy ?_);have w':le y x:=(H.tot x y mx my).resolve_left w;have L2:=L1.pushB sb hy (jZc H sa ma hx my w')
    by_cases c3:ib1+1=b.size
    .rw[lJc (by simpa using c3)]
     exact lJg ⟨rfl,.inl ⟨_,rfl,L2.done sa sb (.inl c3)⟩⟩
    .rw[lJa (by simpa using c3)]
     by_cases c4:bc+1>=mg
     .rw[lJc c4];exact wpS_pure ⟨rfl,.inr ⟨rfl,L2,ha1,by dsimp only;omega,by simp;omega⟩⟩
     .rw[lJa c4];exact wpS_pure ⟨rfl,rfl,L2,ha1,by dsimp only;omega,by simp;omega⟩
  .rintro⟨r,out1,ia1,ib1,ac,bc⟩ st' ⟨rfl,rfl,L1,ha1,hb1,hsz1⟩
   dsimp only at L1 ha1 hb1 hsz1 ⊢
   exact⟨rfl,.inr ⟨rfl,L1,ha1,hb1,by omega⟩⟩
  .rintro⟨r,out1,ia1,ib1,ac,bc⟩ st' ⟨rfl,⟨r',rfl,fr⟩ | ⟨rfl,L1,ha1,hb1,hsz1⟩⟩
   .dsimp only
    exact lJg ⟨⟨g,rfl⟩,r',rfl,fr⟩
   dsimp only at L1 ha1 hb1 hsz1 ⊢
   (refine lJf (lVu (lQc ⟨rfl,?_⟩)))
   refine lJf (lKq (lKr (I:=λ_ (c:Option (Array Keyed)×Array Keyed×Nat×Nat×Nat×Nat×Nat) st'=>(∃g,jKu st g=st')/\c.1=none/\Lw le a b c.2.1 c.2.2.1 c.2.2.2.1/\c.2.2.1+1<a.size/\c.2.2.2.1<b.size/\out.size+1<=c.2.1.size)
    (Q:=λ(c:Option (Array Keyed)×Array Keyed×Nat×Nat×Nat×Nat×Nat) st'=>(∃g,jKu st g=st')/\((∃r,c.1=some r/\Fin2 le a b r)\/(c.1=none/\Lw le a b c.2.1 c.2.2.1 c.2.2.2.1/\c.2.2.1+1<a.size/\c.2.2.2.1<b.size/\out.size+1<=c.2.1.size))) ?_ ?_ ⟨⟨g,rfl⟩,rfl,L1,ha1,hb1,hsz1⟩) ?_)
   .clear L1 ha1 hb1 hsz1;rintro i1 ⟨r,o,ja,jb,mg1,ac1,bc1⟩ st' _ hi1 ⟨⟨g1,rfl⟩,rfl,L1,ha1,hb1,hsz1⟩
    dsimp only at L1 ha1 hb1 hsz1 ⊢
    obtain⟨y,hy⟩:=jXn hb1;have my:=mb y (jKj hy);apply uK7 (x:=mg1-1) (y:=mg1)
    case h2=>rfl
    case h1=>rfl
    intro mg2;refine lJf (lKn ?_);refine lJf (jKc hy ?_);refine lJf (jU5 (st:=jKu st _) (f:=λi=>a.getD (ja+i) kd) H hk my at_d (λi hi=>ma _ (jKj (at_d i hi))) (uUx H sa ma) (by omega) λk hk1 hk2 hk3=> ?_)
    obtain⟨takeK,beyK⟩:=galA H sa ma sb mb hy hk1 hk2 hk3;clear hk2 hk3
    dsimp only
    apply uJp o ja (R:=λo2 ja2=>Lw le a b o2 ja2 jb/\ja2+1<a.size/\out.size+1<=o2.size/\∀z,z∈a.toList.drop ja2->le y z)
    case h2=>rfl
    .intro ck;obtain rfl:k=0:=by omega
     have bk:=beyK (by omega)
     rw[lXg] at bk;exact⟨L1,ha1,hsz1,bk⟩
    .intro ck key;have L2:Lw le a b (o++a.extract ja (ja+k)) (ja+k) jb:=L1.takeA sa (by rw[lQt,uJr (by omega)]) takeK
     refine jJ7 (λd1=> ?_) λd1=> ?_
     .exact lJg ⟨⟨_,rfl⟩,.inl ⟨_,rfl,L2.lastA sa sb d1 (hl' _ d1)⟩⟩
     refine jJ7 (λd2=> ?_) λd2=> ?_
     .exact lJg ⟨⟨_,rfl⟩,.inl ⟨_,rfl,L2.done sa sb (.inr d2)⟩⟩
     exact key _ _ ⟨L2,by omega,by rw[lZ2];omega,beyK (by omega)⟩
    intro o2 ja2 hR;obtain⟨L2,hja,hos,bk⟩:=hR;clear L1 takeK beyK hk1 ha1 hsz1;refine lJf (jKc hy ?_);have L3:=L2.pushB sb hy bk;refine jJ7 (λd3=> ?_) λd3=> ?_
    .exact lJg ⟨⟨_,rfl⟩,.inl ⟨_,rfl,L3.done sa sb (.inl d3)⟩⟩
    obtain⟨x,hx⟩:=jXn (Nat.lt_of_succ_lt hja);have mx:=ma x (jKj hx);have hps:out.size+1<=(o2.push y).size:=by rw[Array.size_push];omega
    have hjb:jb+1<b.size:=by omega
    clear L2 bk hos d3 hb1;refine lJf (jKc hx ?_)
    generalize o2.push y=o3 at *
    generalize jb+1=jb1 at *
    refine lJf (jU5 (st:=jKu st _) (f:=λi=>b.getD (jb1+i) kd) H hk mx at_d (λi hi=>mb _ (jKj (at_d i hi))) (uUx H sb mb) (by omega) λk2 e1 e2 e3=> ?_)
    obtain⟨takeK,beyK⟩:=galB H sa ma sb mb hx e1 e2 e3;clear e2 e3
    dsimp only
    apply uJp o3 jb1 (R:=λo4 jb2=>Lw le a b o4 ja2 jb2/\jb2<b.size/\out.size+1<=o4.size/\∀z,z∈b.toList.drop jb2->le x z)
    case h2=>rfl
    .intro ck;obtain rfl:k2=0:=by omega
     have bk:=beyK (by omega)
     rw[lXg] at bk;exact⟨L3,hjb,hps,bk⟩
    .intro ck key;have L4:=L3.takeB sb (k:=k2) (lQt.trans (lKa _ (uJr (ia:=jb1) (a:=b) (by omega)))) takeK
     refine jJ7 (λd4=> ?_) λd4=> ?_
     .exact lJg ⟨⟨_,rfl⟩,.inl ⟨_,rfl,L4.done sa sb (.inl d4)⟩⟩
     exact key _ _ ⟨L4,by omega,by rw[lZ2];omega,beyK (by omega)⟩
    intro o4 jb2 hR;obtain⟨L4,hjb2,hos,bk⟩:=hR;clear L3 takeK beyK e1 hjb hps;have L5:=L4.pushA sa hx bk;refine lJf (jKc hx ?_);refine jJ7 (λd5=> ?_) λd5=> ?_
    .exact lJg ⟨⟨_,rfl⟩,.inl ⟨_,rfl,L5.lastA sa sb d5 (hl' _ d5)⟩⟩
    have g5:ja2+1+1<a.size:=by omega
    have g6:out.size+1<=(o4.push x).size:=by rw[Array.size_push];omega
    split
    .exact lJg ⟨⟨_,rfl⟩,.inr ⟨rfl,L5,g5,hjb2,g6⟩⟩
    .exact lJg ⟨⟨_,rfl⟩,rfl,L5,g5,hjb2,g6⟩
   .rintro⟨r,o,ja,jb,mg1,ac1,bc1⟩ st' ⟨⟨g1,rfl⟩,rfl,L1,ha1,hb1,hsz1⟩
    dsimp only at L1 ha1 hb1 hsz1 ⊢
    exact⟨⟨g1,rfl⟩,.inr ⟨rfl,L1,ha1,hb1,hsz1⟩⟩
   .rintro⟨r,o,ja,jb,mg1,ac1,bc1⟩ st' ⟨⟨g1,rfl⟩,⟨r',rfl,fr⟩ | ⟨rfl,L1,ha1,hb1,hsz1⟩⟩
    .dsimp only
     exact lJg ⟨⟨g1,rfl⟩,r',rfl,fr⟩
    .dsimp only at L1 ha1 hb1 hsz1 ⊢
     refine lJf (lKn ?_);exact wpS_pure ⟨⟨_,rfl⟩,rfl,L1,ha1,hb1,by dsimp only;omega⟩
 .rintro⟨r,out,ia,ib,mg⟩ st' ⟨⟨g,rfl⟩,rfl,L,ha,hb,hsz⟩;have:=L.size
  dsimp only at this hsz ha hb
  exfalso
  rw[Nat.zero_max] at hsz;omega
 .rintro⟨r,out,ia,ib,mg⟩ st' ⟨⟨g,rfl⟩,r',rfl,fr⟩
  dsimp only
  exact lJg (h _ _ fr)
end
variable {na nb:Nat}
section
variable {out:Array Keyed}{k:Nat}
structure Hw (le:Keyed->Keyed->Prop) (a b out:Array Keyed) (na nb:Nat):Prop where
 perm:((a.toList.take na++b.toList.take nb)++out.toList.reverse).Perm (a.toList++b.toList)
 srt:out.toList.reverse.Pairwise le
 up:∀x,x∈a.toList.take na++b.toList.take nb->∀y,y∈out.toList->le x y
theorem Hw.size(h:Hw le a b out na nb)(h1:na<=a.size)(h2:nb<=b.size):na+nb+out.size=a.size+b.size:=by
 have:=h.perm.length_eq;simp at this;omega
theorem kK9(h:k<=na):l.take na=l.take k++(l.take na).drop k:=by
 conv=>lhs;rw[<-lK9 k (l.take na)]
 rw[List.take_take,Nat.min_eq_left h]
theorem Hw.takeA(h:Hw le a b out na nb)(sa:a.toList.Pairwise le)(hk:k<=na)(ho:o.toList.reverse=(a.toList.take na).drop k++out.toList.reverse)(hx:∀x,x∈b.toList.take nb->∀y,y∈(a.toList.take na).drop k->le x y):Hw le a b o k nb:=by
 have sd:(a.toList.take na).Pairwise le:=sa.sublist (lQ8 ..);have up:=h.up;have perm:=h.perm;have e:=kK9 (l:=a.toList) hk
 generalize hd:(a.toList.take na).drop k=d at *
 rw[e] at sd up perm;obtain⟨s1,s2,s3⟩:=lKh.mp sd
 have mo:∀y,y∈o.toList->y∈d\/y∈out.toList:=λy hy=>by
  have:y∈o.toList.reverse:=lVh.mpr hy;rw[ho] at this;exact (lJn.mp this).imp id lVh.mp
 refine⟨?_,?_,?_⟩
 .rw[ho];refine List.Perm.trans ?_ perm;rw[<-lJt,lJt,lJt,lJt,lJt]
  (refine lV5 _ ?_)
  (rw[<-lJt,<-lJt])
  (exact lX9 _ lY3)
 .rw[ho];exact lKh.mpr ⟨s2,h.srt,λx hx' y hy=>up x (lKk _ (lJ7 _ hx')) y (lVh.mp hy)⟩
 .intro x hx' y hy
  rcases mo y hy with z | z
  .rcases (lJn.mp hx') with w | w
   .exact s3 x w y z
   .exact hx x w y z
  .refine up x ?_ y z
   rcases (lJn.mp hx') with w | w
   .exact lKk _ (lKk _ w)
   .exact lJ7 _ w
theorem Hw.takeB(h:Hw le a b out na nb)(sb:b.toList.Pairwise le)(hk:k<=nb)(ho:o.toList.reverse=(b.toList.take nb).drop k++out.toList.reverse)(hx:∀x,x∈a.toList.take na->∀y,y∈(b.toList.take nb).drop k->le x y):Hw le a b o na k:=by
 have sd:(b.toList.take nb).Pairwise le:=sb.sublist (lQ8 ..);have up:=h.up;have perm:=h.perm;have e:=kK9 (l:=b.toList) hk
 generalize hd:(b.toList.take nb).drop k=d at *
 rw[e] at sd up perm;obtain⟨s1,s2,s3⟩:=lKh.mp sd
 have mo:∀y,y∈o.toList->y∈d\/y∈out.toList:=λy hy=>by
  have:y∈o.toList.reverse:=lVh.mpr hy;rw[ho] at this;exact (lJn.mp this).imp id lVh.mp
 refine⟨?_,?_,?_⟩
 .rw[ho];refine List.Perm.trans ?_ perm;rw[<-lJt,lJt,lJt,lJt,lJt]
 .rw[ho];exact lKh.mpr ⟨s2,h.srt,λx hx' y hy=>up x (lJ7 _ (lJ7 _ hx')) y (lVh.mp hy)⟩
 .intro x hx' y hy
  rcases mo y hy with z | z
  .rcases (lJn.mp hx') with w | w
   .exact hx x w y z
   .exact s3 x w y z
  .refine up x ?_ y z
   rcases (lJn.mp hx') with w | w
   .exact lKk _ w
   .exact lJ7 _ (lKk _ w)
theorem jZ9(h:arr[i]? =some x):(arr.toList.take (i+1)).drop i=[x]:=by
 have hl:arr.toList[i]? =some x:=by rw[lKf];exact h
 obtain⟨h1,h2⟩:=lJk.mp hl;have hs:i<arr.size:=by simpa using h1
 rw[lQr,hl,lY4 (by simp;omega),lVr (by simp;omega)]
 rfl
theorem Hw.pushA(h:Hw le a b out (na+1) nb)(sa:a.toList.Pairwise le)(hi:a[na]? =some x)(hx:∀y,y∈b.toList.take nb->le y x):Hw le a b (out.push x) na nb:=by
 refine h.takeA sa (k:=na) (by omega) (by rw[jZ9 hi];simp) λz hz y hy=> ?_
 rw[jZ9 hi,lJz] at hy;rw[hy];exact hx z hz
theorem Hw.pushB(h:Hw le a b out na (nb+1))(sb:b.toList.Pairwise le)(hi:b[nb]? =some x)(hx:∀y,y∈a.toList.take na->le y x):Hw le a b (out.push x) na nb:=by
 refine h.takeB sb (k:=nb) (by omega) (by rw[jZ9 hi];simp) λz hz y hy=> ?_
 rw[jZ9 hi,lJz] at hy;rw[hy];exact hx z hz
theorem kJc:(a.extract 0 na).toList=a.toList.take na:=by rw[jXa];simp
theorem Hw.done(h:Hw le a b out na nb)(sa:a.toList.Pairwise le)(sb:b.toList.Pairwise le)(hi:na=0\/nb=0):Fin2 le a b (a.extract 0 na++b.extract 0 nb++out.reverse):=by
 have e:(a.extract 0 na++b.extract 0 nb++out.reverse).toList=(a.toList.take na++b.toList.take nb)++out.toList.reverse:=by rw[lQt,lQt,kJc,kJc,lZ3]
 unfold Fin2;rw[e];refine⟨h.perm,lKh.mpr ⟨?_,h.srt,λx hx y hy=>h.up x hx y (lVh.mp hy)⟩⟩
 refine lKh.mpr ⟨sa.sublist (lQ8 ..),sb.sublist (lQ8 ..),λx hx y hy=> ?_⟩
 rcases hi with z | z
 .rw[z] at hx;cases hx
 .rw[z] at hy;cases hy
theorem Hw.firstB(h:Hw le a b out na nb)(sa:a.toList.Pairwise le)(sb:b.toList.Pairwise le)(hi:nb=1)(hl:∀x,b[0]? =some x->∀y,y∈a.toList->le x y):Fin2 le a b (b.extract 0 nb++a.extract 0 na++out.reverse):=by
 have e:(b.extract 0 nb++a.extract 0 na++out.reverse).toList=(b.toList.take nb++a.toList.take na)++out.toList.reverse:=by rw[lQt,lQt,kJc,kJc,lZ3]
 unfold Fin2;rw[e];refine⟨(lX9 _ lY3).trans h.perm,lKh.mpr ⟨?_,h.srt,λx hx y hy=>h.up x ?_ y (lVh.mp hy)⟩⟩
 .refine lKh.mpr ⟨sb.sublist (lQ8 ..),sa.sublist (lQ8 ..),λx hx y hy=> ?_⟩
  rw[hi] at hx
  (obtain⟨j,hj⟩:=lJ9 hx)
  rw[lQ0] at hj;split at hj
  .rename_i hlt
   obtain rfl:j=0:=by omega
   rw[lKf] at hj;exact hl x hj y (lQa hy)
  .cases hj
 .rcases (lJn.mp hx) with w | w
  .exact lJ7 _ w
  .exact lKk _ w
end
section
variable {mem:Keyed->Prop}[∀x y,Decidable (le x y)]
theorem kQv(H:Asks M A s κ mem le)(hs:arr.toList.Pairwise le)(hm:∀x,x∈arr.toList->mem x)(hx:arr[i]? =some x)(hy:mem y)(h:le x y):∀z,z∈arr.toList.take (i+1)->le z y:=by
 intro z hz;have hzl:z∈arr.toList:=lQa hz;obtain⟨j,hj⟩:=lJ9 hz;rw[lQ0] at hj;split at hj
 .rename_i hlt
  rcases lK2 (lK8 hlt) with q | rfl
  .exact H.tr _ _ _ (hm z hzl) (hm x (jKj hx)) hy (kUc hs hj q (by rw[lKf];exact hx)) h
  .rw[lKf,hx] at hj;cases hj;exact h
 .cases hj
theorem uJv{k:Nat}(h:x∈(arr.toList.take n).drop k):∃j,k<=j/\j<n/\arr[j]? =some x:=by
 obtain⟨j,hj⟩:=lJ9 h;rw[lXk,lQ0] at hj;split at hj
 .rename_i hl
  rw[lKf] at hj;exact⟨k+j,by omega,hl,hj⟩
 .cases hj
theorem qZ6(h:x∈arr.toList.take n):∃j,j<n/\arr[j]? =some x:=by
 obtain⟨j,hj⟩:=lJ9 h;rw[lQ0] at hj;split at hj
 .rename_i hl
  rw[lKf] at hj;exact⟨j,hl,hj⟩
 .cases hj
theorem at_e(hn:n<=a.size)(i:Nat)(hi:i<n):a[0+i]? =some (a.getD i kd):=by rw[lV2];simp[Array.getD,show i<a.size by omega]
theorem uUw(H:Asks M A s κ mem le)(hn:n<=a.size)(sa:a.toList.Pairwise le)(ma:∀x,x∈a.toList->mem x)(i j:Nat)(hij:i<=j)(hj:j<n):le (a.getD i kd) (a.getD j kd):=by
 have h1:=at_e hn i (by omega)
 have h2:=at_e hn j hj;rw[lV2] at h1 h2
 rcases lK2 hij with q | rfl
 .exact kUc sa (i:=i) (j:=j) (by rw[lKf];exact h1) q (by rw[lKf];exact h2)
 .exact (H.tot _ _ (ma _ (jKj h1)) (ma _ (jKj h1))).elim id id
theorem uZf(H:Asks M A s κ mem le){k:Nat}(ma:∀x,x∈a.toList->mem x)(sb:b.toList.Pairwise le)(mb:∀x,x∈b.toList->mem x)(hna:na<=a.size)(hy:b[nb]? =some y)(hk1:k<=na)(hk2:∀i,i<k->bey le false y (a.getD i kd)=true)(hk3:∀i,k<=i->i<na->bey le false y (a.getD i kd)=false):
  (∀z,z∈b.toList.take (nb+1)->∀x,x∈(a.toList.take na).drop k->le z x)/\(∀z,z∈a.toList.take k->le z y):=by
 have my:=mb y (jKj hy);simp only[bey,lKs,lKi,lJ5,lVv] at hk2 hk3;refine⟨λz hz x hx=> ?_,λz hz=> ?_⟩
 .obtain⟨j,h1,h2,h3⟩:=uJv hx;have e:=at_e hna j h2;rw[lV2,h3] at e;have hle:=hk3 j h1 h2;rw[<-lJ3 e] at hle;have mx:=ma x (jKj h3);exact kQv H sb mb hy mx ((H.tot _ _ mx my).resolve_left hle) z hz
 .obtain⟨j,h1,h2⟩:=qZ6 hz;have e:=at_e hna j (by omega)
  rw[lV2,h2] at e;have hle:=hk2 j h1
  rwa [<-lJ3 e] at hle
theorem uZe(H:Asks M A s κ mem le){k:Nat}(sa:a.toList.Pairwise le)(ma:∀x,x∈a.toList->mem x)(mb:∀x,x∈b.toList->mem x)(hnb:nb<=b.size)(hx:a[na]? =some x)(hk1:k<=nb)(hk2:∀i,i<k->bey le true x (b.getD i kd)=true)(hk3:∀i,k<=i->i<nb->bey le true x (b.getD i kd)=false):
  (∀z,z∈a.toList.take (na+1)->∀y,y∈(b.toList.take nb).drop k->le z y)/\(∀z,z∈b.toList.take k->le z x):=by
 have mx:=ma x (jKj hx);simp only[bey,lKm,lX8,lVv,lZ1,lJ5] at hk2 hk3;refine⟨λz hz y hy=> ?_,λz hz=> ?_⟩
 .obtain⟨j,h1,h2,h3⟩:=uJv hy;have e:=at_e hnb j h2;rw[lV2,h3] at e;have hle:=hk3 j h1 h2;rw[<-lJ3 e] at hle;exact kQv H sa ma hx (mb y (jKj h3)) hle z hz
 .obtain⟨j,h1,h2⟩:=qZ6 hz;have e:=at_e hnb j (by omega)
  rw[lV2,h2] at e;have hle:=hk2 j h1;rw[<-lJ3 e] at hle;exact (H.tot _ _ mx (mb z (jKj h2))).resolve_left hle
theorem qQq{k:Nat}:(o++(arr.extract k n).reverse).toList.reverse=(arr.toList.take n).drop k++o.toList.reverse:=by
 rw[lQt,List.reverse_append,lZ3,List.reverse_reverse,jXa,List.drop_take]
theorem qKb{Q:Array Keyed->SortSt->Prop}(H:Asks M A s κ mem le)(hk:kindOf st=κ)(hA:1<=a.size)(hB:1<=b.size)(sa:a.toList.Pairwise le)(sb:b.toList.Pairwise le)(ma:∀x,x∈a.toList->mem x)(mb:∀x,x∈b.toList->mem x)(hf:∀x,b[0]? =some x->∀y,y∈a.toList->le x y)(hl:∀x,a[a.size-1]? =some x->∀y,y∈b.toList->le y x)(h:∀r g,Fin2 le a b r->Q r (jKu st g)):
  wpS M A E s (qY5 a b) Q st:=by
 obtain⟨x0,hb0⟩:=jXn (arr:=a) (i:=a.size-1) (by omega)
 have La:Hw le a b #[] (a.size-1+1) b.size:=by
  refine⟨?_,by simp,λx _ y hy=> ?_⟩
  .rw[lQm (by simp;omega),lQm (by simp)];simp
  .simp at hy
 have L0:Hw le a b #[x0] (a.size-1) b.size:=La.pushA sa hb0 λy hy=>hl x0 hb0 y (lQa hy)
 have fin0:∀r,Fin2 le a b r->Q r st:=λr hr=>h r (gallopOf st) hr
 (refine lJf (lVu (lQc ⟨rfl,?_⟩)))
 refine lJf (jKc hb0 ?_)
 dsimp only
 refine jJ7 (λc1=> ?_) λc1=> ?_
 .exact lJg (fin0 _ (L0.done sa sb (.inl c1)))
 refine jJ7 (λc2=> ?_) λc2=> ?_
 .exact lJg (fin0 _ (L0.firstB sa sb c2 hf))
 refine lJf (lQj ?_)
 refine lJf (lKq (lKr (I:=λi (c:Option (Array Keyed)×Nat×Nat×Array Keyed×Nat) st'=>(∃g,jKu st g=st')/\c.1=none/\Hw le a b c.2.2.2.1 c.2.1 c.2.2.1/\1<=c.2.1/\c.2.1<=a.size/\2<=c.2.2.1/\c.2.2.1<=b.size/\i+1<=c.2.2.2.1.size)
  (Q:=λ(c:Option (Array Keyed)×Nat×Nat×Array Keyed×Nat) st'=>(∃g,jKu st g=st')/\∃r,c.1=some r/\Fin2 le a b r) ?_ ?_ ⟨⟨_,rfl⟩,rfl,L0,by dsimp only;omega,by dsimp only;omega,by dsimp only;omega,by dsimp only;omega,by simp⟩) ?_)
 .rintro i ⟨r,na,nb,out,mg⟩ st' _ hi ⟨⟨g,rfl⟩,rfl,L,ha,ha',hb,hb',hsz⟩
  dsimp only at L ha ha' hb hb' hsz ⊢
  refine lJf (lKq (lKr (I:=λi1 (c:Option (Array Keyed)×Nat×Nat×Array Keyed×Nat×Nat) st'=>jKu st g=st'/\c.1=none/\Hw le a b c.2.2.2.1 c.2.1 c.2.2.1/\1<=c.2.1/\c.2.1<=a.size/\2<=c.2.2.1/\c.2.2.1<=b.size/\out.size+i1<=c.2.2.2.1.size)
   (Q:=λ(c:Option (Array Keyed)×Nat×Nat×Array Keyed×Nat×Nat) st'=>jKu st g=st'/\((∃r,c.1=some r/\Fin2 le a b r)\/(c.1=none/\Hw le a b c.2.2.2.1 c.2.1 c.2.2.1/\1<=c.2.1/\c.2.1<=a.size/\2<=c.2.2.1/\c.2.2.1<=b.size/\out.size+1<=c.2.2.2.1.size))) ?_ ?_ ⟨rfl,rfl,L,ha,ha',hb,hb',lJh _⟩) ?_)
  .rintro i1 ⟨r,n1,m1,out1,ac,bc⟩ st' _ hi1 ⟨rfl,rfl,L1,p1,p2,p3,p4,hsz1⟩
   dsimp only at L1 p1 p2 p3 p4 hsz1 ⊢
   obtain⟨n1,rfl⟩:∃k,n1=k+1:=⟨n1-1,by omega⟩
   obtain⟨m1,rfl⟩:∃k,m1=k+1:=⟨m1-1,by omega⟩
   simp only[lY1];obtain⟨y,hy⟩:=jXn (arr:=b) (i:=m1) (by omega)
   obtain⟨x,hx⟩:=jXn (arr:=a) (i:=n1) (by omega)
   have my:=mb y (jKj hy);have mx:=ma x (jKj hx);refine lJf (jKc hy (lJf (jKc hx (lJf (qUy (st:=jKu st g) H my mx hk ?_)))))
   by_cases w:le x y
   .rw[lJq w]
    dsimp only
    rw[lJa (by decide)]
    refine lJf (jKc hy ?_);have L2:=L1.pushB sb hy (kQv H sa ma hx my w);refine jJ7 (λc3=> ?_) λc3=> ?_
    .exact lJg ⟨rfl,.inl ⟨_,rfl,L2.firstB sa sb c3 hf⟩⟩
    .split
     .exact wpS_pure ⟨rfl,.inr ⟨rfl,L2,p1,p2,by dsimp only;omega,by dsimp only;omega,by simp;omega⟩⟩
     .exact wpS_pure ⟨rfl,rfl,L2,p1,p2,by dsimp only;omega,by dsimp only;omega,by simp;omega⟩
   .rw[lJy w]
    dsimp only
    (rw[lJc (show (!false)=true from rfl)])
    refine lJf (jKc hx ?_);have L2:=L1.pushA sa hx (kQv H sb mb hy mx ((H.tot x y mx my).resolve_left w));refine jJ7 (λc3=> ?_) λc3=> ?_
    .exact lJg ⟨rfl,.inl ⟨_,rfl,L2.done sa sb (.inl c3)⟩⟩
    .split
     .exact wpS_pure ⟨rfl,.inr ⟨rfl,L2,by dsimp only;omega,by dsimp only;omega,p3,p4,by simp;omega⟩⟩
     .exact wpS_pure ⟨rfl,rfl,L2,by dsimp only;omega,by dsimp only;omega,p3,p4,by simp;omega⟩
  .rintro⟨r,n1,m1,out1,ac,bc⟩ st' ⟨rfl,rfl,L1,p1,p2,p3,p4,hsz1⟩
   dsimp only at L1 p1 p2 p3 p4 hsz1 ⊢
   exact⟨rfl,.inr ⟨rfl,L1,p1,p2,p3,p4,by omega⟩⟩
  .rintro⟨r,n1,m1,out1,ac,bc⟩ st' ⟨rfl,⟨r',rfl,fr⟩ | ⟨rfl,L1,p1,p2,p3,p4,hsz1⟩⟩
   .dsimp only
    exact lJg ⟨⟨g,rfl⟩,r',rfl,fr⟩
   dsimp only at L1 p1 p2 p3 p4 hsz1 ⊢
   (refine lJf (lVu (lQc ⟨rfl,?_⟩)))
   refine lJf (lKq (lKr (I:=λ_ (c:Option (Array Keyed)×Nat×Nat×Array Keyed×Nat×Nat×Nat) st'=>(∃g,jKu st g=st')/\c.1=none/\Hw le a b c.2.2.2.1 c.2.1 c.2.2.1/\1<=c.2.1/\c.2.1<=a.size/\2<=c.2.2.1/\c.2.2.1<=b.size/\out.size+1<=c.2.2.2.1.size)
    (Q:=λ(c:Option (Array Keyed)×Nat×Nat×Array Keyed×Nat×Nat×Nat) st'=>(∃g,jKu st g=st')/\((∃r,c.1=some r/\Fin2 le a b r)\/(c.1=none/\Hw le a b c.2.2.2.1 c.2.1 c.2.2.1/\1<=c.2.1/\c.2.1<=a.size/\2<=c.2.2.1/\c.2.2.1<=b.size/\out.size+1<=c.2.2.2.1.size))) ?_ ?_ ⟨⟨g,rfl⟩,rfl,L1,p1,p2,p3,p4,hsz1⟩) ?_)
   .clear L1 p1 p2 p3 p4 hsz1;rintro i1 ⟨r,ja,jb,o,mg1,ac1,bc1⟩ st' _ hi1 ⟨⟨g1,rfl⟩,rfl,L1,p1,p2,p3,p4,hsz1⟩
    dsimp only at L1 p1 p2 p3 p4 hsz1 ⊢
    obtain⟨jb,rfl⟩:∃k,jb=k+1:=⟨jb-1,by omega⟩
    simp only[lY1];obtain⟨y,hy⟩:=jXn (arr:=b) (i:=jb) (by omega)
    have my:=mb y (jKj hy)
    by_cases cg:mg1>1
    all_goals first | rw[lJc cg] | rw[lJa cg]
    all_goals refine lJf (lKn ?_)
    all_goals refine lJf (jKc hy ?_)
    all_goals refine lJf (jU5 (st:=jKu st _) (f:=λi=>a.getD i kd) H hk my (at_e p2) (λi hi=>ma _ (jKj (at_e p2 i hi))) (uUw H p2 sa ma) (by omega) λk hk1 hk2 hk3=> ?_)
    all_goals obtain⟨takeK,beyK⟩:=uZf H ma sb mb p2 hy hk1 hk2 hk3
    all_goals dsimp only
    all_goals by_cases ck:ja-k>0
    all_goals first | rw[lJc ck] | rw[lJa ck]
    all_goals first
     | (have L2:Hw le a b (o++(a.extract k ja).reverse) k (jb+1):=L1.takeA sa hk1 qQq takeK
        refine jJ7 (λd1=> ?_) λd1=> ?_
        .exact lJg ⟨⟨_,rfl⟩,.inl ⟨_,rfl,L2.done sa sb (.inl d1)⟩⟩
        have q1:1<=k:=by omega
        have q2:k<=a.size:=by omega
        have hos:out.size+1<=(o++(a.extract k ja).reverse).size:=by rw[lZ2];omega
        have bk:=beyK;clear L1 hk1 hk2 hk3 takeK beyK
        generalize ja-k=kk at *
        generalize o++(a.extract k ja).reverse=o2 at *
        skip)
     | (obtain rfl:k=ja:=by omega
        have L2:=L1;have q1:=p1;have q2:=p2;have hos:=hsz1;have bk:=beyK;clear L1 hk1 hk2 hk3 takeK beyK
        skip)
    all_goals refine lJf (jKc hy ?_)
    all_goals have L3:=L2.pushB sb hy bk
    all_goals refine jJ7 (λd3=> ?_) λd3=> ?_
    all_goals first
     | exact lJg ⟨⟨_,rfl⟩,.inl ⟨_,rfl,L3.firstB sa sb d3 hf⟩⟩
     | skip
    all_goals obtain⟨k',rfl⟩:∃n,k=n+1:=⟨k-1,by omega⟩
    all_goals obtain⟨x,hx⟩:=jXn (arr:=a) (i:=k') (by omega)
    all_goals have mx:=ma x (jKj hx)
    all_goals have r4:jb<=b.size:=by omega
    all_goals simp only[lY1]
    all_goals refine lJf (jKc hx ?_)
    all_goals refine lJf (jU5 (st:=jKu st _) (f:=λi=>b.getD i kd) H hk mx (at_e r4) (λi hi=>mb _ (jKj (at_e r4 i hi))) (uUw H r4 sb mb) (by omega) λk2 e1 e2 e3=> ?_)
    all_goals obtain⟨takeK,beyK⟩:=uZe H sa ma mb r4 hx e1 e2 e3
    all_goals dsimp only
    all_goals by_cases ck2:jb-k2>0
    all_goals first | rw[lJc ck2] | rw[lJa ck2]
    all_goals first
     | (have L4:=L3.takeB sb e1 qQq takeK
        refine jJ7 (λd4=> ?_) λd4=> ?_
        .exact lJg ⟨⟨_,rfl⟩,.inl ⟨_,rfl,L4.firstB sa sb d4 hf⟩⟩
        refine jJ7 (λd5=> ?_) λd5=> ?_
        .exact lJg ⟨⟨_,rfl⟩,.inl ⟨_,rfl,L4.done sa sb (.inr d5)⟩⟩
        have L5:=L4.pushA sa hx beyK;have r1:2<=k2:=by omega
        have r2:k2<=b.size:=by omega
        skip)
     | (obtain rfl:k2=jb:=by omega
        have L5:=L3.pushA sa hx beyK;have r1:2<=k2:=by omega
        have r2:k2<=b.size:=by omega
        skip)
    all_goals refine lJf (jKc hx ?_)
    all_goals clear takeK beyK e1 e2 e3
    all_goals first
     | (refine jJ7 (λd5=> ?_) λd5=> ?_
        .exact lJg ⟨⟨_,rfl⟩,.inl ⟨_,rfl,L5.done sa sb (.inl d5)⟩⟩
        .split
         .exact wpS_pure ⟨⟨_,rfl⟩,.inr ⟨rfl,L5,by dsimp only;omega,by dsimp only;omega,r1,r2,by simp;omega⟩⟩
         .exact wpS_pure ⟨⟨_,rfl⟩,rfl,L5,by dsimp only;omega,by dsimp only;omega,r1,r2,by simp;omega⟩)
     | trace_state
   .rintro⟨r,ja,jb,o,mg1,ac1,bc1⟩ st' ⟨⟨g1,rfl⟩,rfl,L1,p1,p2,p3,p4,hsz1⟩
    dsimp only at L1 p1 p2 p3 p4 hsz1 ⊢
    exact⟨⟨g1,rfl⟩,.inr ⟨rfl,L1,p1,p2,p3,p4,hsz1⟩⟩
   .rintro⟨r,ja,jb,o,mg1,ac1,bc1⟩ st' ⟨⟨g1,rfl⟩,⟨r',rfl,fr⟩ | ⟨rfl,L1,p1,p2,p3,p4,hsz1⟩⟩
    .dsimp only
     exact lJg ⟨⟨g1,rfl⟩,r',rfl,fr⟩
    .dsimp only at L1 p1 p2 p3 p4 hsz1 ⊢
     refine lJf (lKn ?_);exact wpS_pure ⟨⟨_,rfl⟩,rfl,L1,p1,p2,p3,p4,by dsimp only;omega⟩
 .rintro⟨r,na,nb,out,mg⟩ st' ⟨⟨g,rfl⟩,rfl,L,ha,ha',hb,hb',hsz⟩
  dsimp only at L ha ha' hb hb' hsz
  have:=L.size ha' hb'
  exfalso
  rw[Nat.zero_max] at hsz;omega
 .rintro⟨r,na,nb,out,mg⟩ st' ⟨⟨g,rfl⟩,r',rfl,fr⟩
  dsimp only
  exact lJg (h _ _ fr)
end
theorem kJn{α:Type}:∀(m:List α)(base:Nat)(arr:Array α)(k:Nat),base+k+m.length<=arr.size->
  ((m.zipIdx k).foldl (λ(a:Array α)(x:α×Nat)=>a.setIfInBounds (base+x.2) x.1) arr).toList=arr.toList.take (base+k)++m++arr.toList.drop (base+k+m.length)
 | [],base,arr,k,h=>by simp
 | p::m,base,arr,k,h=>by
  rw[List.zipIdx_cons,lXd];have hl:base+k<arr.size:=by simp at h;omega
  rw[kJn m base _ (k+1) (by rw[lZy];simp at h;omega)]
  rw[Array.toList_setIfInBounds,show base+(k+1)=(base+k)+1 by omega]
  have h1:(arr.toList.set (base+k) p).take (base+k+1)=arr.toList.take (base+k)++[p]:=by
   rw[lQr,List.take_set_of_le (lJh _),lVy (by simpa using hl)];rfl
  have h2:(arr.toList.set (base+k) p).drop (base+k+1+m.length)=arr.toList.drop (base+k+1+m.length):=List.drop_set_of_lt (by omega)
  rw[h1,h2];simp only[lJ8,lJt,List.singleton_append,List.cons_append];rw[show base+k+(m.length+1)=base+k+1+m.length by omega]
  rfl
section
variable {mem:Keyed->Prop}[∀x y,Decidable (le x y)]
theorem uJ1{σ:Type}{Q:PUnit->σ->Prop}{st st':σ}(h:Q ⟨⟩ st'):wpS M A E s (set st':StateT σ Sem PUnit) Q st:=by
 unfold wpS;rw[StateT.run_set];exact lJe ⟨rfl,h⟩
theorem jKg(h:i<l.length):l[i]? =some (l.getD i kd):=by simp[List.getD,h]
theorem jZ1(H:Asks M A s κ mem le)(hs:l.Pairwise le)(hm:∀x,x∈l->mem x)(i j:Nat)(hij:i<=j)(hj:j<l.length):le (l.getD i kd) (l.getD j kd):=by
 have h1:=jKg (l:=l) (i:=i) (by omega)
 have h2:=jKg hj
 rcases lK2 hij with q | rfl
 .exact kUc hs h1 q h2
 .exact (H.tot _ _ (hm _ (lJs h1)) (hm _ (lJs h1))).elim id id
theorem qKc{Q:Bool->SortSt->Prop}{sa sb pw pw2:Nat}{P X Y S:List Keyed}(H:Asks M A s κ mem le)(hk:kindOf st=κ)(hfl:failedOf st=none)(hp1:(pendingOf st)[i]? =some (sa,na,pw))(hp2:(pendingOf st)[i+1]? =some (sb,nb,pw2))(harr:(arrOf st).toList=P++(X++Y)++S)(h1:P.length=sa)(h2:X.length=na)(h3:sb=sa+na)(h4:Y.length=nb)(hX:1<=na)(hY:1<=nb)(sX:X.Pairwise le)(sY:Y.Pairwise le)(mX:∀x,x∈X->mem x)(mY:∀x,x∈Y->mem x)(h:∀Z st',Z.Perm (X++Y)->Z.Pairwise le->(arrOf st').toList=P++Z++S->kindOf st'=κ->failedOf st'=none->pendingOf st'=((pendingOf st).setIfInBounds i (sa,na+nb,pw)).eraseIdxIfInBounds (i+1)->Q true st'):wpS M A E s (mergeAt' i) Q st:=by
 have fX:∀j,j<na->(arrOf st)[sa+j]? =some (X.getD j kd):=λj hj=>by
  rw[<-lKf,harr,lJt,lQb (by omega),h1,lY5,lJt,lK6 (by omega)]
  exact jKg (by omega)
 have fY:∀j,j<nb->(arrOf st)[sb+j]? =some (Y.getD j kd):=λj hj=>by
  rw[<-lKf,harr,lJt,lQb (by omega),h1,lJt,lQb (by omega),h2,lK6 (by omega),show sb+j-sa-na=j by omega]
  exact jKg (by omega)
 have mX':∀j,j<na->mem (X.getD j kd):=λj hj=>mX _ (lJs (jKg (by omega)))
 have mY':∀j,j<nb->mem (Y.getD j kd):=λj hj=>mY _ (lJs (jKg (by omega)))
 refine lJf (lQj ?_);simp only[hp1,hp2];refine lJf (uJ1 ?_);have hy0:=fY 0 (by omega)
 rw[lXg] at hy0;refine lJf (jKc hy0 ?_);refine lJf (jU5 (f:=λj=>X.getD j kd) H (by exact hk) (mY' 0 (by omega)) fX mX' (λp q hpq hq=>jZ1 H sX mX p q hpq (by omega)) (by omega) λk hk1 hk2 hk3=> ?_)
 dsimp only
 simp only[bey,lKs,lKi,lJ5,lVv] at hk2 hk3
 have inX:∀x,x∈X->∃j,j<na/\x=X.getD j kd:=λx hx=>by
  (obtain⟨j,hj⟩:=lJ9 hx)
  have hl:=(lJk.mp hj).1;exact⟨j,by omega,by rw[jKg hl] at hj;exact (lJ3 hj).symm⟩
 have inY:∀x,x∈Y->∃j,j<nb/\x=Y.getD j kd:=λx hx=>by
  (obtain⟨j,hj⟩:=lJ9 hx)
  have hl:=(lJk.mp hj).1;exact⟨j,by omega,by rw[jKg hl] at hj;exact (lJ3 hj).symm⟩
 have y0:∀y,y∈Y->le (Y.getD 0 kd) y:=λy hy=>by
  obtain⟨j,hj,rfl⟩:=inY y hy;exact jZ1 H sY mY 0 j (lJ6 _) (by omega)
 have xl:∀x,x∈X->le x (X.getD (na-1) kd):=λx hx=>by
  obtain⟨j,hj,rfl⟩:=inX x hx;exact jZ1 H sX mX j (na-1) (by omega) (by omega)
 have lowX:∀x,x∈X.take k->∀y,y∈Y->le x y:=λx hx y hy=>by
  (obtain⟨j,hj⟩:=lJ9 hx)
  rw[lQ0] at hj;split at hj
  .rename_i hjk
   rw[jKg (by omega)] at hj
   have:=hk2 j hjk;rw[lJ3 hj] at this;exact H.tr _ _ _ (mX _ (lQa hx)) (mY' 0 (by omega)) (mY _ hy) this (y0 y hy)
  .cases hj
 refine jJ7 (λd1=> ?_) λd1=> ?_
 .refine lJg (h (X++Y) _ (.refl _) (lKh.mpr ⟨sX,sY,λx hx y hy=>lowX x ?_ y hy⟩) harr hk hfl rfl)
  rw[lQm (by omega)];exact hx
 refine lJf (jKc (x:=X.getD (na-1) kd) (by rw[show sa+k+(na-k)-1=sa+(na-1) by omega];exact fX _ (by omega)) ?_)
 have mk:=mX' (na-1) (by omega)
 refine lJf (jU5 (f:=λj=>Y.getD j kd) H (by exact hk) mk fY mY' (λp q hpq hq=>jZ1 H sY mY p q hpq (by omega)) (by omega) λk2 e1 e2 e3=> ?_)
 dsimp only
 simp only[bey,lKm,lX8,lVv,lZ1,lJ5] at e2 e3
 have highY:∀y,y∈Y.drop k2->∀x,x∈X->le x y:=λy hy x hx=>by
  obtain⟨j,hj⟩:=lJ9 hy;rw[lXk] at hj;have hl:=(lJk.mp hj).1;rw[jKg hl] at hj;have:=e3 (k2+j) (by omega) (by omega)
  rw[lJ3 hj] at this;exact H.tr _ _ _ (mX _ hx) mk (mY _ (lQs hy)) (xl x hx) this
 refine jJ7 (λd2=> ?_) λd2=> ?_
 .refine lJg (h (X++Y) _ (.refl _) (lKh.mpr ⟨sX,sY,λx hx y hy=>highY y ?_ x hx⟩) harr hk hfl rfl)
  rw[d2];exact hy
 have exX:((arrOf st).extract (sa+k) sb).toList=X.drop k:=by
  rw[jXa,harr,lJt,lJt,<-h1,lZ4,lVr (by omega),lXe,lY5,lY4 (by omega),lVs (by simp;omega),lQm (by simp;omega)]
 have exY:((arrOf st).extract sb (sb+k2)).toList=Y.take k2:=by
  rw[jXa,harr,lJt,lJt,<-lJt P,lZ4,lVr (by simp;omega),lXe,show sb-(P++X).length=0 by simp;omega,lYb,lVs (by omega),lY5]
 have szX:((arrOf st).extract (sa+k) sb).size=na-k:=by rw[<-lKg,exX,lQf,h2]
 have szY:((arrOf st).extract sb (sb+k2)).size=k2:=by rw[<-lKg,exY,lKe,h4];omega
 have fin:∀(r:Array Keyed) g,Fin2 le ((arrOf st).extract (sa+k) sb) ((arrOf st).extract sb (sb+k2)) r->Q (failedOf (jKu st g)).isNone (SortSt.mk' (kindOf st) (r.toList.zipIdx.foldl (λa x=>a.setIfInBounds (sa+k+x.snd) x.fst) (arrOf st)) (((pendingOf st).setIfInBounds i (sa,na+nb,pw)).eraseIdxIfInBounds (i+1)) g (failedOf st)):=by
  rintro r g ⟨fp,fs⟩;rw[exX,exY] at fp;have hrl:r.toList.length=(na-k)+k2:=by rw[fp.length_eq,lJ4,lQf,lKe];omega
  have hal:(arrOf st).size=sa+(na+nb)+S.length:=by rw[<-lKg,harr];simp;omega
  have e:=kJn r.toList (sa+k) (arrOf st) 0 (by omega)
  have e2':(failedOf (jKu st g)).isNone=true:=by show (failedOf st).isNone=true;rw[hfl];rfl
  rw[e2'];have inr:∀z,z∈r.toList->z∈X.drop k\/z∈Y.take k2:=λz hz=>lJn.mp (fp.mem_iff.mp hz)
  refine h (X.take k++r.toList++Y.drop k2) _ ?_ ?_ ?_ hk hfl rfl
  .have:(X.take k++r.toList++Y.drop k2).Perm (X.take k++(X.drop k++Y.take k2)++Y.drop k2):=lX9 _ (lV5 _ fp);refine this.trans (List.Perm.of_eq ?_);rw[<-lJt,lK9,lJt,lK9]
  .have sX':(X.take k++X.drop k).Pairwise le:=by rw[lK9];exact sX
   have sY':(Y.take k2++Y.drop k2).Pairwise le:=by rw[lK9];exact sY
   obtain⟨a1,a2,a3⟩:=lKh.mp sX';obtain⟨b1,b2,b3⟩:=lKh.mp sY';refine lKh.mpr ⟨lKh.mpr ⟨a1,fs,λx hx z hz=> ?_⟩,b2,λx hx y hy=> ?_⟩
   .rcases inr z hz with w | w
    .exact a3 x hx z w
    .exact lowX x hx z (lQa w)
   .rcases (lJn.mp hx) with w | w
    .exact highY y hy x (lQa w)
    .rcases inr x w with w | w
     .exact highY y hy x (lQs w)
     .exact b3 x w y hy
  .show (List.foldl _ _ _:Array Keyed).toList=_
   rw[e,lXg,hrl,show sa+k+(na-k+k2)=sb+k2 by omega]
   have t1:(arrOf st).toList.take (sa+k)=P++X.take k:=by
    rw[harr,lJt,lJt,<-h1,List.take_append,lQm (by omega),lY5,lVs (by omega)]
   have t2:(arrOf st).toList.drop (sb+k2)=Y.drop k2++S:=by
    rw[harr,lJt,lJt,<-lJt P,lZ4,lVr (by simp;omega),lXe,show sb+k2-(P++X).length=k2 by simp;omega,lY4 (by omega)]
   rw[t1,t2];simp only[lJt]
 have pa:((arrOf st).extract (sa+k) sb).toList.Pairwise le:=by rw[exX];exact sX.sublist (lVd ..)
 have pb:((arrOf st).extract sb (sb+k2)).toList.Pairwise le:=by rw[exY];exact sY.sublist (lQ8 ..)
 have pma:∀x,x∈((arrOf st).extract (sa+k) sb).toList->mem x:=λx hx=>by rw[exX] at hx;exact mX x (lQs hx)
 have pmb:∀x,x∈((arrOf st).extract sb (sb+k2)).toList->mem x:=λx hx=>by rw[exY] at hx;exact mY x (lQa hx)
 have pf:∀x,((arrOf st).extract sb (sb+k2))[0]? =some x->∀y,y∈((arrOf st).extract (sa+k) sb).toList->le x y:=λx hx y hy=>by
  rw[<-lKf,exY,lQ0,lJc (by omega),jKg (by omega)] at hx
  rw[<-lJ3 hx];rw[exX] at hy;obtain⟨j,hj⟩:=lJ9 hy;rw[lXk] at hj;have hl:=(lJk.mp hj).1;rw[jKg hl] at hj;have:=hk3 (k+j) (by omega) (by omega)
  rw[lJ3 hj] at this;exact (H.tot _ _ (mX _ (lQs hy)) (mY' 0 (by omega))).resolve_left this
 have pl:∀x,((arrOf st).extract (sa+k) sb)[((arrOf st).extract (sa+k) sb).size-1]? =some x->∀y,y∈((arrOf st).extract sb (sb+k2)).toList->le y x:=λx hx y hy=>by
  rw[szX,<-lKf,exX,lXk,show k+(na-k-1)=na-1 by omega,jKg (by omega)] at hx
  rw[<-lJ3 hx];rw[exY] at hy;obtain⟨j,hj⟩:=lJ9 hy;rw[lQ0] at hj;split at hj
  .rename_i hjk
   rw[jKg (by omega)] at hj
   have:=e2 j hjk;rw[lJ3 hj] at this;exact (H.tot _ _ mk (mY _ (lQa hy))).resolve_left this
  .cases hj
 have qa:1<=((arrOf st).extract (sa+k) sb).size:=by rw[szX];omega
 have qb:1<=((arrOf st).extract sb (sb+k2)).size:=by rw[szY];omega
 split
 .refine lJf (qKa H (by exact hk) qa qb pa pb pma pmb pf pl λr g fr=> ?_)
  refine lJf (lKn (lJf (lQj (lJg ?_))));exact fin r g fr
 .refine lJf (qKb H (by exact hk) qa qb pa pb pma pmb pf pl λr g fr=> ?_)
  refine lJf (lKn (lJf (lQj (lJg ?_))));exact fin r g fr
end
variable {a0 xs:Array Keyed}{lo hi p:Nat}{pe:Array (Nat×Nat×Nat)}
section
variable {mem:Keyed->Prop}[∀x y,Decidable (le x y)]
structure SB (κ:SortKind) (a0:Array Keyed) (lo hi:Nat) (pe:Array (Nat×Nat×Nat)) (st:SortSt):Prop where
 kind:kindOf st=κ
 fail:failedOf st=none
 pend:pendingOf st=pe
 perm:(arrOf st).Perm a0
 out:∀p,(p<lo\/hi<=p)->(arrOf st)[p]? =a0[p]?
noncomputable abbrev Vl(st:SortSt)(p:Nat):Keyed:=(arrOf st).getD p kd
def SrtA(le:Keyed->Keyed->Prop)(st:SortSt)(lo n:Nat):Prop:=∀p q,p<q->q<n->le (Vl st (lo+p)) (Vl st (lo+q))
theorem SB.size(h:SB κ a0 lo hi pe st):(arrOf st).size=a0.size:=h.perm.size_eq
theorem SB.at(h:SB κ a0 lo hi pe st)(hp:p<a0.size):(arrOf st)[p]? =some (Vl st p):=by
 have:p<(arrOf st).size:=by rw[h.size];exact hp
 simp[Array.getD,this]
theorem SB.inn(h:SB κ a0 lo hi pe st)(hm:∀x,x∈a0.toList->mem x)(hp:p<a0.size):mem (Vl st p):=by
 have:=jKj (h.at hp);exact hm _ ((mJw.mp h.perm).mem_iff.mp this)
theorem jYu(H:Asks M A s κ mem le)(hm:∀x,x∈a0.toList->mem x)(h:SB κ a0 lo hi pe st)(hi:i<a0.size)(hj:j<a0.size)(q:Q (some (!decide (le (Vl st j) (Vl st i)))) st):wpS M A E s (ltAt' i j) Q st:=by
 rw[ltAt'_eq];refine lJf (lQj ?_);exact lJf (jKc (h.at hi) (lJf (jKc (h.at hj) (qUy H (h.inn hm hi) (h.inn hm hj) h.kind q))))
theorem SB.set(h:SB κ a0 lo hi pe st)(hp:xs.Perm (arrOf st))(ho:∀p,(p<lo\/hi<=p)->xs[p]? =(arrOf st)[p]?):SB κ a0 lo hi pe (setArr st xs):=
 ⟨h.kind,h.fail,h.pend,hp.trans h.perm,λp hp=>(ho p hp).trans (h.out p hp)⟩
theorem kKd{ys:Array Keyed}(h:xs[i]? =ys[j]?):xs.getD i kd=ys.getD j kd:=by
 rw[lXj,lXj,h]
theorem uYc{k l:Nat}(hs:lo+k<(arrOf st).size)(hl:l<=k):Vl (setArr st (bubble (arrOf st) (lo+k) (lo+k-(lo+l)))) (lo+p)=if p=l then Vl st (lo+k) else if l<p/\p<=k then Vl st (lo+(p-1)) else Vl st (lo+p):=by
 have e:=getElem?_bubble hs (lo+k-(lo+l)) (by omega) (lo+p)
 by_cases h1:p=l
 .rw[lJc (by omega)] at e
  rw[lJc h1];exact kKd e
 .rw[lJa (by omega)] at e
  rw[lJa h1]
  by_cases h2:l<p/\p<=k
  .rw[lJc (by omega)] at e
   rw[lJc h2];exact kKd (e.trans (by rw[show lo+p-1=lo+(p-1) by omega]))
  .rw[lJa (by omega)] at e
   rw[lJa h2];exact kKd e
theorem kU4(H:Asks M A s κ mem le)(hm:∀x,x∈a0.toList->mem x)(h:SB κ a0 lo hi pe st){ok:Nat}(hok:1<=ok)(hn:ok<=n)(hl:lo+n<=hi)(hh:hi<=a0.size)(hs:SrtA le st lo ok){Q:Bool->SortSt->Prop}(q:∀st',SB κ a0 lo hi pe st'->SrtA le st' lo n->Q true st'):wpS M A E s (binarySort' lo n ok) Q st:=by
 rw[binarySort'_eq];refine lJf (lKq (lKr (I:=λk (c:Option Bool×Unit) st'=>c=(none,())/\SB κ a0 lo hi pe st'/\SrtA le st' lo k) (Q:=λ(c:Option Bool×Unit) st'=>c=(none,())/\SB κ a0 lo hi pe st'/\SrtA le st' lo n) ?_ ?_ ⟨rfl,h,by rw[Nat.max_eq_left hok];exact hs⟩) ?_)
 .rintro k c st1 hk hkn ⟨rfl,B,S⟩;have hks:lo+k<a0.size:=by omega
  dsimp only
  have mV:∀p,p<=k->mem (Vl st1 (lo+p)):=λp hp=>B.inn hm (by omega)
  have S':∀p q,p<=q->q<k->le (Vl st1 (lo+p)) (Vl st1 (lo+q)):=λp q hpq hq=>by
   rcases lK2 hpq with z | rfl
   .exact S p q z hq
   .exact (H.tot _ _ (mV p (by omega)) (mV p (by omega))).elim id id
  refine lJf (lKq (lKr (I:=λi (c:Option Bool×Nat×Nat) st'=>st1=st'/\c.1=none/\c.2.1<=c.2.2/\c.2.2<=k/\c.2.2-c.2.1<=k-i/\(∀p,p<c.2.1->le (Vl st1 (lo+p)) (Vl st1 (lo+k)))/\(∀p,c.2.2<=p->p<k->le (Vl st1 (lo+k)) (Vl st1 (lo+p))))
   (Q:=λ(c:Option Bool×Nat×Nat) st'=>st1=st'/\c.1=none/\c.2.1<=k/\(∀p,p<c.2.1->le (Vl st1 (lo+p)) (Vl st1 (lo+k)))/\(∀p,c.2.1<=p->p<k->le (Vl st1 (lo+k)) (Vl st1 (lo+p)))) ?_ ?_ ⟨rfl,rfl,Nat.zero_le _,Nat.le_refl _,by dsimp only;omega,λp hp=>absurd hp (Nat.not_lt_zero _),λp h1 h2=>absurd h2 (by dsimp only at h1;omega)⟩) ?_)
  .rintro i ⟨r0,l,r⟩ st2 _ hi2 ⟨rfl,rfl,i1,i2,i3,i4,i5⟩
   dsimp only at i1 i2 i3 i4 i5 ⊢
   by_cases c:l>=r
   .rw[lJc c];exact wpS_pure ⟨rfl,rfl,by dsimp only;omega,i4,λp h1 h2=>i5 p (by dsimp only at h1;omega) h2⟩
   .rw[lJa c];have hmm:(l+r) / 2<k:=by omega
    refine lJf (jYu H hm B (by omega) (by omega) ?_)
    by_cases w:le (Vl st1 (lo+(l+r) / 2)) (Vl st1 (lo+k))
    .rw[lJq w]
     dsimp only
     rw[lJa (by decide)]
     exact wpS_pure ⟨rfl,rfl,by dsimp only;omega,i2,by dsimp only;omega,λp hp=>H.tr _ _ _ (mV p (by dsimp only at hp;omega)) (mV _ (by omega)) (mV k (Nat.le_refl _)) (S' p _ (by dsimp only at hp;omega) hmm) w,i5⟩
    .rw[lJy w]
     dsimp only
     (rw[lJc (show (!false)=true from rfl)])
     have w':=(H.tot _ _ (mV _ (by omega)) (mV k (lJh _))).resolve_left w
     exact wpS_pure ⟨rfl,rfl,by dsimp only;omega,by dsimp only;omega,by dsimp only;omega,i4,λp h1 h2=>H.tr _ _ _ (mV k (Nat.le_refl _)) (mV _ (by omega)) (mV p (by omega)) w' (S' _ p h1 h2)⟩
  .rintro⟨r0,l,r⟩ st2 ⟨rfl,rfl,i1,i2,i3,i4,i5⟩
   dsimp only at i1 i2 i3 i4 i5 ⊢
   exact⟨rfl,rfl,by omega,i4,λp h1 h2=>i5 p (by omega) h2⟩
  .rintro⟨r0,l,r⟩ st2 ⟨rfl,rfl,i1,i2,i3⟩
   dsimp only at i1 i2 i3 ⊢
   rw[moveDown'_eq];have hsz:lo+k<(arrOf st1).size:=by rw[B.size];exact hks
   refine lJf (lKn (lJg ⟨rfl,B.set (bubble_perm ..) (λp hp=> ?_),λp q' hpq hq=> ?_⟩))
   .rw[getElem?_bubble hsz _ (by omega),lJa (by omega),lJa (by omega)]
   .rw[uYc hsz i1,uYc hsz i1]
    by_cases e1:p=l
    .rw[lJc e1,lJa (by omega),lJc ⟨by omega,by omega⟩]
     exact i3 _ (by omega) (by omega)
    .rw[lJa e1]
     by_cases e2:q'=l
     .rw[lJc e2,lJa (by omega)]
      exact i2 p (by omega)
     .rw[lJa e2]
      by_cases e3:l<p/\p<=k
      .rw[lJc e3,lJc ⟨by omega,by omega⟩]
       exact S _ _ (by omega) (by omega)
      .rw[lJa e3]
       by_cases e4:l<q'/\q'<=k
       .rw[lJc e4];exact S' _ _ (by omega) (by omega)
       .rw[lJa e4];exact S _ _ hpq (by omega)
 .rintro c st1 ⟨rfl,B,S⟩;refine⟨rfl,B,?_⟩
  rwa [show max (max ok 1) n=n by omega] at S
 .rintro c st1 ⟨rfl,B,S⟩
  dsimp only
  exact lJg (q _ B S)
end
section
variable {mem:Keyed->Prop}[∀x y,Decidable (le x y)]
def NInc(le:Keyed->Keyed->Prop)(st:SortSt)(lo n:Nat):Prop:=∀p q,p<q->q<n->le (Vl st (lo+q)) (Vl st (lo+p))
noncomputable abbrev revS(st:SortSt)(i j:Nat):SortSt:=setArr st (mirror (arrOf st) i j ((j-i) / 2))
theorem jZy(hj:lo+j<=(arrOf st).size):Vl (revS st (lo+i) (lo+j)) (lo+p)=if i<=p/\p<j then Vl st (lo+(i+j-1-p)) else Vl st (lo+p):=by
 have e:=getElem?_mirror_all (i:=lo+i) hj (lo+p)
 by_cases h:i<=p/\p<j
 .rw[lJc (by omega)] at e
  rw[lJc h];exact kKd (e.trans (by rw[show lo+i+(lo+j)-1-(lo+p)=lo+(i+j-1-p) by omega]))
 .rw[lJa (by omega)] at e
  rw[lJa h];exact kKd e
theorem SB.rev(h:SB κ a0 lo hi pe st)(hj:lo+j<=hi)(hh:hi<=a0.size):SB κ a0 lo hi pe (revS st (lo+i) (lo+j)):=
 h.set (mirror_perm ..) λp hp=>by rw[getElem?_mirror_all (by rw[h.size];omega),lJa (by omega)]
theorem NInc.flip(h:NInc le st lo n)(hn:lo+n<=(arrOf st).size):SrtA le (revS st (lo+0) (lo+n)) lo n:=λp q hpq hq=>by
 rw[jZy hn,jZy hn,lJc ⟨lJ6 _,by omega⟩,lJc ⟨lJ6 _,hq⟩]
 exact h _ _ (by omega) (by omega)
theorem SrtA.flip(h:SrtA le st lo n)(hn:lo+n<=(arrOf st).size):NInc le (revS st (lo+0) (lo+n)) lo n:=λp q hpq hq=>by
 rw[jZy hn,jZy hn,lJc ⟨lJ6 _,hq⟩,lJc ⟨lJ6 _,by omega⟩]
 exact h _ _ (by omega) (by omega)
theorem NInc.part(h:NInc le st lo n)(hn:lo+n<=(arrOf st).size)(hm:m<=n)(he:∀p q,m<=p->p<n->m<=q->q<n->le (Vl st (lo+p)) (Vl st (lo+q))):NInc le (revS st (lo+m) (lo+n)) lo n:=λp q hpq hq=>by
 rw[jZy hn,jZy hn]
 by_cases h1:m<=p
 .rw[lJc ⟨by omega,hq⟩,lJc ⟨h1,by omega⟩]
  exact he _ _ (by omega) (by omega) (by omega) (by omega)
 .rw[lJa (by omega:¬ (m<=p/\p<n))]
  by_cases h2:m<=q
  .rw[lJc ⟨h2,hq⟩];exact h _ _ (by omega) (by omega)
  .rw[lJa (by omega)]
   exact h _ _ hpq hq
def Seg(le:Keyed->Keyed->Prop)(st:SortSt)(lo i e:Nat):Prop:=∀p q,i-(e+1)<=p->p<i->i-(e+1)<=q->q<i->le (Vl st (lo+p)) (Vl st (lo+q))
theorem NInc.up(H:Asks M A s κ mem le)(hm:∀x,x∈a0.toList->mem x)(B:SB κ a0 lo hi pe st)(hn1:1<=n)(hn:lo+n<a0.size)(h:NInc le st lo n)(w:le (Vl st (lo+n)) (Vl st (lo+(n-1)))):NInc le st lo (n+1):=λp q hpq hq=>by
 rcases lK2 (lK8 hq) with z | rfl
 .exact h p q hpq z
 .rcases lK2 (show p<=q-1 by omega) with y | rfl
  .exact H.tr _ _ _ (B.inn hm hn) (B.inn hm (by omega)) (B.inn hm (by omega)) w (h p (q-1) y (by omega))
  .exact w
theorem Seg.part{e:Nat}(h:Seg le st lo n e)(N:NInc le st lo n){hn:lo+n<=(arrOf st).size}:NInc le (revS st (lo+(n-(e+1))) (lo+n)) lo n:=N.part hn (by omega) h
theorem kYt(H:Asks M A s κ mem le)(hm:∀x,x∈a0.toList->mem x)(h:SB κ a0 lo hi pe st){nrem:Nat}(h1:1<=nrem)(hl:lo+nrem<=hi)(hh:hi<=a0.size){Q:Option Nat->SortSt->Prop}(q:∀n st',SB κ a0 lo hi pe st'->1<=n->n<=nrem->SrtA le st' lo n->Q (some n) st'):wpS M A E s (countRun' lo nrem) Q st:=by
 rw[countRun'_eq]
 have up:∀(st':SortSt) n,SB κ a0 lo hi pe st'->1<=n->n<nrem->SrtA le st' lo n->le (Vl st' (lo+n-1)) (Vl st' (lo+n))->SrtA le st' lo (n+1):=λst' n B hn hnr S w p q hpq hq=>by
  rcases lK2 (lK8 hq) with z | rfl
  .exact S p q hpq z
  .rw[show lo+q-1=lo+(q-1) by omega] at w
   rcases lK2 (show p<=q-1 by omega) with y | rfl
   .exact H.tr _ _ _ (B.inn hm (by omega)) (B.inn hm (by omega)) (B.inn hm (by omega)) (S p (q-1) y (by omega)) w
   .exact w
 refine lJf (lKq (lKr (I:=λi (c:Option (Option Nat)×Nat) st'=>st=st'/\c=(none,i)/\SrtA le st lo i) (Q:=λ(c:Option (Option Nat)×Nat) st'=>st=st'/\c.1=none/\1<=c.2/\c.2<=nrem/\SrtA le st lo c.2/\(c.2<nrem->¬ le (Vl st (lo+c.2-1)) (Vl st (lo+c.2)))) ?_ ?_ ⟨rfl,rfl,λp q hpq hq=>absurd hq (by omega)⟩) ?_)
 .rintro i c st1 hi1 hi2 ⟨rfl,rfl,S⟩
  dsimp only
  refine lJf (jYu H hm h (by omega) (by omega) ?_)
  by_cases w:le (Vl st (lo+i-1)) (Vl st (lo+i))
  .rw[lJq w]
   dsimp only
   rw[lJa (by decide)]
   exact lJg ⟨rfl,rfl,up st i h hi1 hi2 S w⟩
  .rw[lJy w]
   dsimp only
   (rw[lJc (show (!false)=true from rfl)])
   exact wpS_pure ⟨rfl,rfl,hi1,by dsimp only;omega,S,λ_=>w⟩
 .rintro c st1 ⟨rfl,rfl,S⟩;rw[show max 1 nrem=nrem by omega] at S ⊢
  exact⟨rfl,rfl,h1,lJh _,S,λz=>absurd z (lQx _)⟩
 .rintro⟨r,n⟩ st1 ⟨rfl,rfl,n1,n2,S,W⟩
  dsimp only at n1 n2 S W ⊢
  refine jJ7 (λd=> ?_) λd=> ?_
  .exact lJg (q n st h n1 n2 S)
  have nlt:n<nrem:=by omega
  have en:lo+n-1=lo+(n-1):=by omega
  rw[en] at W;have W':=(H.tot _ _ (h.inn hm (by omega)) (h.inn hm (by omega))).resolve_left (W nlt)
  by_cases cn:n>1
  .rw[lJc cn];refine lJf (jYu H hm h (by omega) (by omega) ?_)
   rw[en]
   by_cases w:le (Vl st (lo+(n-1))) (Vl st lo)
   .rw[lJq w]
    dsimp only
    rw[lJa (by decide),lVm]
    have hsz:lo+n<=(arrOf st).size:=by rw[h.size];omega
    have B2:=h.rev (i:=0) (j:=n) (by omega) hh
    have N2:NInc le (revS st (lo+0) (lo+n)) lo (n+1):=by
     refine (S.flip hsz).up H hm B2 n1 (by omega) ?_
     rw[jZy hsz,jZy hsz,lJa (by omega),lJc (by omega),show 0+n-1-(n-1)=0 by omega,lXg]
     exact H.tr _ _ _ (h.inn hm (by omega)) (h.inn hm (by omega)) (h.inn hm (by omega)) W' w
    refine lJf (lKn ?_)
    (refine lJf (lVu (lQc ⟨rfl,?_⟩)))
    refine lJf (lKq (lKr (I:=λi (c:Option (Option Nat)×Nat×Nat) st'=>SB κ a0 lo hi pe st'/\c.1=none/\c.2.1=i/\NInc le st' lo i/\c.2.2+1<=i/\Seg le st' lo i c.2.2)
     (Q:=λ(c:Option (Option Nat)×Nat×Nat) st'=>SB κ a0 lo hi pe st'/\c.1=none/\1<=c.2.1/\c.2.1<=nrem/\NInc le st' lo c.2.1/\c.2.2+1<=c.2.1/\Seg le st' lo c.2.1 c.2.2) ?_ ?_ ⟨B2,rfl,rfl,N2,by dsimp only;omega,λp q a1 a2 a3 a4=>by
      obtain rfl:p=q:=by dsimp only at a1 a3;omega
      exact (H.tot _ _ (B2.inn hm (by omega)) (B2.inn hm (by omega))).elim id id⟩) ?_)
    .rintro i ⟨r,i',e⟩ st3 hi1 hi2 ⟨B,rfl,rfl,N,he,sg⟩
     dsimp only at N he sg hi1 hi2 ⊢
     have ei:lo+i'-1=lo+(i'-1):=by omega
     refine lJf (jYu H hm B (by omega) (by omega) ?_)
     rw[ei]
     by_cases w:le (Vl st3 (lo+(i'-1))) (Vl st3 (lo+i'))
     .rw[lJq w]
      dsimp only
      rw[lJa (by decide)]
      refine lJf (jYu H hm B (by omega) (by omega) ?_)
      by_cases w2:le (Vl st3 (lo+i')) (Vl st3 (lo+(i'-1)))
      .rw[lJq w2]
       dsimp only
       rw[lJa (by decide)]
       refine wpS_pure ⟨B,rfl,rfl,N.up H hm B (by omega) (by omega) w2,by dsimp only;omega,λp q a1 a2 a3 a4=> ?_⟩
       dsimp only at a1 a3
       have to:∀p,i'-(e+1)<=p->p<i'->le (Vl st3 (lo+p)) (Vl st3 (lo+i'))/\le (Vl st3 (lo+i')) (Vl st3 (lo+p)):=λp b1 b2=>
        ⟨H.tr _ _ _ (B.inn hm (by omega)) (B.inn hm (by omega)) (B.inn hm (by omega)) (sg p (i'-1) b1 b2 (by omega) (by omega)) w,H.tr _ _ _ (B.inn hm (by omega)) (B.inn hm (by omega)) (B.inn hm (by omega)) w2 (sg (i'-1) p (by omega) (by omega) b1 b2)⟩
       by_cases ep:p=i'
       .by_cases eq:q=i'
        .rw[ep,eq];exact (H.tot _ _ (B.inn hm (by omega)) (B.inn hm (by omega))).elim id id
        .rw[ep];exact (to q (by omega) (by omega)).2
       .by_cases eq:q=i'
        .rw[eq];exact (to p (by omega) (by omega)).1
        .exact sg p q (by omega) (by omega) (by omega) (by omega)
      .rw[lJy w2]
       dsimp only
       (rw[lJc (show (!false)=true from rfl)])
       exact wpS_pure ⟨B,rfl,by dsimp only;omega,by dsimp only;omega,N,he,sg⟩
     .rw[lJy w]
      dsimp only
      (rw[lJc (show (!false)=true from rfl)])
      have w':=(H.tot _ _ (B.inn hm (by omega)) (B.inn hm (by omega))).resolve_left w
      have one:∀st4,SB κ a0 lo hi pe st4->Seg le st4 lo (i'+1) 0:=λst4 B4 p q a1 a2 a3 a4=>by
       obtain rfl:p=q:=by omega
       exact (H.tot _ _ (B4.inn hm (by omega)) (B4.inn hm (by omega))).elim id id
      by_cases ce:e>0
      .rw[lJc ce,lVm,show lo+i'-(e+1)=lo+(i'-(e+1)) by omega]
       have hsz:lo+i'<=(arrOf st3).size:=by rw[B.size];omega
       have B4:=B.rev (i:=i'-(e+1)) (j:=i') (by omega) hh
       have N4:=sg.part N (hn:=hsz);refine wpS_bind (wpS_modify (wpS_pure ⟨B4,rfl,rfl,N4.up H hm B4 (by omega) (by omega) ?_,by dsimp only;omega,one _ B4⟩))
       rw[jZy hsz,jZy hsz,lJa (by omega),lJc (by omega)]
       exact H.tr _ _ _ (B.inn hm (by omega)) (B.inn hm (by omega)) (B.inn hm (by omega)) w' (sg _ _ (by omega) (by omega) (by omega) (by omega))
      .rw[lJa ce];exact wpS_pure ⟨B,rfl,rfl,N.up H hm B (by omega) (by omega) w',by dsimp only;omega,one _ B⟩
    .rintro⟨r,i',e⟩ st3 ⟨B,rfl,rfl,N,he,sg⟩
     dsimp only at N he sg ⊢
     exact⟨B,rfl,by omega,by omega,N,he,sg⟩
    .rintro⟨r,i',e⟩ st3 ⟨B,rfl,b1,b2,N,he,sg⟩
     dsimp only at b1 b2 N he sg ⊢
     have hsz:lo+i'<=(arrOf st3).size:=by rw[B.size];omega
     by_cases ce:e>0
     all_goals first | rw[lJc ce,lVm,lVm,show lo+i'-(e+1)=lo+(i'-(e+1)) by omega] | rw[lJa ce,lVm]
     all_goals first
      | (have N4:=sg.part N (hn:=hsz)
         have B4:=B.rev (i:=i'-(e+1)) (j:=i') (by omega) hh
         have S5:=N4.flip (by rw[B4.size];omega)
         have B5:=B4.rev (i:=0) (j:=i') (by omega) hh
         refine lJf (lKn (lJf (lKn ?_)))
         skip)
      | (have S5:=N.flip hsz
         have B5:=B.rev (i:=0) (j:=i') (by omega) hh
         refine lJf (lKn ?_)
         skip)
     all_goals refine lJf (lKq (lKr (I:=λi (c:Option (Option Nat)×Nat) st'=>SB κ a0 lo hi pe st'/\c=(none,i)/\SrtA le st' lo i) (Q:=λ(c:Option (Option Nat)×Nat) st'=>SB κ a0 lo hi pe st'/\c.1=none/\1<=c.2/\c.2<=nrem/\SrtA le st' lo c.2) ?_ ?_ ⟨B5,rfl,S5⟩) ?_)
     all_goals first
      | (rintro i c st6 hi1 hi2 ⟨B6,rfl,S6⟩
         dsimp only
         refine lJf (jYu H hm B6 (by omega) (by omega) ?_)
         by_cases w:le (Vl st6 (lo+i-1)) (Vl st6 (lo+i))
         .rw[lJq w]
          dsimp only
          rw[lJa (by decide)]
          exact lJg ⟨B6,rfl,up st6 i B6 (by omega) hi2 S6 w⟩
         .rw[lJy w]
          dsimp only
          (rw[lJc (show (!false)=true from rfl)])
          exact wpS_pure ⟨B6,rfl,by dsimp only;omega,by dsimp only;omega,S6⟩)
      | (rintro c st6 ⟨B6,rfl,S6⟩
         rw[show max i' nrem=nrem by omega] at S6 ⊢
         exact⟨B6,rfl,h1,lJh _,S6⟩)
      | (rintro⟨r,k⟩ st6 ⟨B6,rfl,k1,k2,S6⟩
         dsimp only at k1 k2 S6 ⊢
         exact lJg (q k st6 B6 k1 k2 S6))
   .rw[lJy w]
    dsimp only
    (rw[lJc (show (!false)=true from rfl)])
    exact lJg (q n st h n1 n2 S)
  .rw[lJa cn];obtain rfl:n=1:=by omega
   have B2:=h
   have N2:NInc le st lo (1+1):=λp q hpq hq=>by
    obtain rfl:p=0:=by omega
    obtain rfl:q=1:=by omega
    exact W'
   (refine lJf (lVu (lQc ⟨rfl,?_⟩)))
   refine lJf (lKq (lKr (I:=λi (c:Option (Option Nat)×Nat×Nat) st'=>SB κ a0 lo hi pe st'/\c.1=none/\c.2.1=i/\NInc le st' lo i/\c.2.2+1<=i/\Seg le st' lo i c.2.2)
    (Q:=λ(c:Option (Option Nat)×Nat×Nat) st'=>SB κ a0 lo hi pe st'/\c.1=none/\1<=c.2.1/\c.2.1<=nrem/\NInc le st' lo c.2.1/\c.2.2+1<=c.2.1/\Seg le st' lo c.2.1 c.2.2) ?_ ?_ ⟨B2,rfl,rfl,N2,by dsimp only;omega,λp q a1 a2 a3 a4=>by
     obtain rfl:p=q:=by dsimp only at a1 a3;omega
     exact (H.tot _ _ (B2.inn hm (by omega)) (B2.inn hm (by omega))).elim id id⟩) ?_)
   .rintro i ⟨r,i',e⟩ st3 hi1 hi2 ⟨B,rfl,rfl,N,he,sg⟩
    dsimp only at N he sg hi1 hi2 ⊢
    have ei:lo+i'-1=lo+(i'-1):=by omega
    refine lJf (jYu H hm B (by omega) (by omega) ?_)
    rw[ei]
    by_cases w:le (Vl st3 (lo+(i'-1))) (Vl st3 (lo+i'))
    .rw[lJq w]
     dsimp only
     rw[lJa (by decide)]
     refine lJf (jYu H hm B (by omega) (by omega) ?_)
     by_cases w2:le (Vl st3 (lo+i')) (Vl st3 (lo+(i'-1)))
     .rw[lJq w2]
      dsimp only
      rw[lJa (by decide)]
      refine wpS_pure ⟨B,rfl,rfl,N.up H hm B (by omega) (by omega) w2,by dsimp only;omega,λp q a1 a2 a3 a4=> ?_⟩
      dsimp only at a1 a3
      have to:∀p,i'-(e+1)<=p->p<i'->le (Vl st3 (lo+p)) (Vl st3 (lo+i'))/\le (Vl st3 (lo+i')) (Vl st3 (lo+p)):=λp b1 b2=>
       ⟨H.tr _ _ _ (B.inn hm (by omega)) (B.inn hm (by omega)) (B.inn hm (by omega)) (sg p (i'-1) b1 b2 (by omega) (by omega)) w,H.tr _ _ _ (B.inn hm (by omega)) (B.inn hm (by omega)) (B.inn hm (by omega)) w2 (sg (i'-1) p (by omega) (by omega) b1 b2)⟩
      by_cases ep:p=i'
      .by_cases eq:q=i'
       .rw[ep,eq];exact (H.tot _ _ (B.inn hm (by omega)) (B.inn hm (by omega))).elim id id
       .rw[ep];exact (to q (by omega) (by omega)).2
      .by_cases eq:q=i'
       .rw[eq];exact (to p (by omega) (by omega)).1
       .exact sg p q (by omega) (by omega) (by omega) (by omega)
     .rw[lJy w2]
      dsimp only
      (rw[lJc (show (!false)=true from rfl)])
      exact wpS_pure ⟨B,rfl,by dsimp only;omega,by dsimp only;omega,N,he,sg⟩
    .rw[lJy w]
     dsimp only
     (rw[lJc (show (!false)=true from rfl)])
     have w':=(H.tot _ _ (B.inn hm (by omega)) (B.inn hm (by omega))).resolve_left w
     have one:∀st4,SB κ a0 lo hi pe st4->Seg le st4 lo (i'+1) 0:=λst4 B4 p q a1 a2 a3 a4=>by
      obtain rfl:p=q:=by omega
      exact (H.tot _ _ (B4.inn hm (by omega)) (B4.inn hm (by omega))).elim id id
     by_cases ce:e>0
     .rw[lJc ce,lVm,show lo+i'-(e+1)=lo+(i'-(e+1)) by omega]
      have hsz:lo+i'<=(arrOf st3).size:=by rw[B.size];omega
      have B4:=B.rev (i:=i'-(e+1)) (j:=i') (by omega) hh
      have N4:=sg.part N (hn:=hsz);refine wpS_bind (wpS_modify (wpS_pure ⟨B4,rfl,rfl,N4.up H hm B4 (by omega) (by omega) ?_,by dsimp only;omega,one _ B4⟩))
      rw[jZy hsz,jZy hsz,lJa (by omega),lJc (by omega)]
      exact H.tr _ _ _ (B.inn hm (by omega)) (B.inn hm (by omega)) (B.inn hm (by omega)) w' (sg _ _ (by omega) (by omega) (by omega) (by omega))
     .rw[lJa ce];exact wpS_pure ⟨B,rfl,rfl,N.up H hm B (by omega) (by omega) w',by dsimp only;omega,one _ B⟩
   .rintro⟨r,i',e⟩ st3 ⟨B,rfl,rfl,N,he,sg⟩
    dsimp only at N he sg ⊢
    exact⟨B,rfl,by omega,by omega,N,he,sg⟩
   .rintro⟨r,i',e⟩ st3 ⟨B,rfl,b1,b2,N,he,sg⟩
    dsimp only at b1 b2 N he sg ⊢
    have hsz:lo+i'<=(arrOf st3).size:=by rw[B.size];omega
    by_cases ce:e>0
    all_goals first | rw[lJc ce,lVm,lVm,show lo+i'-(e+1)=lo+(i'-(e+1)) by omega] | rw[lJa ce,lVm]
    all_goals first
     | (have N4:=sg.part N (hn:=hsz)
        have B4:=B.rev (i:=i'-(e+1)) (j:=i') (by omega) hh
        have S5:=N4.flip (by rw[B4.size];omega)
        have B5:=B4.rev (i:=0) (j:=i') (by omega) hh
        refine lJf (lKn (lJf (lKn ?_)))
        skip)
     | (have S5:=N.flip hsz
        have B5:=B.rev (i:=0) (j:=i') (by omega) hh
        refine lJf (lKn ?_)
        skip)
    all_goals refine lJf (lKq (lKr (I:=λi (c:Option (Option Nat)×Nat) st'=>SB κ a0 lo hi pe st'/\c=(none,i)/\SrtA le st' lo i) (Q:=λ(c:Option (Option Nat)×Nat) st'=>SB κ a0 lo hi pe st'/\c.1=none/\1<=c.2/\c.2<=nrem/\SrtA le st' lo c.2) ?_ ?_ ⟨B5,rfl,S5⟩) ?_)
    all_goals first
     | (rintro i c st6 hi1 hi2 ⟨B6,rfl,S6⟩
        dsimp only
        refine lJf (jYu H hm B6 (by omega) (by omega) ?_)
        by_cases w:le (Vl st6 (lo+i-1)) (Vl st6 (lo+i))
        .rw[lJq w]
         dsimp only
         rw[lJa (by decide)]
         exact lJg ⟨B6,rfl,up st6 i B6 (by omega) hi2 S6 w⟩
        .rw[lJy w]
         dsimp only
         (rw[lJc (show (!false)=true from rfl)])
         exact wpS_pure ⟨B6,rfl,by dsimp only;omega,by dsimp only;omega,S6⟩)
     | (rintro c st6 ⟨B6,rfl,S6⟩
        rw[show max i' nrem=nrem by omega] at S6 ⊢
        exact⟨B6,rfl,h1,lJh _,S6⟩)
     | (rintro⟨r,k⟩ st6 ⟨B6,rfl,k1,k2,S6⟩
        dsimp only at k1 k2 S6 ⊢
        exact lJg (q k st6 B6 k1 k2 S6))
end
variable {Rs:List (List Keyed)}
section
variable {mem:Keyed->Prop}[∀x y,Decidable (le x y)]
structure Runs (κ:SortKind) (le:Keyed->Keyed->Prop) (a0:Array Keyed) (Rs:List (List Keyed)) (rest:List Keyed) (st:SortSt):Prop where
 kind:kindOf st=κ
 fail:failedOf st=none
 arr:(arrOf st).toList=Rs.flatten++rest
 perm:(arrOf st).toList.Perm a0.toList
 srt:∀R,R∈Rs->R.Pairwise le/\1<=R.length
 pend:∀i,(pendingOf st)[i]?.map (λx=>(x.1,x.2.1))=(Rs[i]?).map (λR=>(((Rs.take i).flatten).length,R.length))
theorem Runs.size{rest:List Keyed}(h:Runs κ le a0 Rs rest st):(pendingOf st).size=Rs.length:=by
 rcases lYt (pendingOf st).size Rs.length with z | z | z
 .have:=h.pend (pendingOf st).size;rw[lVc (lJh _),lJl z] at this;cases this
 .exact z
 .have:=h.pend Rs.length;rw[lK7 z,lKj (lJh _)] at this;cases this
theorem uUy(h:i+1<Rs.length):∃A X Y B,Rs=A++X::Y::B/\A.length=i:=by
 refine⟨Rs.take i,Rs[i],Rs[i+1],Rs.drop (i+2),?_,by simp;omega⟩
 conv=>lhs;rw[<-lK9 i Rs]
 rw[lYa (by omega),lYa (by omega)]
theorem qUk{o:Option (Nat×Nat×Nat)}{a b:Nat}(h:o.map (λx=>(x.1,x.2.1))=some (a,b)):∃p,o=some (a,b,p):=by
 cases o with
 | none=>cases h
 | some x=>
  obtain⟨u,v,w⟩:=x;simp only[lQq,lYx,Prod.mk.injEq] at h;obtain⟨rfl,rfl⟩:=h;exact⟨w,rfl⟩
theorem Runs.merge{rest:List Keyed}{Q:Bool->SortSt->Prop}(H:Asks M A s κ mem le)(hm:∀x,x∈a0.toList->mem x)(h:Runs κ le a0 Rs rest st)(hi:i+1<Rs.length)(q:∀Rs' st',Runs κ le a0 Rs' rest st'->Rs'.length+1=Rs.length->Rs'.flatten.length=Rs.flatten.length->Q true st'):wpS M A E s (mergeAt' i) Q st:=by
 obtain⟨As,X,Y,B,rfl,hA⟩:=uUy hi;have hsz:=h.size;have p1:=h.pend i;have p2:=h.pend (i+1);have e1:(As++X::Y::B)[i]? =some X:=by rw[lQb (by omega),hA,Nat.sub_self];rfl
 have e2:(As++X::Y::B)[i+1]? =some Y:=by rw[lQb (by omega),hA,show i+1-i=1 by omega];rfl
 have t1:(As++X::Y::B).take i=As:=by rw[<-hA];exact List.take_left
 have t2:(As++X::Y::B).take (i+1)=As++[X]:=by rw[<-hA,lZ5];rfl
 rw[e1,t1,lQq] at p1;rw[e2,t2,lQq] at p2;obtain⟨w1,p1⟩:=qUk p1;obtain⟨w2,p2⟩:=qUk p2;have inM:∀x,x∈(arrOf st).toList->mem x:=λx hx=>hm x (h.perm.mem_iff.mp hx)
 have harr:(arrOf st).toList=As.flatten++(X++Y)++(B.flatten++rest):=by rw[h.arr];simp
 obtain⟨sX,lX⟩:=h.srt X (by simp)
 obtain⟨sY,lY⟩:=h.srt Y (by simp)
 refine qKc H h.kind h.fail p1 p2 harr rfl rfl (by simp) rfl lX lY sX sY (λx hx=>inM x (by rw[harr];simp[hx])) (λx hx=>inM x (by rw[harr];simp[hx])) λZ st' zp zs za zk zf zpe=> ?_
 have zl:Z.length=X.length+Y.length:=by rw[zp.length_eq,lJ4]
 refine q (As++Z::B) st' ⟨zk,zf,by rw[za];simp,?_,λR hR=> ?_,λj=> ?_⟩ (by simp;omega) (by simp;omega)
 .refine List.Perm.trans ?_ h.perm;rw[za,harr];exact lX9 _ (lV5 _ zp)
 .rcases (lJn.mp hR) with z | z
  .exact h.srt R (by simp[z])
  .rcases (lJp.mp z) with rfl | z
   .exact⟨zs,by omega⟩
   .exact h.srt R (by simp[z])
 .have hin:i+1<((pendingOf st).setIfInBounds i (As.flatten.length,X.length+Y.length,w1)).size:=by rw[lZy,hsz];exact hi
  have er:(pendingOf st')[j]? =if j<i+1 then ((pendingOf st).setIfInBounds i (As.flatten.length,X.length+Y.length,w1))[j]? else ((pendingOf st).setIfInBounds i (As.flatten.length,X.length+Y.length,w1))[j+1]? :=by
   rw[zpe,Array.eraseIdxIfInBounds,dif_pos hin,Array.getElem?_eraseIdx]
  rw[er]
  rcases lYt j i with z | z | z
  .rw[lJc (by omega),lYw,lJa (by omega),h.pend j,lK6 (by omega),lK6 (by omega),lVs (by omega),lVs (by omega)]
  .subst z;have e3:(As++Z::B)[j]? =some Z:=by rw[lQb (by omega),hA,Nat.sub_self];rfl
   have t3:(As++Z::B).take j=As:=by rw[<-hA];exact List.take_left
   rw[lJc (by omega),lYw,lJc rfl,lJc (by rw[hsz];omega),e3,t3,lQq,lQq,zl]
  .obtain⟨d,rfl⟩:∃d,j=i+1+d:=⟨j-i-1,by omega⟩
   rw[lJa (by omega),lYw,lJa (by omega),h.pend]
   have g1:(As++X::Y::B)[i+1+d+1]? =B[d]? :=by rw[lQb (by omega),hA,show i+1+d+1-i=d+2 by omega];rfl
   have g2:(As++Z::B)[i+1+d]? =B[d]? :=by rw[lQb (by omega),hA,show i+1+d-i=d+1 by omega];rfl
   have g3:(As++X::Y::B).take (i+1+d+1)=As++X::Y::B.take d:=by rw[show i+1+d+1=As.length+(d+2) by omega,lZ5];rfl
   have g4:(As++Z::B).take (i+1+d)=As++Z::B.take d:=by rw[show i+1+d=As.length+(d+1) by omega,lZ5];rfl
   rw[g1,g2,g3,g4]
   congr 1
   funext R
   have:(As++X::Y::B.take d).flatten.length=(As++Z::B.take d).flatten.length:=by simp;omega
   rw[this]
end
section
variable {mem:Keyed->Prop}[∀x y,Decidable (le x y)]{rest:List Keyed}{st3:SortSt}
theorem Runs.add(h:Runs κ le a0 Rs rest st)(hlo:lo=Rs.flatten.length)(B:SB κ (arrOf st) lo (arrOf st).size (pendingOf st) st3)(hn:lo+n<=(arrOf st).size)(S:SrtA le st3 lo n):∃R r3,R.length=n/\R.Pairwise le/\Runs κ le a0 Rs (R++r3) st3:=by
 have hsz:=B.size
 have hd:(arrOf st3).toList.take lo=Rs.flatten:=by
  have:(arrOf st).toList.take lo=Rs.flatten:=by rw[h.arr,hlo];exact List.take_left
  rw[<-this];apply lQ5;intro p;rw[lQ0,lQ0]
  by_cases c:p<lo
  .rw[lJc c,lJc c,lKf,lKf];exact B.out p (.inl c)
  .rw[lJa c,lJa c]
 refine⟨((arrOf st3).toList.drop lo).take n,((arrOf st3).toList.drop lo).drop n,by simp;omega,?_,B.kind,B.fail,?_,?_,h.srt,λi=> ?_⟩
 .rw[lZv];intro p q hp hq hpq;have hq':q<n:=by simp at hq;omega
  have:=S p q hpq hq';rw[lYu,lYu,lZw,lZw];simp only[Vl,Array.getD,show lo+p<(arrOf st3).size by omega,show lo+q<(arrOf st3).size by omega,dif_pos] at this
  simpa using this
 .rw[lK9,<-hd,lK9]
 .exact (mJw.mp B.perm).trans h.perm
 .rw[B.pend];exact h.pend i
theorem Runs.push{R r3:List Keyed}(h:Runs κ le a0 Rs (R++r3) st)(hs:R.Pairwise le)(hl:1<=R.length):Runs κ le a0 (Rs++[R]) r3 (setPending st ((pendingOf st).push (Rs.flatten.length,R.length,0))):=by
 have hsz:=h.size;refine⟨h.kind,h.fail,by show (arrOf st).toList=_;rw[h.arr];simp,h.perm,λX hX=> ?_,λi=> ?_⟩
 .rcases (lJn.mp hX) with z | z
  .exact h.srt X z
  .rw[lJz] at z;rw[z];exact⟨hs,hl⟩
 .show ((pendingOf st).push _)[i]?.map _=_
  rw[Array.getElem?_push]
  by_cases c:i=(pendingOf st).size
  .rw[lJc c,lQb (by omega),show i-Rs.length=0 by omega,lVs (by omega),lQm (by omega)]
   rfl
  .rw[lJa c,h.pend i]
   by_cases d:i<Rs.length
   .rw[lK6 d,lVs (by omega)]
   .rw[lKj (by omega),lKj (by simp;omega)];rfl
theorem Runs.pw{k:Nat}{f:Nat×Nat×Nat->Nat×Nat×Nat}(h:Runs κ le a0 Rs rest st)(hf:∀x,((f x).1,(f x).2.1)=(x.1,x.2.1)):Runs κ le a0 Rs rest (setPending st ((pendingOf st).modify k f)):=by
 refine⟨h.kind,h.fail,h.arr,h.perm,h.srt,λi=> ?_⟩
 show ((pendingOf st).modify k f)[i]?.map _=_
 rw[<-h.pend i,Array.getElem?_modify];split
 .rw[Option.map_map]
  congr 1
  funext x
  exact hf x
 .rfl
theorem uXi[Decidable c]{a b:Nat}(ha:a+1<n)(hb:b+1<n):(if c then a else b)+1<n:=by
 split<;>assumption
theorem kZa:∀{Rs:List (List Keyed)},(∀R,R∈Rs->1<=R.length)->Rs.length<=Rs.flatten.length
 | [],_=>lJh _
 | R::Rs,h=>by
  have:=kZa (Rs:=Rs) λX hX=>h X (lJw _ hX)
  have:=h R (lJv ..);rw[lXp,lJ4,lJ8];omega
theorem Runs.len(h:Runs κ le a0 Rs rest st):Rs.flatten.length+rest.length=a0.size:=by
 have:=h.perm.length_eq;rw[h.arr] at this
 simpa using this
theorem kXx(H:Asks M A s κ mem le)(hm:∀x,x∈(arrOf st).toList->mem x)(hk:kindOf st=κ)(hf:failedOf st=none)(hp:pendingOf st= #[])(h1:1<=(arrOf st).size){Q:Unit->SortSt->Prop}(q:∀st',(arrOf st').toList.Perm (arrOf st).toList->(arrOf st').toList.Pairwise le->failedOf st'=none->Q () st'):wpS M A E s sortRuns' Q st:=by
 rw[sortRuns'_eq];refine lJf (lQj ?_)
 dsimp only
 have R0:Runs κ le (arrOf st) [] (arrOf st).toList st:=⟨hk,hf,by simp,.refl _,λR hR=>(nomatch hR),λi=>by rw[hp];simp⟩
 refine lJf (lKq (lKr (I:=λi (c:Option Unit×Nat) st'=>c.1=none/\∃Rs rest,Runs κ le (arrOf st) Rs rest st'/\c.2=Rs.flatten.length/\(i<=c.2\/(arrOf st).size<=c.2)) (Q:=λ(c:Option Unit×Nat) st'=>c.1=none/\∃Rs rest,Runs κ le (arrOf st) Rs rest st'/\c.2=Rs.flatten.length/\(arrOf st).size<=c.2) ?_ ?_ ⟨rfl,[],_,R0,rfl,.inl (lJ6 _)⟩) ?_)
 .rintro i ⟨r,lo⟩ st1 _ hi ⟨rfl,Rs,rest,R1,rfl,hl⟩
  dsimp only at hl ⊢
  by_cases c:Rs.flatten.length>=(arrOf st).size
  .rw[lJc c];exact lJg ⟨rfl,Rs,rest,R1,rfl,c⟩
  rw[lJa c];have hs1:(arrOf st1).size=(arrOf st).size:=by have:=R1.perm.length_eq;simpa using this
  have hm1:∀x,x∈(arrOf st1).toList->mem x:=λx hx=>hm x (R1.perm.mem_iff.mp hx)
  have B0:SB κ (arrOf st1) Rs.flatten.length (arrOf st1).size (pendingOf st1) st1:=⟨R1.kind,R1.fail,rfl,Array.Perm.refl _,λ_ _=>rfl⟩
  refine lJf (kYt H hm1 B0 (by omega) (by omega) (lJh _) λn st2 B2 n1 n2 S2=> ?_)
  dsimp only
  by_cases cm:n<minRun' (arrOf st).size (arrOf st).size 0
  .rw[lJc cm]
   (refine lJf (lVu (lQc ⟨rfl,?_⟩)))
   have hq1:n<=min ((arrOf st).size-Rs.flatten.length) (minRun' (arrOf st).size (arrOf st).size 0):=by omega
   have hq2:min ((arrOf st).size-Rs.flatten.length) (minRun' (arrOf st).size (arrOf st).size 0)<=(arrOf st).size-Rs.flatten.length:=Nat.min_le_left ..
   generalize min ((arrOf st).size-Rs.flatten.length) (minRun' (arrOf st).size (arrOf st).size 0)=n3 at hq1 hq2 ⊢
   refine lJf (kU4 H hm1 B2 n1 hq1 (by omega) (lJh _) S2 λst3 B3 S3=> ?_)
   rw[lJa (by decide)]
   obtain⟨R,r3,hRl,hRs,R3⟩:=R1.add rfl B3 (by omega) S3
   have hR1:1<=R.length:=by omega
   refine lJf (lQj ?_);cases hb:(pendingOf st3).back? with
   | none=>
    rw[<-hRl];exact wpS_bind (wpS_modify (wpS_pure ⟨rfl,_,_,R3.push hRs hR1,by simp,by dsimp only;omega⟩))
   | some x=>
    obtain⟨x1,x2,x3⟩:=x
    dsimp only
    refine lJf (lKq (lKr (I:=λ_ (c:Option Unit×Unit) st'=>c=(none,())/\∃Rs',Runs κ le (arrOf st) Rs' (R++r3) st'/\Rs'.flatten.length=Rs.flatten.length) (Q:=λ(c:Option Unit×Unit) st'=>c=(none,())/\∃Rs',Runs κ le (arrOf st) Rs' (R++r3) st'/\Rs'.flatten.length=Rs.flatten.length) ?_ (λ_ _ z=>z) ⟨rfl,Rs,R3,rfl⟩) ?_)
    .rintro i' c st4 _ hi' ⟨rfl,Rs4,R4,hl4⟩;refine lJf (lQj ?_);have hsz:=R4.size
     by_cases c:(pendingOf st4).size>1
     .rw[lJc c,lK7 (by omega)]
      dsimp only
      split
      .exact lJg ⟨rfl,Rs4,R4,hl4⟩
      .refine lJf (R4.merge H hm (by omega) λRs' st' R' e1 e2=> ?_)
       rw[lJa (by decide)]
       exact lJg ⟨rfl,Rs',R',by omega⟩
     .rw[lJa c];exact lJg ⟨rfl,Rs4,R4,hl4⟩
    .rintro c st4 ⟨rfl,Rs4,R4,hl4⟩
     dsimp only
     have R5:=λpw:Nat=>R4.pw (k:=(pendingOf st4).size-1) (f:=λx=>(x.1,x.2.1,pw)) λ_=>rfl
     refine lJf (lKn (lJf (lKn ?_)));rw[<-hl4,<-hRl];exact wpS_pure ⟨rfl,_,_,(R5 _).push hRs hR1,by simp,by dsimp only;omega⟩
  .rw[lJa cm];obtain⟨st3,rfl⟩:∃x,x=st2:=⟨_,rfl⟩
   have B3:=B2;have S3:=S2;obtain⟨R,r3,hRl,hRs,R3⟩:=R1.add rfl B3 (by omega) S3
   have hR1:1<=R.length:=by omega
   refine lJf (lQj ?_);cases hb:(pendingOf st3).back? with
   | none=>
    rw[<-hRl];exact wpS_bind (wpS_modify (wpS_pure ⟨rfl,_,_,R3.push hRs hR1,by simp,by dsimp only;omega⟩))
   | some x=>
    obtain⟨x1,x2,x3⟩:=x
    dsimp only
    refine lJf (lKq (lKr (I:=λ_ (c:Option Unit×Unit) st'=>c=(none,())/\∃Rs',Runs κ le (arrOf st) Rs' (R++r3) st'/\Rs'.flatten.length=Rs.flatten.length) (Q:=λ(c:Option Unit×Unit) st'=>c=(none,())/\∃Rs',Runs κ le (arrOf st) Rs' (R++r3) st'/\Rs'.flatten.length=Rs.flatten.length) ?_ (λ_ _ z=>z) ⟨rfl,Rs,R3,rfl⟩) ?_)
    .rintro i' c st4 _ hi' ⟨rfl,Rs4,R4,hl4⟩;refine lJf (lQj ?_);have hsz:=R4.size
     by_cases c:(pendingOf st4).size>1
     .rw[lJc c,lK7 (by omega)]
      dsimp only
      split
      .exact lJg ⟨rfl,Rs4,R4,hl4⟩
      .refine lJf (R4.merge H hm (by omega) λRs' st' R' e1 e2=> ?_)
       rw[lJa (by decide)]
       exact lJg ⟨rfl,Rs',R',by omega⟩
     .rw[lJa c];exact lJg ⟨rfl,Rs4,R4,hl4⟩
    .rintro c st4 ⟨rfl,Rs4,R4,hl4⟩
     dsimp only
     have R5:=λpw:Nat=>R4.pw (k:=(pendingOf st4).size-1) (f:=λx=>(x.1,x.2.1,pw)) λ_=>rfl
     refine lJf (lKn (lJf (lKn ?_)));rw[<-hl4,<-hRl];exact wpS_pure ⟨rfl,_,_,(R5 _).push hRs hR1,by simp,by dsimp only;omega⟩
 .rintro⟨r,lo⟩ st1 ⟨rfl,Rs,rest,R1,hlo,hl⟩;refine⟨rfl,Rs,rest,R1,hlo,?_⟩;rw[Nat.zero_max] at hl;omega
 .rintro⟨r,lo⟩ st1 ⟨rfl,Rs,rest,R1,hlo,hl⟩
  dsimp only at hlo hl ⊢
  have hL:=R1.len;refine lJf (lKq (lKr (I:=λi (c:Option Unit×Unit) st'=>c=(none,())/\∃Rs,Runs κ le (arrOf st) Rs rest st'/\Rs.flatten.length=lo/\Rs.length<=max 1 ((arrOf st).size-i)) (Q:=λ(c:Option Unit×Unit) st'=>c=(none,())/\∃Rs,Runs κ le (arrOf st) Rs rest st'/\Rs.flatten.length=lo/\Rs.length<=1) ?_ ?_ ⟨rfl,Rs,R1,hlo.symm,by have:=kZa λR hR=>(R1.srt R hR).2;omega⟩) ?_)
  .rintro i c st2 _ hi ⟨rfl,Rs2,R2,hl2,hn2⟩;refine lJf (lQj ?_);have hsz:=R2.size
   by_cases c:(pendingOf st2).size<=1
   .rw[lJc c];exact lJg ⟨rfl,Rs2,R2,hl2,by omega⟩
   .rw[lJa c];refine lJf (R2.merge H hm (uXi (by omega) (by omega)) λRs' st' R' e1 e2=> ?_)
    rw[lJa (by decide)]
    exact lJg ⟨rfl,Rs',R',by omega,by omega⟩
  .rintro c st2 ⟨rfl,Rs2,R2,hl2,hn2⟩;exact⟨rfl,Rs2,R2,hl2,by omega⟩
  .rintro c st2 ⟨rfl,Rs2,R2,hl2,hn2⟩
   dsimp only
   have hr:rest=[]:=lQh.mp (by omega)
   refine lJg (q st2 R2.perm ?_ R2.fail);rw[R2.arr,hr,lQd];cases Rs2 with
   | nil=>simp at hl2;omega
   | cons R Rs3=>
    obtain rfl:Rs3=[]:=by simpa using hn2
    simp;exact (R2.srt R (by simp)).1
end
end L3
namespace L3
open PySem PySem.Spec PyProof.Rows L2 PySem.W
variable {prog:Program}{w:World}{A:Around}{E:Value->Shared->Prop}{s:Shared}{b:Bool}{es:List (TKey×Addr)}
theorem qJt{a n:Nat}(ho:s.heap.get? a=some (seqObj "list" (List.toArray (es.map λe=>Value.ref e.2)) n))(hu:A.units+6<cLine)(h:∀e,e∈es->(jJu prog w).is s.heap e.1 e.2/\kV1 e.1 b/\intT e.1=true)(hlt:∀e,e∈es->∀e',e'∈es->(ltK e.1 e'.1).isSome=true)(h64:es.length<=16000000){P:PySem.Fin->Shared->Prop}(k:∀(es':List (TKey×Addr))(h':Heap)(c:Nat),es'.Perm es->es'.Pairwise (λx y=>ltK y.1 x.1≠some true)->h'.get? a=some (seqObj "list" (List.toArray (es'.map λe=>Value.ref e.2)) c)->(∀p o,p≠a->s.heap.get? p=some o->h'.get? p=some o)->P (.done (.ret .none)) {s with heap:=h'}):wpAny (model prog w) A (Builtin.«list.sort» ⟨[.ref a],[]⟩) P E s:=by
 (have ha:a<s.heap.objs.size:=lJi ho)
 have hlen:(es.map λe=>Value.ref e.2).length=es.length:=lJd ..
 rw[list_sort_plain]
 (refine lJb (listItems_at ho rfl ?_))
 refine lJb (listUpdate_at ho rfl ?_ (by rw[lJx,hlen,lKw];omega) (lJ6 _))
 (obtain⟨e1,ho1⟩:∃e1,(s.heap.update a (Obj.mapSeq λ_=>(#[]:Array Value))).get? a=some (seqObj "list" #[] e1):=⟨_,lZl ho λ_=> #[]⟩)
 (refine lJb (seqEpoch_at ho1 rfl ?_))
 refine lJb (wpAny_newTuple ?_ (by show (es.map λe=>Value.ref e.2).length<=_;rw[hlen,lKw];omega))
 (refine lJb (wpAny_newList ?_ (lJ6 _)))
 refine lKz ?_
 generalize hg:((s.heap.update a (Obj.mapSeq λ_=>(#[]:Array Value))).push (seqObj "tuple" (List.toArray (es.map λe=>Value.ref e.2)) 0)).push (seqObj "list" #[] 0)=h1
 refine (show wpAny (model prog w) A _ P E {s with heap:=h1} from ?_)
 have oth:∀p o,p≠a->s.heap.get? p=some o->h1.get? p=some o:=by
  intro p o hp e;rw[<-hg];exact lJm _ (lJm _ ((lX6 _ _ _ _ hp).trans e))
 have ho6:h1.get? a=some (seqObj "list" #[] e1):=by
  rw[<-hg];exact lJm _ (lJm _ ho1)
 have tk:kKo s.heap h1:=by
  intro p o e hc;refine oth p o ?_ e;rintro rfl;rw[ho] at e;cases e;exact absurd hc (show ¬ Value.type "list"=Value.type "tuple" by decide)
 have hk1:∀e,e∈es->(jJu prog w).is h1 e.1 e.2/\kV1 e.1 b/\intT e.1=true:=λe he=>⟨jYe tk (h e he).1,(h e he).2⟩
 have fin:∀(out:List (TKey×Addr)),out.Perm es->out.Pairwise (λx y=>ltK y.1 x.1≠some true)->∀st':SortSt,(arrOf st').map (·.2)=List.toArray (out.map λe=>Value.ref e.2)->failedOf st'=none->
   wpAny (model prog w) A (do
    let touched:=(<-seqEpoch a) != e1
    Builtin.List.listUpdate (.ref a) λ_=>(arrOf st').map (·.2)
    if let some e:=failedOf st' then rule "list.sort.comparison-raised"; throw e
    if (touched) then rule "list.sort.modified"; raiseError "ValueError" "list modified during sort"
    ret .none) P E {s with heap:=h1}:=by
  intro out hp hs st' hout hf;rw[hout,hf];have hol:out.length=es.length:=hp.length_eq;refine lJb (seqEpoch_at (s:={s with heap:=h1}) ho6 rfl ?_)
  refine lJb (listUpdate_at (s:={s with heap:=h1}) ho6 rfl ?_ (lJ6 _) (by rw[lJx,lJd,hol,lKw];omega))
  (simp only[bne_self_eq_false,lKs,lKi])
  refine lJe (k out _ _ hp hs (lZl ho6 λ_=>List.toArray (out.map λe=>Value.ref e.2)) λp o hpa e=>(lX6 _ _ _ _ hpa).trans (oth p o hpa e))
 dsimp only
 by_cases h2:(List.toArray (es.map λe=>Value.ref e.2)).size<2
 .rw[lJc h2,lJc h2];refine lJb (lJe ?_);rw[StateT.run_pure];refine lJb (lJe ?_);refine fin es (.refl _) ?_ _ ?_ rfl
  .rw[lJx,hlen] at h2
   match es,h2 with
   | [],_=>exact .nil
   | [_],_=>exact List.pairwise_singleton _ _
  .apply Array.toList_inj.mp;show (((List.toArray (es.map λe=>Value.ref e.2)).zip (List.toArray (es.map λe=>Value.ref e.2))).map (·.2)).toList=_
   rw[Array.toList_map,ksk_zip,List.map_snd_zip (lJh _)]
 .rw[lJa h2,lJa h2];rw[lJx,hlen] at h2;refine lJb (uK0 (s:={s with heap:=h1}) hk1 (by omega) ?_)
  let f:TKey×Addr->Keyed:=λe=>(Value.ref e.2,Value.ref e.2)
  let mem:Keyed->Prop:=λx=>∃e,e∈es/\x=f e
  let le:Keyed->Keyed->Prop:=λx y=>∀e e',e∈es->e'∈es->x=f e->y=f e'->ltK e'.1 e.1≠some true
  have one:∀e e',e∈es->e'∈es->f e=f e'->e.1=e'.1:=λe e' he he' z=>by
   have z1:Value.ref e.2=Value.ref e'.2:=lKa Prod.fst z;have z2:e.2=e'.2:=by cases e;cases e';cases z1;rfl
   have a1:=(hk1 e he).1;rw[z2] at a1;exact (jJu prog w).inj a1 (hk1 e' he').1
  have le_iff:∀e e',e∈es->e'∈es->(le (f e) (f e')↔ltK e'.1 e.1≠some true):=λe e' he he'=>
   ⟨λz=>z e e' he he' rfl rfl,λz d d' hd hd' q q'=>by rw[<-one e d he hd q,<-one e' d' he' hd' q'];exact z⟩
  haveI:∀x y,Decidable (le x y):=λx y=>Classical.propDecidable _
  have HA:Asks (model prog w) A {s with heap:=h1} (tuples' b) mem le:=by
   refine⟨?_,?_,?_⟩
   .rintro x y ⟨e,he,rfl⟩ ⟨e',he',rfl⟩ E' Q hQ;obtain⟨c,hc⟩:=lVn.mp (hlt e he e' he');refine uX9 (s:={s with heap:=h1}) hu (hk1 e he).1 (hk1 e' he').1 hc (hk1 e he).2.1 (hk1 e' he').2.1 ?_
    have:(!decide (le (f e') (f e)))=c:=by
     by_cases z:le (f e') (f e)
     .rw[lJq z];have:=(le_iff e' e he' he).mp z;rw[hc] at this;cases c with
      | false=>rfl
      | true=>exact absurd rfl this
     .rw[lJy z];cases c with
      | true=>rfl
      | false=>exact absurd ((le_iff e' e he' he).mpr (by rw[hc];simp)) z
    rw[this] at hQ;exact hQ
   .rintro x y ⟨e,he,rfl⟩ ⟨e',he',rfl⟩;rw[le_iff e e' he he',le_iff e' e he' he]
    by_cases z:ltK e'.1 e.1=some true
    .right
     intro z2;have:=qU3 z z2;rw[show ltK e'.1 e'.1=some false from kZn _] at this
     cases this
    .exact .inl z
   .rintro x y z ⟨e,he,rfl⟩ ⟨e',he',rfl⟩ ⟨d,hd,rfl⟩ h1' h2';rw[le_iff e e' he he'] at h1';rw[le_iff e' d he' hd] at h2';rw[le_iff e d he hd];intro q
    by_cases eqk:d.1=e'.1
    .rw[eqk] at q;exact h1' q
    .obtain⟨c,hc⟩:=lVn.mp (hlt d hd e' he');cases c with
     | true=>exact h2' hc
     | false=>
      have:=kord.neg eqk hc;exact h1' (qU3 this q)
  have hz:((List.toArray (es.map λe=>Value.ref e.2)).zip (List.toArray (es.map λe=>Value.ref e.2))).toList=es.map f:=by
   rw[ksk_zip,List.zip_map']
  have key:wpS (model prog w) A E {s with heap:=h1} sortRuns' (λ_ st'=>∃es':List (TKey×Addr),es'.Perm es/\es'.Pairwise (λx y=>ltK y.1 x.1≠some true)/\(arrOf st').map (·.2)=List.toArray (es'.map λe=>Value.ref e.2)/\failedOf st'=none) (SortSt.mk' (tuples' b) ((List.toArray (es.map λe=>Value.ref e.2)).zip (List.toArray (es.map λe=>Value.ref e.2))) #[] 7 none):=by
   refine kXx HA (λx hx=> ?_) rfl rfl rfl ?_ λst' p1 p2 p3=> ?_
   .have hx':x∈es.map f:=by rw[<-hz];exact hx
    obtain⟨e,he,rfl⟩:=lJj.mp hx';exact⟨e,he,rfl⟩
   .show 1<=((List.toArray (es.map λe=>Value.ref e.2)).zip (List.toArray (es.map λe=>Value.ref e.2))).size
    rw[<-lKg,hz,lJd];omega
   .obtain⟨es',hp,he⟩:=jX3 p1 es hz;refine⟨es',hp,?_,?_,p3⟩
    .rw[he,lV4] at p2;exact p2.imp_of_mem λha hb z=>(le_iff _ _ (hp.mem_iff.mp ha) (hp.mem_iff.mp hb)).mp z
    .apply Array.toList_inj.mp;rw[Array.toList_map,he,lJ1];rfl
  unfold wpS at key;refine lJb (lQv key ?_ λ_ _ x=>x)
  rintro⟨⟨⟩,st'⟩ s' ⟨rfl,es',hp,hs,har,hf⟩;exact fin es' hp hs st' har hf
theorem kVe{l:Addr}{Q:Value->Shared->Prop}(hl:s.heap.IsList l (List.toArray (es.map λe=>Value.ref e.2)))(hu:A.units+20<cLine)(h:∀e,e∈es->(jJu prog w).is s.heap e.1 e.2/\kV1 e.1 b/\intT e.1=true)(hlt:∀e,e∈es->∀e',e'∈es->(ltK e.1 e'.1).isSome=true)(hn:es.length<=1000000)(k:∀(es':List (TKey×Addr))(h':Heap)(D c:Nat),es'.Perm es->es'.Pairwise (λx y=>ltK y.1 x.1≠some true)->s.heap.objs.size<=D->h'.get? D=some (seqObj "list" (List.toArray (es'.map λe=>Value.ref e.2)) c)->(∀p o,s.heap.get? p=some o->h'.get? p=some o)->Q (.ref D) {s with heap:=h'}):wpAny (model prog w) A (call (.builtin "sorted") [.ref l]) Q E s:=by
 (refine Calls.call_function_entry kind_sorted plain_sorted entry_sorted (args_sorted1 _) ?_)
 unfold Builtin.«sorted»
 (refine lJb (m:=checkCount "sorted" 1 1 _) (lJe ?_))
 refine lJb (collect_list hl ?_ (by rw[lJd,lKw];omega))
 have kp:∀p o,s.heap.get? p=some o->((s.heap.push (seqObj "list" #[] 0)).update s.heap.objs.size (Obj.mapSeq (· ++(es.map λe=>Value.ref e.2).toArray))).get? p=some o:=λp o e=>
  (lX6 _ _ _ _ (lJr (lJi e))).trans (lJm _ e)
 have big:s.heap.objs.size<=((s.heap.push (seqObj "list" #[] 0)).update s.heap.objs.size (Obj.mapSeq (· ++(es.map λe=>Value.ref e.2).toArray))).objs.size:=by
  rw[Heap.size_update,size_push'];omega
 generalize (s.heap.push (seqObj "list" #[] 0)).update s.heap.objs.size (Obj.mapSeq (· ++(es.map λe=>Value.ref e.2).toArray))=g at kp big ⊢
 refine lJb (wpAny_newList ?_ (by rw[lJd,lKw];omega))
 have hoL:(g.push (seqObj "list" (List.toArray (es.map λe=>Value.ref e.2)) 0)).get? g.objs.size=some (seqObj "list" (List.toArray (es.map λe=>Value.ref e.2)) 0):=lKd _ rfl
 refine lJb (lKz (lQn slot_list_sort ⟨_,hoL,rfl⟩ entry_list_sort ?_ (args_list_sort _)));refine qJt (s:={s with heap:=g.push (seqObj "list" (List.toArray (es.map λe=>Value.ref e.2)) 0)}) (b:=b) hoL (by rw[lQ6,lQ6];omega) (λe he=> ?_) hlt (by omega) λes' h' c pe' so hD oth=> ?_
 .exact⟨jYe (λb ob e _=>lJm _ (kp b ob e)) (h e he).1,(h e he).2⟩
 .refine⟨_,rfl,lJe ⟨_,rfl,k es' h' _ c pe' so big hD λq ob e=>oth q ob ?_ (lJm _ (kp q ob e))⟩⟩
  exact lJr (lKc (lJi e) big)
section
variable {X:Cx}
noncomputable def uJe:List T->Gp->VK3->Prop:=λxs G Q=>∃(x:T)(b:Bool)(tks:List (List T×TKey)),xs=[x]/\jU2 G x=some (tks.map λe:List T×TKey=> .tup e.1)/\tks.length<=1000000/\(∀e,e∈tks->SKey b e.1 e.2)/\(∀e,e∈tks->∀e',e'∈tks->(ltK e.2 e'.2).isSome=true)/\
 ∀(p:Addr)(kys:List (List T×TKey)),G p=none->kys.Perm tks->kys.Pairwise (λx y=>ltK y.2 x.2≠some true)->Q (.ref p) (gup G p (.lst (kys.map λe=> .tup e.1)))
theorem uQ4(hu:X.A.units+20<cLine):Call3 X (.builtin "sorted") uJe:=by
 rintro pins s τ G H xs us Q ⟨σ,I,hs,hg⟩ ⟨as,ras,rvs⟩ ⟨x,b,tks,ex,hx,hn,hk,hlt,q⟩;subst ex;obtain⟨v,rfl,rv⟩:=jUg ras;obtain⟨u,rfl,ru⟩:=rvs.one;obtain⟨pa,vs,rfl,hq,r⟩:=jV8 hg rv hx;cases ru;obtain⟨its,rvv,pl,hz⟩:=I.list hq;obtain⟨tb,t1,t2,t3,t4⟩:=qK4 hk r rvv;have tl:tb.length=tks.length:=by rw[<-t1,lJd]
 have hmem:∀e,e∈tb->e.1∈tks:=λe he=>by rw[<-t1];exact lJj.mpr ⟨e,he,rfl⟩
 have hl:s.heap.IsList pa (List.toArray ((tb.map λe=>(e.1.2,e.2)).map λe=>Value.ref e.2)):=by
  have:=pl.isList;rw[t3] at this;rw[lJ1];exact this
 refine kVe (b:=b) hl hu (λe he=> ?_) (λe he e' he'=> ?_) (by rw[lJd];omega) λes h3 D c hp so hD hoD kp=> ?_
 .obtain⟨y,hy,rfl⟩:=lJj.mp he;exact⟨kQg I.hok (t4 y hy).1,(hk _ (hmem y hy)).2⟩
 .obtain⟨y,hy,rfl⟩:=lJj.mp he;obtain⟨y',hy',rfl⟩:=lJj.mp he';exact hlt _ (hmem y hy) _ (hmem y' hy')
 obtain⟨tb',p1,p2⟩:=jX3 hp tb rfl;have fr:=I.hok.fresh hD;have I3:=I.laid (a:=D) (o:= .lst (tb'.map λe=>V.ref e.2)) (h':=h3) (t':=s.toks) kp hD ⟨by rw[lJd,lKw,p1.length_eq];omega,tb'.map λe=>Value.ref e.2,c,kK7 tb',by rw[p2,lJ1] at hoD;exact hoD⟩
 have ext:Ext H (upd H D (.lst (tb'.map λe=>V.ref e.2))):= .upd (.none fr)
 refine⟨.ref D,_,_,ext,⟨σ,I3,hs.mono ext,hg.lstNew (qQr tb' λe he=>(t4 e (p1.mem_iff.mp he)).2) (.none fr)⟩,⟨.ref D,rfl,rfl⟩,?_⟩
 have:=q D (tb'.map (·.1)) (hg.fresh fr) (by rw[<-t1];exact p1.map _) (by rw[p2,lV4] at so;rw[lV4];exact so)
 rw[lJ1] at this;exact this
end
end L3
namespace L3
open PySem PySem.Spec PyProof.Rows L2
variable {X:Cx}
variable {h h':Heap}{l d:Addr}{ts:List Addr}{ps xs:List (TKey×Addr×Value)}
section
variable {prog:Program}{w:World}{A:Around}{E:Value->Shared->Prop}{s:Shared}
structure DmAt (prog:Program) (w:World) (h:Heap) (l:Addr) (ts:List Addr) (ps:List (TKey×Addr×Value)):Prop where
 li:h.IsList l (ts.map Value.ref).toArray
 len:ts.length=ps.length
 at_:∀(i:Nat) t p,ts[i]? =some t->ps[i]? =some p->IsTup h t #[.ref p.2.1,p.2.2]
 key:∀p,p∈ps->(jJu prog w).is h p.1 p.2.1
theorem DmAt.moved(a:DmAt prog w h l ts ps)(k:∀b o,h.get? b=some o->(o.cls= .type "tuple"\/b=l)->h'.get? b=some o):DmAt prog w h' l ts ps:=
 ⟨a.li.at λo e=>k _ o e (.inr rfl),a.len,λi t p e1 e2=>let ⟨o,ho,hc,r⟩:=a.at_ i t p e1 e2;⟨o,k _ o ho (.inl hc),hc,r⟩,λp hp=>jYe (λb o e c=>k b o e (.inl c)) (a.key p hp)⟩
noncomputable def dmF(ps:List (TKey×Addr×Value)):List (TKey×Addr×Value):=ps.foldl (λxs p=>storedH xs p.1 p.2.1 p.2.2) []
theorem uJ6{k:TKey}{a:Addr}{v:Value}:(storedH xs k a v).length<=xs.length+1:=by
 unfold storedH;split<;>simp
theorem qJe{i:Nat}{p:TKey×Addr×Value}(h:ps[i]? =some p):dmF (ps.take (i+1))=storedH (dmF (ps.take i)) p.1 p.2.1 p.2.2:=by
 unfold dmF;rw[lQr,h,lY6];rfl
theorem kU2{ps:List (TKey×Addr×Value)}:∀i,(dmF (ps.take i)).length<=i
 | 0=>by simp[dmF]
 | i+1=>by
  cases h:ps[i]? with
  | none=>
   have:=kU2 (ps:=ps) i;have hl:ps.length<=i:=List.getElem?_eq_none_iff.mp h;rw[lQm (by omega)]
   rw[lQm hl] at this;omega
  | some p=>
   rw[qJe h];have:=kU2 (ps:=ps) i;have:=uJ6 (xs:=dmF (ps.take i)) (k:=p.1) (a:=p.2.1) (v:=p.2.2);omega
theorem qV0(hd:h.DictOfH (jJu prog w) d xs)(k:∀o,h.get? d=some o->h'.get? d=some o)(tk:kKo h h'):h'.DictOfH (jJu prog w) d xs:=by
 obtain⟨o,es,ep,h1,h2,h3,h4,h5,h6⟩:=hd;exact⟨o,es,ep,k o h1,h2,h3,h4,λx hx=>jYe tk (h5 x hx),h6⟩
theorem uQu{R:Result->Shared->Prop}{it:Addr}(hu:(jJu prog w).room A.in1)(hh:A.handled=none)(dl:d≠l)(di:d≠it)(li:l≠it)(hs:ps.length<=sizeLine):
  ∀(k i:Nat)(s:Shared)(j:Int)(jt:Tok),ps.length-i=k->i<=ps.length->DmAt prog w s.heap l ts ps->s.heap.IsListIter it l i->s.heap.DictOfH (jJu prog w) d (dmF (ps.take i))->
   (∀h' t',h'.DictOfH (jJu prog w) d (dmF ps)->(∀b o,b≠d->b≠it->s.heap.get? b=some o->h'.get? b=some o)->R (.ok (.ret .none)) {s with heap:=h',toks:=t'})->
   codeAny (model prog w) A (.builtin "dict.update.loop" ⟨[.ref d,.ref it,.int j jt,.none],[]⟩) R s:=by
 intro k
 induction k with
 | zero=>
  intro i s j jt hk hi a hit hd hR;have hin:i=ps.length:=by omega
  subst hin;refine lQ4 kJd ?_;rw[lVf jUm _];refine (show wpAny _ A.in1 (pyNext (.ref it) >>= _) _ _ s from ?_)
  refine lJb (mJf (A:=A.in1) (by simpa using hh) hit a.li (by have:=a.len;simp;omega) λh' kp=> ?_)
  refine (show wpAny _ A.in1 (Builtin.Dict.addKeywords d [] >>= _) _ _ _ from lJb (lJe (lJe ?_)))
  rw[lQz] at hd
  have tne:∀b o,s.heap.get? b=some o->o.cls= .type "tuple"->b≠it:=λb o ho hc=>by
   rintro rfl;obtain⟨o',ho',hc',_⟩:=hit;rw[ho] at ho';cases ho';rw[hc] at hc';exact absurd hc' (by decide)
  exact hR h' s.toks (qV0 hd (λo e=>kp d o di e) λb o e c=>kp b o (tne b o e c) e) λb o _ c1 e=>kp b o c1 e
 | succ k ih=>
  intro i s j jt hk hi a hit hd hR;have hlt:i<ps.length:=by omega
  have hlt2:i<ts.length:=by rw[a.len];exact hlt
  have hpi:ps[i]? =some ps[i]:=lJl hlt;refine lQ4 kJd ?_;rw[lVf jUm _];refine (show wpAny _ A.in1 (pyNext (.ref it) >>= _) _ _ s from ?_)
  refine lJb (mJe (A:=A.in1) hit a.li (x:= .ref ts[i]) (by simp[hlt2]) λh' hit' sb=> ?_)
  have tne:∀b o,s.heap.get? b=some o->o.cls= .type "tuple"->b≠it:=λb o ho hc=>by
   rintro rfl;obtain⟨o',ho',hc',_⟩:=hit;rw[ho] at ho';cases ho';rw[hc] at hc';exact absurd hc' (by decide)
  have kp1:∀b o,s.heap.get? b=some o->(o.cls= .type "tuple"\/b=l)->h'.get? b=some o:=λb o e z=>(sb.2 b (z.elim (λhc=>tne b o e hc) λq=>by rw[q];exact li)).trans e
  have a':=a.moved kp1;have hd':h'.DictOfH (jJu prog w) d (dmF (ps.take i)):=qV0 hd (λo e=>(sb.2 d di).trans e) λb o e c=>kp1 b o e (.inl c)
  have tp':IsTup h' ts[i] #[.ref ps[i].2.1,ps[i].2.2]:=a'.at_ i _ _ (lJl hlt2) hpi;have hl':(dmF (ps.take i)).length<=sizeLine:=by have:=kU2 (ps:=ps) i;omega
  refine lJb (lKz (lJb (wpAny_tryCatch (qV2 (s:={s with heap:=h'}) tp' (lKz (wpAny_dictSet_heap (s:={s with heap:=h'}) (hsz:=hl') (knd:=jJu prog w) hu (a'.key _ (lQi hlt)) hd' (λh2 hd2 sb2=> ?_)))))))
  rw[<-qJe hpi] at hd2
  have dne:∀b o,h'.get? b=some o->o.cls= .type "tuple"->b≠d:=λb o ho hc=>by
   rintro rfl;obtain⟨o',_,_,ho',hc',_⟩:=hd';rw[ho'] at ho;cases ho;rw[hc'.1] at hc;exact absurd hc (by decide)
  refine lJe ⟨lVl jUm _,ih (i+1) _ _ _ (by omega) hlt (a'.moved λb o e z=>(sb2.2 b (z.elim (λhc=>dne b o e hc) λq=>by rw[q];exact dl.symm)).trans e) (hit'.at λo e=>(sb2.2 it di.symm).trans e) hd2 λh3 t3 hd3 kp3=>hR h3 t3 hd3 λb o c1 c2 e=>kp3 b o c1 c2 ((sb2.2 b c1).trans ((sb.2 b c2).trans e))⟩
theorem uQv{c:Nat}(hu:A.units+20<cLine)(hh:A.handled=none)(hl:s.heap.get? l=some {cls:= .type "list",dict:=none,data:= .seq (ts.map Value.ref).toArray c,slots:= #[]})(a:DmAt prog w s.heap l ts ps)(hs:ps.length<=sizeLine){Q:Value->Shared->Prop}(k:∀h' t',h'.DictOfH (jJu prog w) s.heap.objs.size (dmF ps)->(∀b o,s.heap.get? b=some o->h'.get? b=some o)->Q (.ref s.heap.objs.size) {s with heap:=h',toks:=t'}):
  wpAny (model prog w) A (call (.type "dict") [.ref l]) Q E s:=by
 refine callType_codes (Q₁:=λobj s₁=>obj= .ref s.heap.objs.size/\s₁={s with heap:=s.heap.push {cls:= .type "dict",data:= .dict #[]} }) PySem.F.kt_called_dict (mJv _) PySem.F.entry_dict_init (kt_code_dict_new _ ⟨rfl,rfl⟩) ?_
 rintro obj s₁ ⟨rfl,rfl⟩;have hn:(s.heap.push {cls:= .type "dict",data:= .dict #[]}).get? s.heap.objs.size=some {cls:= .type "dict",data:= .dict #[]}:=lKd _ rfl;have hTn:Shared.TypeIs {s with heap:=s.heap.push {cls:= .type "dict",data:= .dict #[]} } (.ref s.heap.objs.size) "dict":=⟨_,hn,rfl⟩
 refine⟨hTn,PySem.F.args_dict_init_2 _ _,?_⟩
 (unfold Builtin.«dict.__init__»)
 refine lJb ?_
 (unfold Builtin.Dict.selfAndRest)
 refine lJb (wpAny_notOrdered_dict hTn ?_);refine (show wpAny _ _ (pure (s.heap.objs.size,[Value.ref l])) _ _ _ from ?_)
 refine lJe ?_;refine (show wpAny _ _ (Builtin.Dict.updateFrom "dict.__init__" s.heap.objs.size (.ref l) [] .none) _ _ _ from ?_)
 (unfold Builtin.Dict.updateFrom)
 have up:∀b o,s.heap.get? b=some o->(s.heap.push {cls:= .type "dict",data:= .dict #[]}).get? b=some o:=λb o e=>lJm _ e
 have hl0:=up _ _ hl;have hTl:Shared.TypeIs {s with heap:=s.heap.push {cls:= .type "dict",data:= .dict #[]} } (.ref l) "list":=⟨_,hl0,rfl⟩
 refine lJb (lVk hTl ?_);rw[lJc (by decide)]
 refine lJb (kV8 (s:={s with heap:=s.heap.push {cls:= .type "dict",data:= .dict #[]} }) (by simpa using hh) hl0 λg tk kp=> ?_)
 simp only[Option.isNone_none,lKm];refine lJb (lQc ?_);have kp':∀b o,s.heap.get? b=some o->g.get? b=some o:=λb o e=>kp b o (up b o e)
 have a1:DmAt prog w g l ts ps:=a.moved λb o e _=>kp' b o e
 refine lJb (lYg (s:={s with heap:=g,toks:=tk}) a1.li ?_)
 have hgn:=kp _ _ hn;have gd:s.heap.objs.size<g.objs.size:=lJi hgn;have ll:l<s.heap.objs.size:=lJi hl;refine lJe ⟨lVl jUm _,uQu (A:=A.in1) (ts:=ts) (ps:=ps) (l:=l) (show A.in1.in1.units+6<cLine by rw[lQ6,lQ6];omega) (by simpa using hh) (lQl ll) (lJr gd) (lJr (lV0 ll gd)) hs ps.length 0 _ _ _ (by omega) (lJ6 _) (a1.moved λb o e _=>lJm _ e) ⟨_,lKd _ rfl,rfl,rfl⟩ ?_ λh4 t4 hd4 kp4=>⟨rfl,k h4 t4 hd4 λb o e=>kp4 b o (lJr (lJi e)) (lJr (lV0 (lJi e) gd)) (lJm _ (kp' b o e))⟩⟩
 exact⟨_,#[],0,lJm _ hgn,⟨rfl,rfl,rfl⟩,rfl,rfl,λx hx=>absurd hx lKy,lXy⟩
end
structure ZZ where
 e:List T
 k:TKey
 x:T
 t:Addr
 a:Addr
 v:V
 u:Value
structure ZOk (X:Cx) (H:Hp) (s:Shared) (z:ZZ):Prop where
 ke:TKeyAt H z.k z.a
 re:Rep X.K H z.x z.v
 rv:RelV z.v z.u
 tp:IsTup s.heap z.t #[.ref z.a,z.u]
theorem uUh{X:Cx}{pins:List (Addr×Obj)}{σ:L2.St}{H:Hp}{s:Shared}(I:Inv X pins σ H s):∀{kys:List (List T×TKey×T)}{vs:List V},(∀e,e∈kys->jXm e.1=some e.2.1)->Reps X.K H (kys.map λe=>T.tup [.tup e.1,e.2.2]) vs->
  ∃zs:List ZZ,kys=zs.map (λz=>(z.e,z.k,z.x))/\vs=zs.map (λz=>V.ref z.t)/\∀z,z∈zs->ZOk X H s z
 | [],_,_,h=>by cases h;exact⟨[],rfl,rfl,λz hz=>absurd hz lKy⟩
 | e::kys,_,hk,⟨v,ws,ev,r,rs⟩=>by
  subst ev;obtain⟨a,us,e1,h1,h2⟩:=(show ∃a us,v= .ref a/\H a=some (.tup us)/\Reps X.K H [.tup e.1,e.2.2] us from r)
  subst e1;obtain⟨x,y,rfl,r1,r2⟩:=qJw h2;obtain⟨b,ys,e2,h3,h4⟩:=(show ∃a us,x= .ref a/\H a=some (.tup us)/\Reps X.K H e.1 us from r1)
  subst e2;obtain⟨zs,z1,z2,z3⟩:=uUh I (λe he=>hk e (lJw _ he)) rs
  obtain⟨its,rr,tp,_⟩:=I.tuple (.of h1);obtain⟨u,u2,rfl,ru,rv⟩:=rr.two;cases (show u=Value.ref b from ru)
  refine⟨⟨e.1,e.2.1,e.2.2,a,b,y,u2⟩::zs,by rw[z1];rfl,by rw[z2];rfl,λz hz=> ?_⟩
  rcases (lJp.mp hz) with rfl | hz
  .exact⟨jU4 (hk e (lJv ..)) h3 h4,r2,rv,tp⟩
  .exact z3 z hz
theorem uUi{X:Cx}{H:Hp}{s:Shared}:∀{zs:List ZZ}{ws:List (TKey×V)}{xs:List (TKey×Addr×Value)},(∀z,z∈zs->ZOk X H s z)->KT H ws xs->KT H (zs.foldl (λws z=>putK ws z.k z.v) ws) ((zs.map λz=>(z.k,z.a,z.u)).foldl (λxs p=>storedH xs p.1 p.2.1 p.2.2) xs)
 | [],_,_,_,r=>r
 | z::zs,ws,xs,h,r=>by
  have hz:=h z (lJv ..);exact uUi (zs:=zs) (λy hy=>h y (lJw _ hy)) (r.put z.k hz.ke hz.rv)
theorem qZ5{X:Cx}{H:Hp}{s:Shared}:∀{zs:List ZZ}{kvs:List (TKey×T)}{ws:List (TKey×V)},(∀z,z∈zs->ZOk X H s z)->PKV X.K H kvs ws->PKV X.K H ((zs.map λz=>(z.e,z.k,z.x)).foldl (λkvs e=>putT kvs e.2.1 e.2.2) kvs) (zs.foldl (λws z=>putK ws z.k z.v) ws)
 | [],_,_,_,r=>r
 | z::zs,kvs,ws,h,r=>by
  have hz:=h z (lJv ..);exact qZ5 (zs:=zs) (λy hy=>h y (lJw _ hy)) (PKV.put r z.k hz.re)
noncomputable def uJh:List T->Gp->VK3->Prop:=λvs G1 Q=>∃(p:Addr)(kys:List (List T×TKey×T)),vs=[.ref p]/\G1 p=some (.lst (kys.map λe=> .tup [.tup e.1,e.2.2]))/\(∀e,e∈kys->jXm e.1=some e.2.1)/\kys.length<=1000/\∀q,G1 q=none->Q (.ref q) (gup G1 q (.dct (kys.foldl (λkvs e=>putT kvs e.2.1 e.2.2) [])))
theorem uQ6(hc:X.calm=true)(hu:X.A.units+20<cLine):Call3 X (.type "dict") uJh:=by
 rintro pins s τ G H xs us Q ⟨σ,I,hs,hg⟩ ⟨as,ras,rvs⟩ ⟨p,kys,ex,hp,hk,hl,q⟩;subst ex;obtain⟨v,rfl,rv⟩:=jUg ras;obtain⟨u,rfl,ru⟩:=rvs.one;cases (show v= .ref p from rv)
 cases ru;obtain⟨vs,h1,h2⟩:=hg.lst hp;obtain⟨zs,z1,rfl,z3⟩:=uUh I hk h2;obtain⟨hz,its,n,r,hlen,e⟩:=I.lstM h1;have ei:=kJj (ts:=zs.map (·.t)) (us:=its) (by rw[lJ1];exact r)
 subst ei;have lk:kys.length=zs.length:=by rw[z1,lJd]
 have big:=I.big;have hsl:=lKw;refine uQv (s:=s) (ts:=zs.map (·.t)) (ps:=zs.map λz=>(z.k,z.a,z.u)) hu (I.ok.hd hc) e ⟨⟨_,e,rfl,_,rfl⟩,by rw[lJd,lJd],λi t p e1 e2=> ?_,λp hp=> ?_⟩ (by rw[lJd];omega) λh' t' dd kp=> ?_
 .rw[lJ0] at e1 e2;cases e3:zs[i]? with
  | none=>rw[e3] at e1;cases e1
  | some z=>rw[e3] at e1 e2;cases e1;cases e2;exact (z3 z (lJs e3)).tp
 .obtain⟨z,hz',rfl⟩:=lJj.mp hp;exact kQg I.hok (z3 z hz').ke
 .have fr:=I.hok.fresh (lJh s.heap.objs.size);have kt:=uUi (ws:=[]) (xs:=[]) z3 .nil
  generalize hws:zs.foldl (λws z=>putK ws z.k z.v) []=ws at kt
  have ext:Ext H (upd H s.heap.objs.size (.dT ws)):= .upd (.none fr);obtain⟨o',es,ep,d1,d2,d3,d4,d5,d6⟩:=dd
  have hwl:ws.length<=sizeLine:=by
   have l1:=lQ7 kt;have l2:=kU2 (ps:=zs.map λz=>(z.k,z.a,z.u)) (zs.map λz=>(z.k,z.a,z.u)).length
   rw[lQz] at l2;unfold dmF at l2;rw[lJd] at l2;omega
  have I3:=I.laid (a:=s.heap.objs.size) (o:= .dT ws) (h':=h') (t':=t') kp (lJh _) ⟨hwl,by simpa using (lQl big),_,Paired.mapP kt λp q z=>⟨z.1,z.2.1.mono λb ys e=>ext.tup _ _ e,z.2.2⟩,o',es,ep,d1,d2,d3,d4,d6⟩
  have pk:=qZ5 (kvs:=[]) (ws:=[]) z3 .nil;rw[<-z1,hws] at pk;exact⟨.ref _,_,_,ext,⟨σ,I3,hs.mono ext,hg.upd (.none fr) (go:= .dct _) ⟨ws,jK9,pk.mono ext⟩⟩,⟨.ref _,rfl,rfl⟩,q _ (hg.fresh fr)⟩
end L3
namespace W
open PySem L3
abbrev C0:TE3:=tVar 0
abbrev C1:TE3:=tVar 1
abbrev C2:TE3:=tVar 2
abbrev C3:TE3:=tVar 3
abbrev C4:TE3:=tVar 4
abbrev C5:TE3:=tVar 5
abbrev C6:TE3:=tVar 6
abbrev C7:TE3:=tVar 7
abbrev C8:TE3:=tVar 8
abbrev C9:TE3:=tVar 9
abbrev C10:TE3:=tVar 10
abbrev C11:TE3:=tVar 11
abbrev C12:TE3:=tVar 12
abbrev M0:TA3:=jJa C0 tNil
abbrev M1:TA3:=jJa C1 tNil
abbrev M2:TA3:=jJa C2 tNil
abbrev M3:TA3:=jJa C3 tNil
abbrev M4:TA3:=jJa C4 tNil
abbrev M5:TA3:=jJa C5 tNil
abbrev M6:TA3:=jJa C6 tNil
abbrev M7:TA3:=jJa C7 tNil
abbrev M8:TA3:=jJa C8 tNil
abbrev M9:TA3:=jJa C9 tNil
abbrev tI0:TE3:=tC (.int 0)
abbrev tI1:TE3:=tC (.int 1)
abbrev tI2:TE3:=tC (.int 2)
abbrev U1:TG3:=jJh 1
abbrev U2:TG3:=jJh 2
abbrev U3:TG3:=jJh 3
abbrev U4:TG3:=jJh 4
abbrev U5:TG3:=jJh 5
abbrev U6:TG3:=jJh 6
abbrev U7:TG3:=jJh 7
abbrev U8:TG3:=jJh 8
abbrev U9:TG3:=jJh 9
abbrev U10:TG3:=jJh 10
abbrev U11:TG3:=jJh 11
abbrev U12:TG3:=jJh 12
noncomputable abbrev fF:=false
noncomputable abbrev tT:=true
local macro_rules
 | `(tactic| exists $ts,*) => do
  let ls ← ts.getElems.mapM fun t => `(Lean.Parser.Tactic.simpLemma| $t:term)
  let ns ← ("M0 M1 M2 M3 M4 M5 M6 M7 M8 M9 tI0 tI1 tI2 U1 U2 U3 U4 U5 U6 U7 U8 U9 U10 U11 U12 fF tT C0 C1 C2 C3 C4 C5 C6 C7 C8 C9 C10 C11 C12 tSeq tIfS jJ2 tOp rGt rLt rGe rSub L3.rI0 L3.rI rIxF tVar tC tAsg tCB jJa tNil uKf rLen rAbs rMax kZe gTup jKi gNil gSub jJh kKw tRet uUt jKv jZp jJk tLst tTup tIf tNot tAnd tOr jXu tOrV qK8 tPar jK8 jZu rMod uKe rPow rIsN uYr qKh tTru rTru truT tUn rNeg qZx qY0 qY2 qY1 uQf uQg uK3 uK4 at0 at1 at2 ix30 ix31 ix32 qX8 qX6 uK5 qYa Option.map_some and_assoc T.int.injEq T.bl.injEq T.tup.injEq T.ref.injEq List.cons.injEq and_true true_and exists_eq_left exists_eq_left' exists_and_left exists_eq_right List.getElem?_cons_zero List.getElem?_cons_succ List.set_cons_zero List.set_cons_succ List.length_cons List.length_nil Nat.reduceAdd Option.some.injEq jJe qVh reduceCtorEq false_and exists_false exists_const Bool.true_eq Bool.not_eq_true' Bool.not_true Bool.not_false if_true if_false decide_eq_true_eq tBM jUa uKd jKd qXw jK6 GO.lst.injEq msk List.zipWith_cons_cons List.zipWith_nil_left List.zipWith_nil_right Bool.false_eq_true uJ3".splitOn " ").toArray.mapM fun n => `(Lean.Parser.Tactic.simpLemma| $(Lean.mkIdent n.toName):term)
  let al:=ns++ls
  `(tactic| ((try dsimp only [$al,*]); (try simp only [$al,*])))
local macro_rules
 | `(tactic| omega) => `(tactic| first | exact szle rfl | lia)
def BoxAt(G:Gp)(b:Addr)(n:Nat):Prop:=∃x y z:Int,G b=some (.lst [.int x,.int y,.int z])/\0<=x/\0<=y/\y<2147483648/\0<=z/\z<=n
def Keep(b:Addr)(G G':Gp):Prop:=∀c o,c≠b->G c=some o->G' c=some o
variable {b:Addr}{G:Gp}
theorem Keep.trans{G1 G2:Gp}(h:Keep b G G1)(h':Keep b G1 G2):Keep b G G2:=λc o hc e=>h' c o hc (h c o hc e)
variable {o:GO}
theorem Keep.gup:Keep b G (gup G b o):=λc u hc e=>by rw[jJw hc];exact e
variable {p:Addr}
theorem Keep.new(hp:G p=none):Keep b G (L3.gup G p o):=λc u _ e=>by rw[jJw];exact e;rintro rfl;rw[hp] at e;cases e
noncomputable abbrev jQw(ns:List Int):List T:=ns.map T.int
theorem sz:sizeLine=16777216:=lZt
abbrev Web:=List (List (Nat×Nat))
noncomputable def encE(e:Nat×Nat):T:= .tup [.int e.1,.int e.2]
noncomputable def encR(r:List (Nat×Nat)):T:= .tup (r.map encE)
noncomputable def encW(W:Web):T:= .tup (W.map encR)
noncomputable def en(W:Web)(r i:Nat):Option (Nat×Nat):=(W[r]?).bind λes=>es[i]?
def Sym(W:Web):Prop:=∀r i s j,en W r i=some (s,j)->en W s j=some (r,i)
noncomputable def sw:Nat->Nat
 | 0=>1
 | 1=>0
 | n=>n
noncomputable def keyE(e:Nat×Nat):L2.TKey:=[.inl (.inl (e.1:Int)),.inl (.inl (e.2:Int))]
variable {a:Nat×Nat}
theorem kZt{b:Nat×Nat}(h:keyE a=keyE b):a=b:=by
 obtain⟨a1,a2⟩:=a;obtain⟨b1,b2⟩:=b;simp only[keyE,lVg,Sum.inl.injEq,and_true] at h;obtain⟨h1,h2⟩:=h;rw[Int.ofNat.inj h1,Int.ofNat.inj h2]
variable {r i:Nat}{e:Nat×Nat}
theorem kU0{W:Web}(h:en W r i=some e):∃es,W[r]? =some es/\es[i]? =some e:=by
 unfold en at h;cases e1:W[r]? with
 | none=>rw[e1] at h;cases h
 | some es=>rw[e1] at h;exact⟨es,rfl,h⟩
variable {es:List (Nat×Nat)}
theorem kU1{W:Web}(h1:W[r]? =some es)(h2:es[i]? =some e):en W r i=some e:=by unfold en;rw[h1];exact h2
open Classical in
def oth(Hs:Web)(e:Nat×Nat):Nat×Nat:=if h:∃p:Nat×Nat,en Hs p.1 p.2=some (e.1,sw e.2) then h.choose else (0,0)
variable {n:Nat}{x:T}
theorem qYc(h:(rngT 0 n)[i]? =some x):i<n/\x= .int i:=by
 unfold rngT at h;rw[lJ0] at h
 have hi:i<n:=by
  rcases lQk i n with z | z
  .exact z
  .rw[lKj (by simpa using z)] at h;cases h
 simp[hi] at h;exact⟨hi,h.symm⟩
theorem jVe:(rngT 0 n).length=n:=by simp[rngT]
variable {m:Nat}
theorem BoxAt.mono(h:BoxAt G b n)(hm:n<=m):BoxAt G b m:=by
 obtain⟨x,y,z,h1,h2,h3,h4,h5,h6⟩:=h;exact⟨x,y,z,h1,h2,h3,h4,h5,by omega⟩
theorem BoxAt.some(h:BoxAt G b n):∃o,G b=some o:=by
 obtain⟨x,y,z,h1,_⟩:=h;exact⟨_,h1⟩
variable {G':Gp}
theorem BoxAt.sub(h:BoxAt G b n)(s:Sub G G'):BoxAt G' b n:=by
 obtain⟨x,y,z,h1,h2,h3,h4,h5,h6⟩:=h;exact⟨x,y,z,s _ _ h1,h2,h3,h4,h5,h6⟩
theorem BoxAt.gup(h:BoxAt G b n)(hp:b≠p):BoxAt (gup G p o) b n:=by
 obtain⟨x,y,z,h1,h2,h3,h4,h5,h6⟩:=h;exact⟨x,y,z,by rw[jJw hp];exact h1,h2,h3,h4,h5,h6⟩
theorem Keep.sub(h:Sub G G'):Keep b G G':=λc o _ e=>h c o e
theorem Keep.over(h:Keep b G G')(hp:G p=none):Keep b G (L3.gup G' p o):=λc u hc e=>by rw[jJw];exact h c u hc e;rintro rfl;rw[hp] at e;cases e
noncomputable def hv(n t:Nat)(p:Nat×Nat):List (Nat×Nat×Nat):=if p.2=n then [(p.1,t,2)] else [(p.1,t,0),(p.2,t,1)]
noncomputable def hvs(P:List (Nat×Nat))(n k:Nat):List (Nat×Nat×Nat):=(List.range k).flatMap λt=>match P[t]? with
 | some p=>hv n t p
 | none=>[]
theorem Keep.none(h:Keep b G G')(hb:p≠b)(hp:G' p=none):G p=none:=by
 cases e:G p with
 | none=>rfl
 | some o=>rw[h p o hb e] at hp;cases hp
variable {xs:List T}
theorem qYw:(numT xs).length=xs.length:=by simp[numT]
theorem jV7:rngT 0 n=(List.range n).map λ(k:Nat)=>T.int k:=by simp[rngT]
theorem kJo{lo:Nat}:rngT lo n=(List.range n).map λ(k:Nat)=>T.int ((lo+k:Nat):Int):=by simp[rngT]
theorem qVn{es:List Nat}:(es.map λe=>T.int (e:Nat)).all jX7=true:=by
 rw[lXv,lKo];intros;rfl
theorem jU7{α:Type}{f:α->Bool}:∀{es:List α},kYx (es.map λe=>T.bl (f e))=some (es.all f)
 | []=>rfl
 | e::es=>by rw[lJo,kYx,jU7,lQy]
def Conn(W:Web):Prop:=∀S:Nat->Prop,S 0->(∀r i s j,S r->en W r i=some (s,j)->S s)->∀r,r<W.length->S r
theorem uXt{W:Web}(h:en W r i=some e):r<W.length:=by
 obtain⟨es,h1,h2⟩:=kU0 h;exact (lJk.mp h1).1
structure Fine (W:Web):Prop where
 len:W.length<=1000
 row:∀(r:Nat)(es:List (Nat×Nat)),W[r]? =some es->es.length<=1000
 rng:∀r i s j,en W r i=some (s,j)->s<W.length
theorem jQz{W:Web}(h:W[r]? =some es):L2.atI (W.map encR) (r:Int)=some (encR es):=by rw[atN];simp[h]
theorem kUz(h:es[i]? =some e):L2.atI (es.map encE) (i:Int)=some (encE e):=by rw[atN];simp[h]
theorem jVx{k:Nat}(h:(rngT 0 n)[k]? =some x):k<n/\x= .int (k:Nat):=qYc h
noncomputable def jJo(F:List Nat):List T:=F.map λe=>T.int (e:Nat)
theorem qZc{F:List Nat}:inT (.int r) (jJo F)=F.contains r:=by
 unfold inT jJo;rw[List.any_map,List.contains_eq_any_beq]
 congr 1
 funext e
 simp only[Function.comp,eqT]
 by_cases h:e=r
 .subst h;simp
 .have h2:¬ (e:Int)=r:=by omega
  have h3:¬ r=e:=λz=>h z.symm
  rw[beq_eq_false_iff_ne.mpr h3,beq_eq_false_iff_ne.mpr h2]
theorem qZd{F:List Nat}(h:G p=some (.lst (jJo F))):inR G (.int r) (.ref p)=some (F.contains r):=by
 unfold inR;rw[jJn h];show (if _ then _ else _)=_
 rw[lJc ⟨rfl,qVn⟩,qZc]
theorem jQk:∀{n:Nat}{F:List Nat}(hn:F.Nodup)(hl:∀x,x∈F->x<n),F.length<=n
 | 0,F,hn,hl=>by
  cases F with
  | nil=>exact lJh _
  | cons a as=>exact absurd (hl a (lJv)) (lK0 _)
 | n+1,F,hn,hl=>by
  have h1:=jQk (n:=n) (hn.erase n) (λx hx=>by
   rw[hn.mem_erase_iff] at hx;have:=hl x hx.2;omega)
  by_cases h:n∈F
  .rw[List.length_erase_of_mem h] at h1;omega
  .rw[List.erase_of_not_mem h] at h1;omega
theorem kJ6{F:List Nat}(hn:F.Nodup)(hl:∀x,x∈F->x<n)(he:F.length=n):∀r,r<n->r∈F:=by
 intro r hr;apply lVw;intro hm;have:(r::F).length<=n:=jQk (lK4.mpr ⟨hm,hn⟩) (λx hx=>by rw[lJp] at hx;rcases hx with rfl | hx;exact hr;exact hl x hx)
 simp at this;omega
def uYe(W:Web)(S:Nat->Prop):Prop:=∀r i s j,S r->en W r i=some (s,j)->S s
structure Found (W:Web) (r0:Nat) (F:List Nat):Prop where
 nd:F.Nodup
 lt:∀x,x∈F->x<W.length
 got:∀S,S r0->uYe W S->∀x,x∈F->S x
noncomputable def vis(F:List Nat)(es:List (Nat×Nat)):List Nat:=es.foldl (λF e=>if F.contains e.1=true then F else F++[e.1]) F
noncomputable def row(W:Web)(r:Nat):List (Nat×Nat):=(W[r]?).getD []
theorem jUj{W:Web}(h:W[r]? =some es):row W r=es:=by unfold row;rw[h];rfl
variable {j:Nat}
theorem kQs{F:List Nat}(h:es[j]? =some e):vis F (es.take (j+1))=if (vis F (es.take j)).contains e.1=true then vis F (es.take j) else vis F (es.take j)++[e.1]:=by
 unfold vis;rw[lQr,h,lY6];rfl
noncomputable def bfsN(W:Web):Nat->Nat->List Nat->List Nat
 | 0,_,F=>F
 | n+1,k,F=>match F[k]? with
  | some r=>bfsN W n (k+1) (vis F (row W r))
  | none=>F
noncomputable def bfs(W:Web)(r:Nat):List Nat:=bfsN W W.length 0 [r]
theorem kKk{W:Web}{k:Nat}{F:List Nat}(h:F.length<=k):bfsN W n k F=F:=by
 cases n with
 | zero=>rfl
 | succ n=>rw[bfsN,lKj h]
theorem jYt{W:Web}{k:Nat}{F:List Nat}(h:F[k]? =some r):bfsN W (n+1) k F=bfsN W n (k+1) (vis F (row W r)):=by rw[bfsN,h]
structure Turn (m:Nat) (σ:List Nat):Prop where
 len:σ.length=m
 nd:σ.Nodup
 lt:∀x,x∈σ->x<m
theorem Turn.at{σ:List Nat}(h:Turn m σ){k:Nat}(hk:k<m):∃x,σ[k]? =some x/\x<m:=by
 have hk':k<σ.length:=by rw[h.len];exact hk
 exact⟨σ[k],lJl hk',h.lt _ (lQi hk')⟩
noncomputable def cl(M:List (List T))(x i:Nat):Option T:=(M[x]?).bind λts=>ts[i]?
noncomputable def put(M:List (List T))(x i:Nat)(v:T):List (List T):=match M[x]? with
 | some ts=>M.set x (ts.set i v)
 | none=>M
theorem Found.conn{V:Web}{F:List Nat}(h:Found V 0 F)(hl:F.length=V.length):Conn V:=λS h0 hst r hr=>h.got S h0 hst r (kJ6 h.nd h.lt hl r hr)
variable {c:Nat}
theorem jK4{a:Nat}:eqG G (.int a) (.int c)=some (decide (a=c)):=by
 rw[show eqG G (.int a) (.int c)=some (eqT (.int a) (.int c)) from rfl]
 congr 1
 simp only[eqT]
 by_cases h1:a=c
 .simp[h1]
 .have:¬ (a:Int)=c:=by omega
  simp[h1,this]
abbrev RdOk(sp:Sp3)(rd:TS3)(N:List Str):Prop:=∀xs G Q,sp xs G Q->rd {nx:=λ_ G'=>Q .non G',rt:=Q} (jVo N xs) G
noncomputable def jJq:Sp3:=λxs G Q=>∃(b:Addr)(m:Int)(n:Nat),xs=[.ref b,.int m]/\BoxAt G b n/\n<2^40/\1<=m/\m<2^29/\∀(r:Int) G',0<=r->r<m->BoxAt G' b (n+1)->Keep b G G'->Q (.int r) G'
noncomputable def qZy:List Str:=["_law_box_here","_law_many","_law_found","_law_once"]
noncomputable def kJv:TS3:=
 (tSeq (tIfS (jJ2 (tOp rGt (tOp rIxF C0 tI0) tI0)) (tSeq (tAsg (tOp rMod (tOp rIxF C0 tI0) C1) U2)
 (tSeq (tAsg (tOp uKe (tOp rIxF C0 tI0) C1) (gSub C0 tI0 kKw))
 (tRet C2))) jKv)
 (tSeq (tAsg (tOp jK8 (tOp rIxF C0 tI2) tI1) (gSub C0 tI2 kKw))
 (tSeq (tAsg (tOp rMod (tOp jZu (tOp jK8 (tOp rIxF C0 tI1) (tOp jZu (tC (.int 39373)) (tOp rIxF C0 tI2))) (tOp jK8 (tC (.int 48271)) (tOp rIxF C0 tI2))) (tC (.int 2147483647))) U3)
 (tSeq (tAsg (tOp rMod (tOp jK8 (tOp jZu C3 (tOp jK8 (tOp rMod C3 (tC (.int 40009))) (tC (.int 7)))) (tOp rIxF C0 tI2)) (tC (.int 2147483629))) (gSub C0 tI1 kKw))
 (tRet (tOp rMod (tOp uKe (tOp rMod (tOp jZu (tOp rIxF C0 tI1) (tOp jK8 (tOp rMod (tOp rIxF C0 tI1) (tC (.int 1009))) (tC (.int 3)))) (tC (.int 998244353))) (tC (.int 7))) C1))))))
theorem kX1:RdOk jJq kJv qZy:=by
 intro xs G Q h_;apply xe3 h_;clear h_;intro b m n;refine ae5 ?_;intro q0_ hn hm1 hm2 k;obtain⟨x,y,z,hb,hx,hy0,hy1,hz0,hz1⟩:=q0_;show kJv _ [some (.ref b),some (.int m),none,none] G
 exists kJv,jQv hb,kY8 hb
 have box:∀x' y' z':Int,0<=x'->0<=y'->y'<2147483648->0<=z'->z'<=n+1->BoxAt (gup G b (.lst [.int x',.int y',.int z'])) b (n+1):=λx' y' z' h1 h2 h3 h4 h5=>⟨x',y',z',jJe,h1,h2,h3,h4,by omega⟩
 split
 .exact⟨by omega,⟨by omega,by omega⟩,k _ _ (lVe _ (by omega)) (lVo _ (by omega)) (box _ _ _ (Int.ediv_nonneg hx (by omega)) hy0 hy1 hz0 (by omega)) .gup⟩
 .have a0:=lVe ((y+39373*(z+1))*(48271+(z+1))) (b:=2147483647) (by decide)
  have a1:=lVo ((y+39373*(z+1))*(48271+(z+1))) (b:=2147483647) (by decide)
  refine⟨.inl (by decide),.inr ⟨by omega,by omega⟩,by decide,by decide,?_⟩
  generalize (y+39373*(z+1))*(48271+(z+1))%2147483647=u at a0 a1 ⊢
  have b0:=lVe (u*(u%40009+7)+(z+1)) (b:=2147483629) (by decide)
  have b1:=lVo (u*(u%40009+7)+(z+1)) (b:=2147483629) (by decide)
  refine⟨.inl ⟨by omega,by omega⟩,by decide,by decide,?_⟩
  generalize (u*(u%40009+7)+(z+1))%2147483629=v at b0 b1 ⊢
  refine⟨.inl ⟨by omega,by omega⟩,by decide,⟨by decide,by decide⟩,by omega,?_⟩
  exact k _ _ (lVe _ (by omega)) (lVo _ (by omega)) (box _ _ _ hx b0 (by omega) (by omega) (by omega)) .gup
noncomputable def absZ(v:Int):Int:=if v<0 then -v else v
noncomputable def boxT(v k:Int):List T:=[.int (if 10^18<=absZ v then absZ v else 0),.int ((v%2147483647+7919*k+11)*48271%2147483629),.int 0]
theorem uQ8{v k:Int}(h:G b=some (.lst (boxT v k))):BoxAt G b 0:=by
 refine⟨_,_,_,h,by unfold absZ;split<;>split<;>omega,lVe _ (by decide),?_,Int.le_refl _,by simp⟩
 have:=lVo ((v%2147483647+7919*k+11)*48271) (b:=2147483629) (by decide)
 omega
noncomputable def kQz:Sp3:=λxs G Q=>∃(c:Addr)(ns:List Int)(k:Nat),xs=[.ref c,.int k]/\G c=some (.lst (jQw ns))/\ns.length<=63/\∀p G',G p=none->G' p=some (.lst (boxT (ns.getD k 0) k))->Sub G G'->Q (.ref p) G'
noncomputable def uUg:List Str:=["_law_script","_law_k","_law_cell","_law_digits"]
noncomputable def kQ9:TS3:=
 (tSeq (tAsg (tIf (jJ2 (tOp rLt C1 (tCB rLen M0))) (tOp rIxF C0 C1) tI0) U2)
 (tSeq (tAsg (tIf (jJ2 (tOp rGe (tCB rAbs M2) (tOp rPow (tC (.int 10)) (tC (.int 18))))) (tCB rAbs M2) tI0) U3)
 (tRet (tLst (jJa C3 (jJa (tOp rMod (tOp jZu (tOp jK8 (tOp jK8 (tOp rMod C2 (tC (.int 2147483647))) (tOp jZu (tC (.int 7919)) C1)) (tC (.int 11))) (tC (.int 48271))) (tC (.int 2147483629))) (jJa tI0 tNil)))))))
theorem qJz:RdOk kQz kQ9 uUg:=by
 intro xs G Q h_;apply xe3 h_;clear h_;intro c ns k;refine ae3 ?_;intro hc hl kk;show kQ9 _ [some (.ref c),some (.int k),none,none] G
 have hs:=sz
 have fin:∀v:Int,v=ns.getD k 0->∀x,x=(if 10^18<=absZ v then absZ v else 0)->0<(2147483647:Int)/\L2.CMul 7919 k/\L2.CMul (v%2147483647+7919*k+11) 48271/\0<(2147483629:Int)/\3<=sizeLine/\∀p,G p=none->Q (.ref p) (gup G p (.lst [.int x,.int ((v%2147483647+7919*k+11)*48271%2147483629),.int 0])):=by
  rintro v rfl x rfl;exact⟨by decide,.inl (by decide),.inr (by decide),by decide,by omega,λp hp=>kk p _ hp jJe (.new hp)⟩
 have both:∀v:Int,v=ns.getD k 0->(if (10:Int)^Int.toNat 18<=(if v<0 then -v else v) then (0<(2147483647:Int)/\L2.CMul 7919 k/\L2.CMul (v%2147483647+7919*k+11) 48271/\0<(2147483629:Int)/\3<=sizeLine/\∀p,G p=none->Q (.ref p) (gup G p (.lst [.int (if v<0 then -v else v),.int ((v%2147483647+7919*k+11)*48271%2147483629),.int 0]))) else (0<(2147483647:Int)/\L2.CMul 7919 k/\L2.CMul (v%2147483647+7919*k+11) 48271/\0<(2147483629:Int)/\3<=sizeLine/\∀p,G p=none->Q (.ref p) (gup G p (.lst [.int 0,.int ((v%2147483647+7919*k+11)*48271%2147483629),.int 0])))):=by
  intro v hv
  by_cases h:10^18<=absZ v
  .rw[lJc (show (10:Int)^Int.toNat 18<=(if v<0 then -v else v) from h)]
   exact fin v hv _ (by rw[lJc h];rfl)
  .rw[lJa (show ¬ (10:Int)^Int.toNat 18<=(if v<0 then -v else v) from h)]
   exact fin v hv _ (by rw[lJa h])
 exists kQ9,jJn hc,List.length_map,jQv hc
 by_cases hk:k<ns.length
 .rw[lJc (by omega)]
  have hv:ns[k]? =some ns[k]:=lJl hk;have hg:ns[k]=ns.getD k 0:=by rw[List.getD,hv];rfl
  have b:=both ns[k] hg;refine⟨.int ns[k],by rw[atN,lJ0,hv];rfl,_,rfl,⟨by decide,by decide,by decide⟩,?_⟩
  generalize ns[k]=v at b
  by_cases h:(10:Int)^Int.toNat 18<=(if v<0 then -v else v)
  .rw[lJc h] at b ⊢;exact⟨v,rfl,v,rfl,b⟩
  .rw[lJa h] at b ⊢;exact⟨v,rfl,b⟩
 .rw[lJa (by omega)]
  exact⟨⟨by decide,by decide,by decide⟩,both 0 (by rw[List.getD,lKj (by omega)];rfl)⟩
noncomputable def jVc:Sp3:=λxs G Q=>∃(ns:List Int)(m:Int),xs=[.scr (jQw ns),.int m]/\ns.length<=63/\1<=m/\m<=63/\∀D rs G',G D=none->G' D=some (.lst (rs.map T.ref))->rs.length<=63->(D::rs).Nodup->(∀r,r∈rs->BoxAt G' r 0)->Sub G G'->Q (.ref D) G'
noncomputable def qKu:List Str:=["_law_script","_law_many","_law_cells","_law_k","_law_cell"]
noncomputable def jX2:TS3:=
 (tSeq (tAsg (tCB jQc (jJa (tSl rSlF C0 jJ5 (jKr C1)) tNil)) U2)
 (tSeq (tFor (kK1 (jJa (tSl rSlF C0 (jKr C1) (jKr (tC (.int 63)))) tNil)) (gTup 2 (jKi U3 (jKi U4 gNil))) (tAsg (tOp jK8 (tOp rIxF C2 (tOp rMod C3 C1)) (tOp jZu C4 (tOp jK8 C3 tI2))) (gSub C2 (tOp rMod C3 C1) kKw)))
 (tRet (jKt [fF,fF,fF,tT,fF] (jUi (jJa (tCB rMax (jJa tI1 (jJa (tCB rLen M2) tNil))) tNil)) U3 jK6 (jJk kQz (jJa C2 M3))))))
theorem kQ6:RdOk jVc jX2 qKu:=by
 intro xs G Q h_;apply xe2 h_;clear h_;intro ns m;refine ae4 ?_;intro hl hm1 hm2 kk;show jX2 _ [some (.scr (jQw ns)),some (.int m),none,none,none] G
 have hs:=sz
 exists jX2,tSl,rSlF,slR,jJ5,jKr,jQc,jV0,jKh,kK1
 intro p hp p1 hp1;obtain⟨hpp,hp10⟩:=jQ3 hp1;intro q hq;obtain⟨hq1,hq2⟩:=jQ3 hq;obtain⟨hqp,hq0⟩:=jQ3 hq2
 obtain⟨cs,hcs,lcs⟩:∃cs:List Int,cutT (jQw ns) none (some m)=jQw cs/\cs.length=min m.toNat ns.length:=by
  refine⟨ns.take (min m.toNat ns.length),?_,by simp⟩
  simp only[cutT,HT.sIx,lJd,lYb,Nat.sub_zero];rw[lJa (by omega)]
  simp[lV6]
 obtain⟨rs,hrs,lrs⟩:∃rs:List Int,cutT (jQw ns) (some m) (some 63)=jQw rs/\(rs.length<=63/\(0<rs.length->m.toNat<=ns.length)):=by
  refine⟨(ns.drop (min m.toNat ns.length)).take (min 63 ns.length-min m.toNat ns.length),?_,?_,?_⟩
  .simp only[cutT,HT.sIx,lJd];simp only[show ¬ m<0 by omega,show ¬ (63:Int)<0 by decide,lKi]
   simp[lV6,lX5]
  .simp;omega
  .simp;omega
 rw[hcs,hrs];refine⟨jQw rs,by simp only[jU2,jJe,asL],?_⟩
 refine⟨λi τ G'=>∃(v3 v4:Option T)(ms:List Int),τ=[some (.scr (jQw ns)),some (.int m),some (.ref p1),v3,v4]/\G' p1=some (.lst (jQw ms))/\ms.length=cs.length/\G' q=some (.lst (jQw rs))/\Sub G G',?_,?_,?_,?_⟩
 .refine⟨none,none,cs,rfl,by rw[jJw hq1.symm,jJe],rfl,jJe,(((Sub.new hp).over hp10).over hq0)⟩
 .intro i τ G' hi h_;apply xe3 h_;clear h_;intro v3 v4 ms;refine ae4 ?_;intro h1 h2 h3 h4;simp only[jU2,h3,asL]
 .intro i x τ G' hx h_;apply xe3 h_;clear h_;intro v3 v4 ms;refine ae4 ?_;intro h1 h2 h3 h4;have hi:i<rs.length:=by have:=(lJk.mp hx).1;simpa[jJ4] using this
  have hri:(jQw rs)[i]? =some (.int rs[i]):=by simp[hi]
  rw[jYl hri] at hx;cases hx;have hml:=lrs.2 (by omega)
  have hk0:(0:Int)<=(i:Int)%m:=lVe _ (by omega)
  have hk1:(i:Int)%m<m:=lVo _ (by omega)
  have hk:((i:Int)%m).toNat<ms.length:=by omega
  have hat:L2.atI (jQw ms) ((i:Int)%m)=some (.int ms[((i:Int)%m).toNat]):=by rw[atZ hk0];simp[hk]
  have hix:L2.ixN (jQw ms).length ((i:Int)%m)=some ((i:Int)%m).toNat:=ixZ hk0 (by simp;omega)
  exists jQv h1,hat,qX5 h1 hix
  refine⟨by omega,.inr ⟨by omega,by omega⟩,by omega,?_⟩
  exact⟨ms.set ((i:Int)%m).toNat (ms[((i:Int)%m).toNat]+rs[i]*((i:Int)+2)),by simp[jQw,List.map_set],by simpa using h2,by rw[jJw hq1];exact h3,h4.over hp10⟩
 .intro τ G' h_;apply xe3 h_;clear h_;intro v3 v4 ms;refine ae4 ?_;intro h1 h2 h3 h4;have hm:ms.length<=63:=by omega
  exists jUi,rMax,jJn h1
  obtain⟨N,hN,hN2⟩:∃N:Nat,(if ((jQw ms).length:Int)>1 then ((jQw ms).length:Int) else 1)=(N:Int)/\N<=63:=by
   refine⟨(if ((jQw ms).length:Int)>1 then ((jQw ms).length:Int) else 1).toNat,?_,?_⟩<;>rw[lJd]<;>split<;>omega
  rw[hN];refine⟨by omega,by omega,?_⟩
  rw[show ((N:Nat):Int).toNat=N by omega,jV7]
  refine jXb (λk:Nat=>boxT (ms.getD k 0) k) (by simp;omega) (λ_ _=>trivial) ?_ ?_
  .intro i k hk G2 K K0 s hK
   exists tSeq
   exact⟨p1,ms,k,rfl,s _ _ h1,hm,λp G4 hp h4 s4=>hK p G4 hp h4 s4⟩
  .intro E rs G2 hE hE2 s2 hrl hnd hrs;rw[lK1] at hrl;refine kk E rs G2 (h4.none hE) hE2 (by omega) hnd (λr hr=> ?_) (h4.trans s2)
   obtain⟨j,hj⟩:=lJ9 hr;have hjl:j<rs.length:=(lJk.mp hj).1;exact uQ8 (hrs j r j hj (by rw[lXi (by omega)])).2
variable {nu:List Nat}{y:Nat}
theorem qXj{x:Nat}(h:nu[x]? =some y):L2.atI (jJo nu) (x:Int)=some (.int (y:Nat)):=by rw[atN];simp[jJo,h]
variable {kvs:List (L2.Key×T)}
theorem kXu{k:L2.Key}:(valT kvs k).isSome=true↔k∈kvs.map Prod.fst:=by
 unfold valT;rw[lZq,List.find?_isSome,lJj];exact⟨λ⟨a,h1,h2⟩=>⟨a,h1,by simpa using h2⟩,λ⟨a,h1,h2⟩=>⟨a,h1,by simpa using h2⟩⟩
noncomputable def keyN(x:Nat):L2.Key:= .inl (x:Nat)
theorem kZs{F:List Nat}{x:Nat}:keyN x∈F.map keyN↔x∈F:=by
 rw[lJj];refine⟨λ⟨a,ha,e⟩=> ?_,λh=>⟨x,h,rfl⟩⟩
 have e1:(Sum.inl (a:Int):L2.Key)=Sum.inl (x:Int):=e;have:(a:Int)=x:=by injection e1
 have:a=x:=by omega
 exact this▸ha
theorem uQa{d:Addr}{F:List Nat}{x:Nat}(h:G d=some (.dck kvs))(hk:kvs.map Prod.fst=F.map keyN):inR G (.int (x:Nat)) (.ref d)=some (decide (x∈F)):=by
 have e1:seqT G (.ref d)=none:=by simp only[seqT,h];rfl
 have e2:dAt G (.ref d) (.int (x:Nat))=some (valT kvs (keyN x)):=by simp only[dAt,h,jZx];rfl
 unfold inR;simp only[e1,e2]
 congr 1
 rw[lZ6,kXu,hk,kZs];simp
theorem qYl{k:L2.Key}{v:T}(h:k∉kvs.map Prod.fst):putT kvs k v=kvs++[(k,v)]:=by
 unfold putT;rw[lJa];rw[lY2];rintro⟨a,ha,e⟩;exact h (lJj.mpr ⟨a,ha,by simpa using e⟩)
theorem qX7{d:Addr}{x:Nat}{v:T}(h:G d=some (.dck kvs))(hz:kvs.length<sizeLine):setR G (.ref d) (.int (x:Nat)) v=some (gup G d (.dck (putT kvs (keyN x) v))):=by
 simp only[setR,h,jZx];rw[lJc hz];rfl
theorem jX5{y:T}(h:(numT xs)[j]? =some y):∃x,xs[j]? =some x/\y= .tup [.int j,x]:=by
 have hj:j<xs.length:=by have:=(lJk.mp h).1;rwa [jJ4] at this
 refine⟨xs[j],lJl hj,?_⟩;rw[jYl (lJl hj)] at h;cases h;rfl
theorem qXz(h:Sub G G')(hp:G' p=none):G p=none:=by
 cases e:G p with
 | none=>rfl
 | some o=>rw[h _ _ e] at hp;cases hp
theorem vis_sub{F:List Nat}:(∃E,vis F es=F++E)/\(∀e,e∈es->e.1∈vis F es)/\(∀x,x∈vis F es->x∈F\/∃e,e∈es/\e.1=x)/\(F.Nodup->(vis F es).Nodup):=by
 induction es generalizing F with
 | nil=>exact⟨⟨[],by simp[vis]⟩,by simp,λx h=> .inl h,λh=>h⟩
 | cons e es ih=>
  have hv:vis F (e::es)=vis (if F.contains e.1=true then F else F++[e.1]) es:=rfl
  rw[hv]
  by_cases h:F.contains e.1=true
  .rw[lJc h];obtain⟨⟨E,i1⟩,i2,i3,i4⟩:=ih (F:=F);refine⟨⟨E,i1⟩,λd hd=> ?_,λx hx=> ?_,i4⟩
   .rcases (lJp.mp hd) with rfl | hde
    .rw[i1];exact lKk _ (by simpa using h)
    .exact i2 d hde
   .rcases i3 x hx with h | ⟨d,hd,e⟩
    .exact .inl h
    .exact .inr ⟨d,lJw _ hd,e⟩
  .rw[lJa h];obtain⟨⟨E,i1⟩,i2,i3,i4⟩:=ih (F:=F++[e.1]);refine⟨⟨e.1::E,by rw[i1];simp⟩,λd hd=> ?_,λx hx=> ?_,λhn=>i4 ?_⟩
   .rcases (lJp.mp hd) with rfl | hde
    .rw[i1];exact lKk _ (by simp)
    .exact i2 d hde
   .rcases i3 x hx with h | ⟨d,hd,e'⟩
    .rcases (lJn.mp h) with h | hs
     .exact .inl h
     .exact .inr ⟨e,lJv ..,(lJz.mp hs).symm⟩
    .exact .inr ⟨d,lJw _ hd,e'⟩
   .rw[lXx];exact⟨hn,by simp,λa ha b hb=>by rw[lJz] at hb;subst hb;rintro rfl;exact h (by simpa using ha)⟩
structure Bfs (W:Web) (k:Nat) (F:List Nat):Prop where
 nd:F.Nodup
 lt:∀x,x∈F->x<W.length
 near:∀(i x:Nat)(e:Nat×Nat),i<k->F[i]? =some x->e∈row W x->e.1∈F
theorem uKb{W:Web}{x:Nat}(h:e∈row W x):∃i,en W x i=some e:=by
 unfold row at h;cases hW:W[x]? with
 | none=>rw[hW] at h;simp at h
 | some es=>
  rw[hW] at h;obtain⟨i,hi⟩:=lJ9 (show e∈es from h)
  exact⟨i,kU1 hW hi⟩
theorem Bfs.step{W:Web}(f:Fine W){k:Nat}{F:List Nat}(h:Bfs W k F)(hr:F[k]? =some r):Bfs W (k+1) (vis F (row W r)):=by
 obtain⟨⟨E,e1⟩,e2,e3,e4⟩:=vis_sub (F:=F) (es:=row W r);refine⟨e4 h.nd,λx hx=> ?_,λi x e hi hx he=> ?_⟩
 .rcases e3 x hx with hx | ⟨e,he,rfl⟩
  .exact h.lt x hx
  .obtain⟨i,hi⟩:=uKb he;exact f.rng _ _ e.1 e.2 hi
 .have hkl:k<F.length:=(lJk.mp hr).1;have hx':F[i]? =some x:=by rw[e1,lK6 (by omega)] at hx;exact hx
  rcases lK2 (lK8 hi) with h1 | rfl
  .rw[e1];exact lKk _ (h.near i x e h1 hx' he)
  .rw[hr] at hx';cases hx';exact e2 e he
theorem Bfs.run{W:Web}(f:Fine W):∀(n k:Nat)(F:List Nat),Bfs W k F->W.length<=n+k->k<=F.length->(∃E,bfsN W n k F=F++E)/\Bfs W (bfsN W n k F).length (bfsN W n k F)
 | 0,k,F,h,hl,hk=>by
  have hF:=jQk h.nd h.lt;have:k=F.length:=by omega
  subst this;exact⟨⟨[],by simp[bfsN]⟩,h⟩
 | n+1,k,F,h,hl,hk=>by
  rcases lQk k F.length with hlt | hge
  .have hr:F[k]? =some F[k]:=lJl hlt;rw[jYt hr];obtain⟨⟨E,e1⟩,e2,e3,e4⟩:=vis_sub (F:=F) (es:=row W F[k]);obtain⟨⟨E',h1⟩,h2⟩:=Bfs.run f n (k+1) _ (h.step f hr) (by omega) (by rw[e1,lJ4];omega)
   exact⟨⟨E++E',by rw[h1,e1,lJt]⟩,h2⟩
  .have:k=F.length:=by omega
   subst this;rw[kKk (lJh _)];exact⟨⟨[],by simp⟩,h⟩
theorem uX8{W:Web}(f:Fine W)(hr:r<W.length):(∃E,bfs W r=r::E)/\Bfs W (bfs W r).length (bfs W r):=
 Bfs.run f W.length 0 [r] ⟨by simp,by simpa using hr,λi x e hi=>absurd hi (lK0 _)⟩ (by omega) (by simp)
structure Order (W:Web) (r:Nat) (F:List Nat):Prop where
 nd:F.Nodup
 lt:∀x,x∈F->x<W.length
 all:∀x,x<W.length->x∈F
 first:F[0]? =some r
theorem qXh{W:Web}(f:Fine W)(sym:Sym W)(c:Conn W)(hr:r<W.length):Order W r (bfs W r):=by
 obtain⟨⟨E,e1⟩,h⟩:=uX8 f hr
 have cl:∀x i s j,x∈bfs W r->en W x i=some (s,j)->s∈bfs W r:=by
  intro x i s j hx he;obtain⟨k,hk⟩:=lJ9 hx;have hkl:=(lJk.mp hk).1;refine h.near k x (s,j) hkl hk ?_;have he':=he;unfold en at he';cases hW:W[x]? with
  | none=>rw[hW] at he';cases he'
  | some es=>rw[hW] at he';rw[jUj hW];exact lJs (show es[i]? =_ from he')
 have hrF:r∈bfs W r:=by rw[e1];exact lJv ..
 have h0:0∈bfs W r:=c (λx=>x∈bfs W r->0∈bfs W r) (λh=>h) (λx i s j hx he hs=>hx (cl s j x i hs (sym _ _ _ _ he))) r hr hrF
 exact⟨h.nd,h.lt,λx hx=>c (λx=>x∈bfs W r) h0 (λx i s j h he=>cl x i s j h he) x hx,by rw[e1];rfl⟩
theorem qJg:∀(n:Nat)(F:List Nat),(∀x,x<n->x∈F)->n<=F.length
 | 0,_,_=>lJ6 _
 | n+1,F,h=>by
  have hn:=h n (Nat.lt_succ_self _);have h1:=qJg n (F.erase n) λx hx=>(List.mem_erase_of_ne (by omega)).mpr (h x (by omega))
  rw[List.length_erase_of_mem hn] at h1;have:=List.length_pos_of_mem hn;omega
theorem Order.len{W:Web}{F:List Nat}(h:Order W r F):F.length=W.length:=by
 have h1:=jQk h.nd h.lt;exact Nat.le_antisymm h1 (qJg _ _ h.all)
theorem uUl{W:Web}(f:Fine W){F:List Nat}{x:Nat}(hx:W[x]? =some es)(hF:∀y,y∈F->y<W.length)(j:Nat):∀y,y∈vis F (es.take j)->y<W.length:=by
 intro y hy
 rcases (vis_sub (F:=F) (es:=es.take j)).2.2.1 y hy with h | ⟨e,he,rfl⟩
 .exact hF y h
 .obtain⟨i,hi⟩:=lJ9 (lQa he);exact f.rng x i e.1 e.2 (kU1 hx hi)
noncomputable def nuF(nu:List Nat)(x:Nat):Nat:=(nu[x]?).getD x
noncomputable def renE(nu:List Nat)(es:List (Nat×Nat)):List (Nat×Nat):=es.map λe=>(nuF nu e.1,e.2)
structure Ren (W:Web) (nu:List Nat) (V:Web):Prop where
 len:V.length=W.length
 at':∀(r:Nat)(es:List (Nat×Nat)),W[r]? =some es->V[nuF nu r]? =some (renE nu es)
theorem jYm{x:Nat}(h:nu[x]? =some y):nuF nu x=y:=by unfold nuF;rw[h];rfl
theorem kUk{x:Nat}(h:nu.length<=x):nuF nu x=x:=by unfold nuF;rw[lKj h];rfl
theorem uJn(t:Turn n nu){x:Nat}(h:x<n):nuF nu x<n:=by
 obtain⟨y,hy,hl⟩:=t.at h;rw[jYm hy];exact hl
theorem uKt(t:Turn n nu){x:Nat}(h:nuF nu x=nuF nu y):x=y:=by
 rcases lQk x n with hx | hx<;>rcases lQk y n with hy | hy
 .obtain⟨a,ha,_⟩:=t.at hx;obtain⟨b,hb,_⟩:=t.at hy;rw[jYm ha,jYm hb] at h;subst h;exact (lZ7 (by rw[t.len];exact hx) t.nd).mp (ha.trans hb.symm)
 .have:=uJn t hx;rw[h,kUk (by rw[t.len];exact hy)] at this;omega
 .have:=uJn t hy;rw[<-h,kUk (by rw[t.len];exact hx)] at this;omega
 .rw[kUk (by rw[t.len];exact hx),kUk (by rw[t.len];exact hy)] at h;exact h
theorem qYx(t:Turn n nu)(h:y<n):∃x,x<n/\nuF nu x=y:=by
 have hm:=kJ6 t.nd t.lt t.len y h;obtain⟨x,hx⟩:=lJ9 hm;exact⟨x,by have:=(lJk.mp hx).1;rw[t.len] at this;exact this,jYm hx⟩
noncomputable def tf(W:Web)(r:Nat):Web:=(bfs W r).map λs=>(row W s).map λe=>((bfs W r).idxOf e.1,e.2)
noncomputable def inv(n:Nat)(F:List Nat):List Nat:=(List.range n).map λx=>F.idxOf x
theorem Order.idx{W:Web}{F:List Nat}(o:Order W r F){x:Nat}(h:x<W.length):F[F.idxOf x]? =some x/\F.idxOf x<W.length:=by
 have hl:=lZ8 (o.all x h);refine⟨?_,by rw[o.len] at hl;exact hl⟩
 rw[lJl hl,List.getElem_idxOf]
theorem qVd{x:Nat}{F:List Nat}(h:x<n):(inv n F)[x]? =some (F.idxOf x):=by simp[inv,h]
theorem Order.turn{W:Web}{F:List Nat}(o:Order W r F):Turn W.length (inv W.length F):=by
 refine⟨by simp[inv],?_,λy hy=> ?_⟩
 .unfold inv;rw[lY7,lV4];refine List.Pairwise.imp_of_mem (λ{a b} ha hb hne e=>hne ?_) (lY7.mp lV3)
  have h1:=(o.idx (lKb.mp ha)).1;have h2:=(o.idx (lKb.mp hb)).1;rw[e,h2] at h1;cases h1;rfl
 .obtain⟨x,hx,rfl⟩:=lJj.mp hy;exact (o.idx (lKb.mp hx)).2
theorem uYj{W:Web}(f:Fine W)(o:Order W r (bfs W r)):Ren W (inv W.length (bfs W r)) (tf W r):=by
 refine⟨by unfold tf;rw[lJd];exact o.len,λx es hx=> ?_⟩
 have hxl:=(lJk.mp hx).1;rw[jYm (qVd hxl)];unfold tf;rw[lJ0,(o.idx hxl).1];show some _=some _
 congr 1
 show (row W x).map _=_
 rw[jUj hx,renE];apply lV7;intro e he;obtain⟨i,hi⟩:=lJ9 he;rw[jYm (qVd (f.rng x i e.1 e.2 (kU1 hx hi)))]
theorem Ren.unique{W V V':Web}(t:Turn W.length nu)(h:Ren W nu V)(h':Ren W nu V'):V=V':=by
 apply lQ5;intro i
 rcases lQk i W.length with hi | hi
 .obtain⟨x,hx,rfl⟩:=qYx t hi;have hW:W[x]? =some W[x]:=lJl hx;rw[h.at' x _ hW,h'.at' x _ hW]
 .rw[lKj (by rw[h.len];exact hi),lKj (by rw[h'.len];exact hi)]
noncomputable def jK2:Sp3:=λxs G Q=>∃(W:Web)(r0:Nat),xs=[encW W,.int r0]/\Fine W/\r0<W.length/\∀d G' kvs,G d=none->G' d=some (.dck kvs)->kvs.map Prod.fst=(bfs W r0).map keyN->Sub G G'->Q (.ref d) G'
noncomputable def kKp:List Str:=["web","room","comings","level","further","here","door","end"]
noncomputable def jQt:TS3:=
 (tSeq (tAsg (qQa C1 (tC .non)) U2)
 (tSeq (tAsg (tLst M1) U3)
 (tSeq (kQa (tTru rTru C3) (tSeq (tAsg (tLst tNil) U4)
 (tSeq (tFor (iSeq C3) U5 (tFor (iEnT (jJa (tOp rIxF C0 C5) tNil)) (gTup 2 (jKi U6 (jKi U7 gNil))) (tIfS (jJ2 (tOp jVk (tOp rIxF C7 tI0) C2)) (tSeq (tAsg (tTup (jJa C5 M6)) (gSub C2 (tOp rIxF C7 tI0) kKw))
 (jZp (tBM "list" jUa C4 (jJa (tOp rIxF C7 tI0) tNil)))) jKv)))
 (tAsg C4 U3))))
 (tRet C2))))
theorem jYi:RdOk jK2 jQt kKp:=by
 intro xs G Q h_;apply xe2 h_;clear h_;intro W r0;refine ae3 ?_;intro fine hr0 kk;show jQt _ [some (.tup (W.map encR)),some (.int r0),none,none,none,none,none,none] G
 have hs:=sz;have hl:=fine.len
 exists jQt,kQa,jKh,qQa,iSeq,iEnT
 intro d hd;refine⟨keyN r0,rfl,by omega,λl hl0=> ?_⟩
 have hdl:d≠l:=jJi (jJe (G:=G) (a:=d) (o:= .dck [(keyN r0,T.non)])) hl0;refine⟨λm τ G'=>∃(a:Nat)(l:Addr)(v4 v5 v6 v7:Option T)(F:List Nat)(kvs:List (L2.Key×T)),τ=[some (.tup (W.map encR)),some (.int r0),some (.ref d),some (.ref l),v4,v5,v6,v7]/\d≠l/\G l=none/\G' d=some (.dck kvs)/\kvs.map Prod.fst=F.map keyN/\G' l=some (.lst (jJo (F.drop a)))/\a<=F.length/\Bfs W a F/\bfs W r0=bfsN W (W.length-a) a F/\Sub G G'/\m=W.length-a,?_,?_⟩
 .refine⟨_,0,l,none,none,none,none,[r0],[(keyN r0,T.non)],rfl,hdl,?_,?_,rfl,jJe,lJ6 _,⟨by simp,by simpa using hr0,λi x e hi=>absurd hi (lK0 _)⟩,rfl,(Sub.new hd).trans (.new hl0),rfl⟩
  .rw[jJw hdl.symm] at hl0;exact hl0
  .rw[jJw hdl];exact jJe
 intro m τ G1 h_;apply xe8 h_;clear h_;intro a l v4 v5 v6 v7 F kvs;refine ae10 ?_;intro hdl hl0 h1 hk h2 haF hB hb hs1 e9_;subst e9_;have hFl:=jQk hB.nd hB.lt
 exists h2
 split
 .rename_i hne
  have haF':a<F.length:=by
   rcases lQk a F.length with z | z
   .exact z
   .rw[lVr z] at hne;simp[jJo] at hne
  refine⟨λτ' G'=>∃(l':Addr)(v4 v5 v6 v7:Option T)(F':List Nat)(kvs':List (L2.Key×T)),τ'=[some (.tup (W.map encR)),some (.int r0),some (.ref d),some (.ref l'),v4,v5,v6,v7]/\d≠l'/\G l'=none/\G' d=some (.dck kvs')/\kvs'.map Prod.fst=F'.map keyN/\G' l'=some (.lst (jJo (F'.drop F.length)))/\F.length<=F'.length/\Bfs W F.length F'/\bfs W r0=bfsN W (W.length-F.length) F.length F'/\Sub G G',?_,by omega,λp hp=> ?_⟩
  .intro τ' G' h_;apply xe7 h_;clear h_;intro l' v4 v5 v6 v7 F' kvs';refine ae9 ?_;intro i1 i2 i3 i4 i5 i6 i7 i8 i9;exact⟨W.length-F.length,by omega,F.length,l',v4,v5,v6,v7,rfl,i1,i2,F',kvs',i3,i4,i5,i6,i7,i8,i9,rfl⟩
  .have hpd:d≠p:=jJi h1 hp;have hpl:l≠p:=jJi h2 hp;have hp0:=qXz hs1 hp;refine⟨jJo (F.drop a),jJn (by rw[jJw hpl];exact h2),?_⟩
   refine⟨λi τ G'=>∃(v5 v6 v7:Option T)(F':List Nat)(kvs':List (L2.Key×T)),τ=[some (.tup (W.map encR)),some (.int r0),some (.ref d),some (.ref l),some (.ref p),v5,v6,v7]/\G' d=some (.dck kvs')/\kvs'.map Prod.fst=F'.map keyN/\G' l=some (.lst (jJo (F.drop a)))/\G' p=some (.lst (jJo (F'.drop F.length)))/\(∃E,F'=F++E)/\Bfs W (a+i) F'/\bfs W r0=bfsN W (W.length-(a+i)) (a+i) F'/\Sub G G',?_,?_,?_,?_⟩
   .exact⟨v5,v6,v7,F,kvs,rfl,by rw[jJw hpd];exact h1,hk,by rw[jJw hpl];exact h2,by rw[List.drop_length];exact jJe,⟨[],by simp⟩,hB,hb,hs1.trans (.new hp)⟩
   .intro i τ G' hi h_;apply xe5 h_;clear h_;intro v5 v6 v7 F' kvs';refine ae8 ?_;intro j1 jk j2 j3 jE jB jb js;exact jJn j2
   .intro i y τ G2 hy h_;apply xe5 h_;clear h_;intro v5 v6 v7 F' kvs';refine ae8 ?_;intro j1 jk j2 j3 q4_ jB jb js;obtain⟨E,jE⟩:=q4_;obtain⟨x,hx,rfl⟩:=jKy hy;rw[lXk] at hx;have hai:a+i<F.length:=(lJk.mp hx).1;have hx':F'[a+i]? =some x:=by rw[jE,lK6 hai];exact hx
    have hxW:=jB.lt x (lJs hx');have hW:W[x]? =some W[x]:=lJl hxW
    generalize W[x]=es at hW
    exists iEnT,jQz hW,encR,jKh
    refine⟨λj τ G'=>∃(v6 v7:Option T)(F2:List Nat)(kvs2:List (L2.Key×T)),τ=[some (.tup (W.map encR)),some (.int r0),some (.ref d),some (.ref l),some (.ref p),some (.int x),v6,v7]/\G' d=some (.dck kvs2)/\kvs2.map Prod.fst=F2.map keyN/\G' l=some (.lst (jJo (F.drop a)))/\G' p=some (.lst (jJo (F2.drop F.length)))/\F2=vis F' (es.take j)/\Sub G G',?_,?_,?_,?_⟩
    .exact⟨v6,v7,F',kvs',rfl,j1,jk,j2,j3,rfl,js⟩
    .intros;trivial
    .intro j y τ G3 hy h_;apply xe4 h_;clear h_;intro v6 v7 F2 kvs2;refine ae6 ?_;intro q1 qk q2 q3 q4 q5;obtain⟨z,hz,rfl⟩:=jX5 hy;obtain⟨e,he,rfl⟩:=jKy hz;have hF2n:F2.Nodup:=by rw[q4];exact vis_sub.2.2.2 jB.nd
     have hF2l:∀y,y∈F2->y<W.length:=by rw[q4];exact uUl fine hW jB.lt j
     have hF2:=jQk hF2n hF2l;have hkl:kvs2.length=F2.length:=by have:=lKa List.length qk;simpa using this
     have hFF:F.length<=F2.length:=by
      obtain⟨⟨E',e1⟩,_⟩:=vis_sub (F:=F') (es:=es.take j);rw[q4,e1,jE];simp only[lJ4];omega
     exists encE,jVk,uQa q1 qk
     by_cases hm:e.1∈F2
     .rw[lJa (by simp[hm])]
      exact⟨F2,kvs2,q1,qk,q2,q3,by rw[kQs he,<-q4,lJc (by simpa using hm)],q5⟩
     .rw[lJc (by simp[hm])]
      exists qX7 q1 (show kvs2.length<sizeLine by omega)
      have hgp:gup G3 d (.dck (putT kvs2 (keyN e.1) (.tup [.int x,.int j]))) p=some (.lst (jJo (F2.drop F.length))):=by rw[jJw hpd.symm];exact q3
      refine⟨by omega,by rw[jQq hgp];trivial,_,hgp,by simp[jJo];omega,F2++[e.1],kvs2++[(keyN e.1,.tup [.int x,.int j])],?_,?_,?_,?_,?_,?_⟩
      .rw[jJw hpd,jJe,qYl (by rw[qk,kZs];exact hm)]
      .rw[lKp,lKp,qk];rfl
      .rw[jJw hpl,jJw hdl.symm];exact q2
      .rw[lY4 hFF];simp[jJo]
      .rw[kQs he,<-q4,lJa (by simpa using hm)]
      .exact (q5.over hd).over hp0
    .intro τ G3 h_;apply xe4 h_;clear h_;intro v6 v7 F2 kvs2;refine ae6 ?_;intro q1 qk q2 q3 q4 q5;rw[jJ4,lJd,lQz] at q4;obtain⟨⟨E',e1⟩,_⟩:=vis_sub (F:=F') (es:=es);refine⟨_,_,_,rfl,F2,kvs2,q1,qk,q2,q3,⟨E++E',by rw[q4,e1,jE,lJt]⟩,?_,?_,q5⟩
     .have:=jB.step fine hx';rw[jUj hW,<-q4] at this;exact this
     .rw[jb,show W.length-(a+i)=W.length-(a+(i+1))+1 by omega,jYt hx',jUj hW,<-q4];rfl
   .intro τ G2 h_;apply xe5 h_;clear h_;intro v5 v6 v7 F' kvs';refine ae8 ?_;intro j1 jk j2 j3 q4_ jB jb js;obtain⟨E,jE⟩:=q4_;have hlen:(jJo (F.drop a)).length=F.length-a:=by simp[jJo]
    rw[hlen,show a+(F.length-a)=F.length by omega] at jB jb
    exists tSeq
    exact⟨hpd,hp0,F',kvs',j1,jk,j3,by rw[jE,lJ4];omega,jB,jb,js⟩
 .rename_i hne
  have he:F.length<=a:=by
   have:jJo (F.drop a)=[]:=by simpa using hne
   have:=lKa List.length this;simp[jJo] at this;omega
  rw[kKk he] at hb;exact kk d G1 kvs hd h1 (by rw[hk,hb]) hs1
noncomputable def ix:List Nat->Nat->Nat
 | [],_=>0
 | a::l,x=>if a=x then 0 else ix l x+1
noncomputable def endT(F:List Nat)(es:List (Nat×Nat)):List (Nat×Nat):=es.map λe=>(ix F e.1,e.2)
noncomputable def jVu(W:Web)(r:Nat):Web:=(bfs W r).map λq=>endT (bfs W r) (row W q)
theorem qUu{F:List Nat}:numT (jJo F)=(List.range F.length).map λi:Nat=>T.tup [.int (i:Nat),.int (F.getD i 0:Nat)]:=by
 apply lQ5;intro i
 by_cases hi:i<F.length
 .rw[jYl (x:= .int (F[i]:Nat)) (by simp[jJo,hi]),lJ0,lXi hi]
  show _=some (T.tup [T.int (i:Nat),T.int ((F.getD i 0:Nat):Int)])
  rw[show F.getD i 0=F[i] by simp[List.getD,hi]]
 .rw[lKj (by rw[qYw];simp[jJo];omega),lKj (by simp;omega)]
noncomputable def numK(F:List Nat):List (Int×T):=(List.range F.length).map λi:Nat=>((F.getD i 0:Nat),T.int (i:Nat))
theorem qUv{F:List Nat}:(numK F).map (·.1)=F.map λn:Nat=>(n:Int):=by
 unfold numK;apply lQ5;intro i
 by_cases hi:i<F.length
 .simp[hi]
 .rw[lKj (by simp;omega),lKj (by simp;omega)]
theorem uXg{x:Nat}:∀{F:List Nat},x∈F->F[ix F x]? =some x/\∀k,k<ix F x->F[k]? ≠some x
 | a::l,h=>by
  by_cases e:a=x
  .rw[ix,lJc e];exact⟨by rw[e];rfl,λk hk=>absurd hk (lK0 _)⟩
  .rcases (lJp.mp h) with z | z
   .exact absurd z.symm e
   .obtain⟨h1,h2⟩:=uXg z;rw[ix,lJa e];refine⟨by simpa using h1,λk hk=> ?_⟩
    cases k with
    | zero=>intro q;exact e (by simpa using q)
    | succ k=>simpa using h2 k (by omega)
theorem kK8{κ:Type}[DecidableEq κ]:∀{kvs:List (κ×T)}{k:κ}{v:T}{j:Nat},kvs[j]? =some (k,v)->(∀i p,i<j->kvs[i]? =some p->p.1≠k)->valT kvs k=some v
 | [],_,_,j,h,_=>by simp at h
 | p::r,k,v,0,h,_=>by
  have:p=(k,v):=by simpa using h
  subst this;simp[valT]
 | p::r,k,v,j+1,h,h2=>by
  have e:p.1≠k:=h2 0 p (Nat.zero_lt_succ _) rfl;have:=kK8 (kvs:=r) (k:=k) (v:=v) (j:=j) (by simpa using h) λi q hi hq=>h2 (i+1) q (by omega) (by simpa using hq)
  unfold valT at this ⊢;rw[List.find?_cons_of_neg (by simpa using e)]
  exact this
theorem uK6{x:Int}{t:T}(h:G p=some (.dck kvs))(hv:valT kvs (Sum.inl x)=some t):ixR G (.ref p) (.int x)=some t:=by
 simp only[ixR,seqT,h,asL,dAt,jZx,hv]
theorem qK0{F:List Nat}{x:Nat}(nd:F.Nodup)(hx:x∈F):valT ((numK F).map λkv=>((Sum.inl kv.1:L2.Key),kv.2)) (Sum.inl (x:Int))=some (.int (ix F x:Nat)):=by
 obtain⟨h1,h2⟩:=uXg hx;have hl:ix F x<F.length:=(lJk.mp h1).1;have at_:∀i,i<F.length->((numK F).map λkv=>((Sum.inl kv.1:L2.Key),kv.2))[i]? =some (Sum.inl ((F.getD i 0:Nat):Int),T.int (i:Nat)):=λi hi=>by simp[numK,hi]
 refine kK8 (j:=ix F x) ?_ λi p hi hp=> ?_
 .rw[at_ _ hl,show F.getD (ix F x) 0=x by simp[List.getD,h1]]
 .rw[at_ i (by omega)] at hp
  cases hp;intro z;have z1:((F.getD i 0:Nat):Int)=(x:Int):=Sum.inl.inj z;refine h2 i hi ?_;rw[lJl (by omega)]
  congr 1
  have:F.getD i 0=F[i]'(by omega):=by simp[List.getD,show i<F.length by omega]
  omega
def jJ9:Sp3:=λxs G Q=>∃(W:Web)(r0:Nat),xs=[encW W,.int (r0:Nat)]/\Fine W/\r0<W.length/\∀G',Sub G G'->Q (encW (jVu W r0)) G'
noncomputable def qJk:List Str:=["_law_web","_law_room","_law_order","_law_at","_law_other","_law_door","_law_place","_law_k","_law_one"]
noncomputable def kVo:TS3:=
 (tSeq (tAsg (tLst M1) U2)
 (tSeq (tAsg tI0 U3)
 (tSeq (kQa (jJ2 (tOp rLt C3 (tCB rLen M2))) (tSeq (tFor (iSeq (tOp rIxF C0 (tOp rIxF C2 C3))) (gTup 2 (jKi U4 (jKi U5 gNil))) (tIfS (jJ2 (tOp jVk C4 C2)) (jZp (tBM "list" jUa C2 M4)) jKv))
 (tAsg (tOp jK8 C3 tI1) U3)))
 (tSeq (tAsg (tCB qUc (jJa (jKt [fF,fF,fF,fF,fF,fF,fF,tT,tT] (kK1 M2) (gTup 2 (jKi U7 (jKi U8 gNil))) jK6 (tTup (jJa C8 M7))) tNil)) U6)
 (tRet (tCB jKd (jJa (jKt [fF,fF,fF,fF,fF,fF,fF,fF,tT] (iSeq C2) U8 jK6 (tCB jKd (jJa (jKt [fF,fF,fF,fF,tT,tT,fF,fF,fF] (iSeq (tOp rIxF C0 C8)) (gTup 2 (jKi U4 (jKi U5 gNil))) jK6 (tTup (jJa (tOp rIxF C6 C4) M5))) tNil))) tNil)))))))
noncomputable def qQu:TS3:=(tSeq (tAsg (tCB qUc (jJa (jKt [fF,fF,fF,fF,fF,fF,fF,tT,tT] (kK1 M2) (gTup 2 (jKi U7 (jKi U8 gNil))) jK6 (tTup (jJa C8 M7))) tNil)) U6)
 (tRet (tCB jKd (jJa (jKt [fF,fF,fF,fF,fF,fF,fF,fF,tT] (iSeq C2) U8 jK6 (tCB jKd (jJa (jKt [fF,fF,fF,fF,tT,tT,fF,fF,fF] (iSeq (tOp rIxF C0 C8)) (gTup 2 (jKi U4 (jKi U5 gNil))) jK6 (tTup (jJa (tOp rIxF C6 C4) M5))) tNil))) tNil))))
theorem qYf:kVo=tSeq (tAsg (tLst M1) U2) (tSeq (tAsg tI0 U3) (tSeq (kQa (jJ2 (tOp rLt C3 (tCB rLen M2))) (tSeq (tFor (iSeq (tOp rIxF C0 (tOp rIxF C2 C3))) (gTup 2 (jKi U4 (jKi U5 gNil))) (tIfS (jJ2 (tOp jVk C4 C2)) (jZp (tBM "list" jUa C2 M4)) jKv))
 (tAsg (tOp jK8 C3 tI1) U3))) qQu)):=rfl
variable {v4 v5:Option T}
theorem uUs{D':Ends3}{W:Web}{F:List Nat}{v1 v3:Option T}(fine:Fine W)(nd:F.Nodup)(hlt:∀x,x∈F->x<W.length)(cl:∀q,q∈F->∀e,e∈row W q->e.1∈F)(hp:G p=some (.lst (jJo F)))(kk:∀G',Sub G G'->D'.rt (encW (F.map λq=>endT F (row W q))) G'):qQu D' [some (.tup (W.map encR)),v1,some (.ref p),v3,v4,v5,none,none,none] G:=by
 have hs:=sz;have hFl:=jQk nd hlt;have hWl:=fine.len
 exists qQu,kK1,iSeq
 refine⟨_,by simp only[jU2,hp,asL];rfl,?_⟩
 rw[qUu];refine jKe (λi:Nat=>T.tup [.int (F.getD i 0:Nat),.int (i:Nat)]) (by simp;omega) (λG' s=>by simp only[jU2,s _ _ hp,asL]) ?_ ?_
 .intro i k hk G' K K0 s hkk
  exists tSeq
  exact⟨by omega,hkk _ (.refl _)⟩
 .intro q G1 hq0 hq1 s1
  exists tSeq
  have hq2:G1 q=some (.lst ((numK F).map λkv=> .tup [.int kv.1,kv.2])):=by rw[hq1,numK,lJ1];rfl
  refine⟨q,numK F,rfl,hq2,?_,by simp[numK];omega,λnn hnn=> ?_⟩
  .rw[qUv];exact List.Pairwise.map _ (λa b h z=>h (by omega)) nd
  .have s2:Sub G (gup G1 nn (.dck ((numK F).map λkv=>(Sum.inl kv.1,kv.2)))):=s1.trans (.new hnn)
   have hn2:(gup G1 nn (.dck ((numK F).map λkv=>((Sum.inl kv.1:L2.Key),kv.2)))) nn=some (.dck ((numK F).map λkv=>(Sum.inl kv.1,kv.2))):=jJe
   generalize gup G1 nn (.dck ((numK F).map λkv=>((Sum.inl kv.1:L2.Key),kv.2)))=G2 at s2 hn2
   have hp2:=s2 _ _ hp;refine⟨_,jJn hp2,?_⟩;refine jKe (es:=F) (enc:=λn:Nat=>T.int (n:Nat)) (λq=>encR (endT F (row W q))) (by omega) (λG' s=>jJn (s _ _ hp2)) ?_ ?_
   .intro i x hx G' K K0 s hkk;have hxF:=lJs hx;have hxW:=hlt x hxF;obtain⟨es,hrow⟩:∃es,W[x]? =some es:=⟨_,lJl hxW⟩
    have hel:=fine.row x es hrow
    exists iSeq,jQz hrow,encR
    refine jKe (es:=es) (enc:=encE) (λe=>encE (ix F e.1,e.2)) (by omega) (λ_ _=>trivial) ?_ ?_
    .intro j e he G'' K' K0' s' hkk';have heF:e.1∈F:=cl x hxF e (by rw[jUj hrow];exact lJs he)
     exists encE
     exact⟨_,uK6 (s' _ _ (s _ _ hn2)) (qK0 nd heF),by omega,hkk' _ (.refl _)⟩
    .intro w G3 hw0 hw3 s3
     exists jJn hw3
     have:=hkk G3 s3;unfold endT at this;rw[jUj hrow,encR,lJ1] at this;exact this
   .intro w G3 hw0 hw3 s3
    exists jJn hw3
    have:=kk G3 (s2.trans s3);unfold encW at this;rw[lJ1] at this;exact this
theorem kX0:RdOk jJ9 kVo qJk:=by
 intro xs G Q h_;apply xe2 h_;clear h_;intro W r0;refine ae3 ?_;intro fine hr0 kk;rw[show jVo qJk [encW W,.int (r0:Nat)]=[some (.tup (W.map encR)),some (.int (r0:Nat)),none,none,none,none,none,none,none] from rfl,qYf]
 have hs:=sz;have hl:=fine.len
 exists kQa,jKh
 refine⟨by omega,λp hp=> ?_⟩
 let P:Nat->St3->Gp->Prop:=λm τ G'=>∃(k:Nat)(v4 v5:Option T)(F:List Nat),τ=[some (.tup (W.map encR)),some (.int (r0:Nat)),some (.ref p),some (.int (k:Nat)),v4,v5,none,none,none]/\G' p=some (.lst (jJo F))/\Found W r0 F/\Sub G G'/\bfs W r0=bfsN W (W.length-k) k F/\m=W.length-k/\∀q,q∈F.take k->∀e,e∈row W q->e.1∈F
 refine⟨P,⟨_,0,none,none,[r0],rfl,jJe,⟨by simp,by simpa using hr0,λS h0 _ x hx=>by rw[lJz] at hx;rw[hx];exact h0⟩,.new hp,rfl,rfl,λq hq=>by simp at hq⟩,?_⟩
 intro m τ G1 h_;apply xe4 h_;clear h_;intro k v4 v5 F;refine ae6 ?_;intro h1 h2 h3 hB e4_ hcl;subst e4_
 exists iSeq,jJn h1,jQv h1
 have hFl:=jQk h2.nd h2.lt;split
 .rename_i hc
  have hat:k<F.length:=by rw[jJo,lJd] at hc;omega
  have hF:F[k]? =some F[k]:=lJl hat;have hfm:F[k]∈F:=lQi hat
  generalize F[k]=r at hF hfm
  have hrW:=h2.lt r hfm;have hW:W[r]? =some W[r]:=lJl hrW
  generalize W[r]=es at hW
  have hatI:L2.atI (jJo F) (k:Nat)=some (.int (r:Nat)):=by rw[atN];simp[jJo,hF]
  exists hatI,jQz hW,encR
  let N:St3->Gp->Prop:=P (W.length-(k+1))
  refine⟨N,λτ' G' hN=>⟨_,by omega,hN⟩,?_⟩
  let J1:Nat->St3->Gp->Prop:=λj τ G'=>∃(v4 v5:Option T)(X:List Nat),τ=[some (.tup (W.map encR)),some (.int (r0:Nat)),some (.ref p),some (.int (k:Nat)),v4,v5,none,none,none]/\G' p=some (.lst (jJo (F++X)))/\Found W r0 (F++X)/\Sub G G'/\F++X=vis F (es.take j)/\∀e,e∈es.take j->e.1∈F++X
  refine⟨J1,?_,?_,?_,?_⟩
  .exact⟨_,_,[],rfl,by rw[lQd];exact h1,by rw[lQd];exact h2,h3,by rw[lQd];rfl,λe z=>by simp at z⟩
  .intros;trivial
  .intro j x τ G2 hx0 h_;apply xe3 h_;clear h_;intro v4 v5 X;refine ae5 ?_;intro i1 i3 i4 iB i5;obtain⟨e,hx,rfl⟩:=jKy hx0;have hen:=kU1 hW hx;have hv:=kQs (F:=F) hx;rw[<-iB] at hv;have hte:es.take (j+1)=es.take j++[e]:=by rw[lQr,hx];rfl
   exists encE,jVk,qZd i1,jQq i1,i1
   by_cases hm:e.1∈F++X
   .have hct:(F++X).contains e.1=true:=lYv.mpr hm;rw[lJa (by rw[hct];decide)]
    rw[lJc hct] at hv;refine⟨_,_,X,rfl,i1,i3,i4,hv.symm,λe' z=> ?_⟩
    rw[hte,lJn,lJz] at z
    rcases z with z | rfl
    .exact i5 e' z
    .exact hm
   .have hct:(F++X).contains e.1=false:=by rw[<-lZ9,lYv];exact hm
    rw[lJc hct];rw[lJa (by rw[hct];decide)] at hv
    have hFl:=jQk i3.nd i3.lt;refine⟨by rw[jJo,lJd];omega,_,_,X++[e.1],rfl,by rw[jJe,<-lJt];simp[jJo],?_,i4.over hp,by rw[<-lJt];exact hv.symm,λe' z=> ?_⟩
    .rw[<-lJt];refine⟨?_,?_,?_⟩
     .rw[lXx];exact⟨i3.nd,by simp,λa ha b hb=>by rw[lJz] at hb;subst hb;rintro rfl;exact hm ha⟩
     .intro x hx;rw[lJn,lJz] at hx
      rcases hx with hx | rfl
      .exact i3.lt x hx
      .exact fine.rng _ _ _ _ hen
     .intro S h0 hc x hx;rw[lJn,lJz] at hx
      rcases hx with hx | rfl
      .exact i3.got S h0 hc x hx
      .exact hc _ _ _ _ (h2.got S h0 hc r hfm) hen
    .rw[hte,lJn,lJz] at z;rw[<-lJt]
     rcases z with z | rfl
     .exact lKk _ (i5 e' z)
     .exact lJ7 _ (by simp)
  .intro τ G' h_;apply xe3 h_;clear h_;intro v4 v5 X;refine ae5 ?_;intro i1 i3 i4 iB i5
   exists tSeq
   rw[lJd,lQz] at iB i5;refine⟨k+1,_,_,F++X,rfl,i1,i3,i4,?_,rfl,λq hq e he=> ?_⟩
   .rw[hB,show W.length-k=W.length-(k+1)+1 by omega,jYt hF,jUj hW,iB]
   .rw[lQr,lK6 hat,hF,lVs (by omega)] at hq
    rcases (lJn.mp hq) with hq | hq
    .exact lKk _ (hcl q hq e he)
    .have:q=r:=by simpa using hq
     subst this;rw[jUj hW] at he;exact i5 e he
 .rename_i hc
  have hkF:F.length<=k:=by rw[jJo,lJd] at hc;omega
  have hb:bfs W r0=F:=by rw[hB,kKk hkF]
  rw[lQm hkF] at hcl;refine uUs fine h2.nd h2.lt hcl h1 λG' s'=> ?_
  have:=kk G' (h3.trans s');unfold jVu at this;rw[hb] at this;exact this
theorem uJq{x:Nat}:∀F:List Nat,ix F x=F.idxOf x
 | []=>rfl
 | f::F=>by
  rw[ix,List.idxOf_cons,uJq F]
  by_cases e:f=x
  .subst e;simp
  .rw[lJa (by first | exact e | exact λz=>e z.symm),show (f == x)=false by simpa using e];rfl
theorem uJ5{W:Web}:jVu W r=tf W r:=by
 unfold jVu tf endT;refine lV7 λq _=>lV7 λe _=> ?_
 rw[uJq]
noncomputable def kKb(r:Nat)(es:List (Nat×Nat)):Nat:=(es.getLast?.map Prod.fst).getD r
noncomputable def goW(W:Web)(r:Nat)(ds:List Nat):Option (List (Nat×Nat)):=ds.foldl (λo d=>o.bind λes=>(en W (kKb r es) d).map λe=>es++[e]) (some [])
variable {d:Nat}
theorem kUs{W:Web}{ds:List Nat}:goW W r (ds++[d])=(goW W r ds).bind λes=>(en W (kKb r es) d).map λe=>es++[e]:=by
 unfold goW;rw[lY6];rfl
theorem qZg{W:Web}{ds ds':List Nat}(h:goW W r ds=none):goW W r (ds++ds')=none:=by
 unfold goW at h ⊢;rw[lY6,h]
 induction ds' with
 | nil=>rfl
 | cons a as ih=>exact ih
theorem jZa:kKb r (es++[e])=e.1:=by simp[kKb]
theorem qQh{α:Type}{P:List α->Prop}(h0:P [])(h1:∀ds d,P ds->P (ds++[d]))(ds:List α):P ds:=by
 have:∀l:List α,P l.reverse:=by
  intro l
  induction l with
  | nil=>exact h0
  | cons a as ih=>rw[lXz];exact h1 _ _ ih
 have h:=this ds.reverse
 rwa [List.reverse_reverse] at h
theorem kQj{W:Web}(f:Fine W)(hr:r<W.length):∀{ds:List Nat}{es:List (Nat×Nat)},goW W r ds=some es->kKb r es<W.length/\es.length=ds.length/\∀e,e∈es->e.1<W.length:=by
 intro ds;refine qQh (P:=λds=>∀{es:List (Nat×Nat)},goW W r ds=some es->kKb r es<W.length/\es.length=ds.length/\∀e,e∈es->e.1<W.length) ?_ ?_ ds
 .intro es h;cases h;exact⟨hr,rfl,λe he=>by cases he⟩
 .intro ds d ih es h;rw[kUs] at h;cases e1:goW W r ds with
  | none=>rw[e1] at h;cases h
  | some es1=>
   rw[e1] at h;obtain⟨a1,a2,a3⟩:=ih e1;simp only[lY8] at h;cases e2:en W (kKb r es1) d with
   | none=>rw[e2] at h;cases h
   | some e=>
    rw[e2] at h;cases h;have he:=f.rng _ _ e.1 e.2 e2;refine⟨by rw[jZa];exact he,by simp[a2],λx hx=> ?_⟩
    rw[lJn,lJz] at hx
    rcases hx with hx | rfl
    .exact a3 x hx
    .exact he
theorem kUr{W:Web}{ds:List Nat}(hd:ds[i]? =some d):goW W r (ds.take (i+1))=(goW W r (ds.take i)).bind λes=>(en W (kKb r es) d).map λe=>es++[e]:=by
 rw[lQr,hd];exact kUs
theorem qVi{W:Web}{ds:List Nat}(hd:ds[i]? =some d)(h:goW W r (ds.take i)=some es)(hn:en W (kKb r es) d=none):goW W r ds=none:=by
 have:goW W r (ds.take (i+1))=none:=by rw[kUr hd,h];simp[hn]
 have h2:=qZg (ds':=ds.drop (i+1)) this
 rwa [lK9] at h2
noncomputable def jYx:Sp3:=λxs G Q=>∃(W:Web)(r:Nat)(x:T)(ds:List Nat),xs=[encW W,.int r,x]/\Fine W/\r<W.length/\seqT G x=some (jJo ds)/\ds.length<=1000/\∀G',Sub G G'->(goW W r ds=none->Q .non G')/\(∀es p,goW W r ds=some es->G p=none->G' p=some (.lst (es.map encE))->Q (.ref p) G')
noncomputable def qXr:List Str:=["web","room","way","ends","here","door","end"]
noncomputable def jY6:TS3:=
 (tSeq (tAsg (tLst tNil) U3)
 (tSeq (tAsg C1 U4)
 (tSeq (tFor (iSeq C2) U5 (tSeq (tIfS (tNot (jJ2 (jVv rLeF rLt tI0 C5 (tCB rLen (jJa (tOp rIxF C0 C4) tNil))))) (tRet (tC .non)) jKv)
 (tSeq (tAsg (tOp rIxF (tOp rIxF C0 C4) C5) U6)
 (tSeq (jZp (tBM "list" jUa C3 M6))
 (tAsg (tOp rIxF C6 tI0) U4)))))
 (tRet C3))))
theorem kVg{W:Web}(hr:r<W.length):∃es,W[r]? =some es/\∀d,en W r d=es[d]? :=⟨W[r],lJl hr,λd=>by unfold en;rw[lJl hr];rfl⟩
theorem kVm:RdOk jYx jY6 qXr:=by
 intro xs G Q h_;apply xe4 h_;clear h_;intro W r x ds;refine ae5 ?_;intro fine hr hx hdl kk;show jY6 _ [some (.tup (W.map encR)),some (.int r),some x,none,none,none,none] G
 have hs:=sz
 exists jY6,jKh,iSeq
 refine⟨lJ6 _,λp hp=> ?_⟩
 refine⟨jJo ds,(Sub.new hp).seq hx,?_⟩;refine⟨λi τ G'=>∃(v5 v6:Option T)(es:List (Nat×Nat)),τ=[some (.tup (W.map encR)),some (.int r),some x,some (.ref p),some (.int (kKb r es:Nat)),v5,v6]/\goW W r (ds.take i)=some es/\G' p=some (.lst (es.map encE))/\Sub G G',?_,?_,?_,?_⟩
 .exact⟨none,none,[],rfl,rfl,jJe,.new hp⟩
 .intro i τ G' hi h_;apply xe3 h_;clear h_;intro v5 v6 es;refine ae3 ?_;intro h1 h2 h3;exact h3.seq hx
 .intro i y τ G1 hy h_;apply xe3 h_;clear h_;intro v5 v6 es;refine ae3 ?_;intro h1 h2 h3;obtain⟨d,hd,rfl⟩:=jKy hy;have hi:i<ds.length:=(lJk.mp hd).1;obtain⟨b1,b2,b3⟩:=kQj fine hr h1;obtain⟨row,hrow,hen⟩:=kVg b1;have hrl:=fine.row _ _ hrow;rw[lKe] at b2;have hatR:=jQz hrow
  exists jVv,rLeF,hatR,encR,List.length_map
  rw[lJc (by omega)]
  by_cases hdr:d<row.length
  .have hed:row[d]? =some row[d]:=lJl hdr
   generalize row[d]=e at hed
   have heR:=kUz hed
   exists heR,show decide ((d:Int)<(row.length:Int))=true by simp;omega,encE,jQq h2,h2,List.length_map
   refine⟨by omega,_,_,es++[e],by rw[jZa],rfl,rfl,?_,by simp[encE],h3.over hp⟩
   rw[kUr hd,h1];simp[hen,hed]
  .have hnone:row[d]? =none:=lKj (by omega)
   exists show decide ((d:Int)<(row.length:Int))=false by simp;omega
   exact (kk G1 h3).1 (qVi hd h1 (by rw[hen];exact hnone))
 .intro τ G1 h_;apply xe3 h_;clear h_;intro v5 v6 es;refine ae3 ?_;intro h1 h2 h3
  exists tSeq
  have e1:(jJo ds).length=ds.length:=by simp[jJo]
  rw[e1,lQz] at h1;exact (kk G1 h3).2 es p h1 hp h2
abbrev DD:=List ((Nat×Nat)×(Nat×Nat))
noncomputable def getE(e:Nat×Nat)(D:DD):Option (Nat×Nat):=(D.find? λp=>decide (p.1=e)).map (·.2)
noncomputable def putE(D:DD)(k v:Nat×Nat):DD:=if (D.any λp=>decide (p.1=k))=true then D.map (λp=>if p.1=k then (p.1,v) else p) else D++[(k,v)]
noncomputable def webD(r d:Nat)(D:DD):Web:=(List.range r).map λk=>(List.range d).map λi=>(getE (k,i) D).getD (0,0)
noncomputable def prs:Nat->List (Nat×Nat)->List DD
 | _,[]=>[[]]
 | 0,_::_=>[]
 | n+1,f::rest=>(prs n rest).map ((f,f):: ·)++(List.range rest.length).flatMap λk=>(prs n (rest.take k++rest.drop (k+1))).map ((f,rest.getD k (0,0)):: ·)
noncomputable def allE(r d:Nat):List (Nat×Nat):=(List.range r).flatMap λk=>(List.range d).map λi=>(k,i)
noncomputable def jUh(p:DD):DD:=(p++p.map λx=>(x.2,x.1)).foldl (λD x=>putE D x.1 x.2) []
def evL(r d:Nat):List Web:=((prs 9 (allE r d)).map λp=>webD r d (jUh p)).filter λW=>decide (jVu W 0=W)
noncomputable def keyR(es:List (Nat×Nat)):List L2.K1:=es.map λp=> .inr [.inl (p.1:Int),.inl (p.2:Int)]
noncomputable def keyW(V:Web):L2.TKey:=V.map λes=> .inr (keyR es)
noncomputable def szF(most doors:Nat):List (Nat×Nat):=(List.range 8).flatMap λw=>(((List.range (7-doors)).map (· +doors)).filter λm=>decide ((w+1)*m<=most)&&(decide (m>0)||decide (w+1<4))).map λm=>(w+1,m)
variable {D:DD}
theorem jV3{q:(Nat×Nat)×(Nat×Nat)}:getE e (q::D)=if q.1=e then some q.2 else getE e D:=by
 unfold getE;rw[lVa]
 by_cases h:q.1=e
 .rw[lJq h,lJc h];rfl
 .rw[lJy h,lJa h]
theorem kZ0{k v e:Nat×Nat}:∀D:DD,getE e (D.map λp=>if p.1=k then (p.1,v) else p)=if k=e/\(D.any λp=>decide (p.1=k))=true then some v else getE e D
 | []=>by simp[getE]
 | q::D=>by
  rw[lJo,jV3,kZ0 D,jV3,lQo]
  by_cases h1:q.1=k
  .rw[lJc h1,lJq h1,Bool.true_or]
   by_cases h2:k=e
   .rw[lJc (h1.trans h2),lJc ⟨h2,rfl⟩]
   .rw[lJa (λz=>h2 (h1.symm.trans z)),lJa (λz=>h2 z.1),lJa (λz=>h2 z.1),lJa (λz=>h2 (h1.symm.trans z))]
  .rw[lJa h1,lJy h1,Bool.false_or]
   by_cases h2:q.1=e
   .have h3:¬ k=e:=λz=>h1 (h2.trans z.symm)
    rw[lJc h2,lJa (λz=>h3 z.1),lJc h2]
   .rw[lJa h2,lJa h2]
theorem kV2{k v e:Nat×Nat}:∀D:DD,(D.any λp=>decide (p.1=k))=false->getE e (D++[(k,v)])=if k=e then some v else getE e D
 | [],_=>by rw[lXe,jV3]
 | q::D,h=>by
  rw[lQo,Bool.or_eq_false_iff] at h;have h1:¬ q.1=k:=of_decide_eq_false h.1;rw[List.cons_append,jV3,kV2 D h.2,jV3]
  by_cases h2:q.1=e
  .rw[lJc h2,lJc h2,lJa (λz=>h1 (h2.trans z.symm))]
  .rw[lJa h2,lJa h2]
theorem kZz{k v:Nat×Nat}:getE e (putE D k v)=if k=e then some v else getE e D:=by
 unfold putE
 by_cases ha:(D.any λp=>decide (p.1=k))=true
 .rw[lJc ha,kZ0]
  by_cases h:k=e
  .rw[lJc ⟨h,ha⟩,lJc h]
  .rw[lJa (λz=>h z.1),lJa h]
 .rw[lJa ha,kV2 D (Bool.eq_false_iff.mpr ha)]
theorem kZo{e v:Nat×Nat}:∀(L D:DD),(∀x,x∈L->x.1=e->x.2=v)->((∃x,x∈L/\x.1=e)\/getE e D=some v)->getE e (L.foldl (λD x=>putE D x.1 x.2) D)=some v
 | [],D,_,h=>by
  rcases h with ⟨x,hx,_⟩ | h
  .cases hx
  .exact h
 | x::L,D,hv,h=>by
  rw[lXd];refine kZo L _ (λy hy=>hv y (lJw _ hy)) ?_
  by_cases hx:x.1=e
  .right;rw[kZz,lJc hx,hv x (lJv ..) hx]
  .rcases h with ⟨y,hy,he⟩ | h
   .rcases (lJp.mp hy) with rfl | hy
    .exact absurd he hx
    .exact .inl ⟨y,hy,he⟩
   .right;rw[kZz,lJa hx];exact h
structure PR (es:List (Nat×Nat)) (p:DD):Prop where
 has:∀e,e∈es->∃x,x∈p/\(x.1=e\/x.2=e)
 in_:∀x,x∈p->x.1∈es/\x.2∈es
 one:∀x y,x∈p->y∈p->(x.1=y.1\/x.1=y.2\/x.2=y.1\/x.2=y.2)->x=y
 len:p.length<=es.length
theorem qUf:∀(n:Nat)(es:List (Nat×Nat)),es.Nodup->∀p,p∈prs n es->PR es p
 | n,[],_,p,h=>by
  have e:p=[]:=by cases n<;>(unfold prs at h;exact lJz.mp h)
  subst e;exact⟨(λ_ z=>nomatch z),(λ_ z=>nomatch z),(λ_ _ z=>nomatch z),lJh _⟩
 | 0,_::_,_,p,h=>by unfold prs at h;cases h
 | n+1,f::rest,nd,p,h=>by
  unfold prs at h;rw[lK4] at nd
  rcases (lJn.mp h) with h | h
  .obtain⟨q,hq,rfl⟩:=lJj.mp h;have P:=qUf n rest nd.2 q hq;have nf:∀y,y∈q->y.1≠f/\y.2≠f:=λy hy=>⟨λe=>nd.1 (e▸(P.in_ y hy).1),λe=>nd.1 (e▸(P.in_ y hy).2)⟩
   refine⟨λe he=> ?_,λx hx=> ?_,λx y hx hy hxy=> ?_,lXq P.len⟩
   .rcases (lJp.mp he) with rfl | he
    .exact⟨_,lJv ..,.inl rfl⟩
    .obtain⟨x,hx,z⟩:=P.has e he;exact⟨x,lJw _ hx,z⟩
   .rcases (lJp.mp hx) with rfl | hx
    .exact⟨lJv ..,lJv ..⟩
    .exact⟨lJw _ (P.in_ x hx).1,lJw _ (P.in_ x hx).2⟩
   .rcases (lJp.mp hx) with rfl | hx<;>rcases lJp.mp hy with rfl | hy
    .rfl
    .exfalso;have:=nf y hy;rcases hxy with z | z | z | z<;>first | exact this.1 z.symm | exact this.2 z.symm
    .exfalso;have:=nf x hx;rcases hxy with z | z | z | z<;>first | exact this.1 z | exact this.2 z
    .exact P.one x y hx hy hxy
  .obtain⟨k,hk,h⟩:=lY9.mp h;obtain⟨q,hq,rfl⟩:=lJj.mp h;have hkl:=lKb.mp hk;obtain⟨g,hg⟩:∃g,rest[k]? =some g:=⟨_,lJl hkl⟩
   have eg:rest.getD k (0,0)=g:=by rw[mJx,hg];rfl
   rw[eg]
   have sp:rest=rest.take k++g::rest.drop (k+1):=by
    have e1:rest[k]=g:=by rw[lJl hkl] at hg;exact lJ3 hg
    rw[<-e1,<-lYa hkl,lK9]
   have nd2:(rest.take k++g::rest.drop (k+1)).Nodup:=sp▸nd.2;have pm:(rest.take k++g::rest.drop (k+1)).Perm (g::(rest.take k++rest.drop (k+1))):=lYy;have nd3:=lK4.mp (pm.nodup_iff.mp nd2);have P:=qUf n _ nd3.2 q hq
   have mem:∀e,e∈rest↔e=g\/e∈rest.take k++rest.drop (k+1):=λe=>by
    have z:=pm.mem_iff (a:=e);rw[<-sp,lJp] at z;exact z
   have hgm:g∈rest:=lJs hg;have fg:f≠g:=λe=>nd.1 (e▸hgm)
   have nf:∀y,y∈q->y.1≠f/\y.2≠f/\y.1≠g/\y.2≠g:=λy hy=>⟨λe=>nd.1 (e▸(mem _).mpr (.inr (P.in_ y hy).1)),λe=>nd.1 (e▸(mem _).mpr (.inr (P.in_ y hy).2)),λe=>nd3.1 (e▸(P.in_ y hy).1),λe=>nd3.1 (e▸(P.in_ y hy).2)⟩
   refine⟨λe he=> ?_,λx hx=> ?_,λx y hx hy hxy=> ?_,?_⟩
   .rcases (lJp.mp he) with rfl | he
    .exact⟨_,lJv ..,.inl rfl⟩
    .rcases (mem e).mp he with rfl | he
     .exact⟨_,lJv ..,.inr rfl⟩
     .obtain⟨x,hx,z⟩:=P.has e he;exact⟨x,lJw _ hx,z⟩
   .rcases (lJp.mp hx) with rfl | hx
    .exact⟨lJv ..,lJw _ hgm⟩
    .exact⟨lJw _ ((mem _).mpr (.inr (P.in_ x hx).1)),lJw _ ((mem _).mpr (.inr (P.in_ x hx).2))⟩
   .rcases (lJp.mp hx) with rfl | hx<;>rcases lJp.mp hy with rfl | hy
    .rfl
    .exfalso
     obtain⟨a,b,c,e⟩:=nf y hy
     rcases hxy with z | z | z | z<;>first | exact a z.symm | exact b z.symm | exact c z.symm | exact e z.symm
    .exfalso
     obtain⟨a,b,c,e⟩:=nf x hx
     rcases hxy with z | z | z | z<;>first | exact a z | exact b z | exact c z | exact e z
    .exact P.one x y hx hy hxy
   .have h1:=P.len;rw[lJ4,lKe,lQf] at h1
    (simp only[lJ8];omega)
theorem kUo{p:DD}(P:PR es p){b:Nat×Nat}(h:(a,b)∈p\/(b,a)∈p):getE a (jUh p)=some b:=by
 refine kZo _ [] (λx hx he=> ?_) (.inl ?_)
 .rcases (lJn.mp hx) with hx | hx
  .rcases h with h | h
   .have:=P.one x _ hx h (.inl he);rw[this]
   .have:=P.one x _ hx h (.inr (.inl he));rw[this] at he ⊢; exact he.symm▸rfl
  .obtain⟨y,hy,rfl⟩:=lJj.mp hx
   rcases h with h | h
   .have:=P.one y _ hy h (.inr (.inr (.inl he)));rw[this] at he ⊢; exact he.symm▸rfl
   .have:=P.one y _ hy h (.inr (.inr (.inr he)));rw[this]
 .rcases h with h | h
  .exact⟨(a,b),lKk _ h,rfl⟩
  .exact⟨(a,b),lJ7 _ (lJj.mpr ⟨(b,a),h,rfl⟩),rfl⟩
theorem qU2{p:DD}(P:PR es p)(h:a∈es):∃b,b∈es/\getE a (jUh p)=some b/\getE b (jUh p)=some a:=by
 obtain⟨x,hx,z⟩:=P.has a h;obtain⟨u,v⟩:=x
 rcases z with rfl | rfl
 .exact⟨v,(P.in_ _ hx).2,kUo P (.inl hx),kUo P (.inr hx)⟩
 .exact⟨u,(P.in_ _ hx).1,kUo P (.inr hx),kUo P (.inl hx)⟩
theorem jYc:(webD r d D).length=r:=by simp[webD]
theorem kQq{k:Nat}(h:(webD r d D)[k]? =some es):es.length=d:=by
 unfold webD at h;rw[lJ0] at h;cases hk:(List.range r)[k]? with
 | none=>(rw[hk] at h;cases h)
 | some x=>rw[hk] at h;cases h;simp
structure SzW (W:Web):Prop where
 len:W.length<=1000
 row:∀(r:Nat)(es:List (Nat×Nat)),W[r]? =some es->es.length<=1000
theorem SzW.fine{W:Web}(h:SzW W)(s:Sym W):Fine W:=⟨h.len,h.row,λ_ _ _ _ he=>uXt (s _ _ _ _ he)⟩
theorem qKw(hr:r<=1000)(hd:d<=1000):SzW (webD r d D):=⟨by rw[jYc];exact hr,λk es h=>by rw[kQq h];exact hd⟩
theorem kZl{k:Nat}(hk:k<r)(hi:i<d):(k,i)∈allE r d:=lY9.mpr ⟨k,lKb.mpr hk,lJj.mpr ⟨i,lKb.mpr hi,rfl⟩⟩
theorem uKo(h:e∈allE r d):e.1<r/\e.2<d:=by
 obtain⟨k,hk,h⟩:=lY9.mp h
 (obtain⟨i,hi,rfl⟩:=lJj.mp h)
 exact⟨lKb.mp hk,lKb.mp hi⟩
theorem uUa:(allE r d).Nodup:=by
 unfold allE;rw[List.Nodup,List.pairwise_flatMap];refine⟨λk _=> ?_,?_⟩
 .rw[lV4];exact List.Pairwise.imp (λh e=>h (Prod.mk.inj e).2) lV3
 .refine List.Pairwise.imp (λh x hx y hy e=> ?_) lV3
  obtain⟨i,_,rfl⟩:=lJj.mp hx;obtain⟨j,_,rfl⟩:=lJj.mp hy;exact h (Prod.mk.inj e).1
theorem qKx{k:Nat}(hk:k<r)(hi:i<d):en (webD r d D) k i=some ((getE (k,i) D).getD (0,0)):=by
 unfold en webD;rw[lJ0,lXi hk,lQq,lY8,lJ0,lXi hi];rfl
theorem uJ2{k:Nat}(h:en (webD r d D) k i=some e):k<r/\i<d:=by
 obtain⟨es,h1,h2⟩:=kU0 h;have hl:=kQq h1;have h3:=(lJk.mp h1).1;rw[jYc] at h3;exact⟨h3,by rw[<-hl];exact (lJk.mp h2).1⟩
theorem uVi{p:DD}(hl:(allE r d).length<=9)(hp:p∈prs 9 (allE r d)):p.length<=20/\(∀k i,k<r->i<d->(getE (k,i) (jUh p)).isSome=true)/\Sym (webD r d (jUh p)):=by
 have P:=qUf 9 _ uUa p hp;refine⟨by have:=P.len;omega,λk i hk hi=> ?_,λk i s j h=> ?_⟩
 .obtain⟨b,_,h,_⟩:=qU2 P (kZl hk hi);rw[h];rfl
 .obtain⟨hk,hi⟩:=uJ2 h;obtain⟨b,hb,h1,h2⟩:=qU2 P (kZl hk hi);rw[qKx hk hi,h1] at h;obtain rfl:b=(s,j):=lJ3 h;obtain⟨q1,q2⟩:=uKo hb;rw[qKx q1 q2,h2];rfl
theorem uUb(h:r*d<=9):(allE r d).length<=9:=by
 unfold allE
 rw[List.length_flatMap,show ((List.range r).map λk=>((List.range d).map λi=>(k,i)).length)=List.replicate r d by
  rw[List.eq_replicate_iff];exact⟨by simp,λb hb=>by obtain⟨k,_,rfl⟩:=lJj.mp hb;simp⟩]
 simp;exact h
structure EvW (d:Nat) (W:Web):Prop where
 fine:Fine W
 row:∀(r:Nat)(es:List (Nat×Nat)),W[r]? =some es->es.length=d
 pos:1<=W.length
 le:W.length<=9
 d6:d<=6
structure Chk (r d:Nat):Prop where
 r1:1<=r
 r9:r<=9
 d6:d<=6
 rd:r*d<=9
 prs:∀p,p∈prs 9 (allE r d)->p.length<=20/\(∀k i,k<r->i<d->(getE (k,i) (jUh p)).isSome=true)/\Sym (webD r d (jUh p))
theorem uJy(h1:1<=r)(h2:r<=9)(h3:d<=6)(h4:r*d<=9):Chk r d:=⟨h1,h2,h3,h4,λp hp=>uVi (uUb h4) hp⟩
theorem Chk.good(c:Chk r d){V:Web}(hV:V∈evL r d):EvW d V/\Sym V:=by
 obtain⟨p,hp,rfl⟩:=lJj.mp (lXn.mp hV).1;have hl:(webD r d (jUh p)).length=r:=jYc;have:=c.r9;have:=c.d6;exact⟨⟨(qKw (by omega) (by omega)).fine (c.prs p hp).2.2,λk es hk=>kQq hk,by rw[hl];exact c.r1,by rw[hl];exact c.r9,c.d6⟩,(c.prs p hp).2.2⟩
noncomputable def numW(V:Web)(p:List Nat):Web:=(List.range V.length).map λk=>(row V (p.idxOf k)).map λe=>(p.getD e.1 0,e.2)
structure Prm (n:Nat) (p:List Nat):Prop where
 len:p.length=n
 nd:p.Nodup
 lt:∀x,x∈p->x<n
theorem Prm.mem{p:List Nat}(h:Prm n p){k:Nat}(hk:k<n):k∈p:=kJ6 h.nd h.lt h.len k hk
theorem qXu{α β γ:Type}{f:α->γ}{us:List α}{Ds:List β}(h:us.length=Ds.length):(us.zip Ds).map (λz=>f z.1)=us.map f:=by
 have:=lKa (List.map f) (List.map_fst_zip (l₁:=us) (l₂:=Ds) (by omega))
 rwa [lJ1] at this
abbrev Kvs:=List (L2.TKey×T)
noncomputable def kvD(D:DD):Kvs:=D.map λp=>(keyE p.1,encE p.2)
theorem kZu{b:Nat×Nat}:keyE a=keyE b↔a=b:=⟨kZt,λh=>by rw[h]⟩
theorem qXv:valT (kvD D) (keyE e)=(getE e D).map encE:=by
 unfold valT getE kvD;rw[List.find?_map,show ((λkv:L2.TKey×T=>decide (kv.1=keyE e))∘λp:(Nat×Nat)×(Nat×Nat)=>(keyE p.1,encE p.2))=λp=>decide (p.1=e) from funext λp=>decide_eq_decide.mpr kZu,Option.map_map,Option.map_map]
 rfl
theorem qYm{k v:Nat×Nat}:putT (kvD D) (keyE k) (encE v)=kvD (putE D k v):=by
 unfold putT putE kvD;rw[List.any_map,show ((λkv:L2.TKey×T=>decide (kv.1=keyE k))∘λp:(Nat×Nat)×(Nat×Nat)=>(keyE p.1,encE p.2))=λp=>decide (p.1=k) from funext λp=>decide_eq_decide.mpr kZu]
 split
 .rw[lJ1,lJ1];refine lV7 λp _=> ?_
  show (if keyE p.1=keyE k then (keyE p.1,encE v) else (keyE p.1,encE p.2))=(λp:(Nat×Nat)×(Nat×Nat)=>(keyE p.1,encE p.2)) (if p.1=k then (p.1,v) else p)
  by_cases h:p.1=k
  .rw[lJc (by rw[h]),lJc h]
  .rw[lJa (λz=>h (kZt z)),lJa h]
 .rw[lKp];rfl
noncomputable def rowD(d:Nat)(D:DD)(k:Nat):List (Nat×Nat):=(List.range d).map λi=>(getE (k,i) D).getD (0,0)
noncomputable def er(b:Addr)(G:Gp):Gp:=λa=>if a=b then none else G a
theorem uZi{a:Addr}(h:a≠b):er b G a=G a:=lJa h
theorem uXq:Sub (er b G) G:=λa o h=>by
 unfold er at h;split at h
 .cases h
 .exact h
theorem uQj(k:Keep b G G'):Sub (er b G) (er b G'):=λa o h=>by
 unfold er at h ⊢;split at h
 .cases h
 .rename_i hn
  rw[lJa hn];exact k a o hn h
mutual
theorem jQi{G G':Gp}(s:Sub G G'):∀{x:T}{d:PyData},RdG G x d->RdG G' x d
 | _,_,.non=> .non
 | _,_,.bl b=> .bl b
 | _,_,.int i=> .int i
 | _,_,.str x=> .str x
 | _,_,.tup h=> .tup (jZ6 s h)
 | _,_,.lst hp h=> .lst (s _ _ hp) (jZ6 s h)
theorem jZ6{G G':Gp}(s:Sub G G'):∀{xs:List T}{ds:List PyData},RdGs G xs ds->RdGs G' xs ds
 | _,_,.nil=> .nil
 | _,_,.cons h hs=> .cons (jQi s h) (jZ6 s hs)
end
noncomputable def numD:PyData->Bool
 | .int _=>true
 | _=>false
theorem uK8{d:PyData}(h:RdG G x d):∃p q,isiT G x (.ty "int")=some p/\isiT G x (.ty "bool")=some q/\(p&& !q)=numD d:=by
 cases h with
 | non=>exact⟨_,_,rfl,rfl,rfl⟩
 | bl b=>exact⟨_,_,rfl,rfl,rfl⟩
 | int i=>exact⟨_,_,rfl,rfl,rfl⟩
 | str x=>exact⟨_,_,rfl,rfl,rfl⟩
 | tup h=>exact⟨_,_,rfl,rfl,rfl⟩
 | lst hp h=>exact⟨false,false,by simp only[isiT,kKs,hp];rfl,by simp only[isiT,kKs,hp];rfl,rfl⟩
theorem jZ5{G:Gp}:∀{xs:List T}{ds:List PyData},RdGs G xs ds->∃ps:List (T×PyData),xs=ps.map (·.1)/\ds=ps.map (·.2)/\∀p,p∈ps->RdG G p.1 p.2
 | _,_,.nil=>⟨[],rfl,rfl,λp h=>(nomatch h)⟩
 | _,_,.cons (x:=x) (d:=d) h hs=>by
  obtain⟨ps,h1,h2,h3⟩:=jZ5 hs;refine⟨(x,d)::ps,by rw[h1];rfl,by rw[h2];rfl,λp hp=> ?_⟩
  rcases (lJp.mp hp) with rfl | hp
  .exact h
  .exact h3 p hp
def jQm:Sp3:=λxs G Q=>∃(x:T)(d:PyData),xs=[x]/\RdG G x d/\∀G',Sub G G'->Q (.bl (numD d)) G'
noncomputable def kYz:List Str:=["thing"]
noncomputable def jVz:TS3:=
 (tRet (jXu (tCB rIsi (jJa C0 (jJa (tC (.ty "int")) tNil))) (qK8 (tCB rIsi (jJa C0 (jJa (tC (.ty "bool")) tNil))))))
theorem jXl:RdOk jQm jVz kYz:=by
 intro xs G Q h_;apply xe2 h_;clear h_;intro x d;refine ae2 ?_;intro h kk;show jVz _ [some x] G
 obtain⟨p,q,h1,h2,h3⟩:=uK8 h;have:=kk G (.refl _);rw[<-h3] at this
 exists jVz,rIsi,h1,h2
 cases p<;>exact this
theorem jK3{G:Gp}:∀{xs:List T}{ds:List PyData},RdGs G xs ds->ds.length=xs.length
 | _,_,.nil=>rfl
 | _,_,.cons _ hs=>by rw[lJ8,lJ8,jK3 hs]
theorem kUa{G:Gp}:∀{xs:List T}{ds:List PyData},RdGs G xs ds->∀{i:Nat}{d:PyData},ds[i]? =some d->∃x,xs[i]? =some x/\RdG G x d
 | _,_,.cons h hs,0,d,e=>by cases e;exact⟨_,rfl,h⟩
 | _,_,.cons h hs,i+1,d,e=>kUa hs (i:=i) e
noncomputable def tupD:PyData->Option (List PyData)
 | .tuple ds=>some ds
 | _=>none
theorem jV9{d:PyData}(h:RdG G x d):isiT G x (.ty "tuple")=some (tupD d).isSome/\(∀ds,tupD d=some ds->∃xs,x= .tup xs/\RdGs G xs ds):=by
 cases h with
 | non=>exact⟨rfl,λds h=>(nomatch h)⟩
 | bl b=>exact⟨rfl,λds h=>(nomatch h)⟩
 | int i=>exact⟨rfl,λds h=>(nomatch h)⟩
 | str x=>exact⟨rfl,λds h=>(nomatch h)⟩
 | tup h=>exact⟨rfl,λds e=>by cases e;exact⟨_,rfl,h⟩⟩
 | lst hp h=>exact⟨by simp only[isiT,kKs,hp];rfl,λds e=>nomatch e⟩
def jUo:Sp3:=λxs G Q=>∃(x:T)(d:PyData),xs=[x]/\RdG G x d/\∀G',Sub G G'->Q (.bl (numD d)) G'
noncomputable def kU8:List Str:=["_law_thing"]
noncomputable def kKv:TS3:=
 (tRet (jXu (tCB rIsi (jJa C0 (jJa (tC (.ty "int")) tNil))) (qK8 (tCB rIsi (jJa C0 (jJa (tC (.ty "bool")) tNil))))))
theorem jZt:RdOk jUo kKv kU8:=jXl
noncomputable def okN(m:Nat):Nat->PyData->Prop
 | 0,d=>d.canLay0=true/\d.depth=0
 | n+1,d=>(d.canLay0=true/\d.depth=0)\/∃ds,(d= .tuple ds\/d= .list ds)/\ds.length<=m/\∀e,e∈ds->okN m n e
theorem qYu{d:PyData}(h1:d.canLay0=true)(h2:d.depth=0):∀{n:Nat},okN m n d
 | 0=>⟨h1,h2⟩
 | _+1=> .inl ⟨h1,h2⟩
theorem qUr{m n:Nat}(ih:∀d,okN m n d->d.canLay0=true/\d.depth<=n):∀ds:List PyData,(∀e,e∈ds->okN m n e)->PyData.canLayAll0 ds=true/\PyData.depthAll ds<=n
 | [],_=>⟨by simp[PyData.canLayAll0],by simp[PyData.depthAll]⟩
 | e::ds,h=>by
  obtain⟨a1,a2⟩:=qUr ih ds λy hy=>h y (lJw _ hy)
  obtain⟨b1,b2⟩:=ih e (h e (lJv ..));exact⟨by rw[PyData.canLayAll0,a1,b1];rfl,by rw[PyData.depthAll];omega⟩
theorem kUi{m:Nat}:∀{n:Nat}(d:PyData),okN m n d->d.canLay0=true/\d.depth<=n
 | 0,_,h=>⟨h.1,by rw[h.2];exact lJh _⟩
 | n+1,d,h=>by
  rcases h with h | ⟨ds,h1,h2,h3⟩
  .exact⟨h.1,by rw[h.2];exact lJ6 _⟩
  .obtain⟨a1,a2⟩:=qUr (λd hd=>kUi d hd) ds h3
   rcases h1 with rfl | rfl
   .exact⟨by rw[PyData.canLay0];exact a1,by rw[PyData.depth];omega⟩
   .exact⟨by rw[PyData.canLay0];exact a1,by rw[PyData.depth];omega⟩
variable {ds:List PyData}
theorem jUd(h:okN m n (.tuple ds)):ds.length<=m/\∃k,n=k+1/\∀e,e∈ds->okN m k e:=by
 cases n with
 | zero=>exact absurd h.2 (by rw[PyData.depth];omega)
 | succ n=>
  rcases h with h | ⟨es,h1,h2,h3⟩
  .exact absurd h.2 (by rw[PyData.depth];omega)
  .rcases h1 with h1 | h1
   .cases h1;exact⟨h2,n,rfl,h3⟩
   .cases h1
noncomputable def endD(d:PyData):Option (Int×Int):=match d with
 | .tuple [.int a,.int b]=>some (a,b)
 | _=>none
noncomputable def dE(e:Int×Int):PyData:= .tuple [.int e.1,.int e.2]
theorem kV6{d:PyData}{e:Int×Int}(h:endD d=some e):d=dE e:=by
 unfold endD at h;split at h
 .cases h;rfl
 .cases h
theorem kZ8{a b:PyData}:(endD (.tuple [a,b])).isSome=(numD a&&numD b):=by
 cases a<;>cases b<;>rfl
theorem qJa(h:ds.length≠2):endD (.tuple ds)=none:=by
 unfold endD;split
 .rename_i e;cases e;exact absurd rfl h
 .rfl
theorem kZ9{d:PyData}(h:tupD d=none):endD d=none:=by
 unfold endD;split
 .exact absurd h (by simp[tupD])
 .rfl
theorem jXq{d:PyData}(h:tupD d=some ds):d= .tuple ds:=by
 cases d<;>simp[tupD] at h;rw[h]
theorem uV8{α:Type}:∀{xs:List α},xs.length=2->∃a b,xs=[a,b]
 | [a,b],_=>⟨a,b,rfl⟩
 | [],h=>absurd h (by simp)
 | [_],h=>absurd h (by simp)
 | _::_::_::_,h=>absurd h (by simp)
def kJl:Sp3:=λxs G Q=>∃(x:T)(d:PyData),xs=[x]/\RdG G x d/\∀G',Sub G G'->Q (.bl (endD d).isSome) G'
noncomputable def qZ3:List Str:=["thing"]
noncomputable def kJ0:TS3:=
 (tRet (jXu (tCB rIsi (jJa C0 (jJa (tC (.ty "tuple")) tNil))) (jXu (tOp rEqA (tCB rLen M0) tI2) (jXu (jJk jQm (jJa (tOp rIxF C0 tI0) tNil)) (jJk jQm (jJa (tOp rIxF C0 tI1) tNil))))))
theorem kX6:RdOk kJl kJ0 qZ3:=by
 intro xs G Q h_;apply xe2 h_;clear h_;intro x d;refine ae2 ?_;intro h kk;show kJ0 _ [some x] G
 obtain⟨i1,i2⟩:=jV9 h
 exists kJ0,rIsi,rEqA,i1
 cases ht:tupD d with
 | none=>
  have:=kk G (.refl _);rw[kZ9 ht] at this;exact this
 | some ds=>
  obtain⟨ts,rfl,hr⟩:=i2 ds ht;have hl:=jK3 hr;obtain rfl:=jXq ht;rw[lJc (show (some ds).isSome=true from rfl)]
  refine⟨ts,rfl,_,jK4 (a:=ts.length) (c:=2),?_⟩
  by_cases h2:ts.length=2
  .rw[lJc (lJq h2)];obtain⟨x,y,rfl⟩:=uV8 h2;cases hr with
   | cons hx hr=>
    cases hr with
    | cons hy hr=>
     cases hr;refine⟨x,rfl,x,_,rfl,hx,λG1 s1=>⟨_,rfl,?_⟩⟩
     rw[kZ8] at kk;split
     .rename_i e
      rw[e] at kk;exact⟨y,rfl,y,_,rfl,jQi s1 hy,λG2 s2=>kk G2 (s1.trans s2)⟩
     .rename_i e
      rw[lZ9] at e;rw[e] at kk;exact kk G1 s1
  .rw[lJa (by simpa using h2)]
   have:=kk G (.refl _);rw[qJa (by omega)] at this
   exact this
noncomputable def jQn(d:PyData):Option (List (Int×Int)):=match tupD d with
 | some ds=>if ds.all (λe=>(endD e).isSome)=true then some (ds.filterMap endD) else none
 | none=>none
noncomputable def dR(es:List (Int×Int)):PyData:= .tuple (es.map dE)
theorem qJj:∀{ds:List PyData},ds.all (λe=>(endD e).isSome)=true->ds=(ds.filterMap endD).map dE
 | [],_=>rfl
 | d::ds,h=>by
  (rw[lQy,lKv] at h)
  obtain⟨e,he⟩:=lVn.mp h.1;rw[lQe,he];show d::ds=dE e::_
  rw[<-qJj h.2,kV6 he]
theorem qJv{d:PyData}{es:List (Int×Int)}(h:jQn d=some es):d=dR es:=by
 unfold jQn at h;split at h
 .rename_i ds ht
  split at h
  .rename_i ha
   cases h;rw[jXq ht];exact lKa _ (qJj ha)
  .cases h
 .cases h
def jYw:Sp3:=λxs G Q=>∃(x:T)(d:PyData)(m n:Nat),xs=[x]/\RdG G x d/\okN m n d/\m<=1000/\∀G',Sub G G'->Q (.bl (jQn d).isSome) G'
noncomputable def qXq:List Str:=["thing","part"]
noncomputable def jY5:TS3:=
 (tRet (jXu (tCB rIsi (jJa C0 (jJa (tC (.ty "tuple")) tNil))) (tCB rAll (jJa (jKt [fF,tT] (iSeq C0) U1 jK6 (jJk kJl M1)) tNil))))
theorem kVl:RdOk jYw jY5 qXq:=by
 intro xs G Q h_;apply xe4 h_;clear h_;intro x d m n;refine ae4 ?_;intro h ok hm kk;show jY5 _ [some x,none] G
 have hs:=sz;obtain⟨i1,i2⟩:=jV9 h
 exists jY5,rIsi,iSeq,i1
 cases ht:tupD d with
 | none=>
  have:=kk G (.refl _);rw[show jQn d=none by unfold jQn;rw[ht]] at this
  exact this
 | some ds=>
  obtain⟨ts,rfl,hr⟩:=i2 ds ht;obtain rfl:=jXq ht;have hl:=jK3 hr;have hd:=(jUd ok).1;rw[lJc (show (some ds).isSome=true from rfl)]
  obtain⟨ps,rfl,rfl,hp⟩:=jZ5 hr;refine⟨_,rfl,?_⟩;rw[lJd,lJd] at hl;refine jKe (es:=ps) (enc:=λp:T×PyData=>p.1) (λp=>T.bl (endD p.2).isSome) (by rw[lJd] at hd;omega) (λ_ _=>rfl) ?_ ?_
  .intro i p hi G' K K0 s hk
   exists tSeq
   exact⟨p.1,p.2,rfl,jQi s (hp p (lJs hi)),λG4 s4=>hk G4 s4⟩
  .intro D G' hD h1 h2;refine⟨D,_,_,rfl,h1,jU7 (f:=λp:T×PyData=>(endD p.2).isSome),?_⟩
   have:=kk G' h2
   have e:(jQn (.tuple (ps.map (·.2)))).isSome=ps.all λp=>(endD p.2).isSome:=by
    unfold jQn;show (if (ps.map (·.2)).all (λe=>(endD e).isSome)=true then _ else _:Option _).isSome=_
    rw[lXv];split
    .rename_i q;exact q.symm
    .rename_i q;rw[lZ9] at q;exact q.symm
   rw[e] at this;exact this
abbrev IWeb:=List (List (Int×Int))
noncomputable def jX8(e:Int×Int):T:= .tup [.int e.1,.int e.2]
noncomputable def jYr(es:List (Int×Int)):T:= .tup (es.map jX8)
noncomputable def qZn(W:IWeb):T:= .tup (W.map jYr)
noncomputable def enI(W:IWeb)(r i:Nat):Option (Int×Int):=(W[r]?).bind λes=>es[i]?
theorem jYs{W:IWeb}{e:Int×Int}(h:enI W r i=some e):∃es,W[r]? =some es/\es[i]? =some e:=by
 unfold enI at h;cases q:W[r]? with
 | none=>rw[q] at h;cases h
 | some es=>rw[q] at h;exact⟨es,rfl,h⟩
theorem kV7{W:IWeb}{es:List (Int×Int)}{e:Int×Int}(h1:W[r]? =some es)(h2:es[i]? =some e):enI W r i=some e:=by unfold enI;rw[h1];exact h2
theorem uJu{W:IWeb}{e:Int×Int}(h:enI W r i=some e):r<W.length:=by
 obtain⟨es,h1,_⟩:=jYs h;exact (lJk.mp h1).1
theorem qJb{W:IWeb}{es:List (Int×Int)}(h:W[r]? =some es):L2.atI (W.map jYr) (r:Int)=some (jYr es):=by rw[atN];simp[h]
theorem qJc{es:List (Int×Int)}{e:Int×Int}(h:es[i]? =some e):L2.atI (es.map jX8) (i:Int)=some (jX8 e):=by rw[atN];simp[h]
variable {f:Int×Int}
theorem qZj{e:Int×Int}:eqG G (jX8 e) (jX8 f)=some (decide (e=f)):=by
 obtain⟨a,b⟩:=e;obtain⟨c,d⟩:=f;rw[show eqG G (jX8 (a,b)) (jX8 (c,d))=some (eqT (jX8 (a,b)) (jX8 (c,d))) from rfl]
 congr 1
 simp only[jX8,eqT,eqTs,Bool.and_true]
 by_cases h1:a=c
 .by_cases h2:b=d
  .simp[h1,h2]
  .simp[h1,h2]
 .simp[h1]
theorem uU9{e:Int×Int}(h:RdG G x (dE e)):x=jX8 e:=by
 cases h with
 | tup h=>
  cases h with
  | cons a h=>cases a;cases h with
   | cons b h=>cases b;cases h;rfl
theorem uJd{G:Gp}:∀{xs:List T}{es:List (Int×Int)},RdGs G xs (es.map dE)->xs=es.map jX8
 | _,[],h=>by cases h;rfl
 | _,e::es,h=>by
  cases h with
  | cons a h=>rw[uU9 a,uJd h];rfl
theorem uYq{es:List (Int×Int)}(h:RdG G x (dR es)):x=jYr es:=by
 cases h with
 | tup h=>rw[uJd h];rfl
theorem kVp{G:Gp}:∀{xs:List T}{W:IWeb},RdGs G xs (W.map dR)->xs=W.map jYr
 | _,[],h=>by cases h;rfl
 | _,e::es,h=>by
  cases h with
  | cons a h=>rw[uYq a,kVp h];rfl
theorem kZb{es:List (Int×Int)}:jQn (dR es)=some es:=by
 have h1:(es.map dE).all (λe=>(endD e).isSome)=true:=by
  rw[lKo];intro d hd;obtain⟨e,_,rfl⟩:=lJj.mp hd;rfl
 have h2:(es.map dE).filterMap endD=es:=by
  rw[lYm];exact List.filterMap_some ..
 show (if (es.map dE).all (λe=>(endD e).isSome)=true then some ((es.map dE).filterMap endD) else none)=_
 rw[lJc h1,h2]
theorem kKl:∀{ds:List PyData},ds.all (λe=>(jQn e).isSome)=true->ds=(ds.filterMap jQn).map dR
 | [],_=>rfl
 | d::ds,h=>by
  (rw[lQy,lKv] at h)
  obtain⟨e,he⟩:=lVn.mp h.1;rw[lQe,he];show d::ds=dR e::_
  rw[<-kKl h.2,qJv he]
noncomputable def kKj(e:Nat×Nat):Int×Int:=((e.1:Int),(e.2:Int))
noncomputable def jKs(W:Web):IWeb:=W.map λes=>es.map kKj
theorem qVx:jYr (es.map kKj)=encR es:=by
 unfold jYr encR;rw[lJ1];rfl
theorem jYq{W:Web}:qZn (jKs W)=encW W:=by
 unfold qZn encW jKs;rw[lJ1];exact lKa _ (lV7 λes _=>qVx)
theorem qXa{b:Nat×Nat}(h:kKj a=kKj b):a=b:=by
 obtain⟨a1,a2⟩:=a;obtain⟨b1,b2⟩:=b;simp only[kKj,Prod.mk.injEq] at h;exact Prod.ext (by have:=h.1;omega) (by have:=h.2;omega)
theorem kXc:∀{a b:List (Nat×Nat)},a.map kKj=b.map kKj->a=b
 | [],[],_=>rfl
 | [],_::_,h=>by cases h
 | _::_,[],h=>by cases h
 | x::a,y::b,h=>by
  rw[lJo,lJo,lVg] at h;rw[qXa h.1,kXc h.2]
theorem kJf:∀{a b:Web},jKs a=jKs b->a=b
 | [],[],_=>rfl
 | [],_::_,h=>by cases h
 | _::_,[],h=>by cases h
 | x::a,y::b,h=>by
  unfold jKs at h;rw[lJo,lJo,lVg] at h;rw[kXc h.1,kJf (a:=a) (b:=b) h.2]
theorem qJd{W:Web}:enI (jKs W) r i=(en W r i).map kKj:=by
 unfold enI en jKs;rw[lJ0];cases W[r]? with
 | none=>rfl
 | some es=>exact lJ0 ..
def bkI(W:IWeb)(r i:Nat)(e:Int×Int):Prop:=0<=e.1/\0<=e.2/\enI W e.1.toNat e.2.toNat=some ((r:Int),(i:Int))
def SymI(W:IWeb):Prop:=∀r i e,enI W r i=some e->bkI W r i e
theorem kVd{W:Web}(h:Sym W):SymI (jKs W):=λr i e he=>by
 rw[qJd] at he;obtain⟨f,hf,rfl⟩:=lQg.mp he;refine⟨lZa _,lZa _,?_⟩;show enI (jKs W) f.1 f.2=_
 rw[qJd,h r i f.1 f.2 hf];rfl
theorem qZt{e:Int×Int}(h1:0<=e.1)(h2:0<=e.2):kKj (e.1.toNat,e.2.toNat)=e:=Prod.ext (lYc h1) (lYc h2)
theorem kYe{α:Type}{f:α->α}:∀{l:List α},(∀a,a∈l->f a=a)->l.map f=l
 | [],_=>rfl
 | a::l,h=>by rw[lJo,h a (lJv ..),kYe λb hb=>h b (lJw _ hb)]
variable {I:IWeb}
theorem kY3(h:SymI I):∃W:Web,I=jKs W/\Sym W:=by
 refine⟨I.map λes=>es.map λe=>(e.1.toNat,e.2.toNat),?_,?_⟩
 .unfold jKs;rw[lJ1];refine (kYe λes hes=> ?_).symm
  show (es.map _).map kKj=es
  rw[lJ1];refine kYe λe he=> ?_
  obtain⟨r,hr⟩:=lJ9 hes;obtain⟨i,hi⟩:=lJ9 he;obtain⟨a,b,_⟩:=h r i e (kV7 hr hi);exact qZt a b
 .have e0:∀r i,en (I.map λes=>es.map λe=>(e.1.toNat,e.2.toNat)) r i=(enI I r i).map λe=>(e.1.toNat,e.2.toNat):=by
   intro r i;unfold enI en;rw[lJ0];cases I[r]? with
   | none=>rfl
   | some es=>exact lJ0 ..
  intro r i s j he;rw[e0] at he;obtain⟨f,hf,q⟩:=lQg.mp he;cases q;obtain⟨_,_,b⟩:=h r i f hf;rw[e0,b];rfl
structure Sz (W:IWeb):Prop where
 len:W.length<=1000
 row:∀(r:Nat)(es:List (Int×Int)),W[r]? =some es->es.length<=1000
def IsW(W:Web):Prop:=0<W.length/\Sym W/\(bfs W 0).length=W.length
theorem Sz.fine{W:Web}(h:Sz (jKs W))(s:Sym W):Fine W:=⟨by have:=h.len;rw[jKs,lJd] at this;exact this,λr es hr=>by
 have:=h.row r (es.map kKj) (by unfold jKs;rw[lJ0,hr];rfl)
 rwa [lJd] at this,λ_ _ _ _ he=>uXt (s _ _ _ _ he)⟩
def jKw:Sp3:=λxs G Q=>∃(ts:List T)(i:Int),xs=[.tup ts,.int i]/\∀G',Sub G G'->Q (.bl (decide (0<=i)&&decide (i<(ts.length:Nat)))) G'
noncomputable def jYb:List Str:=["web","thing"]
noncomputable def jKx:TS3:=
 (tRet (jXu (jJk jQm M1) (jVv rLeF rLt tI0 C1 (tCB rLen M0))))
theorem jVr:RdOk jKw jKx jYb:=by
 intro xs G Q h_;apply xe2 h_;clear h_;intro ts i kk;show jKx _ [some (.tup ts),some (.int i)] G
 exists jKx,jVv,rLeF
 refine⟨.int i,.int i,rfl,.int i,λG1 s1=> ?_⟩
 have this:=kk G1 s1;refine⟨true,rfl,?_⟩;rw[lJc rfl]
 by_cases c:0<=i
 .rw[lJc c];rw[lJq c,Bool.true_and] at this;exact this
 .rw[lJa c];rw[lJy c] at this;exact this
def jVa:Sp3:=λxs G Q=>∃(W:IWeb)(r i:Nat)(e:Int×Int),xs=[qZn W,.int r,.int i]/\enI W r i=some e/\∀G' c,(c=true↔bkI W r i e)->Sub G G'->Q (.bl c) G'
noncomputable def kXo:List Str:=["rooms","room","door","end"]
noncomputable def jVg:TS3:=
 (tSeq (tAsg (tOp rIxF (tOp rIxF C0 C1) C2) U3)
 (tSeq (tIfS (tNot (jJ2 (jJk jKw (jJa C0 (jJa (tOp rIxF C3 tI0) tNil))))) (tRet (tC (.bl false))) jKv)
 (tSeq (tIfS (tNot (jJ2 (jVv rLeF rLt tI0 (tOp rIxF C3 tI1) (tCB rLen (jJa (tOp rIxF C0 (tOp rIxF C3 tI0)) tNil))))) (tRet (tC (.bl false))) jKv)
 (tRet (tOp rEqA (tOp rIxF (tOp rIxF C0 (tOp rIxF C3 tI0)) (tOp rIxF C3 tI1)) (tTup (jJa C1 M2)))))))
theorem kJr:RdOk jVa jVg kXo:=by
 intro xs G Q h_;apply xe4 h_;clear h_;intro W r i e;refine ae2 ?_;intro he kk;show jVg _ [some (.tup (W.map jYr)),some (.int r),some (.int i),none] G
 obtain⟨es,h1,h2⟩:=jYs he;have hs:=sz
 exists jVg,qJb h1,jYr,qJc h2,jX8
 refine⟨_,e.1,rfl,λG1 s1=>⟨_,rfl,?_⟩⟩
 rw[lJd];have no:¬ bkI W r i e->Q (.bl false) G1:=λz=>kk G1 false (Iff.intro (λz=>Bool.noConfusion z) λq=>absurd q z) s1
 by_cases c0:0<=e.1
 .obtain⟨a,ha⟩:=lKu c0
  by_cases hn:a<W.length
  .rw[lJa (by rw[ha];simp;omega)]
   have e1:W[a]? =some W[a]:=lJl hn;rw[ha]
   exists jVv,rLeF,rEqA,qJb e1,jYr,List.length_map
   by_cases c1:0<=e.2
   .obtain⟨b,hb⟩:=lKu c1;rw[lJc c1,hb]
    by_cases hj:b<(W[a]).length
    .rw[lJa (by simp;omega)]
     have e2:(W[a])[b]? =some ((W[a])[b]):=lJl hj;refine⟨_,qJc e2,by omega,_,qZj (f:=((r:Int),(i:Int))),?_⟩
     refine kk G1 _ ?_ s1;rw[lJ5];have e3:enI W e.1.toNat e.2.toNat=some ((W[a])[b]):=by rw[ha,hb];exact kV7 e1 e2
     exact⟨λz=>⟨c0,c1,by rw[e3,z]⟩,λ⟨_,_,z⟩=>by rw[e3] at z;exact lJ3 z⟩
    .rw[lJc (by simp;omega)]
     refine no λ⟨_,_,z⟩=> ?_
     rw[ha,hb] at z;obtain⟨us,u1,u2⟩:=jYs z;rw[show ((a:Int)).toNat=a from rfl,e1] at u1;cases u1
     exact hj (lJk.mp u2).1
   .rw[lJa c1];exact no λ⟨_,z,_⟩=>c1 z
  .rw[lJc (by rw[ha];simp;omega)]
   exact no λ⟨_,_,z⟩=>hn (by have:=uJu z;rw[ha] at this;exact this)
 .rw[lJc (by simp;omega)]
  exact no λ⟨z,_⟩=>c0 z
def jQs:Sp3:=λxs G Q=>∃W:IWeb,xs=[qZn W]/\Sz W/\∀G' c,(c=true↔SymI W)->Sub G G'->Q (.bl c) G'
noncomputable def kKq:List Str:=["rooms","room","ends","door"]
noncomputable def jQu:TS3:=
 (tSeq (tFor (iEnT M0) (gTup 2 (jKi U1 (jKi U2 gNil))) (tFor (jUi (jJa (tCB rLen M2) tNil)) U3 (tIfS (tNot (jJ2 (jJk jVa (jJa C0 (jJa C1 M3))))) (tRet (tC (.bl false))) jKv)))
 (tRet (tC (.bl true))))
theorem jYj:RdOk jQs jQu kKq:=by
 intro xs G Q h_;apply xe1 h_;clear h_;intro W;refine ae2 ?_;intro hz kk;show jQu _ [some (.tup (W.map jYr)),none,none,none] G
 have hs:=sz;have hl:=hz.len
 exists jQu,jKh,iEnT
 let J1:Nat->St3->Gp->Prop:=λk τ G'=>∃(v1 v2 v3:Option T),τ=[some (.tup (W.map jYr)),v1,v2,v3]/\(∀r i e,r<k->enI W r i=some e->bkI W r i e)/\Sub G G'
 refine⟨J1,?_,?_,?_,?_⟩
 .exact xi3 _ _ _ rfl ⟨λr i e h=>absurd h (lK0 _),.refl _⟩
 .intros;trivial
 .intro k y τ G1 hy h_;apply xe3 h_;clear h_;intro v1 v2 v3;refine ae2 ?_;intro h1 h2;obtain⟨z,hzz,rfl⟩:=jX5 hy;obtain⟨es,he,rfl⟩:=jKy hzz;have hel:=hz.row k es he
  exists jKh,jUi,jYr,List.length_map
  refine⟨by omega,by omega,?_⟩
  rw[show ((es.length:Nat):Int).toNat=es.length by omega]
  let J2:Nat->St3->Gp->Prop:=λj τ G'=>∃(v3:Option T),τ=[some (.tup (W.map jYr)),some (.int (k:Nat)),some (.tup (es.map jX8)),v3]/\(∀i e,i<j->enI W k i=some e->bkI W k i e)/\Sub G G'
  refine⟨J2,?_,?_,?_,?_⟩
  .exact xi1 _ rfl ⟨λi e h=>absurd h (lK0 _),h2⟩
  .intros;trivial
  .intro j x τ G2 hx h_;apply xe1 h_;clear h_;intro v3;refine ae2 ?_;intro i1 i2;obtain⟨hj,rfl⟩:=jVx hx;have hej:es[j]? =some es[j]:=lJl hj;have hen:=kV7 he hej
   exists tSeq
   refine⟨W,k,j,_,rfl,hen,λG3 c hc s3=>⟨c,rfl,?_⟩⟩
   cases c with
   | false=>
    rw[lJc rfl];refine kk G3 false (Iff.intro (λz=>Bool.noConfusion z) λsy=> ?_) (i2.trans s3)
    exact absurd (hc.mpr (sy _ _ _ hen)) lJu
   | true=>
    rw[lJa (by decide)]
    refine xi1 _ rfl ⟨λi e hi h=> ?_,i2.trans s3⟩
    rcases lK2 (lK8 hi) with q | rfl
    .exact i1 i e q h
    .rw[hen] at h;cases h;exact hc.mp rfl
  .intro τ G2 h_;apply xe1 h_;clear h_;intro v3;refine ae2 ?_;intro i1 i2;rw[jVe] at i1;refine xi3 _ _ _ rfl ⟨λr i e hr h=> ?_,i2⟩
   rcases lK2 (lK8 hr) with q | rfl
   .exact h1 r i e q h
   .obtain⟨us,u1,u2⟩:=jYs h;rw[he] at u1;cases u1;exact i1 i e (lJk.mp u2).1 h
 .intro τ G1 h_;apply xe3 h_;clear h_;intro v1 v2 v3;refine ae2 ?_;intro h1 h2;rw[jJ4,lJd] at h1
  exists tSeq
  exact kk G1 true (Iff.intro (λ_ r i e h=>h1 r i e (uJu h) h) λ_=>rfl) h2
noncomputable def dW(W:Web):PyData:= .tuple ((jKs W).map dR)
def WebD(d:PyData):Prop:=∃W:Web,d=dW W/\IsW W
theorem WebD.tup(h:WebD (.tuple ds)):∃W:Web,ds=(jKs W).map dR/\IsW W:=by
 obtain⟨W,e,w⟩:=h;unfold dW at e;cases e;exact⟨W,rfl,w⟩
theorem WebD.not{d:PyData}(h:tupD d=none):¬ WebD d:=by
 rintro⟨W,e,_⟩;rw[e] at h;exact absurd (show some ((jKs W).map dR)=none from h) (by simp)
theorem uYb{W:IWeb}:(W.map dR).all (λe=>(jQn e).isSome)=true:=by
 rw[lKo];intro d hd;obtain⟨e,_,rfl⟩:=lJj.mp hd;rw[kZb];rfl
theorem kV3{W:IWeb}:(W.map dR).filterMap jQn=W:=by
 rw[lYm];have:(jQn∘dR)=some:=funext λes=>kZb
 rw[this];exact List.filterMap_some ..
theorem qXx{W:IWeb}(h:okN m n (.tuple (W.map dR)))(hm:m<=1000):Sz W:=by
 obtain⟨a,k,rfl,b⟩:=jUd h;rw[lJd] at a;refine⟨by omega,λr es hr=> ?_⟩
 obtain⟨c,_⟩:=jUd (b (dR es) (lJj.mpr ⟨es,lJs hr,rfl⟩));rw[lJd] at c;omega
def kJk:Sp3:=λxs G Q=>∃(x:T)(d:PyData)(m n:Nat),xs=[x]/\RdG G x d/\okN m n d/\m<=1000/\∀G' c,(c=true↔WebD d)->Sub G G'->Q (.bl c) G'
noncomputable def qZ2:List Str:=["thing","part"]
noncomputable def kJz:TS3:=
 (tSeq (tIfS (tOr (tNot (jJ2 (tCB rIsi (jJa C0 (jJa (tC (.ty "tuple")) tNil))))) (jJ2 (tOp rEqA (tCB qUb M0) tI0))) (tRet (tC (.bl false))) jKv)
 (tSeq (tIfS (tNot (jJ2 (tCB rAll (jJa (jKt [fF,tT] (iSeq C0) U1 jK6 (jJk jYw M1)) tNil)))) (tRet (tC (.bl false))) jKv)
 (tRet (jXu (jJk jQs M0) (tOp rEqA (tCB qUb (jJa (jJk jK2 (jJa C0 (jJa tI0 tNil))) tNil)) (tCB qUb M0))))))
theorem kX5:RdOk kJk kJz qZ2:=by
 intro xs G Q h_;apply xe4 h_;clear h_;intro x d m n;refine ae4 ?_;intro h ok hm kk;show kJz _ [some x,none] G
 have hs:=sz;obtain⟨i1,i2⟩:=jV9 h;have no:∀G',¬ WebD d->Sub G G'->Q (.bl false) G':=λG' z s=>kk G' false (Iff.intro (λz=>Bool.noConfusion z) λq=>absurd q z) s
 exists kJz,rIsi,qUb,rEqA,iSeq,i1
 cases ht:tupD d with
 | none=>exact no G (WebD.not ht) (.refl _)
 | some ds=>
  obtain⟨ts,rfl,hr⟩:=i2 ds ht;obtain rfl:=jXq ht;have hl:=jK3 hr;have hd:=(jUd ok).1;rw[lJa (show ¬ (some ds).isSome=false from by simp)]
  refine⟨ts.length,rfl,_,jK4 (a:=ts.length) (c:=0),?_⟩
  by_cases h0:ts.length=0
  .rw[lJc (lJq h0)];refine no G (λz=> ?_) (.refl _)
   obtain⟨W,e,w⟩:=z.tup;have:=lKa List.length e;rw[lJd,jKs,lJd] at this;have:=w.1;omega
  rw[lJa (by simpa using (h0))]
  obtain⟨_,k,rfl,hk⟩:=jUd ok;refine⟨ts,rfl,?_⟩;obtain⟨ps,e1,e2,hp⟩:=jZ5 hr;rw[e1];refine jKe (es:=ps) (enc:=λp:T×PyData=>p.1) (λp=>T.bl (jQn p.2).isSome) (by have:=lKa List.length e1;rw[lJd] at this;omega) (λ_ _=>rfl) ?_ ?_
  .intro i p hi G' K K0 s hkk
   exists tSeq
   have hpm:=lJs hi;exact⟨p.1,p.2,m,k,rfl,jQi s (hp p hpm),hk _ (by rw[e2];exact lJj.mpr ⟨p,hpm,rfl⟩),hm,λG4 s4=>hkk G4 s4⟩
  intro D G1 hD h1 s1;refine⟨D,_,_,rfl,h1,jU7 (f:=λp:T×PyData=>(jQn p.2).isSome),_,rfl,?_⟩
  have ea:(ps.all λp=>(jQn p.2).isSome)=ds.all λe=>(jQn e).isSome:=by rw[e2,lXv];rfl
  rw[ea,<-e1];cases ha:ds.all λe=>(jQn e).isSome with
  | false=>
   rw[lJc rfl];refine no G1 (λz=> ?_) s1
   obtain⟨W,e,w⟩:=z.tup;rw[e,uYb] at ha;cases ha
  | true=>
   rw[lJa (by decide)]
   have eds:=kKl ha
   generalize ds.filterMap jQn=I at eds
   subst eds;have hts:=kVp hr;subst hts;have hz:=qXx ok hm;refine⟨I,rfl,hz,λG2 c hc s2=>⟨c,rfl,?_⟩⟩
   cases c with
   | false=>
    rw[lJa (by decide)]
    refine no G2 (λz=> ?_) (s1.trans s2)
    obtain⟨W,e,w⟩:=z.tup;have:I=jKs W:=by have:=lKa (List.filterMap jQn) e;rwa [kV3,kV3] at this
    rw[this] at hc;exact absurd (hc.mpr (kVd w.2.1)) lJu
   | true=>
    rw[lJc rfl];obtain⟨W,rfl,sy⟩:=kY3 (hc.mp rfl);have hlen:(jKs W).length=W.length:=by rw[jKs,lJd]
    rw[lJd,hlen] at h0;refine⟨W,0,by rw[<-jYq];rfl,hz.fine sy,by omega,λd G3 kvs hd hG3 hk s3=>⟨kvs.length,by simp only[lenG,hG3],_,rfl,_,jK4,?_⟩⟩
    have hkl:kvs.length=(bfs W 0).length:=by have:=lKa List.length hk;rwa [lJd,lJd] at this
    refine kk G3 _ ?_ ((s1.trans s2).trans s3);rw[lJ5,hkl,lJd,hlen];refine⟨λz=>⟨W,rfl,by omega,sy,z⟩,λz=> ?_⟩
    obtain⟨V,e,w⟩:=z.tup;have e':jKs W=jKs V:=by have:=lKa (List.filterMap jQn) e;rwa [kV3,kV3] at this
    have:W=V:=kJf e';rw[this];exact w.2.2
theorem kKe{W:Web}{r0 r:Nat}(fine:Fine W):∀(es:List (Nat×Nat)){F:List Nat},(∀e,e∈es->∃i,en W r i=some e)->Found W r0 F->r∈F->Found W r0 (vis F es)
 | [],_,_,h,_=>h
 | e::es,F,he,h,hr=>by
  have e1:vis F (e::es)=vis (if F.contains e.1=true then F else F++[e.1]) es:=rfl
  rw[e1];obtain⟨i,hi⟩:=he e (lJv ..)
  by_cases hc:F.contains e.1=true
  .rw[lJc hc];exact kKe fine es (λe h=>he e (lJw _ h)) h hr
  .rw[lJa hc];have hm:e.1∉F:=λz=>hc (lYv.mpr z)
   refine kKe fine es (λe h=>he e (lJw _ h)) ⟨?_,?_,?_⟩ (lKk _ hr)
   .rw[lXx];exact⟨h.nd,by simp,λa ha b hb=>by rw[lJz] at hb;subst hb;rintro rfl;exact hm ha⟩
   .intro x hx
    rcases (lJn.mp hx) with hx | hx
    .exact h.lt x hx
    .rw[lJz.mp hx];exact fine.rng _ _ e.1 e.2 hi
   .intro S h0 hc x hx
    rcases (lJn.mp hx) with hx | hx
    .exact h.got S h0 hc x hx
    .rw[lJz.mp hx];exact hc _ _ e.1 e.2 (h.got S h0 hc r hr) hi
theorem jZe{W:Web}{r0:Nat}(fine:Fine W):∀(n k:Nat){F:List Nat},Found W r0 F->Found W r0 (bfsN W n k F)
 | 0,_,_,h=>h
 | n+1,k,F,h=>by
  cases hk:F[k]? with
  | none=>rw[bfsN,hk];exact h
  | some r=>
   rw[jYt hk];refine jZe fine n _ (kKe fine _ (λe he=> ?_) h (lJs hk))
   have hrW:=h.lt r (lJs hk);obtain⟨es,hes⟩:∃es,W[r]? =some es:=⟨_,lJl hrW⟩
   rw[jUj hes] at he;obtain⟨i,hi⟩:=lJ9 he;exact⟨i,kU1 hes hi⟩
theorem qZb{W:Web}(fine:Fine W)(h:IsW W):Conn W:=by
 refine Found.conn (F:=bfs W 0) (jZe fine _ _ ⟨by simp,λx hx=> ?_,λS h0 _ x hx=> ?_⟩) h.2.2
 .rw[lJz.mp hx];exact h.1
 .rw[lJz.mp hx];exact h0
noncomputable def jYy:Sp3:=λxs G Q=>∃(es:List (Nat×Nat))(nu:List Nat),xs=[encR es,.tup (jJo nu)]/\(∀e,e∈es->e.1<nu.length)/\es.length<=1000/\∀G',Sub G G'->Q (encR (renE nu es)) G'
noncomputable def qXs:List Str:=["ends","numbers","end"]
noncomputable def jY7:TS3:=
 (tRet (tCB jKd (jJa (jKt [fF,fF,tT] (iSeq C0) U2 jK6 (tTup (jJa (tOp rIxF C1 (tOp rIxF C2 tI0)) (jJa (tOp rIxF C2 tI1) tNil)))) tNil)))
theorem kVn:RdOk jYy jY7 qXs:=by
 intro xs G Q h_;apply xe2 h_;clear h_;intro es nu;refine ae3 ?_;intro hlt hl kk;show jY7 _ [some (.tup (es.map encE)),some (.tup (jJo nu)),none] G
 have hs:=sz
 exists jY7,iSeq
 refine jKe (λe=>encE (nuF nu e.1,e.2)) (by omega) (λ_ _=>trivial) ?_ ?_
 .intro i e he G' K K0 s hk;have hx:=hlt e (lJs he);have hy:nu[e.1]? =some nu[e.1]:=lJl hx
  exists encE,qXj hy
  rw[encE,jYm hy] at hk;exact⟨by omega,hk G' (.refl _)⟩
 .intro D G' hD h1 h2;refine⟨_,jJn h1,?_⟩;have:=kk G' h2;rw[encR,renE,lJ1] at this;exact this
def jU9:Sp3:=λxs G Q=>∃(W:Web)(nu:List Nat),xs=[encW W,.tup (jJo nu)]/\Fine W/\Turn W.length nu/\∀V G',Ren W nu V->Sub G G'->Q (encW V) G'
noncomputable def kXn:List Str:=["web","numbers","rooms","room","ends"]
noncomputable def jVf:TS3:=
 (tSeq (tAsg (tCB jQc M0) U2)
 (tSeq (tFor (iEnT M0) (gTup 2 (jKi U3 (jKi U4 gNil))) (tAsg (jJk jYy (jJa C4 M1)) (gSub C2 (tOp rIxF C1 C3) kKw)))
 (tRet (tCB jKd M2))))
theorem kJq:RdOk jU9 jVf kXn:=by
 intro xs G Q h_;apply xe2 h_;clear h_;intro W nu;refine ae3 ?_;intro fine t kk;show jVf _ [some (.tup (W.map encR)),some (.tup (jJo nu)),none,none,none] G
 have hs:=sz;have hl:=fine.len
 exists jVf,jQc,jV0,jKh,iEnT
 intro p hp;refine⟨λk τ G'=>∃(v3 v4:Option T)(V:Web),τ=[some (.tup (W.map encR)),some (.tup (jJo nu)),some (.ref p),v3,v4]/\G' p=some (.lst (V.map encR))/\V.length=W.length/\(∀(r:Nat)(es:List (Nat×Nat)),r<k->W[r]? =some es->V[nuF nu r]? =some (renE nu es))/\Sub G G',?_,?_,?_,?_⟩
 .exact⟨none,none,W,rfl,jJe,rfl,λr es h=>absurd h (lK0 _),.new hp⟩
 .intros;trivial
 .intro k y τ G1 hy h_;apply xe3 h_;clear h_;intro v3 v4 V;refine ae4 ?_;intro h1 h2 h3 h4;obtain⟨z,hz,rfl⟩:=jX5 hy;obtain⟨es,he,rfl⟩:=jKy hz;have hk:k<W.length:=(lJk.mp he).1;obtain⟨x,hx,hxl⟩:=t.at hk
  exists tSeq
  refine⟨es,nu,rfl,λe hm=> ?_,fine.row k es he,λG2 s2=> ?_⟩
  .obtain⟨i,hi⟩:=lJ9 hm;rw[t.len];exact fine.rng k i e.1 e.2 (kU1 he hi)
  .have hp2:=s2 _ _ h1
   exists qXj hx,kY8 hp2
   have hxV:x<(V.map encR).length:=by rw[lJd,h2];exact hxl
   rw[qU9 hxV];refine⟨_,rfl,V.set x (renE nu es),(by show gup _ _ _ _=_;rw[jJe,List.map_set]),by rw[lYo];exact h2,λr es' hr he'=> ?_,(h4.trans s2).over hp⟩
   rcases lK2 (lK8 hr) with h | rfl
   .rw[lXb (λe=> ?_)]
    .exact h3 r es' h he'
    .have:=uKt t ((jYm hx).trans e);omega
   .rw[he] at he';cases he';rw[jYm hx,lVy (by rw[h2];exact hxl)]
 .intro τ G1 h_;apply xe3 h_;clear h_;intro v3 v4 V;refine ae4 ?_;intro h1 h2 h3 h4
  exists tSeq
  refine⟨_,jJn h1,?_⟩;rw[jJ4,lJd] at h3;exact kk V G1 ⟨h2,λr es he=>h3 r es (lJk.mp he).1 he⟩ h4
theorem qYb:rngT 0 n=jJo (List.range n):=by
 unfold rngT jJo;apply lV7;intro x _;show T.int (0+(x:Int))=_
 rw[Int.zero_add]
theorem qU6{F:List Nat}(h:kvs.map Prod.fst=F.map keyN):(kvs.map λkv=>kT kv.1)=jJo F:=by
 have:(kvs.map λkv=>kT kv.1)=(kvs.map Prod.fst).map kT:=by rw[lJ1];rfl
 rw[this,h,lJ1];rfl
def jVw:Sp3:=λxs G Q=>∃(W:Web)(r:Nat),xs=[encW W,.int r]/\Fine W/\Order W r (bfs W r)/\r<W.length/\∀G',Sub G G'->Q (encW (tf W r)) G'
noncomputable def kYy:List Str:=["web","room","numbers","number","come_to"]
noncomputable def jVy:TS3:=
 (tSeq (tAsg (jUu (jJa (tCB rLen M0) tNil)) U2)
 (tSeq (tFor (kK1 (jJa (tCB qUa (jJa (jJk jK2 (jJa C0 M1)) tNil)) tNil)) (gTup 2 (jKi U3 (jKi U4 gNil))) (tAsg C3 (gSub C2 C4 kKw)))
 (tRet (jJk jU9 (jJa C0 (jJa (tCB jKd M2) tNil))))))
theorem kKu:RdOk jVw jVy kYy:=by
 intro xs G Q h_;apply xe2 h_;clear h_;intro W r;refine ae4 ?_;intro fine o hr kk;show jVy _ [some (.tup (W.map encR)),some (.int r),none,none,none] G
 have hs:=sz;have hW2:=fine.len;have ol:=o.len
 exists jVy,jUu,jKh,kK1,qUa,List.length_map
 refine⟨by omega,by omega,λq hq=> ?_⟩
 refine⟨W,r,rfl,fine,hr,λd G1 kvs hd hd1 hk s1=> ?_⟩
 have hq1:=s1 _ _ (jJe (G:=G) (a:=q) (o:= .lst (rngT 0 ((W.length:Nat):Int).toNat)));rw[show ((W.length:Nat):Int).toNat=W.length by omega,qYb] at hq1
 refine⟨d,rfl,kvs,hd1,λu hu=> ?_⟩
 rw[qU6 hk];have hqu:q≠u:=jJi hq1 hu;refine⟨jJo (bfs W r),by simp only[jU2,jJe];rfl,?_⟩
 refine⟨λi τ G'=>∃(v3 v4:Option T)(N:List Nat),τ=[some (.tup (W.map encR)),some (.int r),some (.ref q),v3,v4]/\G' q=some (.lst (jJo N))/\G' u=some (.lst (jJo (bfs W r)))/\N.length=W.length/\(∀i' x,i'<i->(bfs W r)[i']? =some x->N[x]? =some i')/\Sub G G',?_,?_,?_,?_⟩
 .exact⟨none,none,List.range W.length,rfl,by rw[jJw hqu];exact hq1,jJe,by simp,λi' x h=>absurd h (lK0 _),((Sub.new hq).trans s1).trans (.new hu)⟩
 .intro i τ G' hi h_;apply xe3 h_;clear h_;intro v3 v4 N;refine ae5 ?_;intro h1 h2 h3 h4 h5;simp only[jU2,h2];rfl
 .intro i y τ G2 hy h_;apply xe3 h_;clear h_;intro v3 v4 N;refine ae5 ?_;intro h1 h2 h3 h4 h5;obtain⟨z,hz,rfl⟩:=jX5 hy;obtain⟨x,hx,rfl⟩:=jKy hz;have hxl:=o.lt x (lJs hx)
  exists kY8 h1
  rw[qU9 (show x<(jJo N).length by simp[jJo,h3,hxl])]
  refine⟨_,rfl,N.set x i,(by show gup _ _ _ _=_;rw[jJe];simp[jJo]),(by show gup _ _ _ _=_;rw[jJw hqu.symm];exact h2),by rw[lYo];exact h3,λi' x' hi' hx'=> ?_,h5.over hq⟩
  rcases lK2 (lK8 hi') with h | rfl
  .rw[lXb (λe=> ?_)]
   .exact h4 i' x' h hx'
   .subst e;have:=(lZ7 (lJk.mp hx).1 o.nd).mp (hx.trans hx'.symm);omega
  .rw[hx] at hx';cases hx';rw[lVy (by rw[h3];exact hxl)]
 .intro τ G2 h_;apply xe3 h_;clear h_;intro v3 v4 N;refine ae5 ?_;intro h1 h2 h3 h4 h5
  exists tSeq
  refine⟨_,jJn h1,?_⟩
  have hN:N=inv W.length (bfs W r):=by
   apply lQ5;intro x
   rcases lQk x W.length with hx | hx
   .obtain⟨e1,e2⟩:=o.idx hx;rw[qVd hx,h4 _ x (by rw[jJ4];simp[jJo];rw[ol];exact e2) e1]
   .rw[lKj (by omega),lKj (by simp[inv];exact hx)]
  refine⟨W,N,rfl,fine,by rw[hN];exact o.turn,λV G3 ren s3=> ?_⟩
  rw[hN] at ren;rw[Ren.unique o.turn ren (uYj fine o)];exact kk G3 (h5.trans s3)
theorem qKj{l:List Nat}{k:Nat}:(jJo l).eraseIdx k=jJo (l.eraseIdx k):=by
 unfold jJo;rw[lX7,lX7,lKp,lV6,lX5]
noncomputable def jVb:Sp3:=λxs G Q=>∃(d:Nat)(b:Addr)(n:Nat)(V:Web),xs=[.ref b,encW V]/\EvW d V/\BoxAt G b n/\n<2^30/\∀(p:List Nat) G',Prm V.length p->BoxAt G' b (n+V.length)->Keep b G G'->Q (encW (numW V p)) G'
noncomputable def kXq:List Str:=["_law_box_here","_law_web","_law_left","_law_places","_law_ends","_law_room","_law_other","_law_door","_law_k"]
noncomputable def jVi:TS3:=
 (tSeq (tAsg (jUu (jJa (tCB rLen M1) tNil)) U2)
 (tSeq (tAsg (jKt [fF,fF,fF,fF,fF,tT,fF,fF,fF] (iSeq C1) U5 jK6 (tBM "list" uVb C2 (jJa (jJk jJq (jJa C0 (jJa (tCB rLen M2) tNil))) tNil))) U3)
 (tSeq (tAsg (jKt [fF,fF,fF,fF,fF,tT,fF,fF,fF] (iSeq C1) U5 jK6 (tCB jKd (jJa (jKt [fF,fF,fF,fF,fF,fF,tT,tT,fF] (iSeq C5) (gTup 2 (jKi U6 (jKi U7 gNil))) jK6 (tTup (jJa (tOp rIxF C3 C6) M7))) tNil))) U4)
 (tRet (tCB jKd (jJa (jKt [fF,fF,fF,fF,fF,fF,fF,fF,tT] (jUi (jJa (tCB rLen M1) tNil)) U8 jK6 (tOp rIxF C4 (tBM "list" uJg C3 M8))) tNil))))))
theorem kJt:RdOk jVb jVi kXq:=by
 intro xs G Q h_;apply xe4 h_;clear h_;intro d b n V;refine ae4 ?_;intro ev hb hn kk;show jVi _ [some (.ref b),some (.tup (V.map encR)),none,none,none,none,none,none,none] G
 have hs:=sz;have hN:=ev.le
 exists jVi,jUu,jKh,iSeq,List.length_map
 refine⟨by omega,by omega,λL hL=> ?_⟩
 rw[show ((V.length:Nat):Int).toNat=V.length by omega,jV7]
 obtain⟨bo,hbo⟩:=hb.some;have bL:b≠L:=jJi hbo hL;have hb1:BoxAt (gup G L (.lst ((List.range V.length).map λk:Nat=>T.int k))) b n:=hb.gup bL
 have k1:Keep b G (gup G L (.lst ((List.range V.length).map λk:Nat=>T.int k))):= .new hL
 have h1:gup G L (.lst ((List.range V.length).map λk:Nat=>T.int k)) L=some (.lst (jJo (List.range V.length))):=jJe
 generalize gup G L (.lst ((List.range V.length).map λk:Nat=>T.int k))=G1 at hb1 k1 h1 ⊢
 intro D hD;obtain⟨bo1,hbo1⟩:=hb1.some;have bD:b≠D:=jJi hbo1 hD;have LD:L≠D:=jJi h1 hD;have hDG:G D=none:=k1.none bD.symm hD;refine⟨λi acc G'=>∃(ps lf:List Nat),acc=jJo ps/\ps.length=i/\(ps++lf).Perm (List.range V.length)/\G' L=some (.lst (jJo lf))/\BoxAt G' b (n+i)/\Keep b G G'/\G' D=some (.lst acc),?_,?_,?_,?_⟩
 .exact⟨[],List.range V.length,rfl,rfl,.refl _,by rw[jJw LD];exact h1,hb1.gup bD,k1.over hDG,jJe⟩
 .rintro i acc G' hi ⟨ps,lf,rfl,h2,h3,h4,h5,h6,h7⟩;exact⟨trivial,h7⟩
 .rintro i x acc G3 hx ⟨ps,lf,rfl,h2,h3,h4,h5,h6,h7⟩;obtain⟨es,hes,rfl⟩:=jKy hx;have hi:i<V.length:=(lJk.mp hes).1;have hpl:=h3.length_eq;rw[lJ4,lK1] at hpl;have lenl:(jJo lf).length=lf.length:=by simp[jJo]
  exists encR,jQq h4,jJn h4,lenl
  refine⟨b,_,n+i,rfl,h5,by omega,by omega,by omega,λr G4 r0 r1 b4 k4=> ?_⟩
  obtain⟨k,rfl⟩:=lKu r0;have hk:k<lf.length:=by omega
  have L4:=k4 _ _ bL.symm h4;have D4:=k4 _ _ bD.symm h7;have pl:(jJo ps).length=ps.length:=by simp[jJo]
  refine⟨L,jJo lf,.int (lf[k]:Nat),k,rfl,rfl,L4,by omega,by unfold jJo;rw[lJ0,lJl hk];rfl,?_⟩
  have e:jJo ps++[T.int (lf[k]:Nat)]=jJo (ps++[lf[k]]):=by simp[jJo]
  refine⟨by rw[jJw LD.symm];exact D4,by rw[pl];omega,ps++[lf[k]],e,by simp[h2],lf.eraseIdx k,?_,by rw[jJw LD,jJe,qKj],?_,((h6.trans k4).over hL).over hDG⟩
  .refine List.Perm.trans ?_ h3;rw[lJt]
   (refine lV5 _ ?_)
   have e2:lf=lf.take k++lf[k]::lf.drop (k+1):=by rw[<-lYa hk,lK9]
   rw[lX7];exact (lYy (l₁:=lf.take k) (l₂:=lf.drop (k+1))).symm.trans (.of_eq e2.symm)
  .rw[show n+(i+1)=n+i+1 by omega]
   exact (b4.gup bL).gup bD
 .rintro acc G3 ⟨p,lf,rfl,h2,h3,h4,h5,h6,h7⟩
  have hlf:lf=[]:=by
   have:=h3.length_eq;rw[lJ4,lK1,h2,lJd] at this;exact lQh.mp (by omega)
  subst hlf;rw[lQd] at h3;rw[lJd] at h2;have P:Prm V.length p:=⟨h2,h3.nodup_iff.mpr lV3,λx hx=>lKb.mp (h3.mem_iff.mp hx)⟩
  have atp:∀{G':Gp},Sub G3 G'->∀{k:Nat},k<V.length->ixR G' (.ref D) (.int (k:Nat))=some (.int (p.getD k 0:Nat)):=λ{G'} s {k} hk=>by
   rw[jQv (s _ _ h7),atN];unfold jJo;rw[lJ0,lJl (by omega)]
   simp[List.getD,h2,hk]
  let f:List (Nat×Nat)->List (Nat×Nat):=λes=>es.map λe=>(p.getD e.1 0,e.2)
  refine jKe (es:=V) (enc:=encR) (λes=>encR (f es)) (by omega) (λ_ _=>trivial) ?_ ?_
  .intro i es hes G4 K K0 s4 hK;have hel:es.length=d:=ev.row i es hes;have hd:=ev.d6
   exists iSeq,encR
   refine jKe (es:=es) (enc:=encE) (λe=>encE (p.getD e.1 0,e.2)) (by omega) (λ_ _=>trivial) ?_ ?_
   .intro j e he G5 K' K0' s5 hK';have hlt:e.1<V.length:=ev.fine.rng i j e.1 e.2 (by rw[kU1 hes he])
    exists encE
    exact⟨_,atp (s4.trans s5) hlt,by omega,hK' G5 (.refl _)⟩
   .intro E G5 hE h5 s5;refine⟨_,jJn h5,?_⟩;have:=hK G5 s5;unfold encR at this;rw[lJ1] at this;exact this
  .intro E G4 hE h8 s4
   exists jUi,List.length_map
   refine⟨by omega,by omega,?_⟩
   rw[show ((V.length:Nat):Int).toNat=V.length by omega,jV7]
   refine jKe (es:=List.range V.length) (enc:=λk:Nat=>T.int k) (λk=>encR (f (row V (p.idxOf k)))) (by simp;omega) (λ_ _=>trivial) ?_ ?_
   .intro i k hk G5 K K0 s5 hK;have hkV:k<V.length:=by have:=lJs hk;simpa using this
    have hix:p.idxOf k<p.length:=lZ8 (P.mem hkV);have D5:=s5 _ _ (s4 _ _ h7)
    exists jQq D5
    obtain⟨es,hes,_⟩:=kVg (W:=V) (r:=p.idxOf k) (by omega)
    have E5:=s5 _ _ h8;refine⟨D,_,.int (k:Nat),.int (k:Nat),p.idxOf k,rfl,rfl,D5,rfl,?_,?_,?_,λm t hm ht=> ?_,_,?_,hK G5 (.refl _)⟩
    .simp[jJo,jX7]
    .unfold jJo;rw[lJ0,lJl hix,List.getElem_idxOf hix];rfl
    .simp[eqT]
    .unfold jJo at ht;obtain⟨q,hq,rfl⟩:=jKy ht
     have hne:q≠k:=λz=>by
      subst z;have h1:=(lJk.mp hq);obtain⟨h1,h2⟩:=h1;have:=List.Nodup.idxOf_getElem P.nd m h1;rw[h2] at this;omega
     simp[eqT];omega
    .rw[jQv E5,atN,lJ0,jUj hes,hes];rfl
   .intro D2 G5 hD2 h9 s5;refine⟨_,jJn h9,?_⟩;have:=kk p G5 P (by have:=(h5.sub s4).sub s5;rw[lJd] at this;exact this) ((h6.trans (.sub s4)).trans (.sub s5))
    unfold encW numW at this;rw[lJ1] at this;exact this
noncomputable def qKf:PyData->Bool
 | .none=>true
 | .bool _=>true
 | .int i=>decide (-40<=i)&&decide (i<40)
 | .str x=>decide (x=Str.ofString "web")||decide (x=Str.ofString "0")
 | _=>false
theorem jQ6{a b:Str}(ha:PyData.strOk a=true)(hb:PyData.strOk b=true):PyData.strOk (a++b)=true:=by
 unfold PyData.strOk at *;rw[Str.cps_append,Array.all_append,ha,hb];rfl
theorem kQb:∀ts:List Str,(∀t,t∈ts->PyData.strOk t=true)->PyData.strOk (Str.join ", " ts)=true
 | [],_=>by decide +kernel
 | [x],h=>h x (by simp)
 | x::y::r,h=>jQ6 (jQ6 (h x (by simp)) (by decide +kernel)) (kQb (y::r) λt ht=>h t (lJw _ ht))
variable {ts:List Str}
theorem qX0(h:∀t,t∈ts->PyData.strOk t=true):PyData.strOk (tupleText ts)=true:=by
 unfold tupleText;refine jQ6 (jQ6 (by decide +kernel) (kQb ts h)) ?_
 split<;>decide +kernel
theorem kY4:∀(ts:List Str)(k:Nat)(acc:Str),(∀t,t∈ts->PyData.strOk t=true)->PyData.strOk acc=true->PyData.strOk (textFrom k acc ts)=true
 | [],_,_,_,h=>h
 | t::r,k,acc,h,ha=>kY4 r _ _ (λt ht=>h t (lJw _ ht)) (jQ6 (jQ6 ha (by split<;>decide +kernel)) (h t (lJv ..)))
theorem qX1(h:∀t,t∈ts->PyData.strOk t=true):PyData.strOk (listText ts)=true:=jQ6 (kY4 ts _ _ h (by decide +kernel)) (by decide +kernel)
structure Shw (B:Nat) (d:PyData):Prop where
 lay:d.canLay0=true
 shw:d.showable=true
 nd:d.hasDict=false
 len:d.shown.length<=B
 cp:PyData.strOk d.shown=true
 cs:PyData.strOk (strD d)=true
 int:∀i,d= .int i->i.natAbs.log2<1920
theorem uXk:∀k:Nat,k<80->(PyData.shown (.int ((k:Int)-40))).length<=8/\PyData.showable (.int ((k:Int)-40))=true/\PyData.strOk (PyData.shown (.int ((k:Int)-40)))=true:=by decide +kernel
theorem jY9{d:PyData}(h:qKf d=true):Shw 8 d/\d.depth=0:=by
 cases d with
 | none=>exact⟨⟨by simp[PyData.canLay0],rfl,rfl,by decide +kernel,by decide +kernel,by decide +kernel,λi e=>nomatch e⟩,by simp[PyData.depth]⟩
 | bool b=>cases b<;>exact⟨⟨by simp[PyData.canLay0],rfl,rfl,by decide +kernel,by decide +kernel,by decide +kernel,λi e=>nomatch e⟩,by simp[PyData.depth]⟩
 | int i=>
  have h1:(decide (-40<=i)&&decide (i<40))=true:=h
  (rw[lKv,lJ5,lJ5] at h1)
  obtain⟨k,rfl⟩:∃k:Nat,i=(k:Int)-40:=⟨(i+40).toNat,by omega⟩
  obtain⟨a,sh,b⟩:=uXk k (by omega)
  exact⟨⟨by simp[PyData.canLay0],sh,rfl,a,b,b,λi e=>by cases e;exact lZr (Nat.log2_le_self _) (by omega)⟩,by simp[PyData.depth]⟩
 | str x=>
  have h1:(decide (x=Str.ofString "web")||decide (x=Str.ofString "0"))=true:=h
  rw[lX0,lJ5,lJ5] at h1
  rcases h1 with rfl | rfl<;>exact⟨⟨by rw[PyData.canLay0];decide +kernel,rfl,rfl,by decide +kernel,by decide +kernel,by decide +kernel,λi e=>nomatch e⟩,by simp[PyData.depth]⟩
 | _=>exact absurd (show false=true from h) lJu
def gdN(m:Nat):Nat->PyData->Prop
 | 0,d=>qKf d=true
 | n+1,d=>qKf d=true\/∃ds,(d= .tuple ds\/d= .list ds)/\ds.length<=m/\∀e,e∈ds->gdN m n e
theorem qZh{m:Nat}:∀{n:Nat}{d:PyData},gdN m n d->okN m n d
 | 0,d,h=>⟨(jY9 h).1.lay,(jY9 h).2⟩
 | n+1,d,h=>by
  rcases h with h | ⟨ds,h1,h2,h3⟩
  .exact qYu (jY9 h).1.lay (jY9 h).2
  .exact .inr ⟨ds,h1,h2,λe he=>qZh (h3 e he)⟩
theorem jZd{d:PyData}(h:qKf d=true):∀{n:Nat},gdN m n d
 | 0=>h
 | _+1=> .inl h
theorem qVj{m:Nat}:∀{n n':Nat}{d:PyData},n<=n'->gdN m n d->gdN m n' d
 | 0,_,_,_,h=>jZd h
 | n+1,0,_,hn,_=>absurd hn (by omega)
 | n+1,n'+1,_,hn,h=>by
  rcases h with h | ⟨ds,h1,h2,h3⟩
  .exact .inl h
  .exact .inr ⟨ds,h1,h2,λe he=>qVj (Nat.le_of_succ_le_succ hn) (h3 e he)⟩
theorem qZ8{B:Nat}:∀ts:List Str,(∀t,t∈ts->t.length<=B)->(ts.map (·.length)).sum<=ts.length*B
 | [],_=>lJ6 _
 | t::ts,h=>by
  have h1:=h t (lJv ..);have h2:=qZ8 ts λt ht=>h t (lJw _ ht)
  rw[lJo,List.sum_cons,lJ8,lXr];omega
theorem qQj{B:Nat}:∀ds:List PyData,(∀d,d∈ds->Shw B d)->PyData.canLayAll0 ds=true/\PyData.showableAll ds=true/\PyData.hasDictAll ds=false/\(PyData.shownAll ds).length=ds.length/\∀t,t∈PyData.shownAll ds->t.length<=B/\PyData.strOk t=true
 | [],_=>⟨by simp[PyData.canLayAll0],rfl,rfl,rfl,λt h=>by cases h⟩
 | x::xs,h=>by
  obtain⟨h0,h1,h2,h3,h4⟩:=qQj xs λy hy=>h y (lJw _ hy)
  have hx:=h x (lJv ..);refine⟨by rw[PyData.canLayAll0,h0,hx.lay];rfl,?_,?_,?_,?_⟩
  .show (PyData.showable x&&PyData.showableAll xs)=true
   rw[hx.shw,h1];rfl
  .show (PyData.hasDict x||PyData.hasDictAll xs)=false
   rw[hx.nd,h2];rfl
  .show (PyData.shown x::PyData.shownAll xs).length=_
   rw[lJ8,lJ8,h3]
  .intro t ht
   rcases lJp.mp (show t∈PyData.shown x::PyData.shownAll xs from ht) with rfl | ht
   .exact⟨hx.len,hx.cp⟩
   .exact h4 t ht
noncomputable def bnd(m:Nat):Nat->Nat
 | 0=>8
 | n+1=>m*bnd m n+2*m+8
theorem uZs:∀n,8<=bnd m n
 | 0=>lJh _
 | n+1=>by show 8<=m*bnd m n+2*m+8;omega
theorem qQi{m:Nat}:∀{n:Nat}{d:PyData},gdN m n d->Shw (bnd m n) d
 | 0,d,h=>(jY9 h).1
 | n+1,d,h=>by
  rcases h with h | ⟨ds,h1,h2,h3⟩
  .have L:=(jY9 h).1;exact⟨L.lay,L.shw,L.nd,lKx L.len (uZs _),L.cp,L.cs,L.int⟩
  .obtain⟨a0,a1,a2,a3,a4⟩:=qQj ds λe he=>qQi (h3 e he)
   have hs:=qZ8 (PyData.shownAll ds) λt ht=>(a4 t ht).1
   have hm:ds.length*bnd m n<=m*bnd m n:=mJa _ h2;rw[a3] at hs
   rcases h1 with rfl | rfl
   .have hl:=tupleText_len_le (PyData.shownAll ds);rw[a3] at hl;have ho:=qX0 λt ht=>(a4 t ht).2
    exact⟨by rw[PyData.canLay0];exact a0,a1,a2,by show (tupleText _).length<=m*bnd m n+2*m+8;omega,ho,ho,λi e=>nomatch e⟩
   .have hl:=listText_len_le (PyData.shownAll ds);rw[a3] at hl;have ho:=qX1 λt ht=>(a4 t ht).2
    exact⟨by rw[PyData.canLay0];exact a0,a1,a2,by show (listText _).length<=m*bnd m n+2*m+8;omega,ho,ho,λi e=>nomatch e⟩
def Tg(b:Addr)(G:Gp)(n:Nat)(x:T):Prop:=∃d,RdG (er b G) x d/\gdN 24 n d
theorem Tg.keep(h:Tg b G n x)(q:Keep b G G'):Tg b G' n x:=let ⟨d,h1,h2⟩:=h;⟨d,jQi (uQj q) h1,h2⟩
theorem Tg.mono{n':Nat}(h:Tg b G n x)(l:n<=n'):Tg b G n' x:=let ⟨d,h1,h2⟩:=h;⟨d,h1,qVj l h2⟩
theorem Tg.out(h:Tg b G n x):∃d,RdG G x d/\gdN 24 n d:=let ⟨d,h1,h2⟩:=h;⟨d,jQi uXq h1,h2⟩
theorem tgs{b:Addr}{G:Gp}{n:Nat}:∀xs:List T,(∀x,x∈xs->Tg b G n x)->∃ds,RdGs (er b G) xs ds/\∀e,e∈ds->gdN 24 n e
 | [],_=>⟨[],.nil,λe h=>nomatch h⟩
 | x::xs,h=>by
  obtain⟨ds,h1,h2⟩:=tgs xs λy hy=>h y (lJw _ hy)
  obtain⟨d,g1,g2⟩:=h x (lJv ..);refine⟨d::ds,.cons g1 h1,λe he=> ?_⟩
  rcases (lJp.mp he) with rfl | he
  .exact g2
  .exact h2 e he
theorem jKz(h:∀x,x∈xs->Tg b G n x)(hl:xs.length<=24):Tg b G (n+1) (.tup xs):=by
 obtain⟨ds,h1,h2⟩:=tgs xs h;exact⟨_,.tup h1,.inr ⟨ds,.inl rfl,by rw[jK3 h1];exact hl,h2⟩⟩
theorem kVc(hp:G p=some (.lst xs))(hb:p≠b)(h:∀x,x∈xs->Tg b G n x)(hl:xs.length<=24):Tg b G (n+1) (.ref p):=by
 obtain⟨ds,h1,h2⟩:=tgs xs h;exact⟨_,.lst (by rw[uZi hb];exact hp) h1,.inr ⟨ds,.inr rfl,by rw[jK3 h1];exact hl,h2⟩⟩
theorem jUt{i:Int}(h: -40<=i/\i<40):Tg b G n (.int i):=⟨_,.int i,jZd (by show (decide _&&decide _)=true;rw[lJq h.1,lJq h.2];rfl)⟩
theorem uUr{i:Bool}:Tg b G n (.bl i):=⟨_,.bl i,jZd rfl⟩
theorem qZ7:Tg b G n .non:=⟨_,.non,jZd rfl⟩
theorem uUq:Tg b G n (.str (Str.ofString "web")):=⟨_,.str _,jZd (by simp[qKf])⟩
theorem tg_0:Tg b G n (.str (Str.ofString "0")):=⟨_,.str _,jZd (by simp[qKf])⟩
variable {P:T->Prop}
theorem memC(h:P x)(hs:∀y,y∈xs->P y):∀y,y∈x::xs->P y:=λy hy=>by
 rcases (lJp.mp hy) with rfl | hy
 .exact h
 .exact hs y hy
theorem memN:∀y:T,y∈[]->P y:=λy hy=>nomatch hy
def Few(W:Web):Prop:=W.length<=24/\∀es,es∈W->es.length<=24/\∀e,e∈es->e.1<40/\e.2<40
theorem tg_E(h:e.1<40/\e.2<40):Tg b G 1 (encE e):=jKz (memC (jUt (by omega)) (memC (jUt (by omega)) memN)) (by simp)
theorem tg_R(h:es.length<=24/\∀e,e∈es->e.1<40/\e.2<40):Tg b G 2 (encR es):=jKz (λx hx=>by
 obtain⟨e,he,rfl⟩:=lJj.mp hx;exact tg_E (h.2 e he)) (by rw[lJd];exact h.1)
theorem tg_W{W:Web}(h:Few W):Tg b G 3 (encW W):=jKz (λx hx=>by
 obtain⟨es,he,rfl⟩:=lJj.mp hx;exact tg_R (h.2 es he)) (by rw[lJd];exact h.1)
variable {Q:VK3}
theorem qZ9{d:PyData}(h:RdG G x d)(g:gdN 24 3 d)(q:Q (.str (strD d)) G):qJ0 [x] G Q:=by
 have s:=qQi g;exact⟨x,d,rfl,h,s.shw,lKx (kUi d (qZh g)).2 (by decide),s.nd,lKx s.len (by decide),s.int,q⟩
theorem uQl{x:Str}(h:PyData.strOk x=true):eqG G (.str x) (.str x)=some true:=by
 have ok:eqOk (.str x)=true:=by
  unfold eqOk;rw[show tree (.str x)=true from rfl]
  simp[td,PyData.canLay0,PyData.depth,h]
 show (if eqOk (.str x)=true/\eqOk (.str x)=true then some (eqT (.str x) (.str x)) else none)=_
 rw[lJc ⟨ok,ok⟩];simp[eqT]
theorem uV9{i:Int}:PyData.canLay0 (.int i)=true:=by simp[PyData.canLay0]
theorem uQn{w c:Int}(q:Q (.bl (decide (w=c))) G):rEqD (.int w) (.int c) G Q:=by
 refine⟨.int w,.int c,.int w,.int c,uV9,uV9,by simp[PyData.depth],?_⟩
 have:PyData.eqv (.int w) (.int c)=decide (w=c):=by rw[PyData.eqv];rfl
 rw[this];exact q
theorem uQk:PyData.eqvAll ds []=decide (ds=[]):=by
 cases ds with
 | nil=>rw[PyData.eqvAll];rfl
 | cons d ds=>rw[PyData.eqvAll];simp
theorem uQm{k:Nat}(h:RdGs G xs ds)(ok:okN m k (.tuple ds))(hk:k<=50)(q:Q (.bl (decide (xs=[]))) G):rEqD (.tup xs) (.tup []) G Q:=by
 obtain⟨a,b⟩:=kUi _ ok;refine⟨.tuple ds,.tuple [],.tup h,.tup .nil,a,by simp[PyData.canLay0,PyData.canLayAll0],by omega,?_⟩
 rw[PyData.eqv,uQk,show decide (ds=[])=decide (xs=[]) from decide_eq_decide.mpr (by rw[<-lQh,<-lQh,jK3 h])]
 exact q
def inD(ds:List PyData)(d:PyData):Prop:=∃(a b:Nat)(es:List PyData),d=dE ((a:Int),(b:Int))/\ds[a]? =some (.tuple es)/\b<es.length
theorem kYm{d:PyData}(h:endD d=none):¬ inD ds d:=by
 rintro⟨a,b,es,rfl,_⟩;cases h
noncomputable def jXx:Sp3:=λxs G Q=>∃(ts:List T)(ds:List PyData)(x:T)(d:PyData),xs=[.tup ts,x]/\RdGs G ts ds/\(∀e,e∈ds->∃es,e= .tuple es)/\ds.length<=1000/\RdG G x d/\∀G' c,(c=true↔inD ds d)->Sub G G'->Q (.bl c) G'
noncomputable def qKt:List Str:=["_law_web","_law_thing","_law_part"]
noncomputable def jX1:TS3:=
 (tSeq (tIfS (tOr (tNot (jJ2 (tCB rIsi (jJa C1 (jJa (tC (.ty "tuple")) tNil))))) (tOr (jJ2 (tOp rNeA (tCB rLen M1) tI2)) (tNot (jJ2 (tCB rAll (jJa (jKt [fF,fF,tT] (iSeq C1) U2 jK6 (jJk jUo M2)) tNil)))))) (tRet (tC (.bl false))) jKv)
 (tRet (jXu (jVv rLeF rLt tI0 (tOp rIxF C1 tI0) (tCB rLen M0)) (jVv rLeF rLt tI0 (tOp rIxF C1 tI1) (tCB rLen (jJa (tOp rIxF C0 (tOp rIxF C1 tI0)) tNil))))))
theorem kQ5:RdOk jXx jX1 qKt:=by
 intro xs G Q h_;apply xe4 h_;clear h_;intro ts ds x d;refine ae5 ?_;intro hts hds hl hx kk;show jX1 _ [some (.tup ts),some x,none] G
 have hs:=sz;obtain⟨i1,i2⟩:=jV9 hx;have no:∀G',¬ inD ds d->Sub G G'->Q (.bl false) G':=λG' z s=>kk G' false (Iff.intro (λz=>Bool.noConfusion z) λq=>absurd q z) s
 exists jX1,rIsi,rNeA,iSeq,i1
 cases ht:tupD d with
 | none=>
  rw[lJc (show (none:Option (List PyData)).isSome=false from rfl)]
  exact no G (kYm (kZ9 ht)) (.refl _)
 | some ws=>
  rw[lJa (show ¬ (some ws).isSome=false from by simp)]
  obtain⟨vs,rfl,hrv⟩:=i2 ws ht;obtain rfl:=jXq ht;have hvl:=jK3 hrv;refine⟨vs,rfl,_,jK4 (a:=vs.length) (c:=2),?_⟩
  by_cases h2v:vs.length=2
  .rw[lJa (by simpa using h2v)]
   obtain⟨a,b,rfl⟩:=uV8 h2v;cases hrv with
   | cons hra hrv=>
    cases hrv with
    | cons hrb hrv=>
     cases hrv
     rename_i da db
     refine⟨_,rfl,?_⟩;refine jKe (es:=[(a,da),(b,db)]) (enc:=λp:T×PyData=>p.1) (λp=>T.bl (numD p.2)) (by show 2<=sizeLine;omega) (λ_ _=>rfl) ?_ ?_
     .intro i p hi G' K K0 s hkk
      exists tSeq
      have hpr:RdG G p.1 p.2:=by
       have:=lJs hi;simp only[lJp,lKy,lQw] at this
       rcases this with rfl | rfl
       .exact hra
       .exact hrb
      exact⟨p.1,p.2,rfl,jQi s hpr,λG4 s4=>hkk G4 s4⟩
     intro D G3 hD h3' s3;refine⟨D,_,_,rfl,h3',jU7 (f:=λp:T×PyData=>numD p.2),_,rfl,?_⟩
     have ee:([(a,da),(b,db)].all λp:T×PyData=>numD p.2)=(endD (.tuple [da,db])).isSome:=by rw[kZ8];simp
     rw[ee];cases he:endD (.tuple [da,db]) with
     | none=>
      rw[lJc (show (none:Option (Int×Int)).isSome=false from rfl)]
      exact no G3 (kYm he) s3
     | some e=>
      rw[lJa (show ¬ (some e).isSome=false from by simp)]
      obtain⟨e1,e2⟩:=e;have hd:=kV6 he;unfold dE at hd;cases hd;cases hra;cases hrb;clear ee i1 i2 hx hvl ht he h2v h3'
      dsimp only at kk no ⊢
      exists jVv,rLeF
      have hlen:=jK3 hts
      have nat:∀{a' b':Nat},PyData.tuple [PyData.int e1,PyData.int e2]=dE ((a':Int),(b':Int))->e1=a'/\e2=b':=λe=>by
       simp only[dE,PyData.tuple.injEq,lVg,PyData.int.injEq,and_true] at e;exact e
      by_cases c1:0<=e1
      .obtain⟨a,rfl⟩:=lKu c1;rw[lJc c1]
       by_cases c2:a<ds.length
       .rw[lJc (by omega)]
        by_cases c3:0<=e2
        .obtain⟨b,rfl⟩:=lKu c3;rw[lJc c3];have hda:=lJl c2;obtain⟨es,hes⟩:=hds _ (lQi c2);rw[hes] at hda;obtain⟨x,hx,hrx⟩:=kUa hts hda;cases hrx with
         | tup hu=>
          rename_i us
          refine⟨_,by rw[atN];exact hx,us,rfl,kk G3 _ ?_ s3⟩
          rw[<-jK3 hu,lJ5];refine⟨λz=>⟨a,b,es,rfl,hda,by omega⟩,?_⟩
          rintro⟨a',b',es',e,h1,h2⟩;obtain⟨q1,q2⟩:=nat e;obtain rfl:a=a':=by omega
          obtain rfl:b=b':=by omega
          rw[hda] at h1;cases h1;omega
        .rw[lJa c3];exact no _ (λ⟨a',b',es',e,h1,h2⟩=>by have:=nat e;omega) s3
       .rw[lJa (by omega)]
        refine no _ (λ⟨a',b',es',e,h1,h2⟩=> ?_) s3
        have:=nat e;have:=(lJk.mp h1).1;omega
      .rw[lJa c1];exact no _ (λ⟨a',b',es',e,h1,h2⟩=>by have:=nat e;omega) s3
  .rw[lJc (by simpa using h2v)]
   exact no _ (kYm (qJa (by omega))) (.refl _)
theorem kJ1{G:Gp}:∀{xs:List T}{ds:List PyData},RdGs G xs ds->∀{i:Nat}{x:T},xs[i]? =some x->∃d,ds[i]? =some d/\RdG G x d
 | _,_,.cons h hs,0,d,e=>by cases e;exact⟨_,rfl,h⟩
 | _,_,.cons h hs,i+1,d,e=>kJ1 hs (i:=i) e
def qJi(ds:List PyData)(r i:Nat)(d:PyData):Prop:=∃(a b:Nat)(es:List PyData)(e:PyData),d=dE ((a:Int),(b:Int))/\ds[a]? =some (.tuple es)/\es[b]? =some e/\PyData.eqv e (dE ((r:Int),(i:Int)))=true
theorem uJs{a b c d:Int}:PyData.eqv (dE (a,b)) (dE (c,d))=(decide (a=c)&&decide (b=d)):=by rw[lZ6];simp[dE,PyData.eqv,PyData.eqvAll]
theorem uJx{e:Int×Int}(h:dE e=dE f):e=f:=by
 simp only[dE,PyData.tuple.injEq,lVg,PyData.int.injEq,and_true] at h;exact Prod.ext h.1 h.2
theorem uJb{es:List PyData}(h:(I.map dR)[r]? =some (.tuple es)):∃fs,I[r]? =some fs/\es=fs.map dE:=by
 rw[lJ0] at h;obtain⟨fs,h1,h2⟩:=lQg.mp h;unfold dR at h2;cases h2;exact⟨fs,h1,rfl⟩
theorem qV9(h:enI I r i=some f):∃es,(I.map dR)[r]? =some (.tuple es)/\es[i]? =some (dE f):=by
 obtain⟨es,h1,h2⟩:=jYs h;exact⟨es.map dE,by rw[lJ0,h1];rfl,by rw[lJ0,h2];rfl⟩
theorem kU9(z:WebD (.tuple ds)){es:List PyData}{d:PyData}(h1:ds[r]? =some (.tuple es))(h2:es[i]? =some d):qJi ds r i d:=by
 obtain⟨W,rfl,w⟩:=z.tup;obtain⟨fs,h3,rfl⟩:=uJb h1;rw[lJ0] at h2;obtain⟨f,h4,rfl⟩:=lQg.mp h2;obtain⟨b1,b2,b3⟩:=kVd w.2.1 r i f (kV7 h3 h4);obtain⟨es',h6,h7⟩:=qV9 b3;exact⟨f.1.toNat,f.2.toNat,es',_,by rw[lYc b1,lYc b2],h6,h7,by rw[uJs];simp⟩
theorem qV8(hds:∀e,e∈ds->∃es,e= .tuple es)(h:∀r i es d,ds[r]? =some (.tuple es)->es[i]? =some d->qJi ds r i d):∃W:Web,ds=(jKs W).map dR/\Sym W:=by
 have ha:ds.all (λe=>(jQn e).isSome)=true:=by
  rw[lKo];intro e he;obtain⟨es,rfl⟩:=hds e he;obtain⟨r,hr⟩:=lJ9 he;unfold jQn;show (if es.all (λe=>(endD e).isSome)=true then _ else _:Option _).isSome=true
  rw[lJc]
  .rfl
  .rw[lKo];intro w hw;obtain⟨i,hi⟩:=lJ9 hw;obtain⟨a,b,_,_,rfl,_⟩:=h r i es w hr hi;rfl
 have eds:=kKl ha
 generalize ds.filterMap jQn=I at eds
 subst eds
 have sy:SymI I:=λr i e he=>by
  obtain⟨es,h1,h2⟩:=qV9 he;obtain⟨a,b,es',e',h3,h4,h5,h6⟩:=h r i es _ h1 h2;obtain rfl:=uJx h3;obtain⟨fs,h7,rfl⟩:=uJb h4;rw[lJ0] at h5;obtain⟨f,h8,rfl⟩:=lQg.mp h5;rw[uJs (a:=f.1) (b:=f.2),lKv,lJ5,lJ5] at h6;exact⟨lZa _,lZa _,by show enI I a b=_;rw[kV7 h7 h8];exact lKa some (Prod.ext h6.1 h6.2)⟩
 obtain⟨W,rfl,s⟩:=kY3 sy;exact⟨W,rfl,s⟩
def jXw:Sp3:=λxs G Q=>∃(x:T)(d:PyData)(m n:Nat),xs=[x]/\RdG G x d/\okN m n d/\m<=1000/\n<=40/\∀G' c,(c=true↔WebD d)->Sub G G'->Q (.bl c) G'
noncomputable def qKs:List Str:=["_law_web","_law_room","_law_ends","_law_door","_law_end"]
noncomputable def jX0:TS3:=
 (tSeq (tIfS (tOr (tNot (jJ2 (tCB rIsi (jJa C0 (jJa (tC (.ty "tuple")) tNil))))) (tOr (jJ2 (tOp rEqD C0 (tTup tNil))) (tNot (jJ2 (tCB rAll (jJa (jKt [fF,tT,fF,fF,fF] (iSeq C0) U1 jK6 (tCB rIsi (jJa C1 (jJa (tC (.ty "tuple")) tNil)))) tNil)))))) (tRet (tC (.bl false))) jKv)
 (tSeq (tFor (iEnT M0) (gTup 2 (jKi U1 (jKi U2 gNil))) (tFor (iEnT M2) (gTup 2 (jKi U3 (jKi U4 gNil))) (tIfS (tOr (tNot (jJ2 (jJk jXx (jJa C0 M4)))) (jJ2 (tOp rNeD (tOp rIxF (tOp rIxF C0 (tOp rIxF C4 tI0)) (tOp rIxF C4 tI1)) (tTup (jJa C1 M3))))) (tRet (tC (.bl false))) jKv)))
 (tRet (tOp rEqD (tCB rLen (jJa (jJk jJ9 (jJa C0 (jJa tI0 tNil))) tNil)) (tCB rLen M0)))))
theorem kQ4:RdOk jXw jX0 qKs:=by
 intro xs G Q h_;apply xe4 h_;clear h_;intro x dd m n;refine ae5 ?_;intro h ok hm hn kk;show jX0 _ [some x,none,none,none,none] G
 have hs:=sz;obtain⟨i1,i2⟩:=jV9 h;have no:∀G',¬ WebD dd->Sub G G'->Q (.bl false) G':=λG' z s=>kk G' false (Iff.intro (λz=>Bool.noConfusion z) λq=>absurd q z) s
 exists jX0,rIsi,iSeq,jKh,iEnT,i1
 cases ht:tupD dd with
 | none=>exact no G (WebD.not ht) (.refl _)
 | some ds=>
  obtain⟨ts,rfl,hr⟩:=i2 ds ht;obtain rfl:=jXq ht;have hl:=jK3 hr;have hd:=(jUd ok).1;rw[lJa (show ¬ (some ds).isSome=false from by simp)]
  refine⟨by omega,uQm hr ok (by omega) ⟨_,rfl,?_⟩⟩
  by_cases h0:ts=[]
  .rw[lJc (lJq h0)];refine no G (λz=> ?_) (.refl _)
   obtain⟨W,e,w⟩:=z.tup;have:=lKa List.length e;rw[lJd,jKs,lJd,hl,h0] at this;have:=w.1;simp at *;omega
  rw[lJa (by simpa using (h0))]
  obtain⟨_,k0,rfl,hk0⟩:=jUd ok;refine⟨ts,rfl,?_⟩;obtain⟨ps,e1,e2,hp⟩:=jZ5 hr;rw[e1];refine jKe (es:=ps) (enc:=λp:T×PyData=>p.1) (λp=>T.bl (tupD p.2).isSome) (by have:=lKa List.length e1;rw[lJd] at this;omega) (λ_ _=>rfl) ?_ ?_
  .intro i p hi G' K K0 s hkk;have hq:=(jV9 (jQi s (hp p (lJs hi)))).1
   exists rIsi,hq
   exact hkk G' (.refl _)
  intro D G1 hD h1 s1;refine⟨D,_,_,rfl,h1,jU7 (f:=λp:T×PyData=>(tupD p.2).isSome),_,rfl,?_⟩
  have ea:(ps.all λp=>(tupD p.2).isSome)=ds.all λe=>(tupD e).isSome:=by rw[e2,lXv];rfl
  rw[ea,<-e1]
  have rowOf:∀{e:PyData},(tupD e).isSome=true->∃es,e= .tuple es:=λ{e} he=>by
   obtain⟨es,hes⟩:=lVn.mp he;exact⟨es,jXq hes⟩
  cases ha:ds.all λe=>(tupD e).isSome with
  | false=>
   rw[lJc rfl];refine no G1 (λz=> ?_) s1
   obtain⟨W,e,w⟩:=z.tup;rw[e] at ha
   have:((jKs W).map dR).all (λe=>(tupD e).isSome)=true:=by
    rw[lKo];intro d hd;obtain⟨e,_,rfl⟩:=lJj.mp hd;rfl
   rw[this] at ha;cases ha
  | true=>
   rw[lJa (by decide)]
   have hds:∀e,e∈ds->∃es,e= .tuple es:=λe he=>rowOf (lKo.mp ha e he)
   refine⟨ts,rfl,?_⟩
   let J1:Nat->St3->Gp->Prop:=λk τ G'=>∃(v1 v2 v3 v4:Option T),τ=[some (.tup ts),v1,v2,v3,v4]/\(∀r i es d,r<k->ds[r]? =some (.tuple es)->es[i]? =some d->qJi ds r i d)/\Sub G G'
   refine⟨J1,?_,?_,?_,?_⟩
   .exact⟨none,none,none,none,rfl,λr i es d hr=>absurd hr (lK0 _),s1⟩
   .intros;trivial
   .intro k y τ G2 hy h_;apply xe4 h_;clear h_;intro v1 v2 v3 v4;refine ae2 ?_;intro h2 s2;obtain⟨z,hzz,rfl⟩:=jX5 hy;obtain⟨dk,hdk,hrk⟩:=kJ1 hr hzz;obtain⟨es,rfl⟩:=hds dk (lJs hdk);cases hrk with
    | tup hru=>
     rename_i us
     have hel:=jK3 hru;have hes:=(jUd (hk0 _ (lJs hdk))).1
     exists jKh,iEnT
     let J2:Nat->St3->Gp->Prop:=λj τ G'=>∃(v3 v4:Option T),τ=[some (.tup ts),some (.int (k:Nat)),some (.tup us),v3,v4]/\(∀i d,i<j->es[i]? =some d->qJi ds k i d)/\Sub G G'
     refine⟨J2,?_,?_,?_,?_⟩
     .exact⟨_,_,rfl,λi d hi=>absurd hi (lK0 _),s2⟩
     .intros;trivial
     .intro j y τ G3 hy h_;apply xe2 h_;clear h_;intro v3 v4;refine ae2 ?_;intro h3 s3;obtain⟨u,hu,rfl⟩:=jX5 hy;obtain⟨du,hdu,hrd⟩:=kJ1 hru hu
      exists tSeq
      refine⟨ts,ds,u,du,rfl,jZ6 s3 hr,hds,by omega,jQi s3 hrd,λG4 c hc s4=>⟨c,rfl,?_⟩⟩
      cases c with
      | false=>
       rw[lJc rfl];refine no G4 (λz=> ?_) (s3.trans s4)
       obtain⟨a,b,es',e',q1,q2,q3,_⟩:=kU9 z hdk hdu;exact absurd (hc.mpr ⟨a,b,es',q1,q2,(lJk.mp q3).1⟩) lJu
      | true=>
       rw[lJa (by decide)]
       obtain⟨a,b,es',rfl,q2,q3⟩:=hc.mp rfl;have hx:=uU9 hrd;subst hx;obtain⟨x,hx,hrx⟩:=kUa hr q2;cases hrx with
       | tup hra=>
        rename_i as
        have q4:=lJl q3;obtain⟨w,hw,hrw⟩:=kUa hra q4
        exists jX8
        refine⟨_,by rw[atN];exact hx,w,by show L2.atI as (b:Int)=some w;rw[atN];exact hw,by omega,?_⟩
        obtain⟨_,k1,rfl,hk1⟩:=jUd (hk0 _ (lJs q2));obtain⟨lay,dep⟩:=kUi _ (hk1 _ (lQi q3));refine⟨_,dE ((k:Int),(j:Int)),jQi (s3.trans s4) hrw,.tup (.cons (.int _) (.cons (.int _) .nil)),lay,by simp[dE,PyData.canLay0,PyData.canLayAll0],by omega,_,rfl,?_⟩
        cases he:PyData.eqv es'[b] (dE ((k:Int),(j:Int))) with
        | false=>
         rw[lJc (by decide)]
         refine no G4 (λz=> ?_) (s3.trans s4)
         obtain⟨a',b',es2,e',r1,r2,r3,r4⟩:=kU9 z hdk hdu;have e:=uJx r1;simp only[Prod.mk.injEq] at e;obtain rfl:a=a':=by omega
         obtain rfl:b=b':=by omega
         rw[q2] at r2;cases r2;rw[q4] at r3;cases r3;rw[he] at r4;cases r4
        | true=>
         rw[lJa (by decide)]
         refine⟨_,_,rfl,λi d hi hd=> ?_,s3.trans s4⟩
         rcases lK2 (lK8 hi) with q | rfl
         .exact h3 i d q hd
         .rw[hdu] at hd;cases hd;exact⟨a,b,es',_,rfl,q2,q4,he⟩
     .intro τ G3 h_;apply xe2 h_;clear h_;intro v3 v4;refine ae2 ?_;intro h3 s3;rw[jJ4] at h3;refine⟨_,_,_,_,rfl,λr i es' d hr hd hi=> ?_,s3⟩
      rcases lK2 (lK8 hr) with q | rfl
      .exact h2 r i es' d q hd hi
      .rw[hdk] at hd;cases hd;exact h3 i d (by have:=(lJk.mp hi).1;omega) hi
   .intro τ G2 h_;apply xe4 h_;clear h_;intro v1 v2 v3 v4;refine ae2 ?_;intro h2 s2;rw[jJ4] at h2;obtain⟨W,eW,sy⟩:=qV8 hds λr i es d hr hi=>h2 r i es d (by have:=(lJk.mp hr).1;omega) hr hi
    subst eW;have hts:=kVp hr;have hz:=qXx ok hm;have hlen:(jKs W).length=W.length:=by rw[jKs,lJd]
    have hpos:0<W.length:=by
     rcases lZu W.length with e | e
     .exact absurd (lQh.mp (by rw[hts,lJd,hlen];exact e)) h0
     .exact e
    have et:T.tup ts=encW W:=by rw[hts,<-jYq];rfl
    rw[et]
    exists tSeq
    refine⟨W,0,rfl,hz.fine sy,hpos,λG3 s3=>⟨_,rfl,_,rfl,uQn (kk G3 _ ?_ (s2.trans s3))⟩⟩
    rw[lJd,lJd,lJ5,show (jVu W 0).length=(bfs W 0).length by unfold jVu;rw[lJd]]
    refine⟨λz=>⟨W,rfl,hpos,sy,by omega⟩,λz=> ?_⟩
    obtain⟨V,e,w⟩:=z.tup;have e':jKs W=jKs V:=by have:=lKa (List.filterMap jQn) e;rwa [kV3,kV3] at this
    rw[kJf e',w.2.2]
theorem kVh:jJo (r::es.map Prod.fst)=((r::es.map Prod.fst).map λn:Nat=>(n:Int)).map T.int:=by rw[jJo,lJ1];rfl
noncomputable def jQ7:Sp3:=λxs G Q=>∃(W:Web)(r:Nat)(ds:List Nat)(es:List (Nat×Nat)),xs=[encW W,.int r,.tup (jJo ds)]/\Fine W/\r<W.length/\W.length<=60/\ds.length<=900/\goW W r ds=some es/\∀q (ys:List Int) G',ys.Nodup->(∀z,z∈ys↔z∈(r::es.map Prod.fst).map λn:Nat=>(n:Int))->G' q=some (.lst (ys.map T.int))->Sub G G'->Q (.ref q) G'
noncomputable def kK6:List Str:=["_law_web","_law_room","_law_way_here","_law_found","_law_door"]
noncomputable def jQ9:TS3:=
 (tSeq (tAsg (tLst M1) U3)
 (tSeq (tFor (iSeq C2) U4 (tSeq (tAsg (tOp rIxF (tOp rIxF (tOp rIxF C0 C1) C4) tI0) U1)
 (jZp (tBM "list" jUa C3 M1))))
 (tRet (qK6 M3))))
theorem jY2:RdOk jQ7 jQ9 kK6:=by
 intro xs G Q h_;apply xe4 h_;clear h_;intro W r ds es0;refine ae6 ?_;intro fine hr hW hl hgo kk;show jQ9 _ [some (.tup (W.map encR)),some (.int r),some (.tup (jJo ds)),none,none] G
 have hs:=sz
 exists jQ9,jKh,iSeq
 refine⟨by omega,λq hq=> ?_⟩
 let J1:Nat->St3->Gp->Prop:=λi τ G'=>∃(v4:Option T)(es:List (Nat×Nat)),τ=[some (.tup (W.map encR)),some (.int (kKb r es:Nat)),some (.tup (jJo ds)),some (.ref q),v4]/\goW W r (ds.take i)=some es/\G' q=some (.lst (jJo (r::es.map Prod.fst)))/\Sub G G'
 refine⟨J1,?_,?_,?_,?_⟩
 .exact⟨none,[],rfl,rfl,jJe,.new hq⟩
 .intro i τ G' hi h_;apply xe2 h_;clear h_;intro v4 es;refine ae3 ?_;intro h1 h2 h3;trivial
 .intro i y τ G1 hy h_;apply xe2 h_;clear h_;intro v4 es;refine ae3 ?_;intro h1 h2 h3;obtain⟨d,hd,rfl⟩:=jKy hy;have hi:i<ds.length:=(lJk.mp hd).1;obtain⟨b1,b2,b3⟩:=kQj fine hr h1;rw[lKe] at b2;obtain⟨row,hrow,hen⟩:=kVg b1
  have hdr:d<row.length:=by
   rcases lQk d row.length with z | z
   .exact z
   .have hn:goW W r ds=none:=qVi hd h1 (by rw[hen d,lKj z])
    rw[hn] at hgo;cases hgo
  have hed:row[d]? =some row[d]:=lJl hdr
  generalize row[d]=e at hed
  have heR:=kUz hed
  exists jQz hrow,encR,heR,encE,jQq h2,h2
  refine⟨by rw[jJo,lJd,lJ8,lJd];omega,⟨_,es++[e],by rw[jZa],by rw[kUr hd,h1,lY8,hen d,hed];rfl,by rw[jJe];simp[jJo],h3.over hq⟩⟩
 .intro τ G1 h_;apply xe2 h_;clear h_;intro v4 es;refine ae3 ?_;intro h1 h2 h3;rw[show (jJo ds).length=ds.length by rw[jJo,lJd],lQz,hgo] at h1
  cases h1;obtain⟨b1,b2,b3⟩:=kQj fine hr hgo
  exists qK6
  refine⟨_,by simp only[jU2,h2,asL];rw[kVh],by rw[lJd,lJ8,lJd];omega,⟨(List.range W.length).map λn:Nat=>(n:Int),by rw[lJd,lK1];omega,λz hz=> ?_⟩,λp2 ys hp2 hn hm=>kk p2 ys _ hn hm jJe (h3.trans (.new hp2))⟩
  obtain⟨n,hn,rfl⟩:=lJj.mp hz;refine lJj.mpr ⟨n,lKb.mpr ?_,rfl⟩
  rcases (lJp.mp hn) with rfl | hn
  .exact hr
  .obtain⟨e,he,rfl⟩:=lJj.mp hn;exact b3 e he
noncomputable def jXv:Sp3:=λxs G Q=>∃(W:Web)(r:Nat)(x:T)(ds:List Nat),xs=[encW W,.int r,x]/\Fine W/\r<W.length/\seqT G x=some (jJo ds)/\ds.length<=900/\∀(c:Bool) G',(goW W r ds=none->c=false)->(∀es,goW W r ds=some es->∃ys:List Int,ys.Nodup/\(∀z,z∈ys↔z∈(r::es.map Prod.fst).map λn:Nat=>(n:Int))/\c=decide (ys.length=W.length))->Sub G G'->Q (.bl c) G'
noncomputable def qKr:List Str:=["web","room","way","ends","end"]
noncomputable def jXz:TS3:=
 (tSeq (tAsg (jJk jYx (jJa C0 (jJa C1 M2))) U3)
 (tSeq (tIfS (jJ2 (tOp rIsN C3 (tC .non))) (tRet (tC (.bl false))) jKv)
 (tRet (tOp rEqA (qK9 (jJa (tOp jK8 (tLst M1) (jKt [fF,fF,fF,fF,tT] (iSeq C3) U4 jK6 (tOp rIxF C4 tI0))) tNil)) (tCB rLen M0)))))
theorem kQ3:RdOk jXv jXz qKr:=by
 intro xs G Q h_;apply xe4 h_;clear h_;intro W r x ds;refine ae5 ?_;intro fine hr hx hl kk;show jXz _ [some (.tup (W.map encR)),some (.int r),some x,none,none] G
 have hs:=sz
 exists jXz,rIsN
 refine⟨W,r,x,ds,rfl,fine,hr,hx,by omega,λG1 s1=>⟨λhn=> ?_,λes p hgo hp hp1=> ?_⟩⟩
 .exists tSeq
  exact kk false G1 (λ_=>rfl) (λes h=>by rw[hn] at h;cases h) s1
 .obtain⟨b1,b2,b3⟩:=kQj fine hr hgo
  exists qK9,iSeq
  refine⟨by omega,λq hq=> ?_⟩
  have hpq:=jJi hp1 hq;have hp2:gup G1 q (GO.lst [T.int (r:Nat)]) p=some (.lst (es.map encE)):=by rw[jJw hpq];exact hp1
  refine⟨_,jJn hp2,?_⟩;refine jKe (λe=>T.int (e.1:Nat)) (by omega) (λG' s=>jJn (s _ _ hp2)) ?_ ?_
  .intro i e he G' K K0 s hk
   exists encE
   exact hk G' (.refl _)
  .intro D G2 hD h2 s2;have hq2:=s2 _ _ (show gup G1 q (GO.lst [T.int (r:Nat)]) q=some (.lst [T.int (r:Nat)]) from jJe)
   refine⟨_,jUn hq2 h2 (by simp;omega),?_⟩
   simp only[fin3];intro E hE;refine⟨(r::es.map Prod.fst).map λn:Nat=>(n:Int),?_,by rw[lJd,lJ8,lJd];omega,λys hn hm=> ?_⟩
   .simp only[jU2,jJe,asL];rw[<-kVh,jJo,lJo,lJ1];rfl
   .simp only[rEqA,lJd];refine⟨_,jK4,kk _ _ (λh=>by rw[hgo] at h;cases h) (λes' h=> ?_) (((s1.trans (.new hq)).trans s2).trans (.new hE))⟩
    rw[hgo] at h;cases h;exact⟨ys,hn,hm,rfl⟩
theorem kUw{α:Type}[DecidableEq α]{f:α->T}(h:∀x y,eqT (f x) (f y)=decide (x=y)):∀xs ys:List α,eqTs (xs.map f) (ys.map f)=decide (xs=ys)
 | [],[]=>by simp[eqTs]
 | [],_::_=>by simp[eqTs]
 | _::_,[]=>by simp[eqTs]
 | x::xs,y::ys=>by
  show (eqT (f x) (f y)&&eqTs (xs.map f) (ys.map f))=_
  rw[h,kUw h xs ys]
  by_cases e:x=y
  .subst e;by_cases e2:xs=ys<;>simp[e2]
  .simp[e]
theorem qVu(x y:Nat):eqT (.int x) (.int y)=decide (x=y):=by
 by_cases h:x=y
 .subst h;simp[eqT]
 .have:¬ (x:Int)=y:=by omega
  simp[eqT,h,this]
theorem uZo(x y:Nat×Nat):eqT (encE x) (encE y)=decide (x=y):=by
 obtain⟨a,b⟩:=x;obtain⟨c,d⟩:=y;show (eqT (.int a) (.int c)&&(eqT (.int b) (.int d)&&true))=_
 rw[qVu,qVu]
 by_cases h:a=c<;>by_cases h2:b=d<;>simp[h,h2]
theorem uZn(x y:List (Nat×Nat)):eqT (encR x) (encR y)=decide (x=y):=kUw uZo x y
theorem uZm(x y:Web):eqT (encW x) (encW y)=decide (x=y):=kUw uZn x y
structure OkD (d:Nat) (x:T):Prop where
 tr:tree x=true
 lay:(td x).canLay0=true
 dep:(td x).depth<=d
theorem qUs{i:Int}:OkD 0 (.int i):=⟨rfl,rfl,Nat.le_of_eq (by simp[td,PyData.depth])⟩
theorem kYc{d:Nat}:∀xs:List T,(∀x,x∈xs->OkD d x)->jQr xs=true/\PyData.canLayAll0 (tds xs)=true/\PyData.depthAll (tds xs)<=d
 | [],_=>⟨rfl,by simp[tds,PyData.canLayAll0],by simp[tds,PyData.depthAll]⟩
 | x::xs,h=>by
  obtain⟨a1,a2,a3⟩:=kYc xs λy hy=>h y (lJw _ hy)
  obtain⟨b1,b2,b3⟩:=h x (lJv ..);refine⟨?_,?_,?_⟩
  .show (tree x&&jQr xs)=true;rw[a1,b1];rfl
  .rw[tds,PyData.canLayAll0,a2,b2];rfl
  .rw[tds,PyData.depthAll];omega
theorem kUj(h:∀x,x∈xs->OkD d x):OkD (d+1) (.tup xs):=by
 obtain⟨a1,a2,a3⟩:=kYc xs h;exact⟨a1,by rw[td,PyData.canLay0];exact a2,by rw[td,PyData.depth];omega⟩
theorem OkD.mono{d':Nat}(h:OkD d x)(l:d<=d'):OkD d' x:=⟨h.tr,h.lay,lKx h.dep l⟩
theorem uKm(h:∀x,x∈xs->OkD 40 x):kUx xs=true:=by
 obtain⟨a1,a2,a3⟩:=kYc xs h;unfold kUx;rw[a1,a2,lJq (show (PyData.list (tds xs)).depth<=50 by rw[PyData.depth];omega)];rfl
theorem uKl{W:Web}:OkD 3 (encW W):=by
 refine kUj λx hx=> ?_
 obtain⟨es,_,rfl⟩:=lJj.mp hx;refine kUj λx hx=> ?_
 obtain⟨e,_,rfl⟩:=lJj.mp hx;refine kUj λx hx=> ?_
 simp only[lKy,lJp,lQw] at hx
 rcases hx with rfl | rfl<;>exact qUs
theorem kUy{A B:Web}:eqG G (encW A) (encW B)=some (decide (A=B)):=by
 have e:∀W:Web,eqOk (encW W)=true:=by
  intro W;have h:=uKl (W:=W);unfold eqOk;rw[h.tr,h.lay,lJq (show (td (encW W)).depth<=50 by have:=h.dep;omega)];rfl
 show (if eqOk (encW A)=true/\eqOk (encW B)=true then some (eqT (encW A) (encW B)) else none)=_
 rw[lJc ⟨e A,e B⟩,uZm]
theorem kXl{k:Nat}:allE (k+1) d=allE k d++(List.range d).map λi=>(k,i):=by
 unfold allE;rw[lX3,lZb];simp
theorem kU6{d:Nat}:∀{k:Nat},(allE k d).length=k*d
 | 0=>by simp[allE]
 | k+1=>by rw[kXl,lJ4,kU6,lJd,lK1,lXr]
def jVd:Sp3:=λxs G Q=>∃r d:Nat,xs=[.int r,.int d]/\r<=9/\d<=9/\∀q G',G q=none->G' q=some (.lst ((allE r d).map encE))->Sub G G'->Q (.ref q) G'
noncomputable def kXr:List Str:=["_law_wide","_law_doors","_law_found","_law_room","_law_door"]
noncomputable def jVj:TS3:=
 (tSeq (tAsg (tLst tNil) U2)
 (tSeq (tFor (jUi M0) U3 (jZp (tBM "list" kUb C2 (jJa (jKt [fF,fF,fF,fF,tT] (jUi M1) U4 jK6 (tTup (jJa C3 M4))) tNil))))
 (tRet C2)))
theorem kJu:RdOk jVd jVj kXr:=by
 intro xs G Q h_;apply xe2 h_;clear h_;intro r d;refine ae3 ?_;intro hr hd kk;show jVj _ [some (.int r),some (.int d),none,none,none] G
 have hs:=sz
 exists jVj,jKh,jUi
 refine⟨by omega,λq hq=>⟨by omega,by omega,?_⟩⟩
 rw[show ((r:Nat):Int).toNat=r by omega]
 let J1:Nat->St3->Gp->Prop:=λk τ G'=>∃(v3:Option T),τ=[some (.int r),some (.int d),some (.ref q),v3,none]/\G' q=some (.lst ((allE k d).map encE))/\Sub G G'
 refine⟨J1,?_,?_,?_,?_⟩
 .exact xi1 _ rfl ⟨jJe,.new hq⟩
 .intros;trivial
 .intro k y τ G1 hy h_;apply xe1 h_;clear h_;intro v3;refine ae2 ?_;intro h1 h2;obtain⟨hk,rfl⟩:=jVx hy
  exists jUi,jQq h1
  refine⟨by omega,by omega,?_⟩
  rw[show ((d:Nat):Int).toNat=d by omega,jV7]
  refine jKe (es:=List.range d) (enc:=λk:Nat=>T.int k) (λj=>encE (k,j)) (by simp;omega) (λ_ _=>trivial) ?_ ?_
  .intro j x hx G2 K K0 s2 hK
   exists tSeq
   exact⟨by omega,hK G2 (.refl _)⟩
  .intro E G2 hE hE2 s2;have hkd:k*d<=9*9:=Nat.mul_le_mul (by omega) hd
   refine⟨q,E,_,_,rfl,rfl,s2 _ _ h1,hE2,by rw[lJd,lJd,lK1,kU6];omega,?_⟩
   exact xi1 _ rfl ⟨by rw[jJe,kXl,lKp,lJ1];rfl,(h2.trans s2).over hq⟩
 .intro τ G1 h_;apply xe1 h_;clear h_;intro v3;refine ae2 ?_;intro h1 h2;rw[jVe] at h1
  exists tSeq
  exact kk q G1 hq h1 h2
noncomputable def encP(x:(Nat×Nat)×(Nat×Nat)):T:= .tup [encE x.1,encE x.2]
def PrAt(G:Gp)(rs:List Addr)(Ps:List DD):Prop:=rs.length=Ps.length/\∀(i:Nat)(r:Addr),rs[i]? =some r->∃P,Ps[i]? =some P/\G r=some (.lst (P.map encP))
variable {us:List Addr}{Ds:List DD}
theorem PrAt.sub(h:PrAt G us Ds)(s:∀u,u∈us->∀o,G u=some o->G' u=some o):PrAt G' us Ds:=⟨h.1,λi u hu=>let ⟨D,h1,h2⟩:=h.2 i u hu;⟨D,h1,s u (lJs hu) _ h2⟩⟩
theorem PrAt.app{vs:List Addr}{Es:List DD}(h:PrAt G us Ds)(h':PrAt G vs Es):PrAt G (us++vs) (Ds++Es):=by
 refine⟨by simp[h.1,h'.1],λi u hu=> ?_⟩
 by_cases hi:i<us.length
 .rw[lK6 hi] at hu;rw[lK6 (by rw[<-h.1];exact hi)]
  exact h.2 i u hu
 .rw[lQb (by omega)] at hu
  rw[lQb (by rw[<-h.1];omega),<-h.1]
  exact h'.2 _ u hu
noncomputable def fct:Nat->Nat
 | 0=>1
 | n+1=>(n+1)*fct n
theorem qVr:∀{n:Nat},n<=9->fct n<=362880:=by decide
theorem qVp{α β:Type}{f:α->List β}{c:Nat}:∀{l:List α},(∀a,a∈l->(f a).length<=c)->(l.flatMap f).length<=l.length*c
 | [],_=>by simp
 | a::l,h=>by
  rw[List.flatMap_cons,lJ4,lJ8,lXr];have h1:=h a (lJv ..);have h2:=qVp (l:=l) λb hb=>h b (lJw _ hb)
  omega
theorem jY8:∀{n:Nat}{es:List (Nat×Nat)},es.length<=n->(prs n es).length<=fct n
 | n,[],h=>by
  clear h
  have:1<=fct n:=by
   induction n with
   | zero=>exact lJh _
   | succ n ih=>rw[fct];exact Nat.mul_le_mul (lXq (lJ6 n)) ih
  rw[prs];exact this
 | n+1,f::rest,h=>by
  rw[prs,lJ4,lJd,fct,lXr];have hl:rest.length<=n:=by simpa using h
  have h1:=jY8 hl
  have h2:((List.range rest.length).flatMap λk=>(prs n (rest.take k++rest.drop (k+1))).map ((f,rest.getD k (0,0)):: ·)).length<=(List.range rest.length).length*fct n:=qVp λk hk=>by
   rw[lJd];exact jY8 (by simp;have:=lKb.mp hk;omega)
  rw[lK1] at h2;have h3:rest.length*fct n<=n*fct n:=mJa _ hl;omega
theorem qJf{k:Nat}(h:k<=xs.length):cutT xs (some (k:Int)) none=xs.drop k:=by
 simp only[cutT,HT.sIx];rw[lJa (by omega),show min ((k:Int).toNat) xs.length=k by omega]
 (rw[lQm (by simp)])
theorem uXx{k:Nat}(h:k<=xs.length):cutT xs none (some (k:Int))=xs.take k:=by
 simp only[cutT,HT.sIx];rw[lJa (by omega),show min ((k:Int).toNat) xs.length=k by omega]
 simp
theorem okE:OkD 40 (encE e):=(kUj (d:=0) λx hx=>by
 (simp only[lJp,lKy,lQw] at hx)
 rcases hx with rfl | rfl<;>exact qUs).mono (by decide)
variable {q:Addr}
theorem kZ5{F:List (Nat×Nat)}(h1:G p=some (.lst (F.map encE)))(h2:G q=some (.lst [])):eqG G (.ref p) (.ref q)=some F.isEmpty:=by
 have:eqG G (.ref p) (.ref q)=if kUx (F.map encE)=true/\kUx []=true then some (eqTs (F.map encE) []) else none:=by simp only[eqG,h1,h2]
 rw[this,lJc ⟨uKm λx hx=>by obtain⟨e,_,rfl⟩:=lJj.mp hx;exact okE,rfl⟩]
 cases F<;>rfl
noncomputable def jXf(n:Nat):Sp3:=λxs G Q=>∃(p:Addr)(es:List (Nat×Nat)),xs=[.ref p]/\G p=some (.lst (es.map encE))/\es.length<=n/\n<=9/\∀q rs G',G q=none->G' q=some (.lst (rs.map T.ref))->PrAt G' rs (prs n es)->(∀r,r∈rs->G r=none)->Sub G G'->Q (.ref q) G'
section
variable (jQ1:Sp3)
noncomputable def jV4:List Str:=["_law_ends","_law_first","_law_rest","_law_found","_law_k","_law_other","_law_more"]
noncomputable def jKn:TS3:=
 (tSeq (tIfS (jJ2 (tOp rEqA C0 (tLst tNil))) (tRet (tLst (jJa (tLst tNil) tNil))) jKv)
 (tSeq (tAsg (tTup (jJa (tOp rIxF C0 tI0) (jJa (tSl rSlF C0 (jKr tI1) jJ5) tNil))) (gTup 2 (jKi U1 (jKi U2 gNil))))
 (tSeq (tAsg (jKt [fF,fF,fF,fF,fF,fF,tT] (iSeq (jJk jQ1 M2)) U6 jK6 (tOp jK8 (tLst (jJa (tTup (jJa C1 M1)) tNil)) C6)) U3)
 (tSeq (tFor (kK1 M2) (gTup 2 (jKi U4 (jKi U5 gNil))) (jZp (tBM "list" kUb C3 (jJa (jKt [fF,fF,fF,fF,fF,fF,tT] (iSeq (jJk jQ1 (jJa (tOp jK8 (tSl rSlF C2 jJ5 (jKr C4)) (tSl rSlF C2 (jKr (tOp jK8 C4 tI1)) jJ5)) tNil))) U6 jK6 (tOp jK8 (tLst (jJa (tTup (jJa C1 M5)) tNil)) C6)) tNil))))
 (tRet C3)))))
end
theorem uJk{sp:Sp3}(hp:G p=some (.lst []))(kk:∀q rs G',G q=none->G' q=some (.lst (rs.map T.ref))->PrAt G' rs (prs n [])->(∀r,r∈rs->G r=none)->Sub G G'->Q (.ref q) G'):jKn sp {nx:=λ_ G'=>Q .non G',rt:=Q} [some (.ref p),none,none,none,none,none,none] G:=by
 have hs:=sz
 exists jKn,rEqA
 refine⟨by omega,λc hc=> ?_⟩
 have hpc:=jJi hp hc;refine⟨true,kZ5 (F:=[]) (by rw[jJw hpc];exact hp) jJe,?_⟩
 rw[lJc rfl];refine⟨by omega,λa ha=>⟨by omega,λq hq=> ?_⟩⟩
 have hqa:=(jQ3 hq).1;refine kk q [a] _ ((jQ3 (jQ3 hq).2).2) jJe ⟨by rw[prs];rfl,λi u hu=> ?_⟩ (λr hr=>by rw[lJz.mp hr];exact (jQ3 ha).2) (((Sub.new hc).trans (.new ha)).trans (.new hq))
 match i,hu with
 | 0,hu=>cases hu;exact⟨[],by rw[prs];rfl,by rw[jJw hqa.symm,jJe];rfl⟩
theorem jZs(sp:Sp3):∀xs G Q,jXf 0 xs G Q->jKn sp {nx:=λ_ G'=>Q .non G',rt:=Q} (jVo jV4 xs) G:=by
 intro xs G Q h_;apply xe2 h_;clear h_;intro p es;refine ae4 ?_;intro hp hl _ kk;cases lQh.mp (Nat.le_zero.mp hl);exact uJk hp kk
theorem kZf:∀{n:Nat}{es:List (Nat×Nat)}{P:DD},P∈prs n es->P.length<=n
 | n,[],P,h=>by rw[prs] at h;rw[lJz.mp h];exact lJ6 _
 | 0,_::_,P,h=>by rw[prs] at h;cases h
 | n+1,f::rest,P,h=>by
  rw[prs] at h
  rcases (lJn.mp h) with h | h
  .obtain⟨P',hP,rfl⟩:=lJj.mp h;rw[lJ8];exact lXq (kZf hP)
  .obtain⟨k,_,h⟩:=lY9.mp h;obtain⟨P',hP,rfl⟩:=lJj.mp h;rw[lJ8];exact lXq (kZf hP)
variable {rs:List Addr}
theorem kZ2{α:Type}{es:List α}(hl:rs.length=es.length)(h:∀(i:Nat)(r:Addr)(e:α),rs[i]? =some r->es[i]? =some e->G r=none):∀r,r∈rs->G r=none:=by
 intro r hr;obtain⟨i,hi⟩:=lJ9 hr;have hil:i<es.length:=by rw[<-hl];exact (lJk.mp hi).1
 exact h i r _ hi (lJl hil)
theorem kZg{x:(Nat×Nat)×(Nat×Nat)}{rs1:List Addr}{Ps:List DD}(h0:rs.length=Ps.length)(h1:rs1.length=(rs.zip Ps).length)(h:∀(i:Nat)(r:Addr)(z:Addr×DD),rs1[i]? =some r->(rs.zip Ps)[i]? =some z->G r=some (.lst ((x::z.2).map encP))):PrAt G rs1 (Ps.map (x:: ·)):=by
 rw[lX4] at h1;refine⟨by rw[lJd];omega,λi r hr=> ?_⟩
 have hi:i<rs1.length:=(lJk.mp hr).1;have e1:Ps[i]? =some (Ps[i]'(by omega)):=lJl _
 have e2:rs[i]? =some (rs[i]'(by omega)):=lJl _
 have:=h i r (rs[i]'(by omega),Ps[i]'(by omega)) hr (lYq.mpr ⟨e2,e1⟩)
 exact⟨_,by rw[lJ0,e1];rfl,this⟩
theorem jJ1(n:Nat):∀xs G Q,jXf (n+1) xs G Q->jKn (jXf n) {nx:=λ_ G'=>Q .non G',rt:=Q} (jVo jV4 xs) G:=by
 intro xs G Q h_;apply xe2 h_;clear h_;intro p es;refine ae4 ?_;intro hp hl hn kk;cases es with
 | nil=>exact uJk hp kk
 | cons f rest=>
 show jKn _ _ [some (.ref p),none,none,none,none,none,none] G
 have hs:=sz;have hrl:rest.length<=n:=by simpa using hl
 have hf:=qVr (n:=n) (by omega)
 have hf1:=qVr hn;have pl:=jY8 hl
 exists jKn,rEqA,jKh,iSeq,kK1,tSl,rSlF,jKr,jJ5
 refine⟨by omega,λc hc=> ?_⟩
 have hpc:=jJi hp hc;refine⟨false,kZ5 (F:=f::rest) (by rw[jJw hpc];exact hp) jJe,?_⟩
 rw[lJa (by decide)]
 have hpc':(gup G c (.lst [])) p=some (.lst ((f::rest).map encE)):=by rw[jJw hpc];exact hp
 refine⟨encE f,by rw[jQv hpc',show (0:Int)=((0:Nat):Int) from rfl,atN];rfl,.newL (rest.map encE),?_,?_⟩
 .simp only[slR,hpc'];rw[show (1:Int)=((1:Nat):Int) from rfl,qJf (by simp)];rfl
 intro a2 ha2;have h2:gup (gup G c (.lst [])) a2 (.lst (rest.map encE)) a2=some (.lst (rest.map encE)):=jJe;have s2:Sub G (gup (gup G c (.lst [])) a2 (.lst (rest.map encE))):=(Sub.new hc).trans (.new ha2)
 generalize gup (gup G c (.lst [])) a2 (.lst (rest.map encE))=G2 at h2 s2 ⊢
 refine⟨by omega,a2,rest,rfl,h2,hrl,by omega,λq rs G3 hq hq3 pr _ s3=>⟨_,jJn hq3,?_⟩⟩
 have pl1:=jY8 hrl
 have body:∀(x:Nat×Nat){G3:Gp}{rs:List Addr}{Ps:List DD},PrAt G3 rs Ps->(∀P,P∈Ps->P.length<=n)->∀(i:Nat)(z:Addr×DD),(rs.zip Ps)[i]? =some z->∀G4 (K:T->Gp->Prop),Sub G3 G4->(∀p G5,G4 p=none->G5 p=some (.lst (((f,x)::z.2).map encP))->Sub G4 G5->K (.ref p) G5)->
   2<=sizeLine/\1<=sizeLine/\∀c2,G4 c2=none->∃r,addR (gup G4 c2 (.lst [.tup [encE f,encE x]])) (.ref c2) (.ref z.1)=some r/\fin3 r (gup G4 c2 (.lst [.tup [encE f,encE x]])) K:=by
  intro x G3 rs Ps pr hPl i z hz G4 K s4 hK;have hz2:=lYq.mp hz;obtain⟨P2,hP2,hG⟩:=pr.2 i z.1 hz2.1;rw[hz2.2] at hP2;cases hP2;have hG4:=s4 _ _ hG;have hPn:=hPl _ (lJs hz2.2);refine⟨by omega,by omega,λc2 hc2=> ?_⟩
  have huc:=jJi hG4 hc2;refine⟨_,jUn jJe (by rw[jJw huc];exact hG4) (by simp;omega),?_⟩
  intro m hm;exact hK m _ (jQ3 hm).2 jJe ((Sub.new hc2).trans (.new hm))
 rw[<-qXu (f:=T.ref) (Ds:=prs n rest) pr.1];refine jXb (es:=rs.zip (prs n rest)) (enc:=λz=>T.ref z.1) (λz=>((f,f)::z.2).map encP) (by rw[lX4];omega) (λG' s=>by rw[qXu (f:=T.ref) pr.1];exact jJn (s _ _ hq3)) ?_ ?_
 .intro i z hz G4 K K0 s4 hK
  exists tSeq
  exact body f pr (λP hP=>kZf hP) i z hz G4 K s4 hK
 intro D rs1 G4 hD hD4 s4 hl1 hn1 hr1;have hG2D:=s3.none hD;have ls:∀G',Sub G2 G'->jU2 G' (.ref a2)=some (rest.map encE):=λG' s=>by simp only[jU2,s _ _ h2,asL]
 refine⟨_,ls _ (s3.trans s4),?_⟩;rw[lK4] at hn1
 let Fk:Nat->List DD:=λk=>(prs n (rest.take k++rest.drop (k+1))).map ((f,rest.getD k (0,0)):: ·)
 have hprs:prs (n+1) (f::rest)=(prs n rest).map ((f,f):: ·)++(List.range rest.length).flatMap Fk:=by rw[prs]
 let J:Nat->St3->Gp->Prop:=λi τ G'=>∃(v4 v5:Option T)(ws:List Addr),τ=[some (.ref p),some (encE f),some (.ref a2),some (.ref D),v4,v5,none]/\G' D=some (.lst (ws.map T.ref))/\PrAt G' ws ((prs n rest).map ((f,f):: ·)++(List.range i).flatMap Fk)/\D∉ws/\(∀w,w∈ws->G w=none)/\Sub G2 G'
 refine⟨J,?_,?_,?_,?_⟩
 .exact⟨none,none,rs1,rfl,hD4,by simpa using kZg pr.1 hl1 λi r z h1 h2=>(hr1 i r z h1 h2).2,hn1.1,kZ2 hl1 (λi r z h1 h2=>(s2.trans s3).none (hr1 i r z h1 h2).1),s3.trans s4⟩
 .intro i τ G' hi h_;apply xe3 h_;clear h_;intro v4 v5 ws;refine ae5 ?_;intro h1 h3 h4 hw h5;exact ls _ h5
 .intro i y τ G5 hy h_;apply xe3 h_;clear h_;intro v4 v5 ws;refine ae5 ?_;intro h1 h3 h4 hw h5;obtain⟨z,hz,rfl⟩:=jX5 hy;obtain⟨o,ho,rfl⟩:=jKy hz;have hil:i<rest.length:=(lJk.mp ho).1;have hog:rest.getD i (0,0)=o:=by simp[List.getD,ho]
  exists iSeq,tSl,rSlF,jKr,jJ5,jQq h1
  have a5:=h5 _ _ h2;refine⟨.newL ((rest.take i).map encE),?_,?_⟩
  .simp only[slR,a5];rw[uXx (by rw[lJd];omega),lV6]
  intro b1 hb1;have ab1:=jJi a5 hb1;refine⟨.newL ((rest.drop (i+1)).map encE),?_,?_⟩
  .simp only[slR,jJw ab1,a5];rw[show ((i:Nat):Int)+1=((i+1:Nat):Int) by omega,qJf (by rw[lJd];omega),lX5]
  intro b2 hb2;have hb21:=(jQ3 hb2).1;refine⟨_,jUn (by rw[jJw hb21.symm];exact jJe) jJe (by simp;omega),?_⟩
  intro b3 hb3;have s6:Sub G5 (gup (gup (gup G5 b1 (.lst ((rest.take i).map encE))) b2 (.lst ((rest.drop (i+1)).map encE))) b3 (.lst ((rest.take i).map encE++(rest.drop (i+1)).map encE))):=((Sub.new hb1).trans (.new hb2)).trans (.new hb3);have h6:gup (gup (gup G5 b1 (.lst ((rest.take i).map encE))) b2 (.lst ((rest.drop (i+1)).map encE))) b3 (.lst ((rest.take i).map encE++(rest.drop (i+1)).map encE)) b3=some (.lst ((rest.take i++rest.drop (i+1)).map encE)):=by rw[jJe,lKp]
  generalize gup (gup (gup G5 b1 (.lst ((rest.take i).map encE))) b2 (.lst ((rest.drop (i+1)).map encE))) b3 (.lst ((rest.take i).map encE++(rest.drop (i+1)).map encE))=G6 at s6 h6 ⊢
  have hl6:(rest.take i++rest.drop (i+1)).length<=n:=by simp;omega
  have pl6:=jY8 hl6;refine⟨b3,_,rfl,h6,hl6,by omega,λq2 rs2 G7 hq2 hq7 pr7 _ s7=>⟨_,jJn hq7,?_⟩⟩
  rw[<-qXu (f:=T.ref) (Ds:=prs n (rest.take i++rest.drop (i+1))) pr7.1];refine jXb (es:=rs2.zip (prs n (rest.take i++rest.drop (i+1)))) (enc:=λz=>T.ref z.1) (λz=>((f,o)::z.2).map encP) (by rw[lX4];omega) (λG' s=>by rw[qXu (f:=T.ref) pr7.1];exact jJn (s _ _ hq7)) ?_ ?_
  .intro j z hz G8 K K0 s8 hK
   exists tSeq
   exact body o pr7 (λP hP=>kZf hP) j z hz G8 K s8 hK
  intro E rs3 G8 hE hE8 s8 hl3 hn3 hr3;have D8:=s8 _ _ (s7 _ _ (s6 _ _ h1))
  have hDr:D∉rs3:=λz=>by
   obtain⟨j,hj⟩:=lJ9 z;have hjl:j<(rs2.zip (prs n (rest.take i++rest.drop (i+1)))).length:=by rw[<-hl3];exact (lJk.mp hj).1
   have:=(hr3 j D _ hj (lJl hjl)).1;rw[s7 _ _ (s6 _ _ h1)] at this;cases this
  have p8:=kZg (G:=G8) (x:=(f,o)) pr7.1 hl3 λi r z h1 h2=>(hr3 i r z h1 h2).2
  have all8:=(h3.sub λu hu o ho=>s8 _ _ (s7 _ _ (s6 _ _ ho))).app p8
  have e8:(prs n rest).map ((f,f):: ·)++(List.range i).flatMap Fk++(prs n (rest.take i++rest.drop (i+1))).map ((f,o):: ·)=(prs n rest).map ((f,f):: ·)++(List.range (i+1)).flatMap Fk:=by
   rw[lX3,lZb,<-lJt];simp only[List.flatMap_cons,List.flatMap_nil,lQd,Fk,hog]
  rw[e8] at all8
  have len8:ws.length+rs3.length<=362880:=by
   have e1:=all8.1;rw[lJ4] at e1;rw[e1];rw[hprs] at pl
   have e2:(List.range rest.length).flatMap Fk=(List.range (i+1)).flatMap Fk++((List.range rest.length).drop (i+1)).flatMap Fk:=by
    rw[<-lZb]
    congr 1
    rw[show List.range (i+1)=(List.range rest.length).take (i+1) by rw[List.take_range];congr 1;omega,lK9]
   rw[e2,<-lJt,lJ4] at pl;omega
  refine⟨D,E,_,_,rfl,rfl,D8,hE8,by rw[lJd,lJd];omega,_,_,ws++rs3,rfl,by rw[jJe,lKp],all8.sub λu hu o ho=> ?_,λz=>(lJn.mp z).elim h4 hDr,λw hm=>(lJn.mp hm).elim (hw w) (kZ2 hl3 (λi r z h1 h2=>(((s2.trans h5).trans s6).trans s7).none (hr3 i r z h1 h2).1) w),(((h5.trans s6).trans s7).trans s8).over hG2D⟩
  rw[jJw (show u≠D from λe=>(lJn.mp (e▸hu)).elim h4 hDr)];exact ho
 .intro τ G5 h_;apply xe3 h_;clear h_;intro v4 v5 ws;refine ae5 ?_;intro h1 h3 h4 hw h5
  exists tSeq
  rw[jJ4,lJd] at h3;exact kk D ws G5 (s2.none hG2D) h1 (by rw[hprs];exact h3) hw (s2.trans h5)
abbrev jQ1:=jXf 9
theorem kU5{α K:Type}{f:T->Option K}{enc:α->T}{g:α->K}(h:∀a,f (enc a)=some (g a)):∀l:List α,allK f (l.map enc)=some (l.map g)
 | []=>rfl
 | a::l=>by
  rw[lJo,lJo];unfold allK;rw[h a,kU5 h l]
theorem uZb(V:Web):jXm (V.map encR)=some (keyW V):=kU5 (λes=>by
 show (allK key1 _).map Sum.inr=_
 rw[kU5 (g:=λp:Nat×Nat=>(.inr [.inl (p.1:Int),.inl (p.2:Int)]:L2.K1)) λp=>rfl];rfl) V
theorem qX2{V:Web}(h:1<=V.length):SKey false (V.map encR) (keyW V):=by
 refine⟨uZb V,?_,?_⟩
 .cases V with
  | nil=>cases h
  | cons a V=>rfl
 .show (keyW V).all _=true
  rw[lKo];intro k hk;obtain⟨es,_,rfl⟩:=lJj.mp hk;show (keyR es).all _=true
  rw[lKo];intro k hk;obtain⟨p,_,rfl⟩:=lJj.mp hk;rfl
theorem jZ8{α K:Type}[DecidableEq K]{lt:K->K->Option Bool}{f:α->K}(h:∀a b,(lt (f a) (f b)).isSome=true):∀a b:List α,(L3.lexLt lt (a.map f) (b.map f)).isSome=true
 | [],[]=>rfl
 | [],_::_=>rfl
 | _::_,[]=>rfl
 | x::a,y::b=>by
  rw[lJo,lJo];unfold L3.lexLt;split
  .exact jZ8 h a b
  .exact h x y
theorem uKi(p q:Nat×Nat):(L3.lexLt ltI [.inl (p.1:Int),.inl (p.2:Int)] [.inl (q.1:Int),.inl (q.2:Int)]).isSome=true:=
 jZ8 (lt:=ltI) (f:=λi:Nat=>(.inl (i:Int):L2.Key)) (λi j=>rfl) [p.1,p.2] [q.1,q.2]
theorem uU6(es fs:List (Nat×Nat)):(L3.lexLt (ltS ltI) (keyR es) (keyR fs)).isSome=true:=
 jZ8 (lt:=ltS ltI) (f:=λp:Nat×Nat=>(.inr [.inl (p.1:Int),.inl (p.2:Int)]:L2.K1)) (λp q=>uKi p q) es fs
theorem uUj(V V':Web):(ltK (keyW V) (keyW V')).isSome=true:=
 jZ8 (lt:=ltS (ltS ltI)) (f:=λes=>(.inr (keyR es):L2.K2)) (λes fs=>uU6 es fs) V V'
theorem kZh{α β:Type}{l:List α}{f:α->β}:∀k:List β,(∀x,x∈k->x∈l.map f)->∃w:List α,k=w.map f/\∀v,v∈w->v∈l
 | [],_=>⟨[],rfl,λv h=>nomatch h⟩
 | x::k,h=>by
  obtain⟨w,e,hw⟩:=kZh k λy hy=>h y (lJw _ hy)
  obtain⟨v,hv,rfl⟩:=lJj.mp (h x (lJv ..));refine⟨v::w,by rw[e];rfl,λu hu=> ?_⟩
  rcases (lJp.mp hu) with rfl | hu
  .exact hv
  .exact hw u hu
theorem qU1:∀(L D:DD),(L.map λx=>(([.int (x.1.1:Nat),.int (x.1.2:Nat)]:List T),keyE x.1,encE x.2)).foldl (λkvs e=>putT kvs e.2.1 e.2.2) (kvD D)=kvD (L.foldl (λD x=>putE D x.1 x.2) D)
 | [],D=>rfl
 | x::L,D=>by
  rw[lJo,lXd,lXd,<-qU1 L,qYm]
theorem uKu{V:Web}(h:V∈evL r d):∃p,p∈prs 9 (allE r d)/\V=webD r d (jUh p):=by
 obtain⟨p,hp,e⟩:=lJj.mp (lXn.mp h).1;exact⟨p,hp,e.symm⟩
theorem uXh{v:Nat×Nat}(h:G p=some (.dct (kvD D)))(hv:getE e D=some v):ixR G (.ref p) (.tup [.int (e.1:Nat),.int (e.2:Nat)])=some (encE v):=by
 have h1:valT (kvD D) (keyE e)=some (encE v):=by rw[qXv,hv];rfl
 have h2:jXm [.int (e.1:Nat),.int (e.2:Nat)]=some (keyE e):=rfl;simp only[ixR,seqT,h,asL,dAt,h2,h1]
noncomputable def jUw:Sp3:=λxs G Q=>∃r d:Nat,xs=[.int r,.int d]/\Chk r d/\∀(q:Addr)(G':Gp)(Ws:List Web),(∀V,V∈Ws->V∈evL r d)->Ws.length=(evL r d).length->Ws.length<=362880->G q=none->G' q=some (.lst (Ws.map encW))->Sub G G'->Q (.ref q) G'
noncomputable def qZ0:List Str:=["_law_wide","_law_doors","_law_found","_law_pairs","_law_lead","_law_web","_law_end","_law_other","_law_room","_law_door"]
noncomputable def kJx:TS3:=
 (tSeq (tAsg (tLst tNil) U2)
 (tSeq (tFor (iSeq (jJk jQ1 (jJa (jJk jVd (jJa C0 M1)) tNil))) U3 (tSeq (tAsg (tCB uJh (jJa (tOp jK8 C3 (jKt [fF,fF,fF,fF,fF,fF,tT,tT,fF,fF] (iSeq C3) (gTup 2 (jKi U6 (jKi U7 gNil))) jK6 (tTup (jJa C7 M6)))) tNil)) U4)
 (tSeq (tAsg (tCB jKd (jJa (jKt [fF,fF,fF,fF,fF,fF,fF,fF,tT,fF] (jUi M0) U8 jK6 (tCB jKd (jJa (jKt [fF,fF,fF,fF,fF,fF,fF,fF,fF,tT] (jUi M1) U9 jK6 (tOp rIxF C4 (tTup (jJa C8 M9)))) tNil))) tNil)) U5)
 (tIfS (jJ2 (tOp rEqA (jJk jJ9 (jJa C5 (jJa tI0 tNil))) C5)) (jZp (tBM "list" jUa C2 M5)) jKv))))
 (tRet (tCB uJe M2))))
theorem kX3:RdOk jUw kJx qZ0:=by
 intro xs G Q h_;apply xe2 h_;clear h_;intro r d;refine ae2 ?_;intro c kk;show kJx _ [some (.int r),some (.int d),none,none,none,none,none,none,none,none] G
 have hs:=sz;have hr:=c.r9;have hr1:=c.r1;have hd:=c.d6;have hrd:=c.rd
 exists kJx,jKh,iSeq
 refine⟨by omega,λf hf=> ?_⟩
 refine⟨r,d,rfl,by omega,by omega,λq0 G2 hq0 hq2 s2=> ?_⟩
 have f2:=s2 _ _ (jJe (a:=f) (o:= .lst []));have sG2:Sub G G2:=(Sub.new hf).trans s2;have hal:(allE r d).length<=9:=by rw[kU6];exact hrd
 refine⟨q0,allE r d,rfl,hq2,hal,lJh _,λq1 rs G3 hq1 hq3 pr fr s3=>⟨_,jJn hq3,?_⟩⟩
 have pl:=jY8 hal;have pl9:fct 9<=362880:=qVr (lJh _);have f3:=s3 _ _ f2;have q1f:q1≠f:=(jJi f2 hq1).symm;have rf:∀u,u∈rs->u≠f:=λu hu e=>by have:=fr u hu;rw[e,f2] at this;cases this
 generalize hPs:prs 9 (allE r d)=Ps at pr pl
 have cp:=c.prs;rw[hPs] at cp
 let J:Nat->St3->Gp->Prop:=λi τ G'=>∃(v3 v4 v5:Option T),τ=[some (.int r),some (.int d),some (.ref f),v3,v4,v5,none,none,none,none]/\G' f=some (.lst ((((Ps.take i).map λp=>webD r d (jUh p)).filter λW=>decide (jVu W 0=W)).map encW))/\G' q1=some (.lst (rs.map T.ref))/\PrAt G' rs Ps/\Sub G G'
 refine⟨J,?_,?_,?_,?_⟩
 .exact⟨none,none,none,rfl,f3,hq3,pr,sG2.trans s3⟩
 .intro i τ G' hi h_;apply xe3 h_;clear h_;intro v3 v4 v5;refine ae4 ?_;intro h1 h2 h3 h4;exact jJn h2
 .intro i y τ G4 hy h_;apply xe3 h_;clear h_;intro v3 v4 v5;refine ae4 ?_;intro h1 h2 h3 h4;obtain⟨u,hu,rfl⟩:=jKy hy;obtain⟨P,hP,hG⟩:=h3.2 i u hu;have hPm:=lJs hP;obtain⟨c1,c2,c3⟩:=cp P hPm
  exists iSeq,rEqA,jUi
  refine⟨_,jJn hG,?_⟩;refine jKe (es:=P) (enc:=encP) (λx=>encP (x.2,x.1)) (by omega) (λG' s=>jJn (s _ _ hG)) ?_ ?_
  .intro j x hx G5 K K0 s5 hK
   exists encP
   exact⟨by omega,hK G5 (.refl _)⟩
  intro E G5 hE hE5 s5;refine⟨_,jUn (s5 _ _ hG) hE5 (by simp;omega),?_⟩
  intro m hm;refine⟨m,(P++P.map λx=>(x.2,x.1)).map (λx=>(([.int (x.1.1:Nat),.int (x.1.2:Nat)]:List T),keyE x.1,encE x.2)),rfl,by rw[jJe,lJ1,lKp,lJ1];rfl,λe he=> ?_,by simp;omega,λlq hlq=> ?_⟩
  .obtain⟨x,_,rfl⟩:=lJj.mp he;rfl
  have hlead:=(jJe (G:=gup G5 m (.lst (P.map encP++P.map λx=>encP (x.2,x.1)))) (a:=lq) (o:= .dct (((P++P.map λx=>(x.2,x.1)).map (λx=>(([.int (x.1.1:Nat),.int (x.1.2:Nat)]:List T),keyE x.1,encE x.2))).foldl (λkvs e=>putT kvs e.2.1 e.2.2) [])))
  have s7:Sub G4 (gup (gup G5 m (.lst (P.map encP++P.map λx=>encP (x.2,x.1)))) lq (.dct (((P++P.map λx=>(x.2,x.1)).map (λx=>(([.int (x.1.1:Nat),.int (x.1.2:Nat)]:List T),keyE x.1,encE x.2))).foldl (λkvs e=>putT kvs e.2.1 e.2.2) []))):=(s5.trans (.new hm)).trans (.new hlq)
  generalize gup (gup G5 m (.lst (P.map encP++P.map λx=>encP (x.2,x.1)))) lq (.dct (((P++P.map λx=>(x.2,x.1)).map (λx=>(([.int (x.1.1:Nat),.int (x.1.2:Nat)]:List T),keyE x.1,encE x.2))).foldl (λkvs e=>putT kvs e.2.1 e.2.2) []))=G7 at hlead s7 ⊢
  rw[show ((P++P.map λx=>(x.2,x.1)).map (λx=>(([.int (x.1.1:Nat),.int (x.1.2:Nat)]:List T),keyE x.1,encE x.2))).foldl (λkvs e=>putT kvs e.2.1 e.2.2) []=kvD (jUh P) from qU1 _ []] at hlead
  refine⟨by omega,by omega,?_⟩
  rw[show ((r:Nat):Int).toNat=r by omega,jV7]
  refine jKe (es:=List.range r) (enc:=λk:Nat=>T.int k) (λk=>encR (rowD d (jUh P) k)) (by simp;omega) (λ_ _=>trivial) ?_ ?_
  .intro j k hk G8 K K0 s8 hK;have hkr:k<r:=by have:=lJs hk;simpa using this
   exists jUi
   refine⟨by omega,by omega,?_⟩
   rw[show ((d:Nat):Int).toNat=d by omega,jV7]
   refine jKe (es:=List.range d) (enc:=λk:Nat=>T.int k) (λi=>encE ((getE (k,i) (jUh P)).getD (0,0))) (by simp;omega) (λ_ _=>trivial) ?_ ?_
   .intro j2 x hx G9 K' K0' s9 hK';have hxd:x<d:=by have:=lJs hx;simpa using this
    obtain⟨v,hv⟩:=lVn.mp (c2 k x hkr hxd)
    exists tSeq
    refine⟨by omega,_,uXh (e:=(k,x)) (s9 _ _ (s8 _ _ hlead)) hv,?_⟩
    have:=hK' G9 (.refl _);rw[hv] at this;exact this
   .intro E2 G9 hE2 hE9 s9;refine⟨_,jJn hE9,?_⟩;have:=hK G9 s9;unfold encR rowD at this;rw[lJ1] at this;exact this
  intro E2 G8 hE2 hE8 s8;refine⟨_,jJn hE8,?_⟩;have hW:T.tup ((List.range r).map λk=>encR (rowD d (jUh P) k))=encW (webD r d (jUh P)):=by unfold encW webD;rw[lJ1];rfl
  rw[hW];have tk:Ps.take (i+1)=Ps.take i++[P]:=by rw[lQr,hP];rfl
  have hlen:(((Ps.take i).map λp=>webD r d (jUh p)).filter λW=>decide (jVu W 0=W)).length<=362880:=by
   have h1:=lYd (λW=>decide (jVu W 0=W)) ((Ps.take i).map λp=>webD r d (jUh p))
   rw[lJd,lKe] at h1;omega
  refine⟨webD r d (jUh P),0,rfl,(qKw (by omega) (by omega)).fine c3,by rw[jYc];omega,λG9 s9=>⟨_,kUy,?_⟩⟩
  have s49:=(s7.trans s8).trans s9
  by_cases ht:jVu (webD r d (jUh P)) 0=webD r d (jUh P)
  .rw[lJc (lJq ht)];have f9:=s49 _ _ h1
   exists jQq f9,f9
   refine⟨by rw[lJd];omega,_,_,_,rfl,?_,by rw[jJw q1f];exact s49 _ _ h2,(h3.sub λu hu o ho=>by rw[jJw (rf u hu)];exact s49 _ _ ho),(h4.trans s49).over hf⟩
   rw[jJe,tk,lKp,List.filter_append,lKp];simp only[lJo,lVz,lZc,lJq ht,lKm,List.filter_nil]
  .rw[lJa (by simpa using ht)]
   refine⟨_,_,_,rfl,?_,s49 _ _ h2,h3.sub λu hu o ho=>s49 _ _ ho,h4.trans s49⟩
   rw[s49 _ _ h1,tk,lKp,List.filter_append];simp only[lJo,lVz,lZc,lJy ht,lKs,lKi,List.filter_nil,lQd]
 .intro τ G4 h_;apply xe3 h_;clear h_;intro v3 v4 v5;refine ae4 ?_;intro h1 h2 h3 h4;rw[lJd,pr.1,lQz,<-hPs] at h1;have h1':G4 f=some (.lst ((evL r d).map encW)):=h1
  exists tSeq
  have hel:(evL r d).length<=362880:=by
   have h1:=lYd (λW=>decide (jVu W 0=W)) ((prs 9 (allE r d)).map λp=>webD r d (jUh p))
   rw[lJd,hPs] at h1;show (List.filter _ _).length<=_
   rw[hPs];omega
  have hVl:∀V,V∈evL r d->1<=V.length:=λV hV=>by obtain⟨p,_,rfl⟩:=uKu hV;rw[jYc];exact hr1
  refine⟨.ref f,false,(evL r d).map λV=>(V.map encR,keyW V),rfl,by simp only[jU2,h1',asL,lJ1];rfl,by rw[lJd];omega,λe he=> ?_,λe he e' he'=> ?_,λp kys hp pe pw=> ?_⟩
  .obtain⟨V,hV,rfl⟩:=lJj.mp he;exact qX2 (hVl V hV)
  .obtain⟨V,hV,rfl⟩:=lJj.mp he;obtain⟨V',hV',rfl⟩:=lJj.mp he';exact uUj V V'
  .obtain⟨Ws,ek,hWs⟩:=kZh kys λx hx=>pe.mem_iff.mp hx
   have el:Ws.length=(evL r d).length:=by
    have:=pe.length_eq;rw[ek,lJd,lJd] at this;exact this
   refine kk p _ Ws hWs el (by omega) (h4.none hp) ?_ (h4.trans (.new hp))
   rw[jJe,ek,lJ1];rfl
theorem jYo{α β:Type}{p:α->Bool}{f:α->β}:∀l:List α,l.filterMap (λr=>if p r=true then some (f r) else none)=(l.filter p).map f
 | []=>rfl
 | a::l=>by
  rw[lQe,lZc]
  by_cases h:p a=true
  .rw[lJc h,lJc h,lJo,jYo l]
  .rw[lJa h,lJa h,jYo l]
noncomputable def szR(most doors w:Nat):List (Nat×Nat):=(((List.range (7-doors)).map (· +doors)).filter λm=>decide ((w+1)*m<=most)&&(decide (m>0)||decide (w+1<4))).map λm=>(w+1,m)
variable {doors:Nat}
theorem qQb{most w:Nat}:(szR most doors w).length<=7:=by
 unfold szR;rw[lJd];refine lKx (lYd _ _) ?_;rw[lJd,lK1];omega
noncomputable def jV5:Sp3:=λxs G Q=>∃most doors:Nat,xs=[.int most,.int doors]/\most<=100/\doors<=7/\∀q G',G q=none->G' q=some (.lst ((szF most doors).map encE))->Sub G G'->Q (.ref q) G'
noncomputable def qXo:List Str:=["_law_most","_law_doors","_law_found","_law_wide","_law_some","_law_many"]
noncomputable def jY3:TS3:=
 (tSeq (tAsg (tLst tNil) U2)
 (tSeq (tFor (kV0 (jJa tI1 (jJa (tC (.int 9)) tNil))) U3 (tSeq (tAsg (jKt [fF,fF,fF,fF,fF,tT] (kV0 (jJa C1 (jJa (tC (.int 7)) tNil))) U5 (jJ2 (tOp rLeF (tOp jZu C3 C5) C0)) C5) U4)
 (jZp (tBM "list" kUb C2 (jJa (jKt [fF,fF,fF,fF,fF,tT] (iSeq C4) U5 (tOr (jJ2 (tOp rGt C5 tI0)) (jJ2 (tOp rLt C3 (tC (.int 4))))) (tTup (jJa C3 M5))) tNil)))))
 (tRet C2)))
theorem kVj:RdOk jV5 jY3 qXo:=by
 intro xs G Q h_;apply xe2 h_;clear h_;intro most doors;refine ae3 ?_;intro hm hd kk;show jY3 _ [some (.int most),some (.int doors),none,none,none,none] G
 have hs:=sz
 exists jY3,jKh,kV0
 refine⟨by omega,λq hq=>⟨by omega,by omega,by omega,by omega,?_⟩⟩
 rw[show ((9:Int)-1).toNat=8 from rfl,show (1:Int)=((1:Nat):Int) from rfl,kJo]
 let J1:Nat->St3->Gp->Prop:=λk τ G'=>∃(v3 v4:Option T),τ=[some (.int most),some (.int doors),some (.ref q),v3,v4,none]/\G' q=some (.lst (((List.range k).flatMap (szR most doors)).map encE))/\Sub G G'
 refine⟨J1,?_,?_,?_,?_⟩
 .exact xi2 _ _ rfl ⟨jJe,.new hq⟩
 .intros;trivial
 .intro w y τ G1 hy h_;apply xe2 h_;clear h_;intro v3 v4;refine ae2 ?_;intro h1 h2;obtain⟨w',hw',rfl⟩:=jKy hy
  obtain⟨hw,rfl⟩:w<8/\w=w':=by
   obtain⟨q1,q2⟩:=lJk.mp hw';rw[List.getElem_range] at q2;rw[lK1] at q1;exact⟨q1,q2⟩
  exists kV0,iSeq,rLeF
  refine⟨by omega,by omega,by omega,by omega,?_⟩
  rw[show ((7:Int)-(doors:Nat)).toNat=7-doors by omega,kJo,show ((List.range (7-doors)).map λ(k:Nat)=>T.int ((doors+k:Nat):Int))=((List.range (7-doors)).map (· +doors)).map λm:Nat=>T.int m by rw[lJ1];exact lV7 λk _=>by simp[lXs]]
  generalize hes:(List.range (7-doors)).map (· +doors)=es
  have hel:es.length<=7:=by rw[<-hes,lJd,lK1];omega
  have hem:∀m,m∈es->m<14:=λm hmm=>by
   rw[<-hes] at hmm;obtain⟨k,hk,rfl⟩:=lJj.mp hmm;have:=lKb.mp hk;omega
  refine kJe (es:=es) (enc:=λm:Nat=>T.int m) (λm=>if decide ((w+1)*m<=most)=true then some (T.int (m:Nat)) else none) (by omega) (λ_ _=>trivial) ?_ ?_
  .intro j m hj G2 K K0 s2 hK hK0;have hm14:=hem m (lJs hj)
   exists rLeF
   refine⟨.inl ⟨by omega,by omega⟩,?_⟩
   have e:(((1+w:Nat):Int)*((m:Nat):Int)<=((most:Nat):Int))↔(w+1)*m<=most:=by
    rw[<-Int.natCast_mul,Int.ofNat_le,lXs]
   by_cases h:(w+1)*m<=most
   .rw[lJc (e.mpr h)];exact hK _ _ (by rw[lJc (lJq h)]) (.refl _)
   .rw[lJa (λz=>h (e.mp z))];exact hK0 (by rw[lJa (by simpa using h)]) _ (.refl _)
  intro E G2 hE hE2 s2;rw[jYo (p:=λm=>decide ((w+1)*m<=most))] at hE2
  generalize hfs:es.filter (λm=>decide ((w+1)*m<=most))=fs at hE2
  have hfl:fs.length<=7:=by rw[<-hfs];exact lKx (lYd _ _) hel
  have q2:=s2 _ _ h1
  exists jQq q2,iSeq
  refine⟨_,jJn hE2,?_⟩;refine kJe (es:=fs) (enc:=λm:Nat=>T.int m) (λm=>if (decide (m>0)||decide (w+1<4))=true then some (encE (w+1,m)) else none) (by omega) (λG' s=>jJn (s _ _ hE2)) ?_ ?_
  .intro j m hj G3 K K0 s3 hK hK0
   exists tSeq
   have fin:(decide (m>0)||decide (w+1<4))=true->2<=sizeLine/\K (.tup [.int ((1+w:Nat):Int),.int (m:Nat)]) G3:=λh=>⟨by omega,by
    have:=hK _ G3 (lJc h) (.refl _);rw[lXs 1 w];exact this⟩
   by_cases h1:m>0
   .rw[lJc (by omega)]
    exact fin (by simp[h1])
   .rw[lJa (by omega)]
    by_cases h2:w+1<4
    .rw[lJc (by omega)]
     exact fin (by simp[h2])
    .rw[lJa (by omega)]
     exact hK0 (lJa (by simp[h1];omega)) _ (.refl _)
  intro F G3 hF hF3 s3;rw[jYo (p:=λm=>decide (m>0)||decide (w+1<4)),<-hfs,List.filter_filter] at hF3
  have hrow:(es.filter λm=>(decide (m>0)||decide (w+1<4))&&decide ((w+1)*m<=most)).map (λm=>encE (w+1,m))=(szR most doors w).map encE:=by
   unfold szR;rw[lJ1,hes]
   congr 1
   refine List.filter_congr λm _=>Bool.and_comm ..
  rw[hrow] at hF3;have hfw:((List.range w).flatMap (szR most doors)).length<=(List.range w).length*7:=qVp λa _=>qQb
  have hrl:=qQb (most:=most) (doors:=doors) (w:=w);rw[lK1] at hfw;refine⟨q,F,_,_,rfl,rfl,s3 _ _ q2,hF3,by rw[lJd,lJd];omega,?_⟩
  exact xi2 _ _ rfl ⟨by rw[jJe,lX3,lZb,lKp];simp,((h2.trans s2).trans s3).over hq⟩
 .intro τ G1 h_;apply xe2 h_;clear h_;intro v3 v4;refine ae2 ?_;intro h1 h2;rw[lJd,lK1] at h1
  exists tSeq
  exact kk q G1 hq h1 h2
def qXt(W:Web)(ds:List Nat):Prop:=∃es,goW W 0 ds=some es/\∀b,b<W.length->b∈0::es.map Prod.fst
def Mis(wide doors:Nat)(ds:List Nat)(d:PyData):Prop:=∃W:Web,d=dW W/\IsW W/\W.length<=wide/\(∀es,es∈W->es.length=doors)/\jVu W 0=W/\¬ qXt W ds
theorem jZo{U V:Web}(h:dW U=dW V):U=V:=by
 unfold dW at h;have e:=PyData.tuple.inj h;have e':jKs U=jKs V:=by have:=lKa (List.filterMap jQn) e;rwa [kV3,kV3] at this
 exact kJf e'
theorem uXm{W:Web}(f:Fine W)(hp:0<W.length)(hr:∀es,es∈W->es.length=d):∀ds:List Nat,(∀i,i∈ds->i<d)->∃es,goW W 0 ds=some es:=by
 intro ds;refine qQh (P:=λds=>(∀i,i∈ds->i<d)->∃es,goW W 0 ds=some es) (λ_=>⟨[],rfl⟩) (λds x ih h=> ?_) ds
 obtain⟨es,h1⟩:=ih λy hy=>h y (lKk _ hy)
 obtain⟨b1,_,_⟩:=kQj f hp h1;obtain⟨row,hrow,hen⟩:=kVg b1;have hx:=h x (by simp)
 have hl:=hr row (lJs hrow);rw[kUs,h1,lY8,hen x,lJl (by omega)]
 exact⟨_,rfl⟩
theorem kY9{W:Web}{ds:List Nat}(f:Fine W)(hp:0<W.length)(h:goW W 0 ds=some es){ys:List Int}(hn:ys.Nodup)(hm:∀z,z∈ys↔z∈(0::es.map Prod.fst).map λn:Nat=>(n:Int)):ys.length<=W.length/\(ys.length=W.length↔qXt W ds):=by
 obtain⟨_,_,b3⟩:=kQj f hp h
 have lt:∀x,x∈0::es.map Prod.fst->x<W.length:=λx hx=>by
  rcases (lJp.mp hx) with rfl | hx
  .exact hp
  .obtain⟨e,he,rfl⟩:=lJj.mp hx;exact b3 e he
 have p:ys.Perm (((List.range W.length).filter λb=>decide (b∈0::es.map Prod.fst)).map λn:Nat=>(n:Int)):=(List.perm_ext_iff_of_nodup hn (by
  rw[lY7,lV4]
  exact (lY7.mp (lV3.filter _)).imp λh z=>h (by omega))).mpr λz=>by
   rw[hm z,lJj,lJj];refine exists_congr λn=>and_congr_left λ_=> ?_
   rw[lXn,lKb,lJ5];exact⟨λz=>⟨lt n z,z⟩,λz=>z.2⟩
 have e:=p.length_eq;rw[lJd] at e;have h2:=List.length_filter_eq_length_iff (p:=λb=>decide (b∈0::es.map Prod.fst)) (l:=List.range W.length)
 have h3:=lYd (λb=>decide (b∈0::es.map Prod.fst)) (List.range W.length)
 rw[lK1] at h2 h3;refine⟨by omega,?_⟩
 rw[e,h2];refine⟨λz=>⟨es,h,λb hb=>lXa (z b (lKb.mpr hb))⟩,?_⟩
 rintro⟨es',h',all⟩ b hb;rw[h] at h';cases h';exact lJq (all b (lKb.mp hb))
theorem uQe{α β:Type}{p:α->Bool}{f:α->β}:∀l:List α,l.filterMap (λr=>if p r=true then some (f r) else none)=(l.filter p).map f
 | []=>rfl
 | a::l=>by
  rw[lQe,lZc]
  by_cases h:p a=true
  .rw[lJc h,lJc h,lJo,uQe l]
  .rw[lJa h,lJa h,uQe l]
noncomputable def jZ3:Sp3:=λxs G Q=>∃(wide doors:Nat)(ds:List Nat)(x:T)(d:PyData),xs=[.int wide,.int doors,.tup (jJo ds),x]/\RdG G x d/\okN 24 3 d/\(∀i,i∈ds->i<doors)/\ds.length<=60/\∀G' c,(c=true↔Mis wide doors ds d)->Sub G G'->Q (.bl c) G'
noncomputable def uUf:List Str:=["_law_wide","_law_doors","_law_way_here","_law_web","_law_room"]
noncomputable def kQ8:TS3:=
 (tSeq (tIfS (tOr (tNot (jJ2 (jJk jXw M3))) (tOr (jJ2 (tOp rGt (tCB rLen M3) C0)) (jJ2 (tOp uJf (jKt [fF,fF,fF,fF,tT] (iSeq C3) U4 (jJ2 (tOp rNeA (tCB rLen M4) C1)) C4) (tLst tNil))))) (tRet (tC (.bl false))) jKv)
 (tRet (jXu (tOp rEqA (jJk jJ9 (jJa C3 (jJa tI0 tNil))) C3) (tOp rLt (tCB rLen (jJa (jJk jQ7 (jJa C3 (jJa tI0 M2))) tNil)) (tCB rLen M3)))))
theorem qJy:RdOk jZ3 kQ8 uUf:=by
 intro xs G Q h_;apply xe5 h_;clear h_;intro wide doors ds x d;refine ae5 ?_;intro h ok hds hdl kk;show kQ8 _ [some (.int wide),some (.int doors),some (.tup (jJo ds)),some x,none] G
 have hs:=sz;have no:∀G',¬ Mis wide doors ds d->Sub G G'->Q (.bl false) G':=λG' z s=>kk G' false (Iff.intro (λz=>Bool.noConfusion z) λq=>absurd q z) s
 exists kQ8,rEqA,rNeA,iSeq
 refine⟨x,d,24,3,rfl,h,ok,by omega,by omega,λG1 c hc s1=>⟨c,rfl,?_⟩⟩
 cases c with
 | false=>
  rw[lJc rfl];refine no G1 (λ⟨W,e,iw,_⟩=> ?_) s1
  exact absurd (hc.mpr ⟨W,e,iw⟩) lJu
 | true=>
  rw[lJa (by decide)]
  obtain⟨W,rfl,iw⟩:=hc.mp rfl;have hz:=qXx ok (by omega)
  have hlen:(jKs W).length=W.length:=by rw[jKs,lJd]
  have hW:=jUd ok
  have hx:x=encW W:=by
   cases h with
   | tup h=>rw[kVp h,<-jYq];rfl
  subst hx;have fine:=hz.fine iw.2.1;have hW24:W.length<=24:=by have:=hW.1;rw[lJd,hlen] at this;exact this
  refine⟨_,rfl,?_⟩;rw[lJd]
  by_cases hw:W.length<=wide
  .rw[lJa (by omega)]
   refine⟨_,rfl,?_⟩;refine kJe (es:=W) (enc:=encR) (λes=>if (!decide (es.length=doors))=true then some (encR es) else none) (by omega) (λ_ _=>rfl) ?_ ?_
   .intro i es hes G2 K K0 s2 hK hK0
    exists rNeA,encR
    refine⟨_,jK4,?_⟩;rw[lJd]
    by_cases e:es.length=doors
    .rw[lJq e,lJa (by decide)]
     exact hK0 (by rw[lJq e];rfl) _ (.refl _)
    .rw[lJy e,lJc (by decide)]
     exact hK _ _ (by rw[lJy e];rfl) (.refl _)
   intro E G2 hE hE2 s2;rw[uQe] at hE2;refine⟨by omega,λp hp=>⟨_,_,_,rfl,rfl,by rw[jJw (jJi hE2 hp)];exact hE2,jJe,_,rfl,?_⟩⟩
   have s3:Sub G (gup G2 p (.lst [])):=(s1.trans s2).trans (.new hp)
   by_cases hr:∀es,es∈W->es.length=doors
   .have ef:W.filter (λes=> !decide (es.length=doors))=[]:=by
     rw[List.filter_eq_nil_iff];intro es hes;rw[lJq (hr es hes)];decide
    rw[ef,lJa (by decide)]
    refine⟨W,0,rfl,fine,iw.1,λG4 s4=>⟨_,kUy,?_⟩⟩
    by_cases ht:jVu W 0=W
    .rw[lJc (lJq ht)];obtain⟨es,hgo⟩:=uXm fine iw.1 hr ds hds;refine⟨W,0,ds,es,rfl,fine,iw.1,by omega,by omega,hgo,λq ys G5 hn hm hq s5=>⟨_,jJn hq,_,rfl,kk G5 _ ?_ ((s3.trans s4).trans s5)⟩⟩
     obtain⟨l1,l2⟩:=kY9 fine iw.1 hgo hn hm;rw[lJd,lJd,lJ5];refine⟨λz=>⟨W,rfl,iw,hw,hr,ht,λq=>by have:=l2.mpr q;omega⟩,λ⟨V,e,_,_,_,_,z⟩=> ?_⟩
     obtain rfl:=jZo e;have:¬ ys.length=W.length:=λq=>z (l2.mp q)
     omega
    .rw[lJa (by rw[lJ5];exact ht)]
     refine no _ (λ⟨V,e,_,_,_,z,_⟩=> ?_) (s3.trans s4)
     obtain rfl:=jZo e;exact ht z
   .have ef:((W.filter (λes=> !decide (es.length=doors))).map encR).isEmpty=false:=by
     rw[List.isEmpty_eq_false_iff];intro z;refine hr λes hes=> ?_
     rw[List.map_eq_nil_iff,List.filter_eq_nil_iff] at z;have:=z es hes
     simpa using this
    rw[ef,lJc (by decide)]
    refine no _ (λ⟨V,e,_,_,z,_⟩=> ?_) s3
    obtain rfl:=jZo e;exact hr z
  .rw[lJc (by omega)]
   refine no _ (λ⟨V,e,_,z,_⟩=> ?_) s1
   obtain rfl:=jZo e;exact hw z
theorem qX9(h:seqT G x=some xs)(s:Sub G G'):seqT G' x=some xs:=by
 cases x with
 | ref p=>
  simp only[seqT] at h ⊢;cases e:G p with
  | none=>rw[e] at h;cases h
  | some o=>rw[e] at h;rw[s _ _ e];exact h
 | _=>exact h
noncomputable def jQa:Sp3:=λxs G Q=>∃(wide doors:Nat)(ds:List Nat)(w x:T)(d:PyData),xs=[.int wide,.int doors,w,x]/\seqT G w=some (jJo ds)/\RdG G x d/\okN 24 3 d/\(∀i,i∈ds->i<doors)/\ds.length<=60/\∀G' c,(c=true↔Mis wide doors ds d)->Sub G G'->Q (.bl c) G'
noncomputable def kK5:List Str:=["rooms","doors","way","web","ends"]
noncomputable def jQ8:TS3:=
 (tSeq (tIfS (tOr (tNot (jJ2 (jJk kJk M3))) (tOr (jJ2 (tOp rGt (tCB rLen M3) C0)) (tNot (jJ2 (tCB rAll (jJa (jKt [fF,fF,fF,fF,tT] (iSeq C3) U4 jK6 (tOp rEqA (tCB rLen M4) C1)) tNil)))))) (tRet (tC (.bl false))) jKv)
 (tRet (jXu (tOp rEqA (jJk jVw (jJa C3 (jJa tI0 tNil))) C3) (qK8 (jJk jXv (jJa C3 (jJa tI0 M2)))))))
theorem jY1:RdOk jQa jQ8 kK5:=by
 intro xs G Q h_;apply xe6 h_;clear h_;intro wide doors ds w x d;refine ae6 ?_;intro hway h ok hds hdl kk;show jQ8 _ [some (.int wide),some (.int doors),some w,some x,none] G
 have hs:=sz;have no:∀G',¬ Mis wide doors ds d->Sub G G'->Q (.bl false) G':=λG' z s=>kk G' false (Iff.intro (λz=>Bool.noConfusion z) λq=>absurd q z) s
 exists jQ8,rEqA,rNeA,iSeq
 refine⟨x,d,24,3,rfl,h,ok,by omega,λG1 c hc s1=>⟨c,rfl,?_⟩⟩
 cases c with
 | false=>
  rw[lJc rfl];refine no G1 (λ⟨W,e,iw,_⟩=> ?_) s1
  exact absurd (hc.mpr ⟨W,e,iw⟩) lJu
 | true=>
  rw[lJa (by decide)]
  obtain⟨W,rfl,iw⟩:=hc.mp rfl;have hz:=qXx ok (by omega)
  have hlen:(jKs W).length=W.length:=by rw[jKs,lJd]
  have hW:=jUd ok
  have hx:x=encW W:=by
   cases h with
   | tup h=>rw[kVp h,<-jYq];rfl
  subst hx;have fine:=hz.fine iw.2.1;have hW24:W.length<=24:=by have:=hW.1;rw[lJd,hlen] at this;exact this
  refine⟨_,rfl,?_⟩;rw[lJd]
  by_cases hw:W.length<=wide
  .rw[lJa (by omega)]
   refine⟨_,rfl,?_⟩;refine jKe (es:=W) (enc:=encR) (λes=>T.bl (decide (es.length=doors))) (by omega) (λ_ _=>rfl) ?_ ?_
   .intro i es hes G2 K K0 s2 hK
    exists rEqA,encR
    refine⟨_,jK4,?_⟩;rw[lJd];exact hK G2 (.refl _)
   intro E G2 hE hE2 s2;have s3:Sub G G2:=s1.trans s2;refine⟨E,_,_,rfl,hE2,jU7 (f:=λes:List (Nat×Nat)=>decide (es.length=doors)),_,rfl,?_⟩
   cases hr:W.all λes=>decide (es.length=doors) with
   | true=>
    have hr':∀es,es∈W->es.length=doors:=λes hes=>lXa (lKo.mp hr es hes)
    rw[lJa (by decide)]
    refine⟨W,0,rfl,fine,qXh fine iw.2.1 (qZb fine iw) iw.1,iw.1,λG3 s4=>⟨_,kUy,?_⟩⟩
    rw[<-uJ5]
    by_cases ht:jVu W 0=W
    .rw[lJc (lJq ht)];obtain⟨es,hgo⟩:=uXm fine iw.1 hr' ds hds;refine⟨W,0,w,ds,rfl,fine,iw.1,qX9 hway (s3.trans s4),by omega,λc G4 _ hc s5=>⟨c,rfl,kk G4 _ ?_ ((s3.trans s4).trans s5)⟩⟩
     obtain⟨ys,hn,hm,rfl⟩:=hc es hgo;obtain⟨l1,l2⟩:=kY9 fine iw.1 hgo hn hm;rw[lX8,lVv,l2];refine⟨λz=>⟨W,rfl,iw,hw,hr',ht,z⟩,λ⟨V,e,_,_,_,_,z⟩=> ?_⟩
     obtain rfl:=jZo e;exact z
    .rw[lJa (by rw[lJ5];exact ht)]
     refine no _ (λ⟨V,e,_,_,_,z,_⟩=> ?_) (s3.trans s4)
     obtain rfl:=jZo e;exact ht z
   | false=>
    rw[lJc rfl];refine no _ (λ⟨V,e,_,_,z,_⟩=> ?_) s3
    obtain rfl:=jZo e;have:(W.all λes=>decide (es.length=doors))=true:=lKo.mpr λes hes=>lJq (z es hes)
    rw[this] at hr;cases hr
  .rw[lJc (by omega)]
   refine no _ (λ⟨V,e,_,z,_⟩=> ?_) s1
   obtain rfl:=jZo e;exact hw z
theorem qZr{mask:List Bool}{g:TG3}{tif:TT3}{te:TE3}{τ:St3}{stay:Gp->Prop}{n0 k:Nat}(Pr:T->Prop)(hb:BoxAt G b n0)(hz:xs.length<=sizeLine)(hst:∀G',stay G')(h:∀(i:Nat) x,xs[i]? =some x->∀G' (K:T->Gp->Prop) (K0:Gp->Prop),BoxAt G' b (n0+k*i)->Keep b G G'->(∀t G4,Pr t->BoxAt G4 b (n0+k*(i+1))->Keep b G' G4->K t G4)->g x (msk mask τ) G' λτ2 G2=>tif τ2 G2 λb G3=>if b=true then te τ2 G3 K else K0 G3)(hq:∀D ts G',G D=none->G' D=some (.lst ts)->ts.length=xs.length->(∀t,t∈ts->Pr t)->BoxAt G' b (n0+k*xs.length)->Keep b G G'->Q (.ref D) G'):kXt mask g tif te τ xs stay G Q:=by
 intro D hD;obtain⟨bo,hbo⟩:=hb.some;have hbD:=jJi hbo hD;refine⟨λi acc G'=>acc.length=i/\(∀t,t∈acc->Pr t)/\BoxAt G' b (n0+k*i)/\Keep b G G'/\G' D=some (.lst acc),?_,?_,?_,?_⟩
 .exact⟨rfl,λt z=>by simp at z,(hb.gup hbD).mono (by omega),.new hD,jJe⟩
 .rintro i acc G' hi ⟨j1,j2,j3,j4,j5⟩;exact⟨hst G',j5⟩
 .rintro i x acc G3 hx ⟨j1,j2,j3,j4,j5⟩;have hi:i<xs.length:=(lJk.mp hx).1;refine h i x hx G3 _ _ j3 j4 λt G4 hp b4 kp=> ?_
  refine⟨kp _ _ hbD.symm j5,by omega,by simp[j1],?_,b4.gup hbD,(j4.trans kp).over hD,jJe⟩
  intro u hu
  rcases (lJn.mp hu) with hu | hu
  .exact j2 u hu
  .rw[lJz.mp hu];exact hp
 .rintro acc G3 ⟨j1,j2,j3,j4,j5⟩;exact hq D acc G3 hD j5 j1 j2 (j1▸j3) j4
noncomputable def jZ2:Sp3:=λxs G Q=>∃(b:Addr)(n doors many:Nat),xs=[.ref b,.int doors,.int many]/\BoxAt G b n/\n+1000<2^40/\1<=doors/\doors<=9/\many<=60/\∀ds G',ds.length=many->(∀i,i∈ds->i<doors)->BoxAt G' b (n+60)->Keep b G G'->Q (.tup (jJo ds)) G'
noncomputable def uUe:List Str:=["_law_box_here","_law_doors","_law_many","_law_k"]
noncomputable def kQ7:TS3:=
 (tRet (tCB jKd (jJa (jKt [fF,fF,fF,tT] (jUi M2) U3 jK6 (jJk jJq (jJa C0 M1))) tNil)))
theorem qJx:RdOk jZ2 kQ7 uUe:=by
 intro xs G Q h_;apply xe4 h_;clear h_;intro b n doors many;refine ae6 ?_;intro bx hn hd1 hd9 hm kk;show kQ7 _ [some (.ref b),some (.int doors),some (.int many),none] G
 have hs:=sz
 exists kQ7,jUi
 refine⟨by omega,by omega,?_⟩
 rw[show ((many:Nat):Int).toNat=many by omega]
 refine qZr (k:=1) (λt=>∃i:Nat,t= .int i/\i<doors) bx (by rw[jVe];omega) (λ_=>trivial) ?_ ?_
 .intro i x hx G1 K K0 b1 k1 hK;have hi:i<many:=by have:=(lJk.mp hx).1;rw[jVe] at this;exact this
  obtain⟨_,rfl⟩:=jVx hx
  exists tSeq
  refine⟨b,doors,n+1*i,rfl,b1,by omega,by omega,by omega,λr G2 r0 r1 b2 k2=> ?_⟩
  obtain⟨r,rfl⟩:=lKu r0;exact hK _ _ ⟨r,rfl,by omega⟩ (by rw[show n+1*(i+1)=n+1*i+1 by omega];exact b2) k2
 intro D ts G1 hD hD1 hl hp b1 k1
 have e:∀ts:List T,(∀t,t∈ts->∃i:Nat,t= .int i/\i<doors)->∃ds:List Nat,ts=jJo ds/\∀i,i∈ds->i<doors:=by
  intro ts
  induction ts with
  | nil=>exact λ_=>⟨[],rfl,λi h=>nomatch h⟩
  | cons t ts ih=>
   intro h;obtain⟨ds,rfl,h2⟩:=ih λu hu=>h u (lJw _ hu)
   obtain⟨i,rfl,hi⟩:=h t (lJv ..);exact⟨i::ds,rfl,λj hj=>(lJp.mp hj).elim (λz=>z▸hi) (h2 j)⟩
 obtain⟨ds,rfl,hds⟩:=e ts hp;refine⟨_,jJn hD1,kk ds G1 (by rw[jVe] at hl;rw[<-hl];simp[jJo]) hds (b1.mono (by rw[jVe];omega)) k1⟩
theorem cuT:cutT xs none (some (c:Int))=xs.take c:=by
 unfold cutT HT.sIx;simp;rw[lJa (by omega)];omega
theorem cuF(h:c<xs.length):cutT xs (some ((c:Int)+1)) none=xs.drop (c+1):=by
 unfold cutT HT.sIx;simp;rw[lJa (by omega),Nat.min_eq_left (by omega)]
 exact lQm (by rw[lQf];omega)
variable {ys:List T}
theorem kKn(hz:xs.length+ys.length<=sizeLine)(q:Q (.tup (xs++ys)) G):jJv (.tup xs) (.tup ys) G Q:=by
 cases xs with
 | nil=>exact .inr ⟨ys,rfl,rfl,q⟩
 | cons x xs=>
  have e:addR G (.tup (x::xs)) (.tup ys)=some (.val (.tup (x::xs++ys))):=by simp only[addR];rw[lJc ⟨by simp,hz⟩]
  exact .inl ⟨_,e,q⟩
theorem kK4{i j:Int}(q:Q (.int (i+j)) G):jJv (.int i) (.int j) G Q:= .inl ⟨_,rfl,q⟩
noncomputable def qJ1(ts:List T)(i:Nat)(x:T):List T:=ts.take i++[x]++ts.drop (i+1)
theorem kVr{ts:List T}(h:i<ts.length):(qJ1 ts i x).length=ts.length:=by
 unfold qJ1;rw[lJ4,lJ4,lKe,lQf];simp;omega
theorem kVq{ts:List T}{t:T}(h:t∈qJ1 ts i x):t=x\/t∈ts:=by
 unfold qJ1 at h
 rcases (lJn.mp h) with h | h
 .rcases (lJn.mp h) with h | h
  .exact .inr (lQa h)
  .exact .inl (lJz.mp h)
 .exact .inr (lQs h)
noncomputable def qKv(W:Web)(r i:Nat)(x:T):T:= .tup (qJ1 (W.map encR) r (.tup (qJ1 ((row W r).map encE) i x)))
noncomputable def jJg:Sp3:=λxs G Q=>∃(W:Web)(r i:Nat)(x:T),xs=[encW W,.int r,.int i,x]/\r<W.length/\i<(row W r).length/\W.length<=100/\(row W r).length<=100/\∀G',Sub G G'->Q (qKv W r i x) G'
noncomputable def kXp:List Str:=["_law_web","_law_room","_law_door","_law_end","_law_ends"]
noncomputable def jVh:TS3:=
 (tSeq (tAsg (tOp jJv (tOp jJv (tSl rSlF (tOp rIxF C0 C1) jJ5 (jKr C2)) (tTup M3)) (tSl rSlF (tOp rIxF C0 C1) (jKr (tOp jJv C2 tI1)) jJ5)) U4)
 (tRet (tOp jJv (tOp jJv (tSl rSlF C0 jJ5 (jKr C1)) (tTup M4)) (tSl rSlF C0 (jKr (tOp jJv C1 tI1)) jJ5))))
theorem kJs:RdOk jJg jVh kXp:=by
 intro xs G Q h_;apply xe4 h_;clear h_;intro W r i x;refine ae5 ?_;intro hr hi hw hl kk;show jVh _ [some (.tup (W.map encR)),some (.int r),some (.int i),some x,none] G
 have hs:=sz;obtain⟨es,hes⟩:∃es,W[r]? =some es:=⟨_,lJl hr⟩
 unfold qKv at kk;rw[jUj hes] at hi hl kk;have hR:=jQz hes
 exists jVh,tSl,jKr,jJ5,rSlF,hR,encR
 have lr:(W.map encR).length=W.length:=lJd ..;have le:(es.map encE).length=es.length:=lJd ..
 have c1:∀u,(cutT (W.map encR) none (some (r:Int))++[u]).length+(cutT (W.map encR) (some ((r:Int)+1)) none).length<=sizeLine:=λu=>by
  rw[cuT,cuF (by omega),lJ4,lKe,lQf];simp;omega
 have c2:∀u,(cutT (es.map encE) none (some (i:Int))++[u]).length+(cutT (es.map encE) (some ((i:Int)+1)) none).length<=sizeLine:=λu=>by
  rw[cuT,cuF (by omega),lJ4,lKe,lQf];simp;omega
 have c3:∀u:T,(cutT (W.map encR) none (some (r:Int))).length+[u].length<=sizeLine:=λu=>by rw[cuT,lKe];simp;omega
 have c4:∀u:T,(cutT (es.map encE) none (some (i:Int))).length+[u].length<=sizeLine:=λu=>by rw[cuT,lKe];simp;omega
 refine⟨_,rfl,by omega,kKn (c4 _) (kK4 ⟨_,rfl,_,rfl,kKn (c2 _) ?_⟩)⟩
 refine⟨_,rfl,by omega,kKn (c3 _) (kK4 ⟨_,rfl,_,rfl,kKn (c1 _) ?_⟩)⟩
 rw[cuT,cuF (by omega),cuT,cuF (by omega)]
 exact kk G (.refl _)
noncomputable def rgR(many doors k:Nat):List (Nat×Nat):=[((k+1)%many,1),((((k:Int)-1)%(many:Int)).toNat,0)]++(List.range (doors-2)).map λj=>(k,j+2)
variable {many:Nat}
theorem uJc{k:Nat}(hm:1<=many)(hd:doors<=20):(rgR many doors k).length<=20/\∀e,e∈rgR many doors k->e.2<40:=by
 unfold rgR;refine⟨by simp;omega,λe he=> ?_⟩
 simp at he
 rcases he with rfl | rfl | ⟨j,hj,rfl⟩
 .show 1<40;omega
 .show 0<40;omega
 .show j+2<40;omega
theorem uYp{k:Nat}(hk:k<many):∀e,e∈rgR many doors k->e.1<many:=by
 intro e he;unfold rgR at he;simp at he
 rcases he with rfl | rfl | ⟨j,hj,rfl⟩
 .exact lVp _ (by omega)
 .have:=lVo ((k:Int)-1) (show 0<(many:Int) by omega)
  have:=lVe ((k:Int)-1) (show (many:Int)≠0 by omega)
  show (((k:Int)-1)%(many:Int)).toNat<many
  omega
 .exact hk
theorem uKc(hm1:1<=many)(hm:many<=20)(hd:doors<=20):Fine ((List.range many).map (rgR many doors)):=by
 have at_:∀(r:Nat)(es:List (Nat×Nat)),((List.range many).map (rgR many doors))[r]? =some es->r<many/\es=rgR many doors r:=λr es h=>by
  rw[lJ0] at h;obtain⟨k,hk,rfl⟩:=lQg.mp h;obtain⟨h1,h2⟩:=lJk.mp hk;rw[List.getElem_range] at h2;subst h2;exact⟨by simpa using h1,rfl⟩
 refine⟨by simp;omega,λr es h=> ?_,λr i s j h=> ?_⟩
 .obtain⟨_,rfl⟩:=at_ r es h
  have:=(uJc (k:=r) hm1 hd).1;omega
 .obtain⟨es,h1,h2⟩:=kU0 h;obtain⟨hr,rfl⟩:=at_ r es h1
  have:=uYp hr (s,j) (lJs h2);rw[lJd,lK1];exact this
noncomputable def jUv:Sp3:=λxs G Q=>∃(many doors:Nat),xs=[.int many,.int doors]/\1<=many/\many<=20/\1<=doors/\doors<=20/\∀(W:Web) G',Fine W->1<=W.length->W.length<=20->(∀es,es∈W->es.length<=20/\∀e,e∈es->e.2<40)->Sub G G'->Q (encW W) G'
noncomputable def qZz:List Str:=["_law_many","_law_doors","_law_web","_law_room","_law_ends","_law_door"]
noncomputable def kJw:TS3:=
 (tSeq (tIfS (jJ2 (tOp rEqA C1 tI1)) (tRet (tOp rIxF (tLst (jJa (tTup (jJa (tTup (jJa (tTup (jJa tI0 (jJa tI0 tNil))) tNil)) tNil)) (jJa (tTup (jJa (tTup (jJa (tTup (jJa tI1 (jJa tI0 tNil))) tNil)) (jJa (tTup (jJa (tTup (jJa tI0 (jJa tI0 tNil))) tNil)) tNil))) tNil))) (tCB kZe (jJa (tOp rGt C0 tI1) tNil)))) jKv)
 (tSeq (tAsg (tLst tNil) U2)
 (tSeq (tFor (jUi M0) U3 (tSeq (tAsg (tLst (jJa (tTup (jJa (tOp rMod (tOp jK8 C3 tI1) C0) (jJa tI1 tNil))) (jJa (tTup (jJa (tOp rMod (tOp rSub C3 tI1) C0) (jJa tI0 tNil))) tNil))) U4)
 (jZp (tBM "list" jUa C2 (jJa (tCB jKd (jJa (tOp jK8 C4 (jKt [fF,fF,fF,fF,fF,tT] (kV0 (jJa tI2 M1)) U5 jK6 (tTup (jJa C3 M5)))) tNil)) tNil)))))
 (tRet (tCB jKd M2)))))
theorem kX2:RdOk jUv kJw qZz:=by
 intro xs G Q h_;apply xe2 h_;clear h_;intro many doors;refine ae5 ?_;intro hm1 hm hd1 hd kk;show kJw _ [some (.int many),some (.int doors),none,none,none,none] G
 have hs:=sz
 exists kJw,rEqA,kZe,jUi,kV0,jKh
 refine⟨_,jK4 (a:=doors) (c:=1),?_⟩
 by_cases h1:doors=1
 .rw[lJc (lJq h1)];refine⟨by omega,by omega,by omega,by omega,by omega,by omega,by omega,by omega,by omega,λp hp=> ?_⟩
  by_cases h2:1<(many:Int)
  .rw[lJc h2];refine⟨_,rfl,kk [[(1,0)],[(0,0)]] _ ⟨by decide,λr es h=> ?_,λr i s j h=> ?_⟩ (by decide) (by decide) (by decide) (.new hp)⟩
   .match r,h with
    | 0,h=>cases h;decide
    | 1,h=>cases h;decide
   .match r,i,h with
    | 0,0,h=>cases h;decide
    | 1,0,h=>cases h;decide
  .rw[lJa h2];refine⟨_,rfl,kk [[(0,0)]] _ ⟨by decide,λr es h=> ?_,λr i s j h=> ?_⟩ (by decide) (by decide) (by decide) (.new hp)⟩
   .match r,h with
    | 0,h=>cases h;decide
   .match r,i,h with
    | 0,0,h=>cases h;decide
 rw[lJa (by rw[lJ5];exact h1)]
 refine⟨by omega,λp hp=>⟨by omega,by omega,?_⟩⟩
 rw[show ((many:Nat):Int).toNat=many by omega]
 let J1:Nat->St3->Gp->Prop:=λk τ G'=>∃(v3 v4 v5:Option T),τ=[some (.int many),some (.int doors),some (.ref p),v3,v4,v5]/\G' p=some (.lst (((List.range k).map (rgR many doors)).map encR))/\Sub G G'
 refine⟨J1,?_,?_,?_,?_⟩
 .exact⟨none,none,none,rfl,jJe,.new hp⟩
 .intros;trivial
 .intro k x τ G1 hx h_;apply xe3 h_;clear h_;intro v3 v4 v5;refine ae2 ?_;intro h2 s1;obtain⟨hk,rfl⟩:=jVx hx
  exists kV0
  refine⟨by omega,by omega,by omega,by omega,by omega,λq hq=> ?_⟩
  have pq:p≠q:=jJi h2 hq
  have e0:[T.tup [T.int ((((k:Nat):Int)+1)%(many:Int)),T.int 1],T.tup [T.int ((((k:Nat):Int)-1)%(many:Int)),T.int 0]]=([((k+1)%many,1),((((k:Int)-1)%(many:Int)).toNat,0)]:List (Nat×Nat)).map encE:=by
   have:=lVe ((k:Int)-1) (show (many:Int)≠0 by omega)
   simp only[lJo,lVz,encE];rw[lYc this];rfl
  rw[e0];have g1:gup G1 q (.lst (([((k+1)%many,1),((((k:Int)-1)%(many:Int)).toNat,0)]:List (Nat×Nat)).map encE)) q=some (.lst (([((k+1)%many,1),((((k:Int)-1)%(many:Int)).toNat,0)]:List (Nat×Nat)).map encE)):=jJe;have g2:gup G1 q (.lst (([((k+1)%many,1),((((k:Int)-1)%(many:Int)).toNat,0)]:List (Nat×Nat)).map encE)) p=some (.lst (((List.range k).map (rgR many doors)).map encR)):=by rw[jJw pq];exact h2
  have s2:Sub G (gup G1 q (.lst (([((k+1)%many,1),((((k:Int)-1)%(many:Int)).toNat,0)]:List (Nat×Nat)).map encE))):=s1.trans (.new hq)
  generalize gup G1 q (.lst (([((k+1)%many,1),((((k:Int)-1)%(many:Int)).toNat,0)]:List (Nat×Nat)).map encE))=G2 at g1 g2 s2 ⊢
  refine⟨of_eq_true (jQq g2),by omega,by omega,by omega,by omega,?_⟩
  rw[show ((doors:Nat):Int)-2=((doors-2:Nat):Int) by omega,show (((doors-2:Nat):Int)).toNat=doors-2 by omega,show (2:Int)=((2:Nat):Int) from rfl,kJo]
  refine jKe (es:=List.range (doors-2)) (enc:=λj:Nat=>T.int (2+j:Nat)) (λj=>encE (k,j+2)) (by simp;omega) (λ_ _=>trivial) ?_ ?_
  .intro i j hj G3 K K0 s3 hK
   exists tSeq
   refine⟨by omega,?_⟩
   have:=hK G3 (.refl _);rw[lXs 2 j];exact this
  intro D G3 hD hD3 s3;have g3:=s3 _ _ g1;refine⟨_,jUn g3 hD3 (by simp;omega),λm hm'=> ?_⟩
  have g4:=s3 _ _ g2;refine⟨_,jJn jJe,_,by rw[jJw (jJi g4 hm')];exact g4,by simp;omega,_,_,_,rfl,?_,((s2.trans s3).trans (.new hm')).over hp⟩
  rw[jJe,lX3,lKp,lKp]
  have er:encR (rgR many doors k)= .tup ((([((k+1)%many,1),((((k:Int)-1)%(many:Int)).toNat,0)]:List (Nat×Nat)).map encE)++(List.range (doors-2)).map λj=>encE (k,j+2)):=by
   unfold rgR encR;rw[lKp,lJ1];rfl
  show _=some (GO.lst (_++[encR (rgR many doors k)]))
  rw[er]
 .intro τ G1 h_;apply xe3 h_;clear h_;intro v3 v4 v5;refine ae2 ?_;intro h2 s1;rw[jVe] at h2
  exists tSeq
  refine⟨_,jJn h2,kk ((List.range many).map (rgR many doors)) G1 (uKc hm1 hm hd) (by simp;omega) (by simp;omega) (λes hes=> ?_) s1⟩
  obtain⟨k,hk,rfl⟩:=lJj.mp hes;have:=lKb.mp hk;exact uJc (by omega) hd
structure Sm (d:Nat) (W:Web):Prop where
 ev:EvW d W
 small:∀es,es∈W->∀e,e∈es->e.2<30
theorem Sm.rows{W:Web}(h:Sm d W):∀es,es∈W->es.length=d/\∀e,e∈es->e.1<W.length/\e.2<30:=λes hes=>by
 obtain⟨r,hr⟩:=lJ9 hes;refine⟨h.ev.row r es hr,λe he=>⟨?_,h.small es hes e he⟩⟩
 obtain⟨i,hi⟩:=lJ9 he;exact h.ev.fine.rng r i e.1 e.2 (kU1 hr hi)
theorem Sm.few{W:Web}(h:Sm d W):Few W:=⟨by have:=h.ev.le;omega,λes hes=>by
 obtain⟨a,b⟩:=h.rows es hes;have:=h.ev.d6;have:=h.ev.le;exact⟨by omega,λe he=>by have:=b e he;omega⟩⟩
theorem uXf{x:Nat}:∀F:List Nat,ix F x<=F.length
 | []=>lJh _
 | a::l=>by
  rw[ix,lJ8];have:=uXf (x:=x) l;split<;>omega
theorem kZ3{W:Web}(f:Fine W)(hr:r<W.length)(hl:W.length<=24)(h:∀es,es∈W->es.length<=24/\∀e,e∈es->e.2<40):Few (jVu W r):=by
 have fd:Found W r (bfs W r):=jZe f _ _ ⟨by simp,λx hx=>by rw[lJz.mp hx];exact hr,λS h0 _ x hx=>by rw[lJz.mp hx];exact h0⟩
 have hb:=jQk fd.nd fd.lt;unfold jVu;refine⟨by rw[lJd];omega,λes hes=> ?_⟩
 obtain⟨q,hq,rfl⟩:=lJj.mp hes;have hq:=fd.lt q hq;have hrow:W[q]? =some W[q]:=lJl hq;obtain⟨a,b⟩:=h _ (lQi hq);rw[jUj hrow];unfold endT;refine⟨by rw[lJd];exact a,λe he=> ?_⟩
 obtain⟨g,hg,rfl⟩:=lJj.mp he;have:=uXf (x:=g.1) (bfs W r);exact⟨by show ix _ _<40;omega,b g hg⟩
theorem uQi{W:Web}{p:List Nat}(h:Sm d W)(P:Prm W.length p):Few (numW W p):=by
 have hl:=h.ev.le;unfold numW;refine⟨by rw[lJd,lK1];omega,λes hes=> ?_⟩
 obtain⟨k,hk,rfl⟩:=lJj.mp hes;have hk:=lKb.mp hk;have hi:p.idxOf k<W.length:=by rw[<-P.len];exact lZ8 (P.mem hk)
 obtain⟨fs,hf,_⟩:=kVg hi;obtain⟨a,b⟩:=h.rows fs (lJs hf);have:=h.ev.d6;rw[jUj hf];refine⟨by rw[lJd];omega,λe he=> ?_⟩
 obtain⟨g,hg,rfl⟩:=lJj.mp he;have:=(b g hg).2;refine⟨?_,by show g.2<40;omega⟩
 show p.getD g.1 0<40
 (rw[mJx])
 cases e:p[g.1]? with
 | none=>show 0<40;omega
 | some x=>have:=P.lt x (lJs e);show x<40;omega
theorem uQh{W:Web}(h:Few W)(hr:r<W.length)(he:es.length<=24/\∀e,e∈es->e.1<40/\e.2<40):Few (W.take r++[es]++W.drop (r+1)):=by
 have:=h.1;refine⟨by rw[lJ4,lJ4,lKe,lQf];simp;omega,λfs hf=> ?_⟩
 rcases (lJn.mp hf) with hf | hf
 .rcases (lJn.mp hf) with hf | hf
  .exact h.2 fs (lQa hf)
  .rw[lJz.mp hf];exact he
 .exact h.2 fs (lQs hf)
noncomputable def jK0:Sp3:=λxs G Q=>∃(b:Addr)(n d wide doors:Nat)(W:Web),xs=[.ref b,.int wide,.int doors,encW W]/\BoxAt G b n/\n<2^29/\1<=wide/\wide<=9/\1<=doors/\doors<=6/\Sm d W/\∀(V:Web) G',Few V->BoxAt G' b (n+20)->Keep b G G'->Q (encW V) G'
noncomputable def kU7:List Str:=["_law_box_here","_law_wide","_law_doors","_law_web","_law_turn","_law_room"]
noncomputable def jUp:TS3:=
 (tSeq (tAsg (jJk jJq (jJa C0 (jJa (tC (.int 5)) tNil))) U4)
 (tSeq (tIfS (jJ2 (tOp rEqA C4 tI0)) (tRet (jJk jJ9 (jJa (jJk jUv (jJa (tOp jJv (tOp jJv C1 tI1) (jJk jJq (jJa C0 (jJa (tC (.int 3)) tNil)))) M2)) (jJa tI0 tNil)))) jKv)
 (tSeq (tIfS (jJ2 (tOp rEqA C4 tI1)) (tRet (jJk jJ9 (jJa (jJk jUv (jJa (tOp jJv tI1 (jJk jJq (jJa C0 M1))) (jJa (tOp jJv C2 tI1) tNil))) (jJa tI0 tNil)))) jKv)
 (tSeq (tIfS (jJ2 (tOp rEqA C4 tI2)) (tRet (jJk jJ9 (jJa (jJk jUv (jJa (tOp jJv tI1 (jJk jJq (jJa C0 M1))) (jJa (tCB rMax (jJa tI1 (jJa (tOp rSub C2 tI1) tNil))) tNil))) (jJa tI0 tNil)))) jKv)
 (tSeq (tIfS (jJ2 (tOp rEqA C4 (tC (.int 3)))) (tSeq (tAsg (jJk jJq (jJa C0 (jJa (tCB rLen M3) tNil))) U5)
 (tRet (tOp jJv (tOp jJv (tSl rSlF C3 jJ5 (jKr C5)) (tTup (jJa (tOp jJv (tOp rIxF C3 C5) (tTup (jJa (tTup (jJa C5 (jJa (tCB rLen (jJa (tOp rIxF C3 C5) tNil)) tNil))) tNil))) tNil))) (tSl rSlF C3 (jKr (tOp jJv C5 tI1)) jJ5)))) jKv)
 (tRet (jJk jVb (jJa C0 M3))))))))
theorem jZr:RdOk jK0 jUp kU7:=by
 intro xs G Q h_;apply xe6 h_;clear h_;intro b n d wide doors W;refine ae8 ?_;intro bx hn hw1 hw9 hd1 hd6 sm kk;show jUp _ [some (.ref b),some (.int wide),some (.int doors),some (.tup (W.map encR)),none,none] G
 have hs:=sz;have hl:=sm.ev.le;have hp:=sm.ev.pos
 have rg:∀{G2:Gp}(m D k:Nat),BoxAt G2 b k->k<=n+20->Keep b G G2->1<=m->m<=20->1<=D->D<=20->jUv [.int m,.int D] G2 λx G3=>jJ9 [x,.int 0] G3 Q:=λ{G2} m D k b2 hk k2 hm hm2 hD hD2=>
  ⟨m,D,rfl,hm,hm2,hD,hD2,λV G3 fV hV1 hV2 hV3 s3=>⟨V,0,rfl,fV,hV1,λG4 s4=>kk _ G4 (kZ3 fV hV1 (by omega) λes hes=>⟨by have:=(hV3 es hes).1;omega,(hV3 es hes).2⟩) (((b2.sub s3).sub s4).mono hk) ((k2.trans (.sub s3)).trans (.sub s4))⟩⟩
 exists jUp,rEqA,rMax
 refine⟨b,5,n,rfl,bx,by omega,by omega,by omega,λt G1 t0 t5 b1 k1=> ?_⟩
 obtain⟨t,rfl⟩:=lKu t0;refine⟨_,jK4 (a:=t) (c:=0),?_⟩
 by_cases c0:t=0
 .rw[lJc (lJq c0)];refine kK4 ⟨b,3,n+1,rfl,b1,by omega,by omega,by omega,λu G2 u0 u1 b2 k2=>kK4 ?_⟩
  obtain⟨u,rfl⟩:=lKu u0;rw[show ((wide:Nat):Int)+1+(u:Nat)=((wide+1+u:Nat):Int) by omega]
  exact rg _ _ _ b2 (by omega) (k1.trans k2) (by omega) (by omega) (by omega) (by omega)
 rw[lJa (by rw[lJ5];exact c0)]
 refine⟨_,jK4 (a:=t) (c:=1),?_⟩
 by_cases c1:t=1
 .rw[lJc (lJq c1)];refine⟨b,wide,n+1,rfl,b1,by omega,by omega,by omega,λu G2 u0 u1 b2 k2=>kK4 (kK4 ?_)⟩
  obtain⟨u,rfl⟩:=lKu u0;rw[show (1:Int)+(u:Nat)=((1+u:Nat):Int) by omega,show ((doors:Nat):Int)+1=((doors+1:Nat):Int) by omega]
  exact rg _ _ _ b2 (by omega) (k1.trans k2) (by omega) (by omega) (by omega) (by omega)
 rw[lJa (by rw[lJ5];exact c1)]
 refine⟨_,jK4 (a:=t) (c:=2),?_⟩
 by_cases c2:t=2
 .rw[lJc (lJq c2)];refine⟨b,wide,n+1,rfl,b1,by omega,by omega,by omega,λu G2 u0 u1 b2 k2=>kK4 ?_⟩
  obtain⟨u,rfl⟩:=lKu u0;rw[show (1:Int)+(u:Nat)=((1+u:Nat):Int) by omega,show (if ((doors:Nat):Int)-1>1 then ((doors:Nat):Int)-1 else 1)=((max 1 (doors-1):Nat):Int) by split<;>omega]
  exact rg _ _ _ b2 (by omega) (k1.trans k2) (by omega) (by omega) (by omega) (by omega)
 rw[lJa (by rw[lJ5];exact c2)]
 refine⟨_,jK4 (a:=t) (c:=3),?_⟩
 by_cases c3:t=3
 .rw[lJc (lJq c3)];have lW:(W.map encR).length=W.length:=lJd ..;refine⟨b,_,n+1,rfl,b1,by omega,by omega,by omega,λu G2 u0 u1 b2 k2=> ?_⟩
  obtain⟨u,rfl⟩:=lKu u0;have hu:u<W.length:=by omega
  obtain⟨es,hes⟩:∃es,W[u]? =some es:=⟨_,lJl hu⟩
  obtain⟨ra,rb⟩:=sm.rows es (lJs hes);have h6:=sm.ev.d6;have hix:ixR G2 (.tup (W.map encR)) (.int (u:Nat))=some (encR es):=by show L2.atI _ _=_;exact jQz hes
  have le:(es.map encE).length=es.length:=lJd ..
  exists tSl,jKr,jJ5,rSlF
  refine⟨_,rfl,_,hix,_,hix,_,rfl,by omega,by omega,?_⟩
  refine kKn (by rw[le];simp;omega) ⟨by omega,kKn (by rw[cuT,lKe];simp;omega) (kK4 ⟨_,rfl,_,rfl,kKn (by rw[cuT,cuF (by omega),lJ4,lKe,lQf];simp;omega) ?_⟩)⟩
  rw[cuT,cuF (by omega),le]
  have:=kk (W.take u++[es++[(u,es.length)]]++W.drop (u+1)) G2 (uQh sm.few hu ⟨by simp;omega,λe he=> ?_⟩) (b2.mono (by omega)) (k1.trans k2)
  .unfold encW at this;rw[lKp,lKp,lV6,lX5] at this;simp only[lJo,lVz] at this;unfold encR at this ⊢;rw[lKp] at this;exact this
  .rcases (lJn.mp he) with he | he
   .have:=rb e he;omega
   .rw[lJz.mp he];exact⟨by show u<40;omega,by show es.length<40;omega⟩
 rw[lJa (by rw[lJ5];exact c3)]
 exact⟨d,b,n+1,W,rfl,sm.ev,b1,by omega,λp G2 P b2 k2=>kk _ G2 (uQi sm P) (b2.mono (by omega)) (k1.trans k2)⟩
noncomputable def jYf:Sp3:=λxs G Q=>∃(b:Addr)(n d:Nat)(W:Web),xs=[.ref b,encW W,.int d]/\BoxAt G b n/\n<2^29/\1<=d/\Sm d W/\∀x G',Tg b G' 3 x->BoxAt G' b (n+20)->Keep b G G'->Q x G'
noncomputable def qZ1:List Str:=["_law_box_here","_law_web","_law_doors","_law_many","_law_room","_law_door","_law_end","_law_some","_law_ends"]
noncomputable def kJy:TS3:=
 (tSeq (tAsg (tCB rLen M1) U3)
 (tSeq (tPar 4 5 (jJa (jJk jJq (jJa C0 M3)) (jJa (jJk jJq (jJa C0 M2)) tNil)))
 (tSeq (tAsg (tOp rIxF (tOp rIxF C1 C4) C5) U6)
 (tSeq (tAsg (tLst (jJa (tSl rSlF C1 jJ5 (jKr (tUn rNeg tI1))) (jJa (tOp jJv C1 (tSl rSlF C1 jJ5 (jKr tI1))) (jJa (tOp jJv C1 (tTup (jJa (tTup tNil) tNil))) (jJa (tCB jQc M1) (jJa (tCB jKd (jJa (jKt [fF,fF,fF,fF,fF,fF,fF,fF,tT] (iSeq C1) U8 jK6 (tCB jQc M8)) tNil)) tNil)))))) U7)
 (tSeq (tAsg (tOp jJv C7 (tLst (jJa (jJk jJg (jJa C1 (jJa C4 (jJa C5 (jJa (tTup (jJa (tOp jJv (tOp rIxF C6 tI0) C3) (jJa (tOp rIxF C6 tI1) tNil))) tNil))))) (jJa (jJk jJg (jJa C1 (jJa C4 (jJa C5 (jJa (tC .non) tNil))))) tNil)))) U7)
 (tSeq (tAsg (tOp jJv C7 (tLst (jJa (jJk jJg (jJa C1 (jJa C4 (jJa C5 (jJa (tTup (jJa (tOp rIxF C6 tI0) (jJa (tOp rSub (tOp rIxF C6 tI1) C2) tNil))) tNil))))) (jJa (tOp jJv (tSl rSlF C1 jJ5 (jKr C4)) (tTup (jJa (tOp jJv (tOp rIxF C1 C4) (tTup (jJa (tTup (jJa tI0 (jJa tI0 tNil))) tNil))) tNil))) tNil)))) U7)
 (tSeq (tAsg (tOp jJv C7 (tLst (jJa (jJk jJg (jJa C1 (jJa C4 (jJa C5 (jJa (tTup (jJa (tOp rIxF C6 tI0) (jJa (tC (.str (PySem.Str.ofString "0"))) tNil))) tNil))))) (jJa (jJk jJg (jJa C1 (jJa C4 (jJa C5 (jJa (tCB jQc M6) tNil))))) (jJa (tTup (jJa (tTup tNil) tNil)) tNil))))) U7)
 (tSeq (tAsg (tOp jJv C7 (tLst (jJa (jJk jJg (jJa C1 (jJa C4 (jJa C5 (jJa (tTup (jJa (tOp rEqA (tOp rIxF C6 tI0) tI1) (jJa (tOp rIxF C6 tI1) tNil))) tNil))))) (jJa (tTup tNil) (jJa (tC .non) (jJa (tC (.int 5)) (jJa (tC (.str (PySem.Str.ofString "web"))) (jJa (tOp rIxF C1 C4) (jJa (tC (.bl true)) (jJa (tLst (jJa (tLst tNil) tNil)) tNil)))))))))) U7)
 (tSeq (tAsg (tOp jJv C7 (tLst (jJa (jJk jJg (jJa C1 (jJa C4 (jJa C5 (jJa (tOp rIxF (tOp rIxF C1 C4) (tOp rMod (tOp jJv C5 tI1) C2)) tNil))))) (jJa (kQw C1 (jKr (tUn rNeg tI1))) (jJa (jJk jJ9 (jJa C1 M4)) tNil))))) U7)
 (tRet (tOp rIxF C7 (jJk jJq (jJa C0 (jJa (tCB rLen M7) tNil))))))))))))))
noncomputable def qQ8:TS3:=(tSeq (tAsg (tOp jJv C7 (tLst (jJa (jJk jJg (jJa C1 (jJa C4 (jJa C5 (jJa (tTup (jJa (tOp jJv (tOp rIxF C6 tI0) C3) (jJa (tOp rIxF C6 tI1) tNil))) tNil))))) (jJa (jJk jJg (jJa C1 (jJa C4 (jJa C5 (jJa (tC .non) tNil))))) tNil)))) U7)
 (tSeq (tAsg (tOp jJv C7 (tLst (jJa (jJk jJg (jJa C1 (jJa C4 (jJa C5 (jJa (tTup (jJa (tOp rIxF C6 tI0) (jJa (tOp rSub (tOp rIxF C6 tI1) C2) tNil))) tNil))))) (jJa (tOp jJv (tSl rSlF C1 jJ5 (jKr C4)) (tTup (jJa (tOp jJv (tOp rIxF C1 C4) (tTup (jJa (tTup (jJa tI0 (jJa tI0 tNil))) tNil))) tNil))) tNil)))) U7)
 (tSeq (tAsg (tOp jJv C7 (tLst (jJa (jJk jJg (jJa C1 (jJa C4 (jJa C5 (jJa (tTup (jJa (tOp rIxF C6 tI0) (jJa (tC (.str (PySem.Str.ofString "0"))) tNil))) tNil))))) (jJa (jJk jJg (jJa C1 (jJa C4 (jJa C5 (jJa (tCB jQc M6) tNil))))) (jJa (tTup (jJa (tTup tNil) tNil)) tNil))))) U7)
 (tSeq (tAsg (tOp jJv C7 (tLst (jJa (jJk jJg (jJa C1 (jJa C4 (jJa C5 (jJa (tTup (jJa (tOp rEqA (tOp rIxF C6 tI0) tI1) (jJa (tOp rIxF C6 tI1) tNil))) tNil))))) (jJa (tTup tNil) (jJa (tC .non) (jJa (tC (.int 5)) (jJa (tC (.str (PySem.Str.ofString "web"))) (jJa (tOp rIxF C1 C4) (jJa (tC (.bl true)) (jJa (tLst (jJa (tLst tNil) tNil)) tNil)))))))))) U7)
 (tSeq (tAsg (tOp jJv C7 (tLst (jJa (jJk jJg (jJa C1 (jJa C4 (jJa C5 (jJa (tOp rIxF (tOp rIxF C1 C4) (tOp rMod (tOp jJv C5 tI1) C2)) tNil))))) (jJa (kQw C1 (jKr (tUn rNeg tI1))) (jJa (jJk jJ9 (jJa C1 M4)) tNil))))) U7)
 (tRet (tOp rIxF C7 (jJk jJq (jJa C0 (jJa (tCB rLen M7) tNil))))))))))
noncomputable def qQ6:TS3:=(tSeq (tAsg (tOp jJv C7 (tLst (jJa (jJk jJg (jJa C1 (jJa C4 (jJa C5 (jJa (tTup (jJa (tOp rIxF C6 tI0) (jJa (tOp rSub (tOp rIxF C6 tI1) C2) tNil))) tNil))))) (jJa (tOp jJv (tSl rSlF C1 jJ5 (jKr C4)) (tTup (jJa (tOp jJv (tOp rIxF C1 C4) (tTup (jJa (tTup (jJa tI0 (jJa tI0 tNil))) tNil))) tNil))) tNil)))) U7)
 (tSeq (tAsg (tOp jJv C7 (tLst (jJa (jJk jJg (jJa C1 (jJa C4 (jJa C5 (jJa (tTup (jJa (tOp rIxF C6 tI0) (jJa (tC (.str (PySem.Str.ofString "0"))) tNil))) tNil))))) (jJa (jJk jJg (jJa C1 (jJa C4 (jJa C5 (jJa (tCB jQc M6) tNil))))) (jJa (tTup (jJa (tTup tNil) tNil)) tNil))))) U7)
 (tSeq (tAsg (tOp jJv C7 (tLst (jJa (jJk jJg (jJa C1 (jJa C4 (jJa C5 (jJa (tTup (jJa (tOp rEqA (tOp rIxF C6 tI0) tI1) (jJa (tOp rIxF C6 tI1) tNil))) tNil))))) (jJa (tTup tNil) (jJa (tC .non) (jJa (tC (.int 5)) (jJa (tC (.str (PySem.Str.ofString "web"))) (jJa (tOp rIxF C1 C4) (jJa (tC (.bl true)) (jJa (tLst (jJa (tLst tNil) tNil)) tNil)))))))))) U7)
 (tSeq (tAsg (tOp jJv C7 (tLst (jJa (jJk jJg (jJa C1 (jJa C4 (jJa C5 (jJa (tOp rIxF (tOp rIxF C1 C4) (tOp rMod (tOp jJv C5 tI1) C2)) tNil))))) (jJa (kQw C1 (jKr (tUn rNeg tI1))) (jJa (jJk jJ9 (jJa C1 M4)) tNil))))) U7)
 (tRet (tOp rIxF C7 (jJk jJq (jJa C0 (jJa (tCB rLen M7) tNil)))))))))
noncomputable def qQ4:TS3:=(tSeq (tAsg (tOp jJv C7 (tLst (jJa (jJk jJg (jJa C1 (jJa C4 (jJa C5 (jJa (tTup (jJa (tOp rIxF C6 tI0) (jJa (tC (.str (PySem.Str.ofString "0"))) tNil))) tNil))))) (jJa (jJk jJg (jJa C1 (jJa C4 (jJa C5 (jJa (tCB jQc M6) tNil))))) (jJa (tTup (jJa (tTup tNil) tNil)) tNil))))) U7)
 (tSeq (tAsg (tOp jJv C7 (tLst (jJa (jJk jJg (jJa C1 (jJa C4 (jJa C5 (jJa (tTup (jJa (tOp rEqA (tOp rIxF C6 tI0) tI1) (jJa (tOp rIxF C6 tI1) tNil))) tNil))))) (jJa (tTup tNil) (jJa (tC .non) (jJa (tC (.int 5)) (jJa (tC (.str (PySem.Str.ofString "web"))) (jJa (tOp rIxF C1 C4) (jJa (tC (.bl true)) (jJa (tLst (jJa (tLst tNil) tNil)) tNil)))))))))) U7)
 (tSeq (tAsg (tOp jJv C7 (tLst (jJa (jJk jJg (jJa C1 (jJa C4 (jJa C5 (jJa (tOp rIxF (tOp rIxF C1 C4) (tOp rMod (tOp jJv C5 tI1) C2)) tNil))))) (jJa (kQw C1 (jKr (tUn rNeg tI1))) (jJa (jJk jJ9 (jJa C1 M4)) tNil))))) U7)
 (tRet (tOp rIxF C7 (jJk jJq (jJa C0 (jJa (tCB rLen M7) tNil))))))))
noncomputable def qQ2:TS3:=(tSeq (tAsg (tOp jJv C7 (tLst (jJa (jJk jJg (jJa C1 (jJa C4 (jJa C5 (jJa (tTup (jJa (tOp rEqA (tOp rIxF C6 tI0) tI1) (jJa (tOp rIxF C6 tI1) tNil))) tNil))))) (jJa (tTup tNil) (jJa (tC .non) (jJa (tC (.int 5)) (jJa (tC (.str (PySem.Str.ofString "web"))) (jJa (tOp rIxF C1 C4) (jJa (tC (.bl true)) (jJa (tLst (jJa (tLst tNil) tNil)) tNil)))))))))) U7)
 (tSeq (tAsg (tOp jJv C7 (tLst (jJa (jJk jJg (jJa C1 (jJa C4 (jJa C5 (jJa (tOp rIxF (tOp rIxF C1 C4) (tOp rMod (tOp jJv C5 tI1) C2)) tNil))))) (jJa (kQw C1 (jKr (tUn rNeg tI1))) (jJa (jJk jJ9 (jJa C1 M4)) tNil))))) U7)
 (tRet (tOp rIxF C7 (jJk jJq (jJa C0 (jJa (tCB rLen M7) tNil)))))))
noncomputable def qQ0:TS3:=(tSeq (tAsg (tOp jJv C7 (tLst (jJa (jJk jJg (jJa C1 (jJa C4 (jJa C5 (jJa (tOp rIxF (tOp rIxF C1 C4) (tOp rMod (tOp jJv C5 tI1) C2)) tNil))))) (jJa (kQw C1 (jKr (tUn rNeg tI1))) (jJa (jJk jJ9 (jJa C1 M4)) tNil))))) U7)
 (tRet (tOp rIxF C7 (jJk jJq (jJa C0 (jJa (tCB rLen M7) tNil))))))
noncomputable def qQy:TS3:=(tRet (tOp rIxF C7 (jJk jJq (jJa C0 (jJa (tCB rLen M7) tNil)))))
theorem qYg:kJy=tSeq (tAsg (tCB rLen M1) U3) (tSeq (tPar 4 5 (jJa (jJk jJq (jJa C0 M3)) (jJa (jJk jJq (jJa C0 M2)) tNil))) (tSeq (tAsg (tOp rIxF (tOp rIxF C1 C4) C5) U6) (tSeq (tAsg (tLst (jJa (tSl rSlF C1 jJ5 (jKr (tUn rNeg tI1))) (jJa (tOp jJv C1 (tSl rSlF C1 jJ5 (jKr tI1))) (jJa (tOp jJv C1 (tTup (jJa (tTup tNil) tNil))) (jJa (tCB jQc M1) (jJa (tCB jKd (jJa (jKt [fF,fF,fF,fF,fF,fF,fF,fF,tT] (iSeq C1) U8 jK6 (tCB jQc M8)) tNil)) tNil)))))) U7) qQ8))):=rfl
theorem qQ7:qQ8=tSeq (tAsg (tOp jJv C7 (tLst (jJa (jJk jJg (jJa C1 (jJa C4 (jJa C5 (jJa (tTup (jJa (tOp jJv (tOp rIxF C6 tI0) C3) (jJa (tOp rIxF C6 tI1) tNil))) tNil))))) (jJa (jJk jJg (jJa C1 (jJa C4 (jJa C5 (jJa (tC .non) tNil))))) tNil)))) U7) qQ6:=rfl
theorem qQ5:qQ6=tSeq (tAsg (tOp jJv C7 (tLst (jJa (jJk jJg (jJa C1 (jJa C4 (jJa C5 (jJa (tTup (jJa (tOp rIxF C6 tI0) (jJa (tOp rSub (tOp rIxF C6 tI1) C2) tNil))) tNil))))) (jJa (tOp jJv (tSl rSlF C1 jJ5 (jKr C4)) (tTup (jJa (tOp jJv (tOp rIxF C1 C4) (tTup (jJa (tTup (jJa tI0 (jJa tI0 tNil))) tNil))) tNil))) tNil)))) U7) qQ4:=rfl
theorem qQ3:qQ4=tSeq (tAsg (tOp jJv C7 (tLst (jJa (jJk jJg (jJa C1 (jJa C4 (jJa C5 (jJa (tTup (jJa (tOp rIxF C6 tI0) (jJa (tC (.str (PySem.Str.ofString "0"))) tNil))) tNil))))) (jJa (jJk jJg (jJa C1 (jJa C4 (jJa C5 (jJa (tCB jQc M6) tNil))))) (jJa (tTup (jJa (tTup tNil) tNil)) tNil))))) U7) qQ2:=rfl
theorem qQ1:qQ2=tSeq (tAsg (tOp jJv C7 (tLst (jJa (jJk jJg (jJa C1 (jJa C4 (jJa C5 (jJa (tTup (jJa (tOp rEqA (tOp rIxF C6 tI0) tI1) (jJa (tOp rIxF C6 tI1) tNil))) tNil))))) (jJa (tTup tNil) (jJa (tC .non) (jJa (tC (.int 5)) (jJa (tC (.str (PySem.Str.ofString "web"))) (jJa (tOp rIxF C1 C4) (jJa (tC (.bl true)) (jJa (tLst (jJa (tLst tNil) tNil)) tNil)))))))))) U7) qQ0:=rfl
theorem qQz:qQ0=tSeq (tAsg (tOp jJv C7 (tLst (jJa (jJk jJg (jJa C1 (jJa C4 (jJa C5 (jJa (tOp rIxF (tOp rIxF C1 C4) (tOp rMod (tOp jJv C5 tI1) C2)) tNil))))) (jJa (kQw C1 (jKr (tUn rNeg tI1))) (jJa (jJk jJ9 (jJa C1 M4)) tNil))))) U7) qQy:=rfl
structure Bn (b p:Addr) (G:Gp) (n m:Nat) (xs:List T):Prop where
 bx:BoxAt G b n
 hp:G p=some (.lst xs)
 pb:p≠b
 ln:xs.length=m
 tg:∀x,x∈xs->Tg b G 3 x
theorem uX2{W:Web}{d:Nat}{v4 v5 v6 v8:Option T}(B:Bn b p G n m xs)(hn:n<2^30)(hm:1<=m)(hm2:m<=40)(kk:∀x G',Tg b G' 3 x->BoxAt G' b (n+1)->Keep b G G'->Q x G'):
  qQy {nx:=λ_ G'=>Q .non G',rt:=Q} [some (.ref b),some (encW W),some (.int (d:Nat)),some (.int (W.length:Nat)),v4,v5,v6,some (.ref p),v8] G:=by
 have hs:=sz;have hl:=B.ln
 exists qQy
 refine⟨_,jJn B.hp,b,_,n,rfl,B.bx,by omega,by omega,by omega,λu G1 u0 u1 b1 k1=> ?_⟩
 obtain⟨u,rfl⟩:=lKu u0;have hu:u<xs.length:=by omega
 refine⟨xs[u],?_,kk _ G1 ((B.tg _ (lQi hu)).keep k1) b1 k1⟩;rw[jQv (k1 _ _ B.pb B.hp),atN,lJl hu]
theorem kXf{k:Nat}(B:Bn b p G n m xs)(s:Sub G G')(hq:G' q=none)(hy:∀y,y∈ys->Tg b G' 3 y)(hk:ys.length=k)(hz:m+k<=100)(kk:∀p' G'',Bn b p' G'' n (m+k) (xs++ys)->Sub G G''->Q (.ref p') G''):jJv (.ref p) (.ref q) (gup G' q (.lst ys)) Q:=by
 have hs:=sz;have h1:=s _ _ B.hp;have pq:=jJi h1 hq;have bx1:=B.bx.sub s;obtain⟨bo,hbo⟩:=bx1.some;have bq:=jJi hbo hq;have g1:gup G' q (.lst ys) p=some (.lst xs):=by rw[jJw pq];exact h1
 have bx2:=bx1.gup (o:= .lst ys) bq;refine .inl ⟨_,jUn g1 jJe (by rw[B.ln,hk];omega),λr hr=> ?_⟩
 obtain⟨bo2,hbo2⟩:=bx2.some;have br:=jJi hbo2 hr;have s2:Sub G' (gup (gup G' q (.lst ys)) r (.lst (xs++ys))):=(Sub.new hq).trans (.new hr);refine kk r _ ⟨bx2.gup br,jJe,br.symm,by rw[lJ4,B.ln,hk],λx hx=> ?_⟩ (s.trans s2)
 rcases (lJn.mp hx) with hx | hx
 .exact (B.tg x hx).keep (.sub (s.trans s2))
 .exact (hy x hx).keep (.sub s2)
structure Cz (W:Web) (d u v:Nat) (es:List (Nat×Nat)) (e:Nat×Nat):Prop where
 sm:Sm d W
 hd:1<=d
 hu:u<W.length
 hr:W[u]? =some es
 he:es[v]? =some e
variable {u v:Nat}
theorem Cz.facts{W:Web}(c:Cz W d u v es e):es.length=d/\v<d/\d<=6/\W.length<=9/\e.1<W.length/\e.2<30/\row W u=es:=by
 obtain⟨a,b⟩:=c.sm.rows es (lJs c.hr);have h1:=(lJk.mp c.he).1;have:=b e (lJs c.he);exact⟨a,by omega,c.sm.ev.d6,c.sm.ev.le,this.1,this.2,jUj c.hr⟩
theorem jXr{W:Web}(c:Cz W d u v es e)(h:Tg b G 1 x):Tg b G 3 (qKv W u v x):=by
 obtain⟨f1,f2,f3,f4,f5,f6,f7⟩:=c.facts;have few:=c.sm.few;unfold qKv;refine jKz (λy hy=> ?_) (by rw[kVr (by rw[lJd];exact c.hu),lJd];omega)
 rcases kVq hy with rfl | hy
 .rw[f7];refine jKz (λz hz=> ?_) (by rw[kVr (by rw[lJd];omega),lJd];omega)
  rcases kVq hz with rfl | hz
  .exact h
  .obtain⟨g,hg,rfl⟩:=lJj.mp hz;exact tg_E ((few.2 es (lJs c.hr)).2 g hg)
 .obtain⟨fs,hf,rfl⟩:=lJj.mp hy;exact tg_R (few.2 fs hf)
theorem jXp{W:Web}(c:Cz W d u v es e)(kk:∀G',Sub G G'->Q (qKv W u v x) G'):jJg [encW W,.int (u:Nat),.int (v:Nat),x] G Q:=by
 obtain⟨f1,f2,f3,f4,f5,f6,f7⟩:=c.facts;exact⟨W,u,v,x,rfl,c.hu,by rw[f7];omega,by omega,by rw[f7];omega,kk⟩
theorem uX3{W:Web}{v8:Option T}(c:Cz W d u v es e)(B:Bn b p G n m xs)(hn:n<2^30)(hm:1<=m)(hm2:m<=30)(kk:∀x G',Tg b G' 3 x->BoxAt G' b (n+1)->Keep b G G'->Q x G'):
  qQ0 {nx:=λ_ G'=>Q .non G',rt:=Q} [some (.ref b),some (encW W),some (.int (d:Nat)),some (.int (W.length:Nat)),some (.int (u:Nat)),some (.int (v:Nat)),some (encE e),some (.ref p),v8] G:=by
 have hs:=sz;obtain⟨f1,f2,f3,f4,f5,f6,f7⟩:=c.facts;have hR:∀{G':Gp},ixR G' (encW W) (.int (u:Nat))=some (encR es):=λ{G'}=>jQz c.hr
 rw[qQz]
 exists kQw,jKr
 have hj:(v+1)%d<es.length:=by rw[f1];exact lVp _ (by omega)
 refine⟨_,hR,kK4 ⟨_,rfl,by omega,encE es[(v+1)%d],?_,jXp c λG1 s1=>⟨_,rfl,?_⟩⟩⟩
 .show L2.atI (es.map encE) ((((v+1)%d:Nat)):Int)=_
  exact kUz (lJl hj)
 have few:=c.sm.few;have hg:=(few.2 es (lJs c.hr)).2 _ (lQi hj);refine⟨W,u,rfl,c.sm.ev.fine,c.hu,λG2 s2=>⟨by omega,λq hq=> ?_⟩⟩
 refine kXf (k:=3) B (s1.trans s2) hq ?_ rfl (by omega) λp' G3 B3 s3=> ?_
 .refine memC (jXr c (tg_E hg)) (memC (jKz (λy hy=> ?_) (by rw[lZ0,lJd];omega)) (memC (tg_W (kZ3 c.sm.ev.fine c.hu (by omega) λes hes=>⟨(few.2 es hes).1,λe he=>((few.2 es hes).2 e he).2⟩)) memN))
  obtain⟨fs,hf,rfl⟩:=lJj.mp (lVh.mp hy);exact tg_R (few.2 fs hf)
 .exact uX2 B3 hn (by omega) (by omega) λx G4 t4 b4 k4=>kk x G4 t4 b4 (Keep.trans (.sub s3) k4)
theorem uX4{W:Web}{v8:Option T}(c:Cz W d u v es e)(B:Bn b p G n m xs)(hn:n<2^30)(hm:1<=m)(hm2:m<=20)(kk:∀x G',Tg b G' 3 x->BoxAt G' b (n+1)->Keep b G G'->Q x G'):
  qQ2 {nx:=λ_ G'=>Q .non G',rt:=Q} [some (.ref b),some (encW W),some (.int (d:Nat)),some (.int (W.length:Nat)),some (.int (u:Nat)),some (.int (v:Nat)),some (encE e),some (.ref p),v8] G:=by
 have hs:=sz;obtain⟨f1,f2,f3,f4,f5,f6,f7⟩:=c.facts;have hR:∀{G':Gp},ixR G' (encW W) (.int (u:Nat))=some (encR es):=λ{G'}=>jQz c.hr
 rw[qQ1]
 exists rEqA,encE
 refine⟨_,jK4 (a:=e.1) (c:=1),by omega,jXp c λG1 s1=>⟨by omega,_,hR,by omega,λp1 h1=>⟨by omega,λp2 h2=>⟨by omega,λq hq=> ?_⟩⟩⟩⟩
 have few:=c.sm.few;have bx1:=B.bx.sub s1;obtain⟨bo,hbo⟩:=bx1.some;have b1:p1≠b:=(jJi hbo h1).symm;have bx2:=bx1.gup (o:= .lst []) b1.symm;obtain⟨bo2,hbo2⟩:=bx2.some;have b2:p2≠b:=(jJi hbo2 h2).symm;have g1:gup G1 p1 (.lst []) p1=some (.lst []):=jJe;have p12:=jJi g1 h2;have g2:gup (gup G1 p1 (.lst [])) p2 (.lst [.ref p1]) p1=some (.lst []):=by rw[jJw p12];exact g1
 refine kXf (k:=8) B ((s1.trans (.new h1)).trans (.new h2)) hq ?_ rfl (by omega) λp' G3 B3 s3=> ?_
 .refine memC (jXr c (jKz (memC uUr (memC (jUt (by omega)) memN)) (by simp))) (memC (jKz memN (by simp)) (memC qZ7 (memC (jUt (by omega)) (memC uUq (memC ((tg_R (few.2 es (lJs c.hr))).mono (by omega)) (memC uUr (memC ?_ memN)))))))
  exact kVc jJe b2 (memC (kVc g2 b1 memN (by simp)) memN) (by simp)
 .exact uX3 c B3 hn (by omega) (by omega) λx G4 t4 b4 k4=>kk x G4 t4 b4 (Keep.trans (.sub s3) k4)
theorem uX5{W:Web}{v8:Option T}(c:Cz W d u v es e)(B:Bn b p G n m xs)(hn:n<2^30)(hm:1<=m)(hm2:m<=15)(kk:∀x G',Tg b G' 3 x->BoxAt G' b (n+1)->Keep b G G'->Q x G'):
  qQ4 {nx:=λ_ G'=>Q .non G',rt:=Q} [some (.ref b),some (encW W),some (.int (d:Nat)),some (.int (W.length:Nat)),some (.int (u:Nat)),some (.int (v:Nat)),some (encE e),some (.ref p),v8] G:=by
 have hs:=sz;obtain⟨f1,f2,f3,f4,f5,f6,f7⟩:=c.facts;rw[qQ3]
 exists jQc,jV0,encE
 refine⟨by omega,jXp c λG1 s1=>λp1 h1=>jXp c λG2 s2=>⟨by omega,by omega,by omega,λq hq=> ?_⟩⟩
 have bx1:=B.bx.sub s1;obtain⟨bo,hbo⟩:=bx1.some;have b1:p1≠b:=(jJi hbo h1).symm;have g1:gup G1 p1 (.lst [.int (e.1:Nat),.int (e.2:Nat)]) p1=some (.lst [.int (e.1:Nat),.int (e.2:Nat)]):=jJe;refine kXf (k:=3) B ((s1.trans (.new h1)).trans s2) hq ?_ rfl (by omega) λp' G3 B3 s3=> ?_
 .refine memC (jXr c (jKz (memC (jUt (by omega)) (memC tg_0 memN)) (by simp))) (memC (jXr c (kVc (s2 _ _ g1) b1 (memC (jUt (by omega)) (memC (jUt (by omega)) memN)) (by simp))) (memC ?_ memN))
  exact (jKz (n:=1) (memC (jKz (n:=0) memN (by simp)) memN) (by simp)).mono (by omega)
 .exact uX4 c B3 hn (by omega) (by omega) λx G4 t4 b4 k4=>kk x G4 t4 b4 (Keep.trans (.sub s3) k4)
theorem uX6{W:Web}{v8:Option T}(c:Cz W d u v es e)(B:Bn b p G n m xs)(hn:n<2^30)(hm:1<=m)(hm2:m<=10)(kk:∀x G',Tg b G' 3 x->BoxAt G' b (n+1)->Keep b G G'->Q x G'):
  qQ6 {nx:=λ_ G'=>Q .non G',rt:=Q} [some (.ref b),some (encW W),some (.int (d:Nat)),some (.int (W.length:Nat)),some (.int (u:Nat)),some (.int (v:Nat)),some (encE e),some (.ref p),v8] G:=by
 have hs:=sz;obtain⟨f1,f2,f3,f4,f5,f6,f7⟩:=c.facts;have hR:∀{G':Gp},ixR G' (encW W) (.int (u:Nat))=some (encR es):=λ{G'}=>jQz c.hr
 rw[qQ5]
 exists encE,tSl,jKr,jJ5,rSlF
 have lW:(W.map encR).length=W.length:=lJd ..;have le:(es.map encE).length=es.length:=lJd ..;have few:=c.sm.few;have hu:=c.hu;have tz:Tg b G 1 (.tup [.int (e.1:Nat),.int (e.2-d)]):=jKz (memC (jUt (by omega)) (memC (jUt (by omega)) memN)) (by simp)
 refine⟨by omega,jXp c λG1 s1=>⟨_,rfl,_,hR,by omega,by omega,?_⟩⟩
 refine kKn (by rw[le];simp;omega) ⟨by omega,kKn (by rw[cuT,lKe];simp;omega) ⟨by omega,λq hq=> ?_⟩⟩
 rw[cuT];refine kXf (k:=2) B s1 hq ?_ rfl (by omega) λp' G3 B3 s3=> ?_
 .refine memC (jXr c (tz.keep (.sub s1))) (memC (jKz (λy hy=> ?_) (by rw[lJ4,lKe];simp;omega)) memN)
  rcases (lJn.mp hy) with hy | hy
  .obtain⟨fs,hf,rfl⟩:=lJj.mp (lQa hy);exact tg_R (few.2 fs hf)
  .rw[lJz.mp hy];refine jKz (λz hz=> ?_) (by rw[lJ4,le];simp;omega)
   rcases (lJn.mp hz) with hz | hz
   .obtain⟨g,hg,rfl⟩:=lJj.mp hz;exact tg_E ((few.2 es (lJs c.hr)).2 g hg)
   .rw[lJz.mp hz];exact jKz (memC (jUt (by omega)) (memC (jUt (by omega)) memN)) (by simp)
 .exact uX5 c B3 hn (by omega) (by omega) λx G4 t4 b4 k4=>kk x G4 t4 b4 (Keep.trans (.sub s3) k4)
theorem uX7{W:Web}{v8:Option T}(c:Cz W d u v es e)(B:Bn b p G n m xs)(hn:n<2^30)(hm:1<=m)(hm2:m<=8)(kk:∀x G',Tg b G' 3 x->BoxAt G' b (n+1)->Keep b G G'->Q x G'):
  qQ8 {nx:=λ_ G'=>Q .non G',rt:=Q} [some (.ref b),some (encW W),some (.int (d:Nat)),some (.int (W.length:Nat)),some (.int (u:Nat)),some (.int (v:Nat)),some (encE e),some (.ref p),v8] G:=by
 have hs:=sz;obtain⟨f1,f2,f3,f4,f5,f6,f7⟩:=c.facts;rw[qQ7]
 exists encE
 refine kK4 ⟨by omega,jXp c λG1 s1=>jXp c λG2 s2=>⟨by omega,λq hq=> ?_⟩⟩
 refine kXf (k:=2) B (s1.trans s2) hq ?_ rfl (by omega) λp' G3 B3 s3=> ?_
 .exact memC (jXr c (jKz (memC (jUt (by omega)) (memC (jUt (by omega)) memN)) (by simp))) (memC (jXr c qZ7) memN)
 .exact uX6 c B3 hn (by omega) (by omega) λx G4 t4 b4 k4=>kk x G4 t4 b4 (Keep.trans (.sub s3) k4)
theorem kX4:RdOk jYf kJy qZ1:=by
 intro xs G Q h_;apply xe4 h_;clear h_;intro b n d W;refine ae5 ?_;intro bx hn hd1 sm kk;show kJy _ [some (.ref b),some (encW W),some (.int d),none,none,none,none,none,none] G
 have hs:=sz;have hl:=sm.ev.le;have hp:=sm.ev.pos;rw[qYg]
 exists tSl,jKr,jJ5,rSlF,jQc,jV0,iSeq
 have lW:(W.map encR).length=W.length:=lJd ..;refine⟨_,rfl,b,_,n,rfl,bx,by omega,by omega,by omega,λu G1 u0 u1 b1 k1=> ?_⟩
 obtain⟨u,rfl⟩:=lKu u0;refine⟨b,d,n+1,rfl,b1,by omega,by omega,by have:=sm.ev.d6;omega,λv G2 v0 v1 b2 k2=> ?_⟩
 obtain⟨v,rfl⟩:=lKu v0;have hu:u<W.length:=by omega
 obtain⟨es,hes⟩:∃es,W[u]? =some es:=⟨_,lJl hu⟩
 have hel:=sm.ev.row u es hes;have hv:es[v]? =some es[v]:=lJl (by omega)
 have c:Cz W d u v es es[v]:=⟨sm,hd1,hu,hes,hv⟩;have few:=sm.few
 have tR:∀{G':Gp}{y:T},y∈W.map encR->Tg b G' 2 y:=λ{G' y} hy=>by
  obtain⟨fs,hf,rfl⟩:=lJj.mp hy;exact tg_R (few.2 fs hf)
 have ec:cutT (W.map encR) none (some ((1:Nat):Int))=(W.map encR).take 1:=cuT
 have ec2:∀y,y∈cutT (W.map encR) none (some (-1))->y∈W.map encR:=λy hy=>by
  unfold cutT at hy;exact lQs (lQa hy)
 have ec3:(cutT (W.map encR) none (some (-1))).length<=W.length:=by unfold cutT;rw[lKe,lQf];omega
 refine⟨encR es,jQz hes,encE es[v],kUz hv,_,rfl,_,rfl,kKn (by rw[show (1:Int)=((1:Nat):Int) from rfl,ec,lKe];omega) ⟨by omega,by omega,kKn (by simp;omega) ⟨_,rfl,λp hp=>⟨_,rfl,?_⟩⟩⟩⟩
 rw[show (1:Int)=((1:Nat):Int) from rfl,ec]
 have b3:=b2;obtain⟨bo,hbo⟩:=b3.some;have pb:p≠b:=(jJi hbo hp).symm;have b4:=b3.gup (o:= .lst (W.map encR)) pb.symm;have g1:gup G2 p (.lst (W.map encR)) p=some (.lst (W.map encR)):=jJe;have k3:Keep b G (gup G2 p (.lst (W.map encR))):=(k1.trans k2).trans (.sub (.new hp))
 generalize gup G2 p (.lst (W.map encR))=G3 at b4 g1 k3 ⊢
 refine jXb (es:=W) (enc:=encR) (λfs=>fs.map encE) (by omega) (λ_ _=>rfl) ?_ ?_
 .intro i fs hfs G4 K K0 s4 hK
  exists jV0,encR
  exact λp hp=>hK p _ hp jJe (.new hp)
 intro D rs G4 hD hD4 s4 hrl hnd hrs;refine⟨_,jJn hD4,by omega,λq hq=> ?_⟩
 have b5:=b4.sub s4;obtain⟨bo5,hbo5⟩:=b5.some;have qb:q≠b:=(jJi hbo5 hq).symm
 have tl:∀y,y∈rs.map T.ref->Tg b G4 2 y:=λy hy=>by
  obtain⟨r,hr,rfl⟩:=lJj.mp hy;obtain⟨i,hi⟩:=lJ9 hr;have hil:i<W.length:=by have:=(lJk.mp hi).1;omega
  obtain⟨h1,h2⟩:=hrs i r _ hi (lJl hil);obtain⟨o3,ho3⟩:=b4.some;obtain⟨fa,fb⟩:=few.2 _ (lQi hil);refine kVc h2 (jJi ho3 h1).symm (λz hz=> ?_) (by rw[lJd];exact fa)
  obtain⟨g,hg,rfl⟩:=lJj.mp hz;exact tg_E (fb g hg)
 have B0:Bn b q (gup G4 q (.lst [T.tup (cutT (W.map encR) none (some (-1))),T.tup (W.map encR++(W.map encR).take 1),T.tup (W.map encR++[T.tup []]),T.ref p,T.tup (rs.map T.ref)])) (n+2) 5 [T.tup (cutT (W.map encR) none (some (-1))),T.tup (W.map encR++(W.map encR).take 1),T.tup (W.map encR++[T.tup []]),T.ref p,T.tup (rs.map T.ref)]:=by
  refine⟨b5.gup qb.symm,jJe,qb,rfl,λx hx=>Tg.keep ?_ (.sub (.new hq))⟩
  revert x
  refine memC (jKz (λy hy=>tR (ec2 y hy)) (by omega)) (memC (jKz (λy hy=> ?_) (by rw[lJ4,lKe];omega)) (memC (jKz (λy hy=> ?_) (by rw[lJ4];simp;omega)) (memC (kVc (s4 _ _ g1) pb (λy hy=>tR hy) (by omega)) (memC (jKz tl (by rw[lJd];omega)) memN))))
  .rcases (lJn.mp hy) with hy | hy
   .exact tR hy
   .exact tR (lQa hy)
  .rcases (lJn.mp hy) with hy | hy
   .exact tR hy
   .rw[lJz.mp hy];exact jKz memN (by simp)
 have ks:Keep b G (gup G4 q (.lst [T.tup (cutT (W.map encR) none (some (-1))),T.tup (W.map encR++(W.map encR).take 1),T.tup (W.map encR++[T.tup []]),T.ref p,T.tup (rs.map T.ref)])):=(k3.trans (.sub s4)).trans (.sub (.new hq));have el:((W.map encR).length:Int)=(W.length:Nat):=by rw[lW]
 rw[el];exact uX7 c B0 (by omega) (by omega) (by omega) λx G5 t5 b6 k6=>kk x G5 t5 (b6.mono (by omega)) (ks.trans k6)
noncomputable def qXp:List Str:=["_law_found","_law_due_here","_law_one","_law_other"]
noncomputable def jY4:TS3:=
 (tSeq (tIfS (jJ2 (tCB rIsi (jJa C1 (jJa (tTup (jJa (tC (.ty "list")) (jJa (tC (.ty "tuple")) tNil))) tNil)))) qK7 jKv)
 (tSeq (tIfS (tOr (jJ2 (tOp rIsN C1 (tC .non))) (jJ2 (tCB rIsi (jJa C1 (jJa (tC (.ty "str")) tNil))))) qK7 jKv)
 (tRet (jXu (tCB rIsi (jJa C0 (jJa (tC (.ty "int")) tNil))) (jXu (tOp rEqA (tCB rIsi (jJa C0 (jJa (tC (.ty "bool")) tNil))) (tCB rIsi (jJa C1 (jJa (tC (.ty "bool")) tNil)))) (tOp rEqA C0 C1))))))
def jV6:Sp3:=λxs G Q=>∃b c:Bool,xs=[.bl b,.bl c]/\∀G',Sub G G'->Q (.bl (decide (b=c))) G'
theorem uXj{i:Bool}:isiT G (.bl i) (.ty "bool")=some true:=rfl
theorem uJt{a b:Bool}:eqG G (.bl a) (.bl b)=some (decide (a=b)):=by
 cases a<;>cases b<;>rfl
theorem kVk:RdOk jV6 jY4 qXp:=by
 intro xs G Q h_;apply xe2 h_;clear h_;intro b c kk;show jY4 _ [some (.bl b),some (.bl c),none,none] G
 have hs:=sz;have h1:isiT G (.bl c) (.tup [.ty "list",.ty "tuple"])=some false:=rfl;have h2:isiT G (.bl c) (.ty "str")=some false:=rfl;have h3:isiT G (.bl b) (.ty "int")=some true:=rfl;have h4:eqG G (.bl true) (.bl true)=some true:=uJt
 exists jY4,rIsi,rEqA,uXj,h1,h2,h3,h4
 exact⟨by omega,_,uJt,kk G (.refl _)⟩
noncomputable def uUu(s:Nat×Nat):Bool:=decide (1<=s.1)&&(decide (s.1<=8)&&(decide (1<=s.2)&&(decide (s.2<=6)&&decide (s.1*s.2<=8))))
theorem sz_all:(szF 8 1).all uUu=true/\(szF 8 1).length<=30/\1<=(szF 8 1).length:=by decide +kernel
theorem uUv{s:Nat×Nat}(h:s∈szF 8 1):1<=s.1/\s.1<=8/\1<=s.2/\s.2<=6/\s.1*s.2<=8:=by
 have:=lKo.mp sz_all.1 s h;unfold uUu at this
 simpa only[lKv,lJ5] using this
theorem uU0{V:Web}(e:EvW d V)(sy:Sym V):Sm d V:=⟨e,λes hes x hx=>by
 obtain⟨r,hr⟩:=lJ9 hes;obtain⟨i,hi⟩:=lJ9 hx;obtain⟨fs,h1,h2⟩:=kU0 (sy r i x.1 x.2 (kU1 hr hi));have:=e.row _ fs h1;have:=(lJk.mp h2).1;have:=e.d6;omega⟩
theorem uUz:Sm 1 [[(0,0)]]:=⟨⟨⟨by decide,λr es h=>by match r,h with | 0,h=>cases h;decide,λr i s j h=>by match r,i,h with | 0,0,h=>cases h;decide⟩,λr es h=>by match r,h with | 0,h=>cases h;rfl,by decide,by decide,by decide⟩,by decide⟩
def qQg:Sp3:=λxs G Q=>∃ns:List Int,xs=[.scr (jQw ns)]/\ns.length<=63/\∀G',Q (.bl true) G'
noncomputable def uUd:List Str:=["_law_script","_law_sizes_here","_law_box_here","_law_wide","_law_doors","_law_webs","_law_way_here","_law_turn","_law_web","_law_thing","_law_written","_law_handed","_law_found"]
noncomputable def qQx:TS3:=
 (tSeq (tAsg (jJk jV5 (jJa (tC (.int 8)) (jJa tI1 tNil))) U1)
 (tSeq (tFor (iSeq (jJk jVc (jJa C0 (jJa (tC (.int 6)) tNil)))) U2 (tSeq (tAsg (tOp rIxF C1 (jJk jJq (jJa C2 (jJa (tCB rLen M1) tNil)))) (gTup 2 (jKi U3 (jKi U4 gNil))))
 (tSeq (tAsg (tOp jK8 (tOp jK8 (jJk jUw (jJa (tOp jK8 tI1 (jJk jJq (jJa C2 M3))) M4)) (jJk jUw (jJa C3 M4))) (tLst (jJa (tTup (jJa (tOp qYj (tTup (jJa (tTup (jJa tI0 (jJa tI0 tNil))) tNil)) tI1) tNil)) tNil))) U5)
 (tSeq (tAsg (jJk jZ2 (jJa C2 (jJa C4 (jJa (jJk jJq (jJa C2 (jJa (tOp rIxF (tLst (jJa (tC (.int 4)) (jJa (tC (.int 11)) tNil))) (jJk jJq (jJa C2 (jJa tI2 tNil)))) tNil))) tNil)))) U6)
 (tFor (jUi (jJa (tC (.int 12)) tNil)) U7 (tSeq (tAsg (tOp rIxF C5 (jJk jJq (jJa C2 (jJa (tCB rLen M5) tNil)))) U8)
 (tSeq (tAsg C8 U9)
 (tSeq (tIfS (tAnd (jJ2 (tOp rEqA (tOp rMod C7 (tC (.int 4))) tI1)) (jJ2 (tOp rEqA (tCB rLen (jJa (tOp rIxF C8 tI0) tNil)) C4))) (tAsg (jJk jYf (jJa C2 (jJa C8 M4))) U9) jKv)
 (tSeq (tIfS (jJ2 (tOp rGt (tOp rMod C7 (tC (.int 4))) tI1)) (tAsg (jJk jK0 (jJa C2 (jJa C3 (jJa C4 M8)))) U9) jKv)
 (tSeq (tAsg (tCB qJ0 M9) U10)
 (tFor (iSeq (tTup (jJa C6 (jJa (tCB jQc M6) tNil)))) U11 (tSeq (tAsg (jJk jQa (jJa C3 (jJa C4 (jJa C11 M9)))) U12)
 (tIfS (tOr (tNot (jJ2 (jJk jV6 (jJa C12 (jJa (jJk jZ3 (jJa C3 (jJa C4 (jJa C6 M9)))) tNil))))) (jJ2 (tOp rNeA (tCB qJ0 M9) C10))) (tRet (tC (.bl false))) jKv)))))))))))))
 (tRet (tC (.bl true)))))
theorem uX1(h:BoxAt G b n)(hp:G p=some (.lst xs))(hx:∀x y z:Int,xs≠[.int x,.int y,.int z]):p≠b:=by
 rintro rfl;obtain⟨x,y,z,h1,_⟩:=h;rw[h1] at hp;cases hp;exact hx x y z rfl
theorem uQo{ms:List (Nat×Nat)}:∀x y z:Int,ms.map encE≠[.int x,.int y,.int z]:=by
 intro x y z h;cases ms with
 | nil=>cases h
 | cons a ms=>cases h
noncomputable def kQd:TS3:=(tSeq (tAsg (tCB qJ0 M9) U10)
 (tFor (iSeq (tTup (jJa C6 (jJa (tCB jQc M6) tNil)))) U11 (tSeq (tAsg (jJk jQa (jJa C3 (jJa C4 (jJa C11 M9)))) U12)
 (tIfS (tOr (tNot (jJ2 (jJk jV6 (jJa C12 (jJa (jJk jZ3 (jJa C3 (jJa C4 (jJa C6 M9)))) tNil))))) (jJ2 (tOp rNeA (tCB qJ0 M9) C10))) (tRet (tC (.bl false))) jKv))))
noncomputable def qQv:TS3:=(tFor (jUi (jJa (tC (.int 12)) tNil)) U7 (tSeq (tAsg (tOp rIxF C5 (jJk jJq (jJa C2 (jJa (tCB rLen M5) tNil)))) U8) (tSeq (tAsg C8 U9) (tSeq (tIfS (tAnd (jJ2 (tOp rEqA (tOp rMod C7 (tC (.int 4))) tI1)) (jJ2 (tOp rEqA (tCB rLen (jJa (tOp rIxF C8 tI0) tNil)) C4))) (tAsg (jJk jYf (jJa C2 (jJa C8 M4))) U9) jKv) (tSeq (tIfS (jJ2 (tOp rGt (tOp rMod C7 (tC (.int 4))) tI1)) (tAsg (jJk jK0 (jJa C2 (jJa C3 (jJa C4 M8)))) U9) jKv) kQd)))))
theorem qQw:qQx=tSeq (tAsg (jJk jV5 (jJa (tC (.int 8)) (jJa tI1 tNil))) U1) (tSeq (tFor (iSeq (jJk jVc (jJa C0 (jJa (tC (.int 6)) tNil)))) U2 (tSeq (tAsg (tOp rIxF C1 (jJk jJq (jJa C2 (jJa (tCB rLen M1) tNil)))) (gTup 2 (jKi U3 (jKi U4 gNil)))) (tSeq (tAsg (tOp jK8 (tOp jK8 (jJk jUw (jJa (tOp jK8 tI1 (jJk jJq (jJa C2 M3))) M4)) (jJk jUw (jJa C3 M4))) (tLst (jJa (tTup (jJa (tOp qYj (tTup (jJa (tTup (jJa tI0 (jJa tI0 tNil))) tNil)) tI1) tNil)) tNil))) U5) (tSeq (tAsg (jJk jZ2 (jJa C2 (jJa C4 (jJa (jJk jJq (jJa C2 (jJa (tOp rIxF (tLst (jJa (tC (.int 4)) (jJa (tC (.int 11)) tNil))) (jJk jJq (jJa C2 (jJa tI2 tNil)))) tNil))) tNil)))) U6) qQv)))) (tRet (tC (.bl true)))):=rfl
variable {E:Ends3}{w0 w1 w7 w8 w10 w11 w12:Option T}{wide:Nat}
theorem uV7{w2 w5:Option T}{ds:List Nat}{d:PyData}(h:RdG G x d)(g:gdN 24 3 d)(hds:∀i,i∈ds->i<doors)(hdl:ds.length<=60)(kk:∀v10 v11 v12 G',Sub G G'->E.nx [w0,w1,w2,some (.int wide),some (.int doors),w5,some (.tup (jJo ds)),w7,w8,some x,v10,v11,v12] G'):
  kQd E [w0,w1,w2,some (.int wide),some (.int doors),w5,some (.tup (jJo ds)),w7,w8,some x,w10,w11,w12] G:=by
 have hs:=sz;have sh:=qQi g
 exists kQd,jKh,iSeq,jQc,jV0,rNeA
 refine qZ9 h g ?_;intro p hp;have g1:gup G p (.lst (jJo ds)) p=some (.lst (jJo ds)):=jJe;have s1:Sub G (gup G p (.lst (jJo ds))):= .new hp
 generalize gup G p (.lst (jJo ds))=G1 at g1 s1 ⊢
 refine⟨by omega,?_⟩
 let J:Nat->St3->Gp->Prop:=λk τ G'=>∃(v11 v12:Option T),τ=[w0,w1,w2,some (.int wide),some (.int doors),w5,some (.tup (jJo ds)),w7,w8,some x,some (.str (strD d)),v11,v12]/\Sub G1 G'
 refine⟨J,?_,?_,?_,?_⟩
 .exact⟨w11,w12,rfl,.refl _⟩
 .intros;trivial
 .intro k y τ G2 hy h_;apply xe2 h_;clear h_;intro v11 v12 s2
  have hway:seqT G2 y=some (jJo ds):=by
   match k,hy with
   | 0,hy=>cases hy;rfl
   | 1,hy=>cases hy;exact jJn (s2 _ _ g1)
  have h2:=jQi (s1.trans s2) h
  exists rNeA
  refine⟨wide,doors,ds,y,x,d,rfl,hway,h2,qZh g,hds,hdl,λG3 c hc s3=> ?_⟩
  refine⟨wide,doors,ds,x,d,rfl,jQi s3 h2,qZh g,hds,hdl,λG4 c' hc' s4=> ?_⟩
  have ec:c=c':=lZ6.mpr (hc.trans hc'.symm);refine⟨c,c',rfl,λG5 s5=>⟨_,rfl,?_⟩⟩
  rw[lJq ec,lJa (by decide)]
  refine qZ9 (jQi ((s3.trans s4).trans s5) h2) g ⟨_,uQl sh.cs,?_⟩;rw[lJa (by decide)]
  exact⟨_,_,rfl,((s2.trans s3).trans s4).trans s5⟩
 .intro τ G2 h_;apply xe2 h_;clear h_;intro v11 v12 s2;exact kk _ _ _ G2 (s1.trans s2)
theorem uV5{w9:Option T}{ds:List Nat}{Vs:List Web}(hb:BoxAt G b n)(hn:n<2^20)(hq:G q=some (.lst (Vs.map encW)))(qb:q≠b)(hV:∀V,V∈Vs->∃d,Sm d V)(hV1:1<=Vs.length)(hV2:Vs.length<=1000000)(h1:1<=wide)(h9:wide<=9)(hd1:1<=doors)(hd6:doors<=6)(hds:∀i,i∈ds->i<doors)(hdl:ds.length<=60)(kk:∀v7 v8 v9 v10 v11 v12 G',Keep b G G'->E.nx [w0,w1,some (.ref b),some (.int wide),some (.int doors),some (.ref q),some (.tup (jJo ds)),v7,v8,v9,v10,v11,v12] G'):
  qQv E [w0,w1,some (.ref b),some (.int wide),some (.int doors),some (.ref q),some (.tup (jJo ds)),w7,w8,w9,w10,w11,w12] G:=by
 have hs:=sz
 exists qQv,jKh,jUi
 refine⟨by decide,by decide,?_⟩
 rw[show (12:Int).toNat=12 from rfl]
 let J:Nat->St3->Gp->Prop:=λk τ G'=>∃(v7 v8 v9 v10 v11 v12:Option T),τ=[w0,w1,some (.ref b),some (.int wide),some (.int doors),some (.ref q),some (.tup (jJo ds)),v7,v8,v9,v10,v11,v12]/\BoxAt G' b (n+60*k)/\Keep b G G'
 refine⟨J,?_,?_,?_,?_⟩
 .exact⟨_,_,_,_,_,_,rfl,hb,λa o _ h=>h⟩
 .intros;trivial
 .intro k y τ G1 hy h_;apply xe6 h_;clear h_;intro v7 v8 v9 v10 v11 v12;refine ae2 ?_;intro b1 k1;obtain⟨hk,rfl⟩:=jVx hy;have q1:=k1 _ _ qb hq
  exists rEqA
  refine⟨_,jJn q1,b,_,_,rfl,b1,by omega,by rw[lJd];omega,by rw[lJd];omega,λu G2 u0 u1 b2 k2=> ?_⟩
  obtain⟨u,rfl⟩:=lKu u0;rw[lJd] at u1;have hu:u<Vs.length:=by omega
  refine⟨encW Vs[u],by rw[jQv (k2 _ _ qb q1),atN,lJ0,lJl hu];rfl,?_⟩
  obtain⟨d,sm⟩:=hV _ (lQi hu)
  generalize Vs[u]=V at sm
  have few:=sm.few
  have fin:∀{x:T}{G3:Gp}{m:Nat},(∃dd,RdG G3 x dd/\gdN 24 3 dd)->BoxAt G3 b m->m<=n+60*(k+1)->Keep b G G3->kQd {nx:=J (k+1),rt:=E.rt,bk:=E.nx,ct:=J (k+1)} [w0,w1,some (.ref b),some (.int wide),some (.int doors),some (.ref q),some (.tup (jJo ds)),some (.int (k:Nat)),some (encW V),some x,v10,v11,v12] G3:=λ{x G3 m} h3 b3 hm k3=>by
   obtain⟨dd,r1,r2⟩:=h3;exact uV7 r1 r2 hds hdl λu10 u11 u12 G4 s4=>⟨_,_,_,_,_,_,rfl,(b3.sub s4).mono hm,k3.trans (.sub s4)⟩
  have kG2:Keep b G G2:=k1.trans k2
  have snd:∀{x:T}{G3:Gp}{m:Nat},(∃dd,RdG G3 x dd/\gdN 24 3 dd)->BoxAt G3 b m->m<=n+60*k+30->Keep b G G3->
    (0<(4:Int)/\if 1<((k:Nat):Int)%4 then jK0 [.ref b,.int wide,.int doors,encW V] G3 λx G1=>kQd {nx:=J (k+1),rt:=E.rt,bk:=E.nx,ct:=J (k+1)} [w0,w1,some (.ref b),some (.int wide),some (.int doors),some (.ref q),some (.tup (jJo ds)),some (.int (k:Nat)),some (encW V),some x,v10,v11,v12] G1
    else kQd {nx:=J (k+1),rt:=E.rt,bk:=E.nx,ct:=J (k+1)} [w0,w1,some (.ref b),some (.int wide),some (.int doors),some (.ref q),some (.tup (jJo ds)),some (.int (k:Nat)),some (encW V),some x,v10,v11,v12] G3):=λ{x G3 m} h3 b3 hm k3=>by
   refine⟨by decide,?_⟩
   by_cases c:1<((k:Nat):Int)%4
   .rw[lJc c];exact⟨b,m,d,wide,doors,V,rfl,b3,by omega,h1,h9,hd1,hd6,sm,λU G4 fU b4 k4=>fin (tg_W (b:=b) fU).out b4 (by omega) (k3.trans k4)⟩
   .rw[lJa c];exact fin h3 b3 (by omega) k3
  have eV:∀{G3:Gp},∃dd,RdG G3 (encW V) dd/\gdN 24 3 dd:=λ{G3}=>(tg_W (b:=b) few).out
  refine⟨by decide,_,jK4 (a:=k%4) (c:=1),?_⟩
  by_cases c:k%4=1
  .rw[lJc (lJq c)];obtain⟨es,hes⟩:∃es,V[0]? =some es:=⟨_,lJl (by have:=sm.ev.pos;omega)⟩
   refine⟨_,jQz (r:=0) hes,_,rfl,_,jK4 (c:=doors),?_⟩;have el:=sm.ev.row 0 es hes;rw[lJd,el]
   by_cases e:d=doors
   .subst e;rw[lJc (lJq rfl)];exact⟨b,_,d,V,rfl,b2,by omega,hd1,sm,λx G3 t3 b3 k3=>snd t3.out b3 (by omega) (kG2.trans k3)⟩
   .rw[lJa (by rw[lJ5];exact e)]
    exact snd eV b2 (by omega) kG2
  .rw[lJa (by rw[lJ5];exact c)]
   exact snd eV b2 (by omega) kG2
 .intro τ G2 h_;apply xe6 h_;clear h_;intro v7 v8 v9 v10 v11 v12;refine ae2 ?_;intro b2 k2;exact kk _ _ _ _ _ _ G2 k2
theorem qYe:RdOk qQg qQx uUd:=by
 intro xs G Q h_;apply xe1 h_;clear h_;intro ns;refine ae2 ?_;intro hns kk;rw[show jVo uUd [.scr (jQw ns)]=[some (.scr (jQw ns)),none,none,none,none,none,none,none,none,none,none,none,none] from rfl,qQw]
 have hs:=sz;obtain⟨_,sl1,sl2⟩:=sz_all
 exists jKh,iSeq
 refine⟨8,1,rfl,by decide,by decide,λS G1 hSz hS1 s1=> ?_⟩
 refine⟨ns,6,rfl,hns,by decide,by decide,λD rs G3 hD hD3 hl hnd hbx s3=>⟨_,jJn hD3,?_⟩⟩
 rw[lK4] at hnd
 let J1:Nat->St3->Gp->Prop:=λi τ G'=>∃(v2 v3 v4 v5 v6 v7 v8 v9 v10 v11 v12:Option T),τ=[some (.scr (jQw ns)),some (.ref S),v2,v3,v4,v5,v6,v7,v8,v9,v10,v11,v12]/\G' S=some (.lst ((szF 8 1).map encE))/\G' D=some (.lst (rs.map T.ref))/\∀(j:Nat)(r:Addr),i<=j->rs[j]? =some r->BoxAt G' r 0
 refine⟨J1,?_,?_,?_,?_⟩
 .exact⟨none,none,none,none,none,none,none,none,none,none,none,rfl,s3 _ _ hS1,hD3,λj r _ hj=>hbx r (lJs hj)⟩
 .intro i τ G' hi h_;apply xe11 h_;clear h_;intro v2 v3 v4 v5 v6 v7 v8 v9 v10 v11 v12;refine ae3 ?_;intro h1 h4 h5;exact jJn h4
 .intro i y τ G4 hy h_;apply xe11 h_;clear h_;intro v2 v3 v4 v5 v6 v7 v8 v9 v10 v11 v12;refine ae3 ?_;intro h1 h4 h5;obtain⟨b,hbi,rfl⟩:=jKy hy;have hb4:=h5 i b (lJh _) hbi;have hil:i<rs.length:=(lJk.mp hbi).1;have hbm:=lJs hbi;have hDb:D≠b:=λe=>hnd.1 (e▸hbm)
  have hSb:S≠b:=uX1 hb4 h1 uQo
  have ob:∀(j:Nat)(r:Addr),i+1<=j->rs[j]? =some r->r≠b:=λj r hj hr e=>by
   have:=(lZ7 hil hnd.2).mp (hbi.trans (e▸hr.symm));omega
  have kp:∀{G':Gp},Keep b G4 G'->G' S=some (.lst ((szF 8 1).map encE))/\G' D=some (.lst (rs.map T.ref))/\∀(j:Nat)(r:Addr),i+1<=j->rs[j]? =some r->BoxAt G' r 0:=λ{G'} k=>⟨k _ _ hSb h1,k _ _ hDb h4,λj r hj hr=>by
   obtain⟨a1,a2,a3,h,h'⟩:=h5 j r (by omega) hr
   exact⟨a1,a2,a3,k _ _ (ob j r hj hr) h,h'⟩⟩
  exists qYj
  refine⟨_,jJn h1,b,_,0,rfl,hb4,by decide,by rw[lJd];omega,by rw[lJd];omega,λx G6 x0 x1 b6 k6=> ?_⟩
  rw[lJd] at x1;obtain⟨x,rfl⟩:=lKu x0;have hx19:x<(szF 8 1).length:=by omega
  obtain⟨S6,D6,B6⟩:=kp k6;refine⟨encE (szF 8 1)[x],by rw[jQv S6,atN,lJ0,lJl hx19];rfl,?_⟩
  have hsm:=uUv (lQi hx19)
  generalize (szF 8 1)[x]=z' at hsm ⊢
  obtain⟨wide,doors⟩:=z';obtain⟨w1,w8,d1,d6,wd⟩:=hsm
  dsimp only at w1 w8 d1 d6 wd
  refine⟨_,rfl,rfl,_,_,rfl,_,_,rfl,rfl,?_⟩
  dsimp only
  refine⟨b,wide,_,rfl,b6,by decide,by omega,by omega,λu G7 u0 u1 b7 k7=> ?_⟩
  obtain⟨u,rfl⟩:=lKu u0;have wu:(1+u)*doors<=8:=lKx (mJa _ (by omega)) wd
  have c1:=uJy (r:=1+u) (d:=doors) (by omega) (by omega) d6 (by omega)
  have c2:=uJy (r:=wide) (d:=doors) w1 (by omega) d6 (by omega)
  refine⟨_,rfl,1+u,doors,by rw[Int.natCast_add];rfl,c1,λq G8 Ws hW hWl hWn hq hq8 s8=> ?_⟩
  refine⟨wide,doors,rfl,c2,λq2 G9 Ws2 hW2 hWl2 hWn2 hq2 hq9 s9=> ?_⟩
  have bx9:=(b7.sub s8).sub s9;have k9:Keep b G4 G9:=((k6.trans k7).trans (.sub s8)).trans (.sub s9);refine⟨_,jUn (s9 _ _ hq8) hq9 (by rw[lJd,lJd];omega),λw hw=>⟨by omega,by omega,.inr ⟨_,1,rfl,rfl,by simp,by decide,by decide,by simp;omega,by omega,by omega,λp hp=> ?_⟩⟩⟩
  have e1:T.tup [T.tup (List.replicate (1:Int).toNat [T.tup [T.int 0,T.int 0]]).flatten]=encW [[(0,0)]]:=rfl;rw[e1];have g1:gup G9 w (.lst (Ws.map encW++Ws2.map encW)) w=some (.lst (Ws.map encW++Ws2.map encW)):=jJe;have kA:Keep b G4 (gup G9 w (.lst (Ws.map encW++Ws2.map encW))):=k9.trans (.sub (.new hw));have bxA:BoxAt (gup G9 w (.lst (Ws.map encW++Ws2.map encW))) b _:=bx9.sub (.new hw)
  generalize gup G9 w (.lst (Ws.map encW++Ws2.map encW))=GA at g1 kA bxA hp ⊢
  have wp:=jJi g1 hp;refine⟨_,jUn (by rw[jJw wp];exact g1) jJe (by simp;omega),λm hm=>⟨by omega,λp4 h4=> ?_⟩⟩
  have sB:Sub GA (gup (gup GA p (.lst [encW [[(0,0)]]])) m (.lst (Ws.map encW++Ws2.map encW++[encW [[(0,0)]]]))):=(Sub.new hp).trans (.new hm)
  have gB:gup (gup GA p (.lst [encW [[(0,0)]]])) m (.lst (Ws.map encW++Ws2.map encW++[encW [[(0,0)]]])) m=some (.lst ((Ws++Ws2++[[[(0,0)]]]).map encW)):=by
   rw[jJe,lKp,lKp];rfl
  have kB:Keep b G4 (gup (gup GA p (.lst [encW [[(0,0)]]])) m (.lst (Ws.map encW++Ws2.map encW++[encW [[(0,0)]]]))):=kA.trans (.sub sB);have bxB:=bxA.sub sB
  generalize gup (gup GA p (.lst [encW [[(0,0)]]])) m (.lst (Ws.map encW++Ws2.map encW++[encW [[(0,0)]]]))=GB at gB kB bxB h4 ⊢
  obtain⟨bo,hbo⟩:=bxA.some
  have mb:m≠b:=by
   rintro rfl;have:=(Sub.new hp (o:= .lst [encW [[(0,0)]]])) _ _ hbo;rw[hm] at this;cases this
  have g4:gup GB p4 (.lst [.int 4,.int 11]) p4=some (.lst [.int 4,.int 11]):=jJe;have kC:Keep b G4 (gup GB p4 (.lst [.int 4,.int 11])):=kB.trans (.sub (.new h4));have bxC:=bxB.sub (.new h4 (o:= .lst [.int 4,.int 11]));have gC:gup GB p4 (.lst [.int 4,.int 11]) m=some (.lst ((Ws++Ws2++[[[(0,0)]]]).map encW)):=(Sub.new h4) _ _ gB;obtain⟨bo4,hbo4⟩:=bxB.some;have b4:p4≠b:=(jJi hbo4 h4).symm
  generalize gup GB p4 (.lst [.int 4,.int 11])=GC at g4 kC bxC gC ⊢
  refine⟨b,2,_,rfl,bxC,by decide,by decide,by decide,λt GD t0 t1 bD kD=> ?_⟩
  have ht:∃many:Nat,ixR GD (.ref p4) (.int t)=some (.int (many:Nat))/\1<=many/\many<=11:=by
   rw[jQv (kD _ _ b4 g4)]
   rcases (by omega:t=0\/t=1) with rfl | rfl
   .exact⟨4,rfl,by decide,by decide⟩
   .exact⟨11,rfl,by decide,by decide⟩
  obtain⟨many,hix,many1,many11⟩:=ht;refine⟨_,hix,b,many,_,rfl,bD,by decide,by omega,by omega,λl GE l0 l1 bE kE=> ?_⟩
  obtain⟨l,rfl⟩:=lKu l0;refine⟨b,_,doors,l,rfl,bE,by decide,d1,by omega,by omega,λds GF hdl hds bF kF=> ?_⟩
  have kAll:Keep b G4 GF:=((kC.trans kD).trans kE).trans kF;refine uV5 (Vs:=Ws++Ws2++[[[(0,0)]]]) bF (by decide) (kF _ _ mb (kE _ _ mb (kD _ _ mb gC))) mb (λV hV=> ?_) (by rw[lJ4];exact Nat.le_add_left _ _) (by simp;omega) w1 (by omega) d1 d6 hds (by omega) λu7 u8 u9 u10 u11 u12 GG kG=> ?_
  .rcases (lJn.mp hV) with hV | hV
   .rcases (lJn.mp hV) with hV | hV
    .exact⟨_,uU0 (c1.good (hW V hV)).1 (c1.good (hW V hV)).2⟩
    .exact⟨_,uU0 (c2.good (hW2 V hV)).1 (c2.good (hW2 V hV)).2⟩
   .rw[lJz.mp hV];exact⟨1,uUz⟩
  .obtain⟨SG,DG,BG⟩:=kp (kAll.trans kG);exact⟨_,_,_,_,_,_,_,_,_,_,_,rfl,SG,DG,BG⟩
 .intro τ G4 h_;apply xe11 h_;clear h_;intro v2 v3 v4 v5 v6 v7 v8 v9 v10 v11 v12;refine ae3 ?_;intro h1 h4 h5
  exists tSeq
  exact kk G4
end W
namespace W
open PySem PySem.Spec PyProof.Rows L2 L3
theorem ln1{α:Type}{us:List α}{C:List α->Prop}(h:us.length=1)(k:∀a0,C [a0]):C us:=by
 obtain⟨a0,us,rfl⟩:=lQ1 h
 replace h:=lQ2 h
 cases lQh.mp h;exact k a0
theorem ln2{α:Type}{us:List α}{C:List α->Prop}(h:us.length=2)(k:∀a0 a1,C [a0,a1]):C us:=by
 obtain⟨a0,us,rfl⟩:=lQ1 h
 replace h:=lQ2 h
 obtain⟨a1,us,rfl⟩:=lQ1 h
 replace h:=lQ2 h
 cases lQh.mp h;exact k a0 a1
theorem ln3{α:Type}{us:List α}{C:List α->Prop}(h:us.length=3)(k:∀a0 a1 a2,C [a0,a1,a2]):C us:=by
 obtain⟨a0,us,rfl⟩:=lQ1 h
 replace h:=lQ2 h
 obtain⟨a1,us,rfl⟩:=lQ1 h
 replace h:=lQ2 h
 obtain⟨a2,us,rfl⟩:=lQ1 h
 replace h:=lQ2 h
 cases lQh.mp h;exact k a0 a1 a2
theorem ln4{α:Type}{us:List α}{C:List α->Prop}(h:us.length=4)(k:∀a0 a1 a2 a3,C [a0,a1,a2,a3]):C us:=by
 obtain⟨a0,us,rfl⟩:=lQ1 h
 replace h:=lQ2 h
 obtain⟨a1,us,rfl⟩:=lQ1 h
 replace h:=lQ2 h
 obtain⟨a2,us,rfl⟩:=lQ1 h
 replace h:=lQ2 h
 obtain⟨a3,us,rfl⟩:=lQ1 h
 replace h:=lQ2 h
 cases lQh.mp h;exact k a0 a1 a2 a3
noncomputable def top(i:Nat):Stmt:=PySem.Challenge.pw_stonewalker_k44_missed_webs_looked_at.main.body.getD i (.Pass ⟨0,0,0,0⟩)
def FnAt(K:PySem.W.Frag)(mg:Str->Option Value)(x:Str)(i:Nat):Prop:=∃f fd,mg x=some (.ref f)/\Fun K x x (top i) f fd
structure Txt (K:PySem.W.Frag) (mg:Str->Option Value):Prop where
 n_abs:mg "abs"=none
 n_all:mg "all"=none
 n_bool:mg "bool"=none
 n_dict:mg "dict"=none
 n_enumerate:mg "enumerate"=none
 n_int:mg "int"=none
 n_isinstance:mg "isinstance"=none
 n_len:mg "len"=none
 n_list:mg "list"=none
 n_max:mg "max"=none
 n_range:mg "range"=none
 n_set:mg "set"=none
 n_sorted:mg "sorted"=none
 n_str:mg "str"=none
 n_tuple:mg "tuple"=none
 f_is_number:FnAt K mg "is_number" 1
 f_is_number_of_room:FnAt K mg "is_number_of_room" 2
 f_is_end:FnAt K mg "is_end" 3
 f_is_room:FnAt K mg "is_room" 4
 f_leads_back:FnAt K mg "leads_back" 5
 f_all_lead_back:FnAt K mg "all_lead_back" 6
 f_first_comings:FnAt K mg "first_comings" 7
 f_is_web:FnAt K mg "is_web" 8
 f_ends_on:FnAt K mg "ends_on" 9
 f_sees_all:FnAt K mg "sees_all" 11
 f_ends_by:FnAt K mg "ends_by" 13
 f_renumbered:FnAt K mg "renumbered" 14
 f_told_from:FnAt K mg "told_from" 15
 f_shows_missed:FnAt K mg "shows_missed" 17
 f_l_box:FnAt K mg "_law_box" 19
 f_l_take:FnAt K mg "_law_take" 20
 f_l_alike:FnAt K mg "_law_alike" 21
 f_l_told:FnAt K mg "_law_told" 22
 f_l_pairings:FnAt K mg "_law_pairings" 23
 f_l_all_ends:FnAt K mg "_law_all_ends" 24
 f_l_even:FnAt K mg "_law_even" 25
 f_l_sizes:FnAt K mg "_law_sizes" 26
 f_l_way:FnAt K mg "_law_way" 27
 f_l_seen_rooms:FnAt K mg "_law_seen_rooms" 28
 f_l_folded:FnAt K mg "_law_folded" 29
 f_l_is_number:FnAt K mg "_law_is_number" 30
 f_l_is_end:FnAt K mg "_law_is_end" 31
 f_l_is_web:FnAt K mg "_law_is_web" 32
 f_l_due:FnAt K mg "_law_due" 33
 f_l_with_end:FnAt K mg "_law_with_end" 34
 f_l_bent:FnAt K mg "_law_bent" 35
 f_l_ring:FnAt K mg "_law_ring" 36
 f_l_numbered:FnAt K mg "_law_numbered" 37
 f_l_sound_web:FnAt K mg "_law_sound_web" 38
 f_law:FnAt K mg "law" 39
variable {w:World}{K:PySem.W.Frag}{mg:Str->Option Value}
variable {P:Program}{base:Heap}
variable {x:Str}{i:Nat}{ps:List Str}{sp:Sp3}
theorem cal3{k:Nat}{N:List Str}{t:TS3}(F:FnAt K mg x i)(h:∀xs G Q,sp xs G Q->t {nx:=λ_ G'=>Q .non G',rt:=Q} (jVo N xs) G)(d:∀(f:Addr)(cdv:Value)(A:Around)(outer:List Env)(s:Shared)(H:Hp)(E:XK),Room k (A.deeper (envOfC x (jKa (top i)) s.heap.objs.size f cdv))->(A.deeper (envOfC x (jKa (top i)) s.heap.objs.size f cdv)).units+20<cLine->N.Nodup->PSs3 (cxOf CX0 P w K mg base N x (jKa (top i)) f cdv A outer s H E).nox (jUq (top i)) t)(S:FnScope N ps (jKa (top i)):=by exact⟨rfl,rfl,rfl,by decide +kernel,rfl,by decide +kernel,by decide +kernel⟩)(b:∀(kV doc pm:Value)(an:Option Addr)(cdv ct:Value)(us:List Value),us.length=ps.length->bindArgs (PySem.W.fnOf x x (jX9 (top i)) (jUq (top i)) (jKa (top i)) .none kV doc pm an cdv ct) ⟨us,[]⟩=pure (ps.zip us):=by (intro _ _ _ _ _ _ us hl;first | (apply ln1 hl;intros;rfl) | (apply ln2 hl;intros;rfl) | (apply ln3 hl;intros;rfl) | (apply ln4 hl;intros;rfl)))(m:Mono sp:=by (intro xs G Q Q' hq;(repeat' (first | (refine Exists.imp λ_=> ?_) | (refine And.imp_right ?_)));intro k;intros;apply hq;apply k<;>assumption))(n:∀xs G Q,sp xs G Q->xs.length=ps.length:=by (intro xs G Q h;repeat (first | exact (lKa List.length h.1).trans rfl | obtain⟨_,h⟩:=h))):Cal P w K mg base (k+1) x ps sp:=by
 obtain⟨f,fd,a,F⟩:=F;exact⟨⟨f,fd,fn3 F S λcdv A outer s H E hr=>⟨t,d f cdv A outer s H E hr (uXl hr) S.nd,h⟩,a,F.kp,F.binds b⟩,m,n⟩
theorem cal0{k:Nat}(F:FnAt K mg x i)(b:∀(kV doc pm:Value)(an:Option Addr)(cdv ct:Value)(us:List Value),us.length=ps.length->bindArgs (PySem.W.fnOf x x (jX9 (top i)) (jUq (top i)) (jKa (top i)) .none kV doc pm an cdv ct) ⟨us,[]⟩=pure (ps.zip us):=by (intro _ _ _ _ _ _ us hl;first | (apply ln1 hl;intros;rfl) | (apply ln2 hl;intros;rfl) | (apply ln3 hl;intros;rfl) | (apply ln4 hl;intros;rfl))):Cal P w K mg base k x ps (λ_ _ _=>False):=by
 obtain⟨f,fd,a,F⟩:=F;refine⟨⟨f,fd,⟨λvs H Q E h=>h.1,?_⟩,a,F.kp,F.binds b⟩,λ_ _ _ _ _ h=>h,λ_ _ _ h=>h.elim⟩
 intros
 rename_i h
 exact absurd h (by rintro⟨_,_,_,_,_,h⟩;exact h)
theorem jV1(T:Txt K mg):Cal P w K mg base 1 "is_number" ["thing"] jQm:=
 cal3 T.f_is_number jXl λ_ _ _ _ _ _ _ hr hu nd=>
  (jJl (jJ3 (jZg (jJm jYa (by rfl) T.n_isinstance rfl (jJb (jJc 0) (jJb (e_ty rfl T.n_int rfl) jJd))) (kK3 (uQq (jJm jYa (by rfl) T.n_isinstance rfl (jJb (jJc 0) (jJb (e_ty rfl T.n_bool rfl) jJd))))))))
theorem jXh(T:Txt K mg):Cal P w K mg base 2 "is_number_of_room" ["web","thing"] jKw:=
 cal3 T.f_is_number_of_room jVr λ_ _ _ _ _ _ _ hr hu nd=>
  (jJl (jJ3 (jZg (jJt (jV1 T) (hr.mono (by decide)) (jJb (jJc 1) jJd)) (kK3 (kYq (qJ9 hu) o_lt jJj (jJc 1) (jJm jK1 (by rfl) T.n_len lJ2 (jJb (jJc 0) jJd)))))))
theorem qUq(T:Txt K mg):Cal P w K mg base 2 "is_end" ["thing"] kJl:=
 cal3 T.f_is_end kX6 λ_ _ _ _ _ _ _ hr hu nd=>
  (jJl (jJ3 (jZg (jJm jYa (by rfl) T.n_isinstance rfl (jJb (jJc 0) (jJb (e_ty rfl T.n_tuple rfl) jJd))) (jZg (jZf (jU0 hr.units) (jJm jK1 (by rfl) T.n_len lJ2 (jJb (jJc 0) jJd)) jJj (jJr _)) (jZg (jJt (jV1 T) (hr.mono (by decide)) (jJb (e_ix (ix_F hu) (jJc 0) jJj (λ_ _=>rfl)) jJd)) (kK3 (jJt (jV1 T) (hr.mono (by decide)) (jJb (e_ix (ix_F hu) (jJc 0) jJj (λ_ _=>rfl)) jJd))))))))
theorem qJ6(T:Txt K mg):Cal P w K mg base 3 "is_room" ["thing"] jYw:=
 cal3 T.f_is_room kVl λ_ _ _ _ _ _ _ hr hu nd=>
  (jJl (jJ3 (jZg (jJm jYa (by rfl) T.n_isinstance rfl (jJb (jJc 0) (jJb (e_ty rfl T.n_tuple rfl) jJd))) (kK3 (jJm (qXe rfl) (by rfl) T.n_all rfl (jJb (jKq (mask:=[fF,tT]) rfl ⟨rfl,rfl,rfl,rfl,rfl,rfl,rfl⟩ (jQx (jJc 0)) jJy (λC fp s H=>(jJp (i:=1) nd)) (λC fp s H=>jKp) (λC fp s H=>(jJt (qUq T) (hr.mono (by decide)) (jJb (jJc 1) jJd)))) jJd))))))
theorem kUe(T:Txt K mg):Cal P w K mg base 3 "leads_back" ["rooms","room","door"] jVa:=
 cal3 T.f_leads_back kJr λ_ _ _ _ _ _ _ hr hu nd=>
  (jJf (jJ6 (i:=3) nd (e_ix (ix_F hu) (e_ix (ix_F hu) (jJc 0) (jJc 1) (λ_ _=>rfl)) (jJc 2) (λ_ _=>rfl)))
   (jJf (s_if (jXt (jXs (jJt (jXh T) (hr.mono (by decide)) (jJb (jJc 0) (jJb (e_ix (ix_F hu) (jJc 3) jJj (λ_ _=>rfl)) jJd))))) (jJl (jJ3 e_bl)) jKk)
   (jJf (s_if (jXt (qK5 (qJ9 hu) o_lt jJj (e_ix (ix_F hu) (jJc 3) jJj (λ_ _=>rfl)) (jJm jK1 (by rfl) T.n_len lJ2 (jJb (e_ix (ix_F hu) (jJc 0) (e_ix (ix_F hu) (jJc 3) jJj (λ_ _=>rfl)) (λ_ _=>rfl)) jJd)))) (jJl (jJ3 e_bl)) jKk)
   (jJl (jJ3 (jZf (jU0 hr.units) (e_ix (ix_F hu) (e_ix (ix_F hu) (jJc 0) (e_ix (ix_F hu) (jJc 3) jJj (λ_ _=>rfl)) (λ_ _=>rfl)) (e_ix (ix_F hu) (jJc 3) jJj (λ_ _=>rfl)) (λ_ _=>rfl)) (jKl (jJb (jJc 1) (jJb (jJc 2) jJd))) (jJr _)))))))
theorem jZv(T:Txt K mg):Cal P w K mg base 4 "all_lead_back" ["rooms"] jQs:=
 cal3 T.f_all_lead_back jYj λ_ _ _ _ _ _ _ hr hu nd=>
  (jJf (jUy lKl rfl (qVf rfl T.n_enumerate rfl (jJb (jJc 0) jJd)) (jX6 rfl (jJz (jJp (i:=1) nd) (jJz (jJp (i:=2) nd) jUf))) (jJl (jUy lKl rfl (jQl rfl T.n_range (jJb (jJm jK1 (by rfl) T.n_len lJ2 (jJb (jJc 2) jJd)) jJd)) (jJp (i:=3) nd) (jJl (s_if (jXt (jXs (jJt (kUe T) (hr.mono (by decide)) (jJb (jJc 0) (jJb (jJc 1) (jJb (jJc 3) jJd)))))) (jJl (jJ3 e_bl)) jKk)))))
   (jJl (jJ3 e_bl)))
theorem jVq(T:Txt K mg):Cal P w K mg base 1 "first_comings" ["web","room"] jK2:=
 cal3 T.f_first_comings jYi λ_ _ _ _ _ _ _ hr hu nd=>
  (jJf (jJ6 (i:=2) nd (uQs (jJc 1) qKl))
   (jJf (jJ6 (i:=3) nd (jQe (jJb (jJc 1) jJd)))
   (jJf (qQn lKl (uYk uJ4 (jJc 3)) (jJf (jJ6 (i:=4) nd (jQe jJd))
   (jJf (jUy lKl rfl (jQx (jJc 3)) (jJp (i:=5) nd) (jJl (jUy lKl rfl (qVf rfl T.n_enumerate rfl (jJb (e_ix (ix_F hu) (jJc 0) (jJc 5) (λ_ _=>rfl)) jJd)) (jX6 rfl (jJz (jJp (i:=6) nd) (jJz (jJp (i:=7) nd) jUf))) (jJl (s_if (jK5 (kVv hu) (e_ix (ix_F hu) (jJc 7) jJj (λ_ _=>rfl)) (jJc 2) (jJr _)) (jJf (kQ1 (jKl (jJb (jJc 5) (jJb (jJc 6) jJd))) (kYn (jJc 2) (e_ix (ix_F hu) (jJc 7) jJj (λ_ _=>rfl)) (s_F hu)))
   (jJl (jYh (e_bm lQu lXl lXm jUl (jJc 4) (jJb (e_ix (ix_F hu) (jJc 7) jJj (λ_ _=>rfl)) jJd))))) jKk)))))
   (jJl (jJ6 (i:=3) nd (jJc 4))))))
   (jJl (jJ3 (jJc 2))))))
theorem qUp(T:Txt K mg):Cal P w K mg base 5 "is_web" ["thing"] kJk:=
 cal3 T.f_is_web kX5 λ_ _ _ _ _ _ _ hr hu nd=>
  (jJf (s_if (PW3.pt (w_or (jXt (jXs (jJm jYa (by rfl) T.n_isinstance rfl (jJb (jJc 0) (jJb (e_ty rfl T.n_tuple rfl) jJd))))) (kQr (jK5 (jU0 hr.units) (jJm qXd (by rfl) T.n_len lJ2 (jJb (jJc 0) jJd)) jJj (jJr _))))) (jJl (jJ3 e_bl)) jKk)
   (jJf (s_if (jXt (jXs (jJm (qXe rfl) (by rfl) T.n_all rfl (jJb (jKq (mask:=[fF,tT]) rfl ⟨rfl,rfl,rfl,rfl,rfl,rfl,rfl⟩ (jQx (jJc 0)) jJy (λC fp s H=>(jJp (i:=1) nd)) (λC fp s H=>jKp) (λC fp s H=>(jJt (qJ6 T) (hr.mono (by decide)) (jJb (jJc 1) jJd)))) jJd)))) (jJl (jJ3 e_bl)) jKk)
   (jJl (jJ3 (jZg (jJt (jZv T) (hr.mono (by decide)) (jJb (jJc 0) jJd)) (kK3 (jZf (jU0 hr.units) (jJm qXd (by rfl) T.n_len lJ2 (jJb (jJt (jVq T) (hr.mono (by decide)) (jJb (jJc 0) (jJb jJj jJd))) jJd)) (jJm qXd (by rfl) T.n_len lJ2 (jJb (jJc 0) jJd)) (jJr _))))))))
theorem qJ7(T:Txt K mg):Cal P w K mg base 1 "ends_on" ["web","room","way"] jYx:=
 cal3 T.f_ends_on kVm (λ_ _ _ _ _ _ _ hr hu nd=>
  (jJf (jJ6 (i:=3) nd (jQe jJd))
   (jJf (jJ6 (i:=4) nd (jJc 1))
   (jJf (jUy lKl rfl (jQx (jJc 2)) (jJp (i:=5) nd) (jJf (s_if (jXt (qK5 (qJ9 hu) o_lt jJj (jJc 5) (jJm jK1 (by rfl) T.n_len lJ2 (jJb (e_ix (ix_F hu) (jJc 0) (jJc 4) (λ_ _=>rfl)) jJd)))) (jJl (jJ3 qKl)) jKk)
   (jJf (jJ6 (i:=6) nd (e_ix (ix_F hu) (e_ix (ix_F hu) (jJc 0) (jJc 4) (λ_ _=>rfl)) (jJc 5) (λ_ _=>rfl)))
   (jJf (jYh (e_bm lQu lXl lXm jUl (jJc 3) (jJb (jJc 6) jJd)))
   (jJl (jJ6 (i:=4) nd (e_ix (ix_F hu) (jJc 6) jJj (λ_ _=>rfl))))))))
   (jJl (jJ3 (jJc 3))))))) (m:=by (intro xs G Q Q' hq;(repeat' (first | (refine Exists.imp λ_=> ?_) | (refine And.imp_right ?_)));intro k G' s;refine⟨λa=>hq _ _ ((k G' s).1 a),?_⟩;intros;apply hq;apply (k G' s).2<;>assumption))
theorem kX8(T:Txt K mg):Cal P w K mg base 2 "sees_all" ["web","room","way"] jXv:=
 cal3 T.f_sees_all kQ3 λ_ _ _ _ _ _ _ hr hu nd=>
  (jJf (jJ6 (i:=3) nd (jJt (qJ7 T) (hr.mono (by decide)) (jJb (jJc 0) (jJb (jJc 1) (jJb (jJc 2) jJd)))))
   (jJf (s_if (jK5 uVy (jJc 3) qKl (jJr _)) (jJl (jJ3 e_bl)) jKk)
   (jJl (jJ3 (jZf (jU0 hr.units) (uQr rfl hu (by rfl) T.n_len lJ2 (by rfl) T.n_set rfl (jJb (e_op o_addF (jQe (jJb (jJc 1) jJd)) (jKq (mask:=[fF,fF,fF,fF,tT]) rfl ⟨rfl,rfl,rfl,rfl,rfl,rfl,rfl⟩ (jQx (jJc 3)) jJy (λC fp s H=>(jJp (i:=4) nd)) (λC fp s H=>jKp) (λC fp s H=>(e_ix (ix_F hu) (jJc 4) jJj (λ_ _=>rfl))))) jJd)) (jJm jK1 (by rfl) T.n_len lJ2 (jJb (jJc 0) jJd)) (jJr _))))))
theorem qJ8(T:Txt K mg):Cal P w K mg base 1 "ends_by" ["ends","numbers"] jYy:=
 cal3 T.f_ends_by kVn λ_ _ _ _ _ _ _ hr hu nd=>
  (jJl (jJ3 (jJx jQj (by rfl) T.n_tuple rfl (jJb (jKq (mask:=[fF,fF,tT]) rfl ⟨rfl,rfl,rfl,rfl,rfl,rfl,rfl⟩ (jQx (jJc 0)) jJy (λC fp s H=>(jJp (i:=2) nd)) (λC fp s H=>jKp) (λC fp s H=>(jKl (jJb (e_ix (ix_F hu) (jJc 1) (e_ix (ix_F hu) (jJc 2) jJj (λ_ _=>rfl)) (λ_ _=>rfl)) (jJb (e_ix (ix_F hu) (jJc 2) jJj (λ_ _=>rfl)) jJd))))) jJd))))
theorem kUd(T:Txt K mg):Cal P w K mg base 2 "renumbered" ["web","numbers"] jU9:=
 cal3 T.f_renumbered kJq λ_ _ _ _ _ _ _ hr hu nd=>
  (jJf (jJ6 (i:=2) nd (jJx jZi (by rfl) T.n_list rfl (jJb (jJc 0) jJd)))
   (jJf (jUy lKl rfl (qVf rfl T.n_enumerate rfl (jJb (jJc 0) jJd)) (jX6 rfl (jJz (jJp (i:=3) nd) (jJz (jJp (i:=4) nd) jUf))) (jJl (kQ1 (jJt (qJ8 T) (hr.mono (by decide)) (jJb (jJc 4) (jJb (jJc 1) jJd))) (kYn (jJc 2) (e_ix (ix_F hu) (jJc 1) (jJc 3) (λ_ _=>rfl)) (s_F hu)))))
   (jJl (jJ3 (jJx jQj (by rfl) T.n_tuple rfl (jJb (jJc 2) jJd))))))
theorem kVt(T:Txt K mg):Cal P w K mg base 3 "told_from" ["web","room"] jVw:=
 cal3 T.f_told_from kKu λ_ _ _ _ _ _ _ hr hu nd=>
  (jJf (jJ6 (i:=2) nd (kKg rfl T.n_list rfl T.n_range rfl (jJb (jJm jK1 (by rfl) T.n_len lJ2 (jJb (jJc 0) jJd)) jJd)))
   (jJf (jUy lKl rfl (kZw rfl T.n_enumerate rfl (jJb (jJx (uQ5 rfl) (by rfl) T.n_list rfl (jJb (jJt (jVq T) (hr.mono (by decide)) (jJb (jJc 0) (jJb (jJc 1) jJd))) jJd)) jJd)) (jX6 rfl (jJz (jJp (i:=3) nd) (jJz (jJp (i:=4) nd) jUf))) (jJl (kQ1 (jJc 3) (kYn (jJc 2) (jJc 4) (s_F hu)))))
   (jJl (jJ3 (jJt (kUd T) (hr.mono (by decide)) (jJb (jJc 0) (jJb (jJx jQj (by rfl) T.n_tuple rfl (jJb (jJc 2) jJd)) jJd)))))))
theorem kJ3(T:Txt K mg):Cal P w K mg base 6 "shows_missed" ["rooms","doors","way","web"] jQa:=
 cal3 T.f_shows_missed jY1 λ_ _ _ _ _ _ _ hr hu nd=>
  (jJf (s_if (PW3.pt (w_or (jXt (jXs (jJt (qUp T) (hr.mono (by decide)) (jJb (jJc 3) jJd)))) (w_or (jK5 o_gt (jJm jK1 (by rfl) T.n_len lJ2 (jJb (jJc 3) jJd)) (jJc 0) (jJr _)) (kQr (jXt (jXs (jJm (qXe rfl) (by rfl) T.n_all rfl (jJb (jKq (mask:=[fF,fF,fF,fF,tT]) rfl ⟨rfl,rfl,rfl,rfl,rfl,rfl,rfl⟩ (jQx (jJc 3)) jJy (λC fp s H=>(jJp (i:=4) nd)) (λC fp s H=>jKp) (λC fp s H=>(jZf (jU0 hr.units) (jJm jK1 (by rfl) T.n_len lJ2 (jJb (jJc 4) jJd)) (jJc 1) (jJr _)))) jJd)))))))) (jJl (jJ3 e_bl)) jKk)
   (jJl (jJ3 (jZg (jZf (jU0 hr.units) (jJt (kVt T) (hr.mono (by decide)) (jJb (jJc 3) (jJb jJj jJd))) (jJc 3) (jJr _)) (kK3 (uQq (jJt (kX8 T) (hr.mono (by decide)) (jJb (jJc 3) (jJb jJj (jJb (jJc 2) jJd))))))))))
theorem qYt(T:Txt K mg):Cal P w K mg base 1 "_law_box" ["_law_script","_law_k"] kQz:=
 cal3 T.f_l_box qJz λ_ _ _ _ _ _ _ hr hu nd=>
  (jJf (jJ6 (i:=2) nd (qVy (jK5 o_lt (jJc 1) (jJm jK1 (by rfl) T.n_len lJ2 (jJb (jJc 0) jJd)) (jJr _)) (e_ix (ix_F hu) (jJc 0) (jJc 1) (λ_ _=>rfl)) jJj))
   (jJf (jJ6 (i:=3) nd (qVy (jK5 o_ge (jJm uX0 (by rfl) T.n_abs rfl (jJb (jJc 2) jJd)) (e_op uY3 jJj jJj) (jJr _)) (jJm uX0 (by rfl) T.n_abs rfl (jJb (jJc 2) jJd)) jJj))
   (jJl (jJ3 (jQe (jJb (jJc 3) (jJb (e_op jXj (e_op o_mulF (e_op o_addF (e_op o_addF (e_op jXj (jJc 2) jJj) (e_op o_mulF jJj (jJc 1))) jJj) jJj) jJj) (jJb jJj jJd))))))))
theorem jKb(T:Txt K mg):Cal P w K mg base 1 "_law_take" ["_law_box_here","_law_many"] jJq:=
 cal3 T.f_l_take kX1 λ_ _ _ _ _ _ _ hr hu nd=>
  (jJf (s_if (jK5 o_gt (e_ix (ix_F hu) (jJc 0) jJj (λ_ _=>rfl)) jJj (jJr _)) (jJf (jJ6 (i:=2) nd (e_op jXj (e_ix (ix_F hu) (jJc 0) jJj (λ_ _=>rfl)) (jJc 1)))
   (jJf (kQ1 (e_op uJm (e_ix (ix_F hu) (jJc 0) jJj (λ_ _=>rfl)) (jJc 1)) (kYn (jJc 0) jJj (s_F hu)))
   (jJl (jJ3 (jJc 2))))) jKk)
   (jJf (kQ1 (e_op o_addF (e_ix (ix_F hu) (jJc 0) jJj (λ_ _=>rfl)) jJj) (kYn (jJc 0) jJj (s_F hu)))
   (jJf (jJ6 (i:=3) nd (e_op jXj (e_op o_mulF (e_op o_addF (e_ix (ix_F hu) (jJc 0) jJj (λ_ _=>rfl)) (e_op o_mulF jJj (e_ix (ix_F hu) (jJc 0) jJj (λ_ _=>rfl)))) (e_op o_addF jJj (e_ix (ix_F hu) (jJc 0) jJj (λ_ _=>rfl)))) jJj))
   (jJf (kQ1 (e_op jXj (e_op o_addF (e_op o_mulF (jJc 3) (e_op o_addF (e_op jXj (jJc 3) jJj) jJj)) (e_ix (ix_F hu) (jJc 0) jJj (λ_ _=>rfl))) jJj) (kYn (jJc 0) jJj (s_F hu)))
   (jJl (jJ3 (e_op jXj (e_op uJm (e_op jXj (e_op o_mulF (e_ix (ix_F hu) (jJc 0) jJj (λ_ _=>rfl)) (e_op o_addF (e_op jXj (e_ix (ix_F hu) (jJc 0) jJj (λ_ _=>rfl)) jJj) jJj)) jJj) jJj) (jJc 1))))))))
theorem qJ5(T:Txt K mg):Cal P w K mg base 1 "_law_alike" ["_law_found","_law_due_here"] jV6:=
 cal3 T.f_l_alike kVk λ_ _ _ _ _ _ _ hr hu nd=>
  (jJf (s_if (jXs (jJm jYa (by rfl) T.n_isinstance rfl (jJb (jJc 1) (jJb (jKl (jJb (e_ty rfl T.n_list rfl) (jJb (e_ty rfl T.n_tuple rfl) jJd))) jJd)))) kY7 jKk)
   (jJf (s_if (PW3.pt (w_or (jK5 uVy (jJc 1) qKl (jJr _)) (kQr (jXs (jJm jYa (by rfl) T.n_isinstance rfl (jJb (jJc 1) (jJb (e_ty rfl T.n_str rfl) jJd))))))) kY7 jKk)
   (jJl (jJ3 (jZg (jJm jYa (by rfl) T.n_isinstance rfl (jJb (jJc 0) (jJb (e_ty rfl T.n_int rfl) jJd))) (jZg (jZf (jU0 hr.units) (jJm jYa (by rfl) T.n_isinstance rfl (jJb (jJc 0) (jJb (e_ty rfl T.n_bool rfl) jJd))) (jJm jYa (by rfl) T.n_isinstance rfl (jJb (jJc 1) (jJb (e_ty rfl T.n_bool rfl) jJd))) (jJr _)) (kK3 (jZf (jU0 hr.units) (jJc 0) (jJc 1) (jJr _)))))))))
theorem jUc(T:Txt K mg):Cal P w K mg base 1 "_law_told" ["_law_web","_law_room"] jJ9:=
 cal3 T.f_l_told kX0 λ_ _ _ _ _ _ _ hr hu nd=>
  (jJf (jJ6 (i:=2) nd (jQe (jJb (jJc 1) jJd)))
   (jJf (jJ6 (i:=3) nd jJj)
   (jJf (qQn lKl (jK5 o_lt (jJc 3) (jJm jK1 (by rfl) T.n_len lJ2 (jJb (jJc 2) jJd)) (jJr _)) (jJf (jUy lKl rfl (jQx (e_ix (ix_F hu) (jJc 0) (e_ix (ix_F hu) (jJc 2) (jJc 3) (λ_ _=>rfl)) (λ_ _=>rfl))) (jX6 rfl (jJz (jJp (i:=4) nd) (jJz (jJp (i:=5) nd) jUf))) (jJl (s_if (jK5 (kVv hu) (jJc 4) (jJc 2) (jJr _)) (jJl (jYh (e_bm lQu lXl lXm jUl (jJc 2) (jJb (jJc 4) jJd)))) jKk)))
   (jJl (jJ6 (i:=3) nd (e_op o_addF (jJc 3) jJj)))))
   (jJf (jJ6 (i:=6) nd (jJx (uQ7 rfl) (by rfl) T.n_dict rfl (jJb (jKq (mask:=[fF,fF,fF,fF,fF,fF,fF,tT,tT]) rfl ⟨rfl,rfl,rfl,rfl,rfl,rfl,rfl⟩ (kZw rfl T.n_enumerate rfl (jJb (jJc 2) jJd)) (kZx (jV2 jJy jQy (jV2 jJy jQy kZy jZm) (kUt jQy jZm))) (λC fp s H=>(jX6 rfl (jJz (jJp (i:=7) nd) (jJz (jJp (i:=8) nd) jUf)))) (λC fp s H=>jKp) (λC fp s H=>(jKl (jJb (jJc 8) (jJb (jJc 7) jJd))))) jJd)))
   (jJl (jJ3 (jJx jQj (by rfl) T.n_tuple rfl (jJb (jKq (mask:=[fF,fF,fF,fF,fF,fF,fF,fF,tT]) rfl ⟨rfl,rfl,rfl,rfl,rfl,rfl,rfl⟩ (jQx (jJc 2)) jJy (λC fp s H=>(jJp (i:=8) nd)) (λC fp s H=>jKp) (λC fp s H=>(jJx jQj (by rfl) T.n_tuple rfl (jJb (jKq (mask:=[fF,fF,fF,fF,tT,tT,fF,fF,fF]) rfl ⟨rfl,rfl,rfl,rfl,rfl,rfl,rfl⟩ (jQx (e_ix (ix_F hu) (jJc 0) (jJc 8) (λ_ _=>rfl))) (kZx (jV2 jJy jQy (jV2 jJy jQy kZy jZm) (kUt jQy jZm))) (λC fp s H=>(jX6 rfl (jJz (jJp (i:=4) nd) (jJz (jJp (i:=5) nd) jUf)))) (λC fp s H=>jKp) (λC fp s H=>(jKl (jJb (e_ix (ix_F hu) (jJc 6) (jJc 4) (λ_ _=>rfl)) (jJb (jJc 5) jJd))))) jJd)))) jJd))))))))
theorem jJ0{j:Nat}{sp':Sp3}(T:Txt K mg)(C_l_pairings:Cal P w K mg base (j) "_law_pairings" ["_law_ends"] sp)(h:∀xs G Q,sp' xs G Q->jKn sp {nx:=λ_ G'=>Q .non G',rt:=Q} (jVo jV4 xs) G)(m:Mono sp':=by unfold jXf;(intro xs G Q Q' hq;(repeat' (first | (refine Exists.imp λ_=> ?_) | (refine And.imp_right ?_)));intro k;intros;apply hq;apply k<;>assumption))(n:∀xs G Q,sp' xs G Q->xs.length=(["_law_ends"]:List Str).length:=by (intro xs G Q h;repeat (first | exact (lKa List.length h.1).trans rfl | obtain⟨_,h⟩:=h))):Cal P w K mg base (j+1) "_law_pairings" ["_law_ends"] sp':=
 cal3 T.f_l_pairings h (λ_ _ _ _ _ _ _ hr hu nd=>(jJf (s_if (jK5 (jU0 hr.units) (jJc 0) (jQe jJd) (jJr _)) (jJl (jJ3 (jQe (jJb (jQe jJd) jJd)))) jKk)
   (jJf (kQ1 (jKl (jJb (e_ix (ix_F hu) (jJc 0) jJj (λ_ _=>rfl)) (jJb (jQd sl_F (jJc 0) (jQ0 jJj) jUz) jJd))) (jX6 rfl (jJz (jJp (i:=1) nd) (jJz (jJp (i:=2) nd) jUf))))
   (jJf (uJa (i:=3) (mask:=[fF,fF,fF,fF,fF,fF,tT]) rfl nd ⟨rfl,rfl,rfl,rfl,rfl,rfl,rfl⟩ (jQx (jJt C_l_pairings hr (jJb (jJc 2) jJd))) jJy (λC fp s H=>(jJp (i:=6) nd)) (λC fp s H=>jKp) (λC fp s H=>(e_op o_addF (jQe (jJb (jKl (jJb (jJc 1) (jJb (jJc 1) jJd))) jJd)) (jJc 6))))
   (jJf (jUy lKl rfl (kZw rfl T.n_enumerate rfl (jJb (jJc 2) jJd)) (jX6 rfl (jJz (jJp (i:=4) nd) (jJz (jJp (i:=5) nd) jUf))) (jJl (jYh (e_bm lQu mJb mJc kUn (jJc 3) (jJb (jKq (mask:=[fF,fF,fF,fF,fF,fF,tT]) rfl ⟨rfl,rfl,rfl,rfl,rfl,rfl,rfl⟩ (jQx (jJt C_l_pairings hr (jJb (e_op o_addF (jQd sl_F (jJc 2) jUz (jQ0 (jJc 4))) (jQd sl_F (jJc 2) (jQ0 (e_op o_addF (jJc 4) jJj)) jUz)) jJd))) jJy (λC fp s H=>(jJp (i:=6) nd)) (λC fp s H=>jKp) (λC fp s H=>(e_op o_addF (jQe (jJb (jKl (jJb (jJc 1) (jJb (jJc 5) jJd))) jJd)) (jJc 6)))) jJd)))))
   (jJl (jJ3 (jJc 3)))))))) (m:=m) (n:=n)
theorem kUf(T:Txt K mg):Cal P w K mg base 10 "_law_pairings" ["_law_ends"] (jXf 9):=
 jJ0 (j:=9) (sp':=jXf 9) T (jJ0 (j:=8) (sp':=jXf 8) T (jJ0 (j:=7) (sp':=jXf 7) T (jJ0 (j:=6) (sp':=jXf 6) T (jJ0 (j:=5) (sp':=jXf 5) T (jJ0 (j:=4) (sp':=jXf 4) T (jJ0 (j:=3) (sp':=jXf 3) T (jJ0 (j:=2) (sp':=jXf 2) T (jJ0 (j:=1) (sp':=jXf 1) T (jJ0 (j:=0) (sp':=jXf 0) T (cal0 T.f_l_pairings) (jZs _)) (jJ1 0)) (jJ1 1)) (jJ1 2)) (jJ1 3)) (jJ1 4)) (jJ1 5)) (jJ1 6)) (jJ1 7)) (jJ1 8)
theorem kUh(T:Txt K mg):Cal P w K mg base 1 "_law_all_ends" ["_law_wide","_law_doors"] jVd:=
 cal3 T.f_l_all_ends kJu λ_ _ _ _ _ _ _ hr hu nd=>
  (jJf (jJ6 (i:=2) nd (jQe jJd))
   (jJf (jUy lKl rfl (jQl rfl T.n_range (jJb (jJc 0) jJd)) (jJp (i:=3) nd) (jJl (jYh (e_bm lQu mJb mJc kUn (jJc 2) (jJb (jKq (mask:=[fF,fF,fF,fF,tT]) rfl ⟨rfl,rfl,rfl,rfl,rfl,rfl,rfl⟩ (jQl rfl T.n_range (jJb (jJc 1) jJd)) jJy (λC fp s H=>(jJp (i:=4) nd)) (λC fp s H=>jKp) (λC fp s H=>(jKl (jJb (jJc 3) (jJb (jJc 4) jJd))))) jJd)))))
   (jJl (jJ3 (jJc 2)))))
theorem kVu(T:Txt K mg):Cal P w K mg base 11 "_law_even" ["_law_wide","_law_doors"] jUw:=
 cal3 T.f_l_even kX3 λ_ _ _ _ _ _ _ hr hu nd=>
  (jJf (jJ6 (i:=2) nd (jQe jJd))
   (jJf (jUy lKl rfl (jQx (jJt (kUf T) (hr.mono (by decide)) (jJb (jJt (kUh T) (hr.mono (by decide)) (jJb (jJc 0) (jJb (jJc 1) jJd))) jJd))) (jJp (i:=3) nd) (jJf (jJ6 (i:=4) nd (jJx (uQ6 rfl hu) (by rfl) T.n_dict rfl (jJb (e_op o_addF (jJc 3) (jKq (mask:=[fF,fF,fF,fF,fF,fF,tT,tT,fF,fF]) rfl ⟨rfl,rfl,rfl,rfl,rfl,rfl,rfl⟩ (jQx (jJc 3)) (kZx (jV2 jJy jQy (jV2 jJy jQy kZy jZm) (kUt jQy jZm))) (λC fp s H=>(jX6 rfl (jJz (jJp (i:=6) nd) (jJz (jJp (i:=7) nd) jUf)))) (λC fp s H=>jKp) (λC fp s H=>(jKl (jJb (jJc 7) (jJb (jJc 6) jJd)))))) jJd)))
   (jJf (jJ6 (i:=5) nd (jJx jQj (by rfl) T.n_tuple rfl (jJb (uQt (mask:=[fF,fF,fF,fF,fF,fF,fF,fF,tT,fF]) rfl ⟨rfl,rfl,rfl,rfl,rfl,rfl,rfl⟩ (jQl rfl T.n_range (jJb (jJc 0) jJd)) jJy (λC fp s H=>(jJp (i:=8) nd)) (λC fp s H=>jKp) (λC fp s H=>(jJx jQj (by rfl) T.n_tuple rfl (jJb (jKq (mask:=[fF,fF,fF,fF,fF,fF,fF,fF,fF,tT]) rfl ⟨rfl,rfl,rfl,rfl,rfl,rfl,rfl⟩ (jQl rfl T.n_range (jJb (jJc 1) jJd)) jJy (λC fp s H=>(jJp (i:=9) nd)) (λC fp s H=>jKp) (λC fp s H=>(e_ix (ix_F hu) (jJc 4) (jKl (jJb (jJc 8) (jJb (jJc 9) jJd))) (λ_ _=>rfl)))) jJd)))) jJd)))
   (jJl (s_if (jK5 (jU0 hr.units) (jJt (jUc T) (hr.mono (by decide)) (jJb (jJc 5) (jJb jJj jJd))) (jJc 5) (jJr _)) (jJl (jYh (e_bm lQu lXl lXm jUl (jJc 2) (jJb (jJc 5) jJd)))) jKk)))))
   (jJl (jJ3 (jJm (uQ4 hu) (by rfl) T.n_sorted rfl (jJb (jJc 2) jJd))))))
theorem qJ4(T:Txt K mg):Cal P w K mg base 1 "_law_sizes" ["_law_most","_law_doors"] jV5:=
 cal3 T.f_l_sizes kVj λ_ _ _ _ _ _ _ hr hu nd=>
  (jJf (jJ6 (i:=2) nd (jQe jJd))
   (jJf (jUy lKl rfl (kUq rfl T.n_range (jJb jJj (jJb jJj jJd))) (jJp (i:=3) nd) (jJf (uJa (i:=4) (mask:=[fF,fF,fF,fF,fF,tT]) rfl nd ⟨rfl,rfl,rfl,rfl,rfl,rfl,rfl⟩ (kUq rfl T.n_range (jJb (jJc 1) (jJb jJj jJd))) jJy (λC fp s H=>(jJp (i:=5) nd)) (λC fp s H=>(qVe (jK5 (qJ9 hu) (e_op o_mulF (jJc 3) (jJc 5)) (jJc 0) (jJr _)))) (λC fp s H=>(jJc 5)))
   (jJl (jYh (e_bm lQu mJb mJc kUn (jJc 2) (jJb (jKq (mask:=[fF,fF,fF,fF,fF,tT]) rfl ⟨rfl,rfl,rfl,rfl,rfl,rfl,rfl⟩ (jQx (jJc 4)) jJy (λC fp s H=>(jJp (i:=5) nd)) (λC fp s H=>(qVe (PW3.pt (w_or (jK5 o_gt (jJc 5) jJj (jJr _)) (kQr (jK5 o_lt (jJc 3) jJj (jJr _))))))) (λC fp s H=>(jKl (jJb (jJc 3) (jJb (jJc 5) jJd))))) jJd))))))
   (jJl (jJ3 (jJc 2)))))
theorem qYr(T:Txt K mg):Cal P w K mg base 2 "_law_way" ["_law_box_here","_law_doors","_law_many"] jZ2:=
 cal3 T.f_l_way qJx λ_ _ _ _ _ _ _ hr hu nd=>
  (jJl (jJ3 (jJx jQj (by rfl) T.n_tuple rfl (jJb (jKq (mask:=[fF,fF,fF,tT]) rfl ⟨rfl,rfl,rfl,rfl,rfl,rfl,rfl⟩ (jQl rfl T.n_range (jJb (jJc 2) jJd)) jJy (λC fp s H=>(jJp (i:=3) nd)) (λC fp s H=>jKp) (λC fp s H=>(jJt (jKb T) (hr.mono (by decide)) (jJb (jJc 0) (jJb (jJc 1) jJd))))) jJd))))
theorem kJ4(T:Txt K mg):Cal P w K mg base 1 "_law_seen_rooms" ["_law_web","_law_room","_law_way_here"] jQ7:=
 cal3 T.f_l_seen_rooms jY2 λ_ _ _ _ _ _ _ hr hu nd=>
  (jJf (jJ6 (i:=3) nd (jQe (jJb (jJc 1) jJd)))
   (jJf (jUy lKl rfl (jQx (jJc 2)) (jJp (i:=4) nd) (jJf (jJ6 (i:=1) nd (e_ix (ix_F hu) (e_ix (ix_F hu) (e_ix (ix_F hu) (jJc 0) (jJc 1) (λ_ _=>rfl)) (jJc 4) (λ_ _=>rfl)) jJj (λ_ _=>rfl)))
   (jJl (jYh (e_bm lQu lXl lXm jUl (jJc 3) (jJb (jJc 1) jJd))))))
   (jJl (jJ3 (uQp rfl hu (by rfl) T.n_sorted rfl (by rfl) T.n_set rfl (jJb (jJc 3) jJd))))))
theorem kYb(T:Txt K mg):Cal P w K mg base 2 "_law_folded" ["_law_script","_law_many"] jVc:=
 cal3 T.f_l_folded kQ6 λ_ _ _ _ _ _ _ hr hu nd=>
  (jJf (jJ6 (i:=2) nd (jJx jZi (by rfl) T.n_list rfl (jJb (jQd sl_F (jJc 0) jUz (jQ0 (jJc 1))) jJd)))
   (jJf (jUy lKl rfl (kZw rfl T.n_enumerate rfl (jJb (jQd sl_F (jJc 0) (jQ0 (jJc 1)) (jQ0 jJj)) jJd)) (jX6 rfl (jJz (jJp (i:=3) nd) (jJz (jJp (i:=4) nd) jUf))) (jJl (kQ1 (e_op o_addF (e_ix (ix_F hu) (jJc 2) (e_op jXj (jJc 3) (jJc 1)) (λ_ _=>rfl)) (e_op o_mulF (jJc 4) (e_op o_addF (jJc 3) jJj))) (kYn (jJc 2) (e_op jXj (jJc 3) (jJc 1)) (s_F hu)))))
   (jJl (jJ3 (jKq (mask:=[fF,fF,fF,tT,fF]) rfl ⟨rfl,rfl,rfl,rfl,rfl,rfl,rfl⟩ (jQl rfl T.n_range (jJb (jJm (uXy rfl) (by rfl) T.n_max rfl (jJb jJj (jJb (jJm jK1 (by rfl) T.n_len lJ2 (jJb (jJc 2) jJd)) jJd))) jJd)) jJy (λC fp s H=>(jJp (i:=3) nd)) (λC fp s H=>jKp) (λC fp s H=>(jJt (qYt T) (hr.mono (by decide)) (jJb (jJc 2) (jJb (jJc 3) jJd)))))))))
theorem kKy(T:Txt K mg):Cal P w K mg base 1 "_law_is_number" ["_law_thing"] jUo:=
 cal3 T.f_l_is_number jZt λ_ _ _ _ _ _ _ hr hu nd=>
  (jJl (jJ3 (jZg (jJm jYa (by rfl) T.n_isinstance rfl (jJb (jJc 0) (jJb (e_ty rfl T.n_int rfl) jJd))) (kK3 (uQq (jJm jYa (by rfl) T.n_isinstance rfl (jJb (jJc 0) (jJb (e_ty rfl T.n_bool rfl) jJd))))))))
theorem kYa(T:Txt K mg):Cal P w K mg base 2 "_law_is_end" ["_law_web","_law_thing"] jXx:=
 cal3 T.f_l_is_end kQ5 λ_ _ _ _ _ _ _ hr hu nd=>
  (jJf (s_if (PW3.pt (w_or (jXt (jXs (jJm jYa (by rfl) T.n_isinstance rfl (jJb (jJc 1) (jJb (e_ty rfl T.n_tuple rfl) jJd))))) (w_or (jK5 (uKs hr.units) (jJm jK1 (by rfl) T.n_len lJ2 (jJb (jJc 1) jJd)) jJj (jJr _)) (kQr (jXt (jXs (jJm (qXe rfl) (by rfl) T.n_all rfl (jJb (jKq (mask:=[fF,fF,tT]) rfl ⟨rfl,rfl,rfl,rfl,rfl,rfl,rfl⟩ (jQx (jJc 1)) jJy (λC fp s H=>(jJp (i:=2) nd)) (λC fp s H=>jKp) (λC fp s H=>(jJt (kKy T) (hr.mono (by decide)) (jJb (jJc 2) jJd)))) jJd)))))))) (jJl (jJ3 e_bl)) jKk)
   (jJl (jJ3 (jZg (kYq (qJ9 hu) o_lt jJj (e_ix (ix_F hu) (jJc 1) jJj (λ_ _=>rfl)) (jJm jK1 (by rfl) T.n_len lJ2 (jJb (jJc 0) jJd))) (kK3 (kYq (qJ9 hu) o_lt jJj (e_ix (ix_F hu) (jJc 1) jJj (λ_ _=>rfl)) (jJm jK1 (by rfl) T.n_len lJ2 (jJb (e_ix (ix_F hu) (jJc 0) (e_ix (ix_F hu) (jJc 1) jJj (λ_ _=>rfl)) (λ_ _=>rfl)) jJd))))))))
theorem kX9(T:Txt K mg):Cal P w K mg base 3 "_law_is_web" ["_law_web"] jXw:=
 cal3 T.f_l_is_web kQ4 λ_ _ _ _ _ _ _ hr hu nd=>
  (jJf (s_if (PW3.pt (w_or (jXt (jXs (jJm jYa (by rfl) T.n_isinstance rfl (jJb (jJc 0) (jJb (e_ty rfl T.n_tuple rfl) jJd))))) (w_or (jK5 (uVz hr.units) (jJc 0) (jKl jJd) (jJr _)) (kQr (jXt (jXs (jJm (qXe rfl) (by rfl) T.n_all rfl (jJb (jKq (mask:=[fF,tT,fF,fF,fF]) rfl ⟨rfl,rfl,rfl,rfl,rfl,rfl,rfl⟩ (jQx (jJc 0)) jJy (λC fp s H=>(jJp (i:=1) nd)) (λC fp s H=>jKp) (λC fp s H=>(jJm jYa (by rfl) T.n_isinstance rfl (jJb (jJc 1) (jJb (e_ty rfl T.n_tuple rfl) jJd))))) jJd)))))))) (jJl (jJ3 e_bl)) jKk)
   (jJf (jUy lKl rfl (qVf rfl T.n_enumerate rfl (jJb (jJc 0) jJd)) (jX6 rfl (jJz (jJp (i:=1) nd) (jJz (jJp (i:=2) nd) jUf))) (jJl (jUy lKl rfl (qVf rfl T.n_enumerate rfl (jJb (jJc 2) jJd)) (jX6 rfl (jJz (jJp (i:=3) nd) (jJz (jJp (i:=4) nd) jUf))) (jJl (s_if (PW3.pt (w_or (jXt (jXs (jJt (kYa T) (hr.mono (by decide)) (jJb (jJc 0) (jJb (jJc 4) jJd))))) (kQr (jK5 (uY4 hr.units) (e_ix (ix_F hu) (e_ix (ix_F hu) (jJc 0) (e_ix (ix_F hu) (jJc 4) jJj (λ_ _=>rfl)) (λ_ _=>rfl)) (e_ix (ix_F hu) (jJc 4) jJj (λ_ _=>rfl)) (λ_ _=>rfl)) (jKl (jJb (jJc 1) (jJb (jJc 3) jJd))) (jJr _))))) (jJl (jJ3 e_bl)) jKk)))))
   (jJl (jJ3 (jZf (uVz hr.units) (jJm jK1 (by rfl) T.n_len lJ2 (jJb (jJt (jUc T) (hr.mono (by decide)) (jJb (jJc 0) (jJb jJj jJd))) jJd)) (jJm jK1 (by rfl) T.n_len lJ2 (jJb (jJc 0) jJd)) (jJr _))))))
theorem qYs(T:Txt K mg):Cal P w K mg base 4 "_law_due" ["_law_wide","_law_doors","_law_way_here","_law_web"] jZ3:=
 cal3 T.f_l_due qJy λ_ _ _ _ _ _ _ hr hu nd=>
  (jJf (s_if (PW3.pt (w_or (jXt (jXs (jJt (kX9 T) (hr.mono (by decide)) (jJb (jJc 3) jJd)))) (w_or (jK5 o_gt (jJm jK1 (by rfl) T.n_len lJ2 (jJb (jJc 3) jJd)) (jJc 0) (jJr _)) (kQr (jK5 (uKr hr.units) (jKq (mask:=[fF,fF,fF,fF,tT]) rfl ⟨rfl,rfl,rfl,rfl,rfl,rfl,rfl⟩ (jQx (jJc 3)) jJy (λC fp s H=>(jJp (i:=4) nd)) (λC fp s H=>(qVe (jK5 (uKs hr.units) (jJm jK1 (by rfl) T.n_len lJ2 (jJb (jJc 4) jJd)) (jJc 1) (jJr _)))) (λC fp s H=>(jJc 4))) (jQe jJd) (jJr _)))))) (jJl (jJ3 e_bl)) jKk)
   (jJl (jJ3 (jZg (jZf (jU0 hr.units) (jJt (jUc T) (hr.mono (by decide)) (jJb (jJc 3) (jJb jJj jJd))) (jJc 3) (jJr _)) (kK3 (jZf o_lt (jJm jK1 (by rfl) T.n_len lJ2 (jJb (jJt (kJ4 T) (hr.mono (by decide)) (jJb (jJc 3) (jJb jJj (jJb (jJc 2) jJd)))) jJd)) (jJm jK1 (by rfl) T.n_len lJ2 (jJb (jJc 3) jJd)) (jJr _)))))))
theorem jKo(T:Txt K mg):Cal P w K mg base 1 "_law_with_end" ["_law_web","_law_room","_law_door","_law_end"] jJg:=
 cal3 T.f_l_with_end kJs λ_ _ _ _ _ _ _ hr hu nd=>
  (jJf (jJ6 (i:=4) nd (e_op jKm (e_op jKm (jQd sl_F (e_ix (ix_F hu) (jJc 0) (jJc 1) (λ_ _=>rfl)) jUz (jQ0 (jJc 2))) (jKl (jJb (jJc 3) jJd))) (jQd sl_F (e_ix (ix_F hu) (jJc 0) (jJc 1) (λ_ _=>rfl)) (jQ0 (e_op jKm (jJc 2) jJj)) jUz)))
   (jJl (jJ3 (e_op jKm (e_op jKm (jQd sl_F (jJc 0) jUz (jQ0 (jJc 1))) (jKl (jJb (jJc 4) jJd))) (jQd sl_F (jJc 0) (jQ0 (e_op jKm (jJc 1) jJj)) jUz)))))
theorem qUo(T:Txt K mg):Cal P w K mg base 2 "_law_bent" ["_law_box_here","_law_web","_law_doors"] jYf:=
 cal3 T.f_l_bent kX4 λ_ _ _ _ _ _ _ hr hu nd=>
  (jJf (jJ6 (i:=3) nd (jJm jK1 (by rfl) T.n_len lJ2 (jJb (jJc 1) jJd)))
   (jJf (uYn (i:=4) (j:=5) rfl nd (by decide) (jJb (jJt (jKb T) (hr.mono (by decide)) (jJb (jJc 0) (jJb (jJc 3) jJd))) (jJb (jJt (jKb T) (hr.mono (by decide)) (jJb (jJc 0) (jJb (jJc 2) jJd))) jJd)))
   (jJf (jJ6 (i:=6) nd (e_ix (ix_F hu) (e_ix (ix_F hu) (jJc 1) (jJc 4) (λ_ _=>rfl)) (jJc 5) (λ_ _=>rfl)))
   (jJf (jJ6 (i:=7) nd (jQe (jJb (jQd sl_F (jJc 1) jUz (jQ0 (e_un uUn jJj))) (jJb (e_op jKm (jJc 1) (jQd sl_F (jJc 1) jUz (jQ0 jJj))) (jJb (e_op jKm (jJc 1) (jKl (jJb (jKl jJd) jJd))) (jJb (jJx jZi (by rfl) T.n_list rfl (jJb (jJc 1) jJd)) (jJb (jJx jQj (by rfl) T.n_tuple rfl (jJb (jKq (mask:=[fF,fF,fF,fF,fF,fF,fF,fF,tT]) rfl ⟨rfl,rfl,rfl,rfl,rfl,rfl,rfl⟩ (jQx (jJc 1)) jJy (λC fp s H=>(jJp (i:=8) nd)) (λC fp s H=>jKp) (λC fp s H=>(jJx jZi (by rfl) T.n_list rfl (jJb (jJc 8) jJd)))) jJd)) jJd)))))))
   (jJf (jJ6 (i:=7) nd (e_op jKm (jJc 7) (jQe (jJb (jJt (jKo T) (hr.mono (by decide)) (jJb (jJc 1) (jJb (jJc 4) (jJb (jJc 5) (jJb (jKl (jJb (e_op jKm (e_ix (ix_F hu) (jJc 6) jJj (λ_ _=>rfl)) (jJc 3)) (jJb (e_ix (ix_F hu) (jJc 6) jJj (λ_ _=>rfl)) jJd))) jJd))))) (jJb (jJt (jKo T) (hr.mono (by decide)) (jJb (jJc 1) (jJb (jJc 4) (jJb (jJc 5) (jJb qKl jJd))))) jJd)))))
   (jJf (jJ6 (i:=7) nd (e_op jKm (jJc 7) (jQe (jJb (jJt (jKo T) (hr.mono (by decide)) (jJb (jJc 1) (jJb (jJc 4) (jJb (jJc 5) (jJb (jKl (jJb (e_ix (ix_F hu) (jJc 6) jJj (λ_ _=>rfl)) (jJb (e_op uKp (e_ix (ix_F hu) (jJc 6) jJj (λ_ _=>rfl)) (jJc 2)) jJd))) jJd))))) (jJb (e_op jKm (jQd sl_F (jJc 1) jUz (jQ0 (jJc 4))) (jKl (jJb (e_op jKm (e_ix (ix_F hu) (jJc 1) (jJc 4) (λ_ _=>rfl)) (jKl (jJb (jKl (jJb jJj (jJb jJj jJd))) jJd))) jJd))) jJd)))))
   (jJf (jJ6 (i:=7) nd (e_op jKm (jJc 7) (jQe (jJb (jJt (jKo T) (hr.mono (by decide)) (jJb (jJc 1) (jJb (jJc 4) (jJb (jJc 5) (jJb (jKl (jJb (e_ix (ix_F hu) (jJc 6) jJj (λ_ _=>rfl)) (jJb uXv jJd))) jJd))))) (jJb (jJt (jKo T) (hr.mono (by decide)) (jJb (jJc 1) (jJb (jJc 4) (jJb (jJc 5) (jJb (jJx jZi (by rfl) T.n_list rfl (jJb (jJc 6) jJd)) jJd))))) (jJb (jKl (jJb (jKl jJd) jJd)) jJd))))))
   (jJf (jJ6 (i:=7) nd (e_op jKm (jJc 7) (jQe (jJb (jJt (jKo T) (hr.mono (by decide)) (jJb (jJc 1) (jJb (jJc 4) (jJb (jJc 5) (jJb (jKl (jJb (jZf (jU0 hr.units) (e_ix (ix_F hu) (jJc 6) jJj (λ_ _=>rfl)) jJj (jJr _)) (jJb (e_ix (ix_F hu) (jJc 6) jJj (λ_ _=>rfl)) jJd))) jJd))))) (jJb (jKl jJd) (jJb qKl (jJb jJj (jJb uXv (jJb (e_ix (ix_F hu) (jJc 1) (jJc 4) (λ_ _=>rfl)) (jJb e_bl (jJb (jQe (jJb (jQe jJd) jJd)) jJd)))))))))))
   (jJf (jJ6 (i:=7) nd (e_op jKm (jJc 7) (jQe (jJb (jJt (jKo T) (hr.mono (by decide)) (jJb (jJc 1) (jJb (jJc 4) (jJb (jJc 5) (jJb (e_ix (ix_F hu) (e_ix (ix_F hu) (jJc 1) (jJc 4) (λ_ _=>rfl)) (e_op jXj (e_op jKm (jJc 5) jJj) (jJc 2)) (λ_ _=>rfl)) jJd))))) (jJb (uXw (jJc 1) (jQ0 (e_un uUn jJj))) (jJb (jJt (jUc T) (hr.mono (by decide)) (jJb (jJc 1) (jJb (jJc 4) jJd))) jJd))))))
   (jJl (jJ3 (e_ix (ix_F hu) (jJc 7) (jJt (jKb T) (hr.mono (by decide)) (jJb (jJc 0) (jJb (jJm jK1 (by rfl) T.n_len lJ2 (jJb (jJc 7) jJd)) jJd))) (λ_ _=>rfl)))))))))))))
theorem kJ5(T:Txt K mg):Cal P w K mg base 1 "_law_ring" ["_law_many","_law_doors"] jUv:=
 cal3 T.f_l_ring kX2 λ_ _ _ _ _ _ _ hr hu nd=>
  (PSsi.out (kQy (uYm (jK5 (jU0 hr.units) (jJc 1) jJj (jJr _)) (qQf (uU2 (uZp (ix_F hu) (uXu (jQg (jZn (jQg (jZn (jQg (jZn (jQg kQl (jQg kQl jYv))) jYv)) jYv)) (jQg (jZn (jQg (jZn (jQg (jZn (jQg kQl (jQg kQl jYv))) jYv)) (jQg (jZn (jQg (jZn (jQg kQl (jQg kQl jYv))) jYv)) jYv))) jYv))) ⟨jJx uZr (by rfl) T.n_int rfl (jJb (jZf o_gt (jJc 0) jJj (jJr _)) jJd)⟩ (λ_ _=>rfl)))) ⟨jKk⟩)
  (kQy ⟨jJ6 (i:=2) nd (jQe jJd)⟩
  (kQy ⟨jUy lKl rfl (jQl rfl T.n_range (jJb (jJc 0) jJd)) (jJp (i:=3) nd) (jJf (jJ6 (i:=4) nd (jQe (jJb (jKl (jJb (e_op jXj (e_op o_addF (jJc 3) jJj) (jJc 0)) (jJb jJj jJd))) (jJb (jKl (jJb (e_op jXj (e_op uKp (jJc 3) jJj) (jJc 0)) (jJb jJj jJd))) jJd))))
   (jJl (jYh (e_bm lQu lXl lXm jUl (jJc 2) (jJb (jJx jQj (by rfl) T.n_tuple rfl (jJb (e_op o_addF (jJc 4) (jKq (mask:=[fF,fF,fF,fF,fF,tT]) rfl ⟨rfl,rfl,rfl,rfl,rfl,rfl,rfl⟩ (kUq rfl T.n_range (jJb jJj (jJb (jJc 1) jJd))) jJy (λC fp s H=>(jJp (i:=5) nd)) (λC fp s H=>jKp) (λC fp s H=>(jKl (jJb (jJc 3) (jJb (jJc 5) jJd)))))) jJd)) jJd)))))⟩
  (qQf ⟨jJ3 (jJx jQj (by rfl) T.n_tuple rfl (jJb (jJc 2) jJd))⟩)))))
theorem kUg(T:Txt K mg):Cal P w K mg base 2 "_law_numbered" ["_law_box_here","_law_web"] jVb:=
 cal3 T.f_l_numbered kJt λ_ _ _ _ _ _ _ hr hu nd=>
  (jJf (jJ6 (i:=2) nd (kKg rfl T.n_list rfl T.n_range rfl (jJb (jJm jK1 (by rfl) T.n_len lJ2 (jJb (jJc 1) jJd)) jJd)))
   (jJf (jJ6 (i:=3) nd (jKq (mask:=[fF,fF,fF,fF,fF,tT,fF,fF,fF]) rfl ⟨rfl,rfl,rfl,rfl,rfl,rfl,rfl⟩ (jQx (jJc 1)) jJy (λC fp s H=>(jJp (i:=5) nd)) (λC fp s H=>jKp) (λC fp s H=>(e_bm lQu PySem.F.slot_list_pop PySem.F.type_list_pop uV4 (jJc 2) (jJb (jJt (jKb T) (hr.mono (by decide)) (jJb (jJc 0) (jJb (jJm jK1 (by rfl) T.n_len lJ2 (jJb (jJc 2) jJd)) jJd))) jJd)))))
   (jJf (jJ6 (i:=4) nd (jKq (mask:=[fF,fF,fF,fF,fF,tT,fF,fF,fF]) rfl ⟨rfl,rfl,rfl,rfl,rfl,rfl,rfl⟩ (jQx (jJc 1)) jJy (λC fp s H=>(jJp (i:=5) nd)) (λC fp s H=>jKp) (λC fp s H=>(jJx jQj (by rfl) T.n_tuple rfl (jJb (jKq (mask:=[fF,fF,fF,fF,fF,fF,tT,tT,fF]) rfl ⟨rfl,rfl,rfl,rfl,rfl,rfl,rfl⟩ (jQx (jJc 5)) (kZx (jV2 jJy jQy (jV2 jJy jQy kZy jZm) (kUt jQy jZm))) (λC fp s H=>(jX6 rfl (jJz (jJp (i:=6) nd) (jJz (jJp (i:=7) nd) jUf)))) (λC fp s H=>jKp) (λC fp s H=>(jKl (jJb (e_ix (ix_F hu) (jJc 3) (jJc 6) (λ_ _=>rfl)) (jJb (jJc 7) jJd))))) jJd)))))
   (jJl (jJ3 (jJx jQj (by rfl) T.n_tuple rfl (jJb (jKq (mask:=[fF,fF,fF,fF,fF,fF,fF,fF,tT]) rfl ⟨rfl,rfl,rfl,rfl,rfl,rfl,rfl⟩ (jQl rfl T.n_range (jJb (jJm jK1 (by rfl) T.n_len lJ2 (jJb (jJc 1) jJd)) jJd)) jJy (λC fp s H=>(jJp (i:=8) nd)) (λC fp s H=>jKp) (λC fp s H=>(e_ix (ix_F hu) (jJc 4) (e_bm lQu PySem.F.slot_list_index PySem.F.type_list_index uKv (jJc 3) (jJb (jJc 8) jJd)) (λ_ _=>rfl)))) jJd)))))))
theorem kKx(T:Txt K mg):Cal P w K mg base 3 "_law_sound_web" ["_law_box_here","_law_wide","_law_doors","_law_web"] jK0:=
 cal3 T.f_l_sound_web jZr λ_ _ _ _ _ _ _ hr hu nd=>
  (jJf (jJ6 (i:=4) nd (jJt (jKb T) (hr.mono (by decide)) (jJb (jJc 0) (jJb jJj jJd))))
   (jJf (s_if (jK5 (jU0 hr.units) (jJc 4) jJj (jJr _)) (jJl (jJ3 (jJt (jUc T) (hr.mono (by decide)) (jJb (jJt (kJ5 T) (hr.mono (by decide)) (jJb (e_op jKm (e_op jKm (jJc 1) jJj) (jJt (jKb T) (hr.mono (by decide)) (jJb (jJc 0) (jJb jJj jJd)))) (jJb (jJc 2) jJd))) (jJb jJj jJd))))) jKk)
   (jJf (s_if (jK5 (jU0 hr.units) (jJc 4) jJj (jJr _)) (jJl (jJ3 (jJt (jUc T) (hr.mono (by decide)) (jJb (jJt (kJ5 T) (hr.mono (by decide)) (jJb (e_op jKm jJj (jJt (jKb T) (hr.mono (by decide)) (jJb (jJc 0) (jJb (jJc 1) jJd)))) (jJb (e_op jKm (jJc 2) jJj) jJd))) (jJb jJj jJd))))) jKk)
   (jJf (s_if (jK5 (jU0 hr.units) (jJc 4) jJj (jJr _)) (jJl (jJ3 (jJt (jUc T) (hr.mono (by decide)) (jJb (jJt (kJ5 T) (hr.mono (by decide)) (jJb (e_op jKm jJj (jJt (jKb T) (hr.mono (by decide)) (jJb (jJc 0) (jJb (jJc 1) jJd)))) (jJb (jJm (uXy rfl) (by rfl) T.n_max rfl (jJb jJj (jJb (e_op uKp (jJc 2) jJj) jJd))) jJd))) (jJb jJj jJd))))) jKk)
   (jJf (s_if (jK5 (jU0 hr.units) (jJc 4) jJj (jJr _)) (jJf (jJ6 (i:=5) nd (jJt (jKb T) (hr.mono (by decide)) (jJb (jJc 0) (jJb (jJm jK1 (by rfl) T.n_len lJ2 (jJb (jJc 3) jJd)) jJd))))
   (jJl (jJ3 (e_op jKm (e_op jKm (jQd sl_F (jJc 3) jUz (jQ0 (jJc 5))) (jKl (jJb (e_op jKm (e_ix (ix_F hu) (jJc 3) (jJc 5) (λ_ _=>rfl)) (jKl (jJb (jKl (jJb (jJc 5) (jJb (jJm jK1 (by rfl) T.n_len lJ2 (jJb (e_ix (ix_F hu) (jJc 3) (jJc 5) (λ_ _=>rfl)) jJd)) jJd))) jJd))) jJd))) (jQd sl_F (jJc 3) (jQ0 (e_op jKm (jJc 5) jJj)) jUz))))) jKk)
   (jJl (jJ3 (jJt (kUg T) (hr.mono (by decide)) (jJb (jJc 0) (jJb (jJc 3) jJd))))))))))
variable {f:Addr}
theorem uVv(T:Txt K mg){fd:FuncData}(F:Fun K "law" "law" (top 39) f fd):Fn3 P w K mg base 12 f fd ["_law_script"] qQg:=by
 have S:FnScope uUd ["_law_script"] (jKa (top 39)):=⟨rfl,rfl,rfl,by decide +kernel,rfl,by decide +kernel,by decide +kernel⟩
 refine fn3 F S λcdv A outer s H E hr=>⟨qQx,?_,qYe⟩
 have hu:=uXl hr;have nd:=S.nd
 exact (jJf (jJ6 (i:=1) nd (jJt (qJ4 T) (hr.mono (by decide)) (jJb jJj (jJb jJj jJd))))
   (jJf (jUy lKl rfl (jQx (jJt (kYb T) (hr.mono (by decide)) (jJb (jJc 0) (jJb jJj jJd)))) (jJp (i:=2) nd) (jJf (kQ1 (e_ix (ix_F hu) (jJc 1) (jJt (jKb T) (hr.mono (by decide)) (jJb (jJc 2) (jJb (jJm jK1 (by rfl) T.n_len lJ2 (jJb (jJc 1) jJd)) jJd))) (λ_ _=>rfl)) (jX6 rfl (jJz (jJp (i:=3) nd) (jJz (jJp (i:=4) nd) jUf))))
   (jJf (jJ6 (i:=5) nd (e_op o_addF (e_op o_addF (jJt (kVu T) (hr.mono (by decide)) (jJb (e_op o_addF jJj (jJt (jKb T) (hr.mono (by decide)) (jJb (jJc 2) (jJb (jJc 3) jJd)))) (jJb (jJc 4) jJd))) (jJt (kVu T) (hr.mono (by decide)) (jJb (jJc 3) (jJb (jJc 4) jJd)))) (jQe (jJb (jKl (jJb (e_op uVx (jKl (jJb (jKl (jJb jJj (jJb jJj jJd))) jJd)) jJj) jJd)) jJd))))
   (jJf (jJ6 (i:=6) nd (jJt (qYr T) (hr.mono (by decide)) (jJb (jJc 2) (jJb (jJc 4) (jJb (jJt (jKb T) (hr.mono (by decide)) (jJb (jJc 2) (jJb (e_ix (ix_F hu) (jQe (jJb jJj (jJb jJj jJd))) (jJt (jKb T) (hr.mono (by decide)) (jJb (jJc 2) (jJb jJj jJd))) (λ_ _=>rfl)) jJd))) jJd)))))
   (jJl (jUy lKl rfl (jQl rfl T.n_range (jJb jJj jJd)) (jJp (i:=7) nd) (jJf (jJ6 (i:=8) nd (e_ix (ix_F hu) (jJc 5) (jJt (jKb T) (hr.mono (by decide)) (jJb (jJc 2) (jJb (jJm jK1 (by rfl) T.n_len lJ2 (jJb (jJc 5) jJd)) jJd))) (λ_ _=>rfl)))
   (jJf (jJ6 (i:=9) nd (jJc 8))
   (jJf (s_if (PW3.pt (uYh (jK5 (jU0 hr.units) (e_op jXj (jJc 7) jJj) jJj (jJr _)) (uUk (jK5 (jU0 hr.units) (jJm jK1 (by rfl) T.n_len lJ2 (jJb (e_ix (ix_F hu) (jJc 8) jJj (λ_ _=>rfl)) jJd)) (jJc 4) (jJr _))))) (jJl (jJ6 (i:=9) nd (jJt (qUo T) (hr.mono (by decide)) (jJb (jJc 2) (jJb (jJc 8) (jJb (jJc 4) jJd)))))) jKk)
   (jJf (s_if (jK5 o_gt (e_op jXj (jJc 7) jJj) jJj (jJr _)) (jJl (jJ6 (i:=9) nd (jJt (kKx T) (hr.mono (by decide)) (jJb (jJc 2) (jJb (jJc 3) (jJb (jJc 4) (jJb (jJc 8) jJd))))))) jKk)
   (jJf (jJ6 (i:=10) nd (jJx (uJz rfl hr.units) (by rfl) T.n_str rfl (jJb (jJc 9) jJd)))
   (jJl (jUy lKl rfl (jQx (jKl (jJb (jJc 6) (jJb (jJx jZi (by rfl) T.n_list rfl (jJb (jJc 6) jJd)) jJd)))) (jJp (i:=11) nd) (jJf (jJ6 (i:=12) nd (jJt (kJ3 T) (hr.mono (by decide)) (jJb (jJc 3) (jJb (jJc 4) (jJb (jJc 11) (jJb (jJc 9) jJd))))))
   (jJl (s_if (PW3.pt (w_or (jXt (jXs (jJt (qJ5 T) (hr.mono (by decide)) (jJb (jJc 12) (jJb (jJt (qYs T) (hr.mono (by decide)) (jJb (jJc 3) (jJb (jJc 4) (jJb (jJc 6) (jJb (jJc 9) jJd))))) jJd))))) (kQr (jK5 (uKs hr.units) (jJx (uJz rfl hr.units) (by rfl) T.n_str rfl (jJb (jJc 9) jJd)) (jJc 10) (jJr _))))) (jJl (jJ3 e_bl)) jKk))))))))))))))))
   (jJl (jJ3 e_bl))))
def uJ7(K:PySem.W.Frag):Sp:=dn K 1 qQg
theorem fn_at{h:Heap}{oc:Value}{od an:Option Addr}{osl:Array (Option Value)}{kV doc pm cdv ct:Value}(X:K.In h)(G:h.Ns mainGlobals mg)(a:PySem.W.nsIn K mainGlobals x=some (some (.ref f)))(l:K.lookup f=some ⟨oc,od,.func (PySem.W.fnOf x x (jX9 (top i)) (jUq (top i)) (jKa (top i)) .none kV doc pm an cdv ct),osl⟩)(c:PySem.W.codeIn K cdv x=true)(k:PySem.W.keepIn K (.ref f)=true):FnAt K mg x i:=⟨f,_,PySem.W.mg_of X G a,uXn l c k⟩
variable {l:PySem.W.OpenLaw}
theorem all_mk{fa:Addr}(hfa:mg "law"=some (.ref fa))(T:Txt K mg):
  ∃fd:FuncData,(∀(s:Shared)(v:Value),BindsTo s fd ⟨[v],[]⟩ [("_law_script",v)])/\∀base:Heap,K.In base->base.Ns mainGlobals mg->FnOk l.prog w K mg base CX0 12 fa fd ["_law_script"] (uJ7 K):=by
 obtain⟨f,fd,a,F⟩:=T.f_law;cases hfa.symm.trans a;refine⟨fd,λs v=> ?_,λbase _ _=>uVv T F⟩
 obtain⟨_,_,kV,doc,pm,an,cdv,ct,_,e,_⟩:=F.ex;subst e;exact .of_eq rfl
theorem uZg{H:Hp}{a:Addr}{xs:List V}(hO:Only H)(hS:SqL K H a xs):FrL K H a xs:=by
 rcases hS with h | h
 .rcases h with h | ⟨ob,h⟩
  .rcases hO a with z | ⟨o,ys,z⟩
   .rw[z] at h;cases h
   .rw[z] at h;cases h
  .exact .inl ⟨ob,h⟩
 .exact .inr h
theorem jQo{K:PySem.W.Frag}{H:Hp}:∀ns:List Int,Reps K H (jQw ns) (ns.map V.int)
 | []=>rfl
 | n::ns=>⟨_,_,rfl,rfl,jQo ns⟩
theorem walk{q:Program}{loose:List Str}{XP:(Str->Option Value)->Heap->Prop}{YP:World->Heap->Prop}{d:DefRec}{K:Params->PySem.W.Frag}(hn:l.most=some 63)(hdf:d.params.defaults=[])(hY:∀(w:World)(h:Heap),YP w h->(K w.params).In h)(F:∀(w:World)(mg:Str->Option Value)(fa:Addr)(h:Heap),(K w.params).In h->h.Ns mainGlobals mg->mg d.name=some (.ref fa)->
   ∃fd:FuncData,(∀(s:Shared)(u:Value),BindsTo s fd ⟨[u],[]⟩ [("_law_script",u)])/\∀base:Heap,(K w.params).In base->base.Ns mainGlobals mg->FnOk l.prog w (K w.params) mg base CX0 12 fa fd ["_law_script"] (uJ7 (K w.params))):
  PySem.W.WalkO q loose XP YP l.row.toRowW d [] (λf vs=>PySem.call f vs):=
 L2.walk_of (n:=63) (k:=12) (x:="_law_script") (CX:=λ_=>CX0) (sp:=λw=>uJ7 (K w.params)) hn (by decide) hdf ⟨rfl,rfl,by decide,by decide⟩ hY F
  (λ_ _ a ns hl hO hS=>⟨rfl,[.scr (jQw ns)],λ_=>none,⟨_,_,rfl,⟨a,_,rfl,uZg hO hS,jQo ns⟩,rfl⟩,(λ_ _ h=>nomatch h),ns,rfl,hl,λG' v H' _ _ r=>r⟩) λ_ _ _ _ _ z=>z
end W
inductive PySem.W.Fast:Prop|tw2778608647389520218|tw4886812311773122044|tw17840074458372229872|tw14815301340840046915|tw7619035071860479270|tw15226346739322313631|tw9039278017830105254|tw10502304937985612694|tw7067534162013830672|tw15970097637172954368|tw1238258612282256895|tw2939496198298504717|tw8951701029525296015|tw4622830787487157663|tw41591167377749551|tw18138589454721976764|tw17816322489425082074|tw14932934470372208533|tw13191460785579582084|tw14581701432653337920|tw2321850172071744867|tw12127159861848560665|tw3053765119602696072|tw18211549977791441770|tw13531698486220193296|tw8171134319060217308|tw492054678247454209|tw10984908934078635077|tw16980967541241700877|tw16307370689284730641|tw9668225009459891977|tw7124939144329747240|tw2350170599351419931|tw3568248376514688062|tw1018855570501659874|tw3025000323923774536|tw2407597210132647136|tw11445280874230749625|tw139887361389727254|tw8791277015309459166|tw4379422733079258729|tw6847920926393729319|tw16739964007771947508|tw6190369252870099938|tw6452933811383405552|tw16005975599401369359|tw11573426357881081363|tw3142872344158422234|tw6450476050844593050|tw2978876333059031181|tw15599764652077372595|tw11541948235225952492|tw14255992154100374133|tw10889429259786452361|tw14475855169084401677|tw1218502419821612976|tw7817077295748913040|tw1803612697728373948|tw41226512979314519|tw304347596598528979|tw6709491047764368051|tw7016608912207246557|tw14992375643837653992|tw5465358868190646826|tw6270229999681990172|tw16231971875291751092|tw14934014088018453251|tw7351424226878594530|tw13707605441709879297|tw7756139222018265041|tw7046971538797196826|tw9742804815114702831|tw313832234465448282|tw8936285648377064150|tw15433260375971694060|tw17694793264122893157|tw18079448215623469752|tw2186505234942309323|tw12236886763182727137|tw11407181914633113638|tw15745295170695984944|tw13280147117587527510|tw17048233885851534070|tw8726246129692069727|tw18209315490280266045|tw12190928075163401685|tw3460679229829136514|tw4866956011482954779|tw4886630030380436124|tw8615954898400810181|tw12367783772332385255|tw5100853769392200798|tw15715943466006223311|tw16472600775261169660|tw16801388628094107072|tw4949029561230100863|tw8692932447471729912|tw4997018770340271895
open PySem PySem.W PyProof.Rows
set_option maxRecDepth 100000 in
set_option maxHeartbeats 0 in
theorem PySem.Challenge.cw_stonewalker_k44_missed_webs_looked_at_holds : PySem.Challenge.rw_stonewalker_k44_missed_webs_looked_at.Holds := by
 w_on;o_law;k_head;(case hw=>w_witness2)
 k_fill
 refine W.walk (l:=PySem.Challenge.rw_stonewalker_k44_missed_webs_looked_at) rfl rfl (fun w h Y=>PySem.W.kIn_of Y) ?F
 case F=>
  intro w mg fa h KX G hmg
  refine W.all_mk hmg ?T
  constructor
  iterate 15 (refine PySem.W.mg_none_of KX G ?_;k_is)
  iterate 35 (refine' W.fn_at KX G ?a ?l ?c ?k;(case a=>k_is);(case l=>k_is);(case c=>k_is);(case k=>k_is))
