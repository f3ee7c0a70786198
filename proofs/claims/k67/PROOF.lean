
import PyProof.Rows.All
import Wide.All
import OpenK.AllK
import Wide.FinOn
import Lean
import PyProof.EqAt
import PyProof.EqKinds
import PyProof.TupleCall
import PySem.Challenge.RW_stonewalker_k67_whole_alike_ones_never_m
set_option linter.all false
noncomputable section
def lJa:=@PySem.wpAny_bind
def lJb:=@if_neg
def lJc:=@if_pos
def lJd:=@PySem.wpAny_pure
def lJe:=@List.getElem?_eq_some_iff
def lJf:=@List.getElem?_eq_getElem
def lJg:=@List.length_map
def lJh:=@Nat.le_refl
def lJi:=@List.mem_map
def lJj:=@List.getElem?_map
def lJk:=@List.mem_of_getElem?
def lJl:=@PySem.Heap.lt_size
def lJm:=@PySem.Heap.get?_push_of_some
def lJn:=@PySem.PassesOwn.never
def lJo:=@Bool.false_ne_true
def lJp:=@List.mem_cons
def lJq:=@List.map_cons
def lJr:=@List.map_map
def lJs:=@congrArg
def lJt:=@Nat.ne_of_lt
def lJu:=@List.size_toArray
def lJv:=@List.length_append
def lJw:=@List.mem_range
def lJx:=@Nat.zero_le
def lJy:=@List.getElem?_eq_none
def lJz:=@PySem.Heap.get?_push_size
def lJ0:=@List.mem_singleton
def lJ1:=@List.getElem?_of_mem
def lJ2:=@List.mem_cons_self
def lJ3:=@Option.some.inj
def lJ4:=@decide_eq_false
def lJ5:=@List.mem_cons_of_mem
def lJ6:=@if_false
def lJ7:=@List.length_cons
def lJ8:=@PySem.F.plainAttrs_list
def lJ9:=@List.getElem?_append_left
def lKa:=@Nat.lt_of_lt_of_le
def lKb:=@List.mem_append
def lKc:=@Nat.le_trans
def lKd:=@Nat.not_lt_zero
def lKe:=@List.map_append
def lKf:=@decide_eq_true
def lKg:=@PySem.sizeLine_eq
def lKh:=@List.ext_getElem?
def lKi:=@Bool.false_eq_true
def lKj:=@PySem.F.slot_list_append
def lKk:=@PySem.F.type_list_append
def lKl:=@PySem.wpAny_newObj_type
def lKm:=@Array.length_toList
def lKn:=@List.nodup_cons
def lKo:=@Int.eq_ofNat_of_zero_le
def lKp:=@List.not_mem_nil
def lKq:=@List.length_range
def lKr:=@List.range_succ
def lKs:=@List.mem_append_right
def lKt:=@Bool.and_eq_true
def lKu:=@Array.getElem?_eq_getElem
def lKv:=@Nat.succ.inj
def lKw:=@PySem.wpAny_holding
def lKx:=@Nat.lt_irrefl
def lKy:=@List.getElem?_set_ne
def lKz:=@List.exists_cons_of_length_eq_add_one
def lK0:=@if_true
def lK1:=@List.mem_append_left
def lK2:=@List.replicate_succ
def lK3:=@Option.map_eq_some_iff
def lK4:=@Option.map_some
def lK5:=@Array.getElem?_toList
def lK6:=@PySem.wpAny_call_entry
def lK7:=@decide_eq_true_eq
def lK8:=@PySem.Around.in1_units
def lK9:=@List.getElem?_set_self
def lQa:=@List.lookup_cons
def lQb:=@Nat.le_of_lt_succ
def lQc:=@Classical.byContradiction
def lQd:=@List.length_nil
def lQe:=@List.getElem?_append_right
def lQf:=@List.find?_cons
def lQg:=@List.length_eq_zero_iff
def lQh:=@List.take_succ
def lQi:=@Option.some.injEq
def lQj:=@PyProof.Rows.callWith_type1
def lQk:=@Array.getElem?_eq_none
def lQl:=@Nat.lt_trichotomy
def lQm:=@Nat.mod_lt
def lQn:=@List.getElem?_range
def lQo:=@Nat.mod_eq_of_lt
def lQp:=@PySem.wpAny_mono
def lQq:=@PySem.codeAny_builtin
def lQr:=@Nat.lt_or_ge
def lQs:=@List.mem_filter
def lQt:=@List.all_cons
def lQu:=@List.any_cons
def lQv:=@List.flatten_cons
def lQw:=@List.length_singleton
def lQx:=@Nat.succ_mul
def lQy:=@Nat.mul_comm
def lQz:=@List.take_length
def lQ0:=@PySem.Around.under_plainId
def lQ1:=@PySem.call_meets
def lQ2:=@List.append_nil
def lQ3:=@Nat.le_of_lt
def lQ4:=@List.filterMap_cons
def lQ5:=@Nat.ne_of_gt
def lQ6:=@List.length_take
def lQ7:=@List.append_assoc
def lQ8:=@List.nodup_append
def lQ9:=@List.getElem?_inj
def lVa:=@List.cons.injEq
def lVb:=@List.idxOf_lt_length_of_mem
def lVc:=@PySem.wpAny_callSpecial?_slot
def lVd:=@or_false
def lVe:=@PySem.plainId_quiet
def lVf:=@PySem.Paired.length
def lVg:=@List.length_set
def lVh:=@List.all_eq_true
def lVi:=@Nat.succ_pos
def lVj:=@List.getElem_of_mem
def lVk:=@List.pairwise_map
def lVl:=@List.getElem_mem
def lVm:=@PySem.F.called_set
def lVn:=@Nat.lt_or_eq_of_le
def lVo:=@PySem.wpAny_truthy_bool
def lVp:=@PySem.wpAny_typeOf
def lVq:=@List.mem_filterMap
def lVr:=@List.foldl_cons
def lVs:=@List.nodup_nil
def lVt:=@PySem.Heap.SameBut.update
def lVu:=@Int.emod_nonneg
def lVv:=@Int.emod_lt_of_pos
def lVw:=@Array.getD_eq_getD_getElem?
def lVx:=@List.length_filter_le
def lVy:=@List.getElem_idxOf
def lVz:=@PySem.wpAny_forIn_list
def lV0:=@PySem.wpAny_loadPart'
def lV1:=@PySem.wpAny_passesOwn
def lV2:=@PySem.wpAny_ite_split
def lV3:=@PySem.mem_of_lookup
def lV4:=@PyProof.Rows.slot_tuple_getitem
def lV5:=@PySem.Heap.get?_update_self
def lV6:=@List.zip_cons_cons
def lV7:=@Int.toNat_natCast
def lV8:=@List.filterMap_append
def lV9:=@PySem.F.plain_list_iadd
def lXa:=@Nat.zero_add
def lXb:=@List.filterMap_cons_some
def lXc:=@List.nodup_range
def lXd:=@List.map_take
def lXe:=@List.map_congr_left
def lXf:=@List.filter_cons
def lXg:=@List.foldl_append
def lXh:=@Nat.mul_le_mul_right
def lXi:=@Nat.mul_le_mul
def lXj:=@PySem.wpAny_specialOf
def lXk:=@PySem.wpAny_isInstance
def lXl:=@PySem.wpAny_field
def lXm:=@and_true
def lXn:=@PySem.wpAny_fieldsOf
def lXo:=@Bool.not_true
def lXp:=@List.getElem?_replicate
def lXq:=@Nat.lt_trans
def lXr:=@Nat.le_of_eq
def lXs:=@List.getElem?_zipWith
def lXt:=@List.getElem?_zip_eq_some
def lXu:=@PySem.Heap.size_push
def lXv:=@Nat.eq_zero_or_pos
def lXw:=@PySem.F.slot_dict_keyiterator_next
def lXx:=@Nat.div_eq_of_lt
def lXy:=@List.find?_eq_none
def lXz:=@List.map_drop
def lX0:=@Nat.le_add_right
def lX1:=@Nat.lt_succ_self
def lX2:=@List.getD_eq_getElem?_getD
def lX3:=@Int.ofNat.inj
def lX4:=@List.mem_flatMap
def lX5:=@Prod.mk.injEq
def lX6:=@PySem.codeAny_mono
def lX7:=@PySem.typeIs_int
def lX8:=@PySem.wpAny_of_eq
def lX9:=@PySem.wpAny_attempt
def lYa:=@PySem.wpAny_askSetting
def lYb:=@Array.forIn_toList
def lYc:=@Option.isSome_iff_exists
def lYd:=@List.length_drop
def lYe:=@List.map_nil
def lYf:=@PySem.Heap.get?_update_other
def lYg:=@List.reverse_cons
def lYh:=@Option.isSome_map
def lYi:=@Nat.lt_of_le_of_lt
def lYj:=@PySem.F.slot_tuple_mul
def lYk:=@Bool.or_eq_true
def lYl:=@List.zip_eq_zipWith
def lYm:=@List.take_append_drop
def lYn:=@PyProof.Rows.F.plain_set_update_loop
def lYo:=@List.any_eq_true
def lYp:=@List.flatMap_append
def lYq:=@List.length_pos_of_mem
def lYr:=@List.getElem?_zipIdx
def lYs:=@PySem.wpAny_seqItems
def lYt:=@PySem.wpAny_Call_Name_kw
def lYu:=@PySem.wpAny_execs_nil
def lYv:=@PySem.wpAny_standAt
def lYw:=@PySem.wpAny_pyIter_enum
def lYx:=@PySem.wpAny_setField
def lYy:=@PySem.typeLookup_type
def lYz:=@PySem.builtinLookup_eq_fast
def lY0:=@PySem.isSubtype_type
def lY1:=@PySem.wpAny_runValue
def lY2:=@PySem.wpAny_dictEntries
def lY3:=@PySem.wpAny_typeNameOfWhole_keyiter
def lY4:=@PySem.wpAny_typeNameOf_keyiter
def lY5:=@PyProof.noPylong_small
def lY6:=@List.of_mem_zip
def lY7:=@List.take_sublist
def lY8:=@PySem.F.slot_tuple_add
def lY9:=@PySem.F.entry_tuple_add
def lZa:=@PySem.F.args_tuple_add_2
def lZb:=@List.take_of_length_le
def lZc:=@List.eq_nil_of_length_eq_zero
def lZd:=@PySem.F.entry_proto_collect
def lZe:=@PySem.F.plain_proto_collect
def lZf:=@PySem.F.entry_list_iadd
def lZg:=@PySem.sizeLine_eq
def lZh:=@List.pairwise_iff_getElem
def lZi:=@List.filterMap_cons_none
def lZj:=@List.pairwise_filterMap
def lZk:=@List.mem_of_mem_take
def lZl:=@Nat.lt_succ_of_lt
def lZm:=@List.filter_append
def lZn:=@Nat.add_mod_right
def lZo:=@Nat.add_mul_mod_self_right
def lZp:=@List.idxOf_cons
def lZq:=@Classical.not_not
def lZr:=@PySem.F.slot_list_index
def lZs:=@PySem.F.type_list_index
def lZt:=@PySem.noFill_tuple_add
def lZu:=@PyProof.Rows.assignInOrder_cons
def lZv:=@PySem.wpAny_pyIter_list
def lZw:=@PySem.wpAny_pyIter_tuple
def lZx:=@PySem.codeAny_of_tree
def lZy:=@of_decide_eq_true
def lZz:=@PySem.wpAny_pyIter_slot
def lZ0:=@PySem.wpAny_dictEpoch
def lZ1:=@PySem.wpAny_isOneOf_keyiter
def lZ2:=@beq_self_eq_true
def lZ3:=@PySem.wpAny_setState_of
def lZ4:=@PySem.wpAny_setField_rec
def lZ5:=@Int.fdiv_eq_ediv_of_nonneg
def lZ6:=@Int.fmod_eq_emod_of_nonneg
def lZ7:=@PyProof.Rows.callWith_builtin1
def lZ8:=@PySem.F.slot_tuple_iterator_next
def lZ9:=@PySem.F.entry_dict_keyiterator_next
def mJa:=@PySem.F.args_dict_keyiterator_next_1
def mJb:=@Array.getElem?_eq_some_iff
def mJc:=@PyProof.Rows.F.entry_set_update_loop
def mJd:=@Array.perm_iff_toList_perm
def mJe:=@List.take_append_of_le_length
def mJf:=@List.drop_append_of_le_length
def mJg:=@PySem.wpAny_letOwnedTupleGo_enum
local macro_rules
 | `(tactic| omega) => `(tactic| lia)
set_option Elab.async false
set_option linter.all false
set_option maxRecDepth 100000
namespace L2
open PySem PySem.Spec PyProof.Rows
abbrev Key:=Sum Int Str
def jXe:Key->Value->Bool
 | .inl k,v=>Value.isInt k v
 | .inr x,v=>Value.isStrOf x v
def keyH(w:World):Key->Int
 | .inl k=>hashInt k
 | .inr x=>hashStr w x
theorem jJv:∀{k:Key}{v:Value},jXe k v=true->(∃i t,k=Sum.inl i/\v=Value.int i t)\/(∃x t,k=Sum.inr x/\v=Value.str x t)
 | .inl i,v,h=>by
  obtain⟨t,e⟩:=Value.isInt_shape (k:=i) (v:=v) h;exact .inl ⟨i,t,rfl,e⟩
 | .inr x,v,h=>by
  obtain⟨t,e⟩:=Value.isStrOf_shape (x:=x) (v:=v) h;exact .inr ⟨x,t,rfl,e⟩
theorem qUu(i:Int)(t:Tok):jXe (.inl i) (.int i t)=true:=by simp[jXe,Value.isInt]
theorem qUt(x:Str)(t:Tok):jXe (.inr x) (.str x t)=true:=by simp[jXe,Value.isStrOf]
theorem uXc(a b:Int):decide ((Sum.inl a:Key)=Sum.inl b)=(a == b):=by
 by_cases e:a=b
 .subst e;simp
 .have h:¬ (Sum.inl a:Key)=Sum.inl b:=λq=>e (Sum.inl.inj q)
  rw[lJ4 h];exact (beq_eq_false_iff_ne.mpr e).symm
theorem uV9(a b:Str):decide ((Sum.inr a:Key)=Sum.inr b)=decide (a=b):=by
 by_cases e:a=b
 .subst e;simp
 .have h:¬ (Sum.inr a:Key)=Sum.inr b:=λq=>e (Sum.inr.inj q)
  rw[lJ4 h,lJ4 e]
theorem uXb(a:Int)(b:Str):decide ((Sum.inl a:Key)=Sum.inr b)=false:=lJ4 (λq=>nomatch q)
theorem uXa(a:Str)(b:Int):decide ((Sum.inr a:Key)=Sum.inl b)=false:=lJ4 (λq=>nomatch q)
noncomputable def jKy(prog:Program)(w:World):PySem.KeyKind prog w Key where
 is:=jXe
 hash:=keyH w
 inj:=λv a b ha hb=>by
  rcases jJv ha with ⟨i,t,rfl,rfl⟩ | ⟨x,t,rfl,rfl⟩
  .rcases jJv hb with ⟨j,u,rfl,e⟩ | ⟨y,u,rfl,e⟩
   .injection e with e1 _;rw[e1]
   .exact nomatch e
  .rcases jJv hb with ⟨j,u,rfl,e⟩ | ⟨y,u,rfl,e⟩
   .exact nomatch e
   .injection e with e1 _;rw[e1]
 byValue:=λk v h=>by
  rcases jJv h with ⟨i,t,rfl,rfl⟩ | ⟨x,t,rfl,rfl⟩<;>rfl
 pyHash:=λhv h=>by
  rcases jJv hv with ⟨i,t,rfl,rfl⟩ | ⟨x,t,rfl,rfl⟩
  .exact wpAny_pyHash_int h
  .exact wpAny_pyHash_str h
 eqBool:=λhu hv h=>by
  rcases jJv hu with ⟨i,t,rfl,rfl⟩ | ⟨x,t,rfl,rfl⟩
  .rcases jJv hv with ⟨j,u,rfl,rfl⟩ | ⟨y,u,rfl,rfl⟩
   .rw[uXc] at h;exact wpAny_eqBool_int h
   .rw[uXb] at h;exact SeqAt.EqAt.int_str i t y u _ _ _ _ h
  .rcases jJv hv with ⟨j,u,rfl,rfl⟩ | ⟨y,u,rfl,rfl⟩
   .rw[uXa] at h;exact SeqAt.EqAt.str_int x t j u _ _ _ _ h
   .rw[uV9] at h;exact wpAny_eqBool_str h
 «strs» :=λk x t v h=>by
  rcases jJv h with ⟨i,u,rfl,e⟩ | ⟨y,u,rfl,e⟩
  .exact nomatch e
  .injection e with e1 _
   subst e1;cases v<;>rfl
theorem kX3(prog:Program)(w:World)(i:Int)(t:Tok):(jKy prog w).is (.inl i) (.int i t)=true:=qUu i t
theorem kX2(prog:Program)(w:World)(x:Str)(t:Tok):(jKy prog w).is (.inr x) (.str x t)=true:=qUt x t
end L2
set_option synthInstance.maxSize 1000
namespace L2
open PySem PySem.Spec PyProof.Rows
structure KeyV (prog:Program) (w:World) (K:Type) [DecidableEq K] (c:Nat) where
 is:Heap->K->Value->Prop
 hash:K->Int
 draws:K->Nat
 inj:∀{h:Heap}{v:Value}{x y:K},is h x v->is h y v->x=y
 keeps:∀{h h':Heap}{k:K}{v:Value}{d:Addr}{o:Obj}{es:Array DictEntry}{ep:Nat},is h k v->h.get? d=some o->o.data= .dict es ep->Heap.SameBut d h h'->is h' k v
 hashed:∀{A:Around}{E:Value->Shared->Prop}{s:Shared}{k:K}{v:Value}{Q:Int->Shared->Prop},A.units+c<cLine->is s.heap k v->Q (hash k) {s with toks:=s.toks+draws k}->wpAny (model prog w) A (PySem.pyHash v) Q E s
 eqAt:∀{A:Around}{s:Shared}{x y:K}{u v:Value},A.units+c<cLine->is s.heap x u->is s.heap y v->SeqAt.EqAt A s u v (decide (x=y))
 quiet:∀{A:Around}{E:Value->Shared->Prop}{s:Shared}{k:K}{v:Value}{Q:Bool->Shared->Prop}(n:Nat),c<=n->is s.heap k v->Q true s->wpAny (model prog w) A (eqIsQuiet n v) Q E s
noncomputable def jY2(prog:Program)(w:World):KeyV prog w Key 0 where
 is:=λ_ k v=>jXe k v=true
 hash:=keyH w
 draws:=λ_=>1
 inj:=λhx hy=>(jKy prog w).inj _ _ _ hx hy
 keeps:=λx _ _ _=>x
 hashed:=λ_ hv h=>(jKy prog w).pyHash hv h
 eqAt:=λ_ hx hy prog' w' _ _ h=>(jKy prog' w').eqBool hx hy h
 quiet:=λn _ hv h=>by rw[eqIsQuiet_byValue n ((jKy prog w).byValue _ _ hv)];exact lJd h
section
variable {prog:Program}{w:World}{K:Type}[DecidableEq K]{c:Nat}
inductive ItemsV (V:KeyV prog w K c) (h:Heap):List K->List Value->Prop
 | nil:ItemsV V h [] []
 | cons {k:K} {v:Value} {ks:List K} {vs:List Value}:V.is h k v->ItemsV V h ks vs->ItemsV V h (k::ks) (v::vs)
theorem ItemsV.inj{V:KeyV prog w K c}{h:Heap}{x:List K}{vs:List Value}(hx:ItemsV V h x vs):∀{y:List K},ItemsV V h y vs->x=y:=by
 induction hx with
 | nil=>intro y hy;cases hy;rfl
 | cons a _ ih=>intro y hy;cases hy with | cons b t=>rw[V.inj a b,ih t]
theorem ItemsV.length{V:KeyV prog w K c}{h:Heap}{x:List K}{vs:List Value}(hx:ItemsV V h x vs):x.length=vs.length:=by
 induction hx with
 | nil=>rfl
 | cons _ _ ih=>simp[ih]
theorem ItemsV.get{V:KeyV prog w K c}{h:Heap}{x:List K}{vs:List Value}(hx:ItemsV V h x vs):∀{j:Nat}{v:Value},vs[j]? =some v->∃k,x[j]? =some k/\V.is h k v:=by
 induction hx with
 | nil=>intro j v e;simp at e
 | cons a _ ih=>
  intro j v e;cases j with
  | zero=>simp at e;subst e;exact⟨_,rfl,a⟩
  | succ j=>obtain⟨k,h1,h2⟩:=ih (j:=j) (v:=v) (by simpa using e);exact⟨k,by simpa using h1,h2⟩
theorem ItemsV.keeps{V:KeyV prog w K c}{h h':Heap}{x:List K}{vs:List Value}{d:Addr}{o:Obj}{es:Array DictEntry}{ep:Nat}(hx:ItemsV V h x vs)(ho:h.get? d=some o)(hd:o.data= .dict es ep)(hs:Heap.SameBut d h h'):ItemsV V h' x vs:=by
 induction hx with
 | nil=>exact .nil
 | cons a _ ih=>exact .cons (V.keeps a ho hd hs) ih
def kJ3(V:KeyV prog w K c)(h:Heap)(ks:List K)(v:Value):Prop:=∃(a:Addr)(o:Obj)(items:Array Value)(n:Nat),v= .ref a/\h.get? a=some o/\o.cls= .type "tuple"/\o.data= .seq items n/\ItemsV V h ks items.toList
theorem uX2:∀(x y:List K),((List.range (min x.length y.length)).all (λj=>decide (x[j]? =y[j]?))&&x.length == y.length)=decide (x=y):=by
 intro x y
 by_cases e:x=y
 .subst e;simp
 .rw[lJ4 e,Bool.and_eq_false_iff]
  by_cases l:x.length=y.length
  .left
   rw[List.all_eq_false]
   have:∃j:Nat,x[j]? ≠y[j]? :=by
    apply lQc;intro q;exact e (lKh λj=>lQc λz=>q ⟨j,z⟩)
   obtain⟨j,hj⟩:=this;refine⟨j,lJw.mpr ?_,by simpa using hj⟩
   rcases lQr j (min x.length y.length) with z | z
   .exact z
   .exact absurd (by rw[lJy (by omega),lJy (by omega)]) hj
  .right;simpa using l
noncomputable def jUk(V:KeyV prog w K c):KeyV prog w (List K) (c+2) where
 is:=kJ3 V
 hash:=λks=>reduceHash (Builtin.Tuple.tupleHashOf (ks.map V.hash))
 draws:=λks=>(ks.map V.draws).sum+1
 inj:=by
  rintro h v x y ⟨a,o,items,n,rfl,ho,_,hd,hi⟩ ⟨a',o',items',n',e,ho',_,hd',hi'⟩;cases e;rw[ho] at ho';cases ho';rw[hd] at hd';cases hd';exact hi.inj hi'
 keeps:=by
  rintro h h' k v d o es ep ⟨a,o',items,n,rfl,ho',hc,hd',hi⟩ ho hd hs
  have ne:a≠d:=by
   rintro rfl;rw[ho] at ho';cases ho';rw[hd] at hd';cases hd'
  exact⟨a,o',items,n,rfl,(hs.2 a ne).trans ho',hc,hd',hi.keeps ho hd hs⟩
 hashed:=by
  rintro A E s ks v Q hu ⟨a,o,items,n,rfl,ho,hc,hd,hi⟩ h;refine PySem.W.pyHash_slot (T:="tuple") ⟨o,ho,hc⟩ F.slot_tuple_hash F.entry_tuple_hash (F.args_tuple_hash_1 _) (beq_builtin_none _) (.inr (by omega)) ?_
  refine (show wpAny _ _ (Builtin.Tuple.tupleItemsOf (.ref a) >>= _) _ _ s from lJa (wpAny_tupleItemsOf ho hd (lJa ?_)))
  rw[<-lYb];refine lVz _ (λrest (b:Array Int) z=>∃done left,ks=done++left/\ItemsV V s.heap left rest/\b.toList=done.map V.hash/\z={s with toks:=s.toks+(done.map V.draws).sum}) _ ?_ ?_ _ _ ⟨[],ks,rfl,hi,rfl,rfl⟩
  .rintro x rest b z ⟨done,left,rfl,hl,hb,rfl⟩;cases hl with
   | @cons k _ ks' _ h1 hl'=>
    refine lJa (V.hashed (by rw[lK8];omega) h1 ?_)
    first
     | exact lJd ⟨done++[k],ks',by simp,hl',by simp[hb],(by simp[Nat.add_assoc])⟩
     | exact lJa (lJd (lJd ⟨done++[k],ks',by simp,hl',by simp[hb],(by simp[Nat.add_assoc])⟩))
  .rintro b z ⟨done,left,rfl,hl,hb,rfl⟩;cases hl;rw[lQ2] at h;refine (show wpAny _ _ (retInt (Builtin.Tuple.tupleHashOf b.toList)) _ _ _ from ?_)
   rw[hb];exact lJa (wpAny_mkInt (lJd ⟨_,_,rfl,by simpa[Nat.add_assoc] using h⟩))
 eqAt:=by
  rintro A s x y u v hu ⟨a,o,items,n,rfl,ho,hc,hd,hi⟩ ⟨a',o',items',n',rfl,ho',hc',hd',hi'⟩
  by_cases e:a=a'
  .subst e;rw[ho] at ho';cases ho';rw[hd] at hd';cases hd';rw[hi.inj hi',lKf rfl];exact SeqAt.EqAt.same _
  .have R:=SeqAt.RcAt.tuples (A:=A) (s:=s) (l:=a) (b:=a') (e:=λj=>decide (x[j]? =y[j]?)) ⟨o,ho,hc,n,hd⟩ ⟨o',ho',hc',n',hd'⟩ (by omega) (λj j1 j2=> ?_)
   .have l1:=hi.length;have l2:=hi'.length;rw[<-uX2 x y,l1,l2];have R':=SeqAt.EqAt.of_refs e R
    simpa using R'
   .obtain⟨k,h1,h2⟩:=hi.get (j:=j) (v:=items[j]) (by simp[j1])
    obtain⟨k',h1',h2'⟩:=hi'.get (j:=j) (v:=items'[j]) (by simp[j2])
    have:=V.eqAt (A:=A.in1) (s:=s) (by rw[lK8];omega) h2 h2'
    rw[h1,h1']
    simpa using this
 quiet:=by
  rintro A E s ks v Q n hn ⟨a,o,items,m,rfl,ho,hc,hd,hi⟩ h;obtain⟨n,rfl⟩:∃nn,n=nn+1:=⟨n-1,by omega⟩
  have hT:s.TypeIs (.ref a) "tuple":=⟨o,ho,hc⟩;unfold eqIsQuiet;refine lJa (lXj hT F.slot_tuple_eq.lookup ?_);refine (show wpAny _ _ (isInstance (.ref a) (.type "tuple") >>= _) _ _ s from lJa (lXk hT isSubtype_tuple_tuple ?_))
  simp only[lJ6,lXo,lKi];refine lJa (lYs ho hd (lJa ?_));refine (show wpAny _ _ (forIn items _ _) _ _ s from ?_)
  rw[<-lYb];refine lVz _ (λrest r z=>r.1=none/\z=s/\∃left,ItemsV V s.heap left rest) _ ?_ ?_ _ _ ⟨rfl,rfl,ks,hi⟩
  .rintro x rest r z ⟨hr,rfl,left,hl⟩;cases hl with
   | cons h1 hl'=>
    refine lJa (V.quiet n (by omega) h1 ?_)
    simp only[lJ6,lXo,lKi];exact lJd ⟨rfl,rfl,_,hl'⟩
  .rintro⟨r1,r2⟩ z ⟨hr,rfl,_⟩;simp only at hr;subst hr;exact lJd h
theorem uQ7{α β:Type}[DecidableEq α][DecidableEq β](a b:α):decide ((Sum.inl a:α ⊕ β)=Sum.inl b)=decide (a=b):=by
 by_cases e:a=b
 .simp[e]
 .rw[lJ4 e,lJ4 λz=>e (Sum.inl.inj z)]
theorem uQ6{α β:Type}[DecidableEq α][DecidableEq β](a b:β):decide ((Sum.inr a:α ⊕ β)=Sum.inr b)=decide (a=b):=by
 by_cases e:a=b
 .simp[e]
 .rw[lJ4 e,lJ4 λz=>e (Sum.inr.inj z)]
noncomputable def qJo(V:KeyV prog w K c):KeyV prog w (Key ⊕ List K) (c+2) where
 is:=λh k v=>match k with
  | .inl k=>jXe k v=true
  | .inr ks=>kJ3 V h ks v
 hash:=λk=>match k with
  | .inl k=>keyH w k
  | .inr ks=>(jUk V).hash ks
 draws:=λk=>match k with
  | .inl _=>1
  | .inr ks=>(jUk V).draws ks
 inj:=by
  rintro h v (x | x) (y | y) hx hy
  .rw[(jKy prog w).inj _ _ _ hx hy]
  .obtain⟨a,_,_,_,rfl,_⟩:=hy
   rcases jJv hx with ⟨i,t,_,e⟩ | ⟨i,t,_,e⟩<;>cases e
  .obtain⟨a,_,_,_,rfl,_⟩:=hx
   rcases jJv hy with ⟨i,t,_,e⟩ | ⟨i,t,_,e⟩<;>cases e
  .rw[(jUk V).inj hx hy]
 keeps:=by
  rintro h h' (k | k) v d o es ep hx ho hd hs
  .exact hx
  .exact (jUk V).keeps hx ho hd hs
 hashed:=by
  rintro A E s (k | k) v Q hu hx h
  .exact (jKy prog w).pyHash hx h
  .exact (jUk V).hashed hu hx h
 eqAt:=by
  rintro A s (x | x) (y | y) u v hu hx hy
  .rw[uQ7];exact (jY2 prog w).eqAt (by omega) hx hy
  .rw[lJ4 λz=>nomatch z]
   obtain⟨a,o,items,n,rfl,ho,hc,hd,_⟩:=hy
   rcases jJv hx with ⟨i,t,_,rfl⟩ | ⟨i,t,_,rfl⟩
   .exact SeqAt.EqAt.int_tuple i t ⟨o,ho,hc,n,hd⟩ (by omega)
   .exact SeqAt.EqAt.str_tuple i t ⟨o,ho,hc,n,hd⟩ (by omega)
  .rw[lJ4 λz=>nomatch z]
   obtain⟨a,o,items,n,rfl,ho,hc,hd,_⟩:=hx
   rcases jJv hy with ⟨i,t,_,rfl⟩ | ⟨i,t,_,rfl⟩
   .exact SeqAt.EqAt.tuple_int i t ⟨o,ho,hc,n,hd⟩ (by omega)
   .exact SeqAt.EqAt.tuple_str i t ⟨o,ho,hc,n,hd⟩ (by omega)
  .rw[uQ6];exact (jUk V).eqAt hu hx hy
 quiet:=by
  rintro A E s (k | k) v Q n hn hx h
  .exact (jY2 prog w).quiet n (lJx _) hx h
  .exact (jUk V).quiet n hn hx h
end
abbrev K1:=Key ⊕ List Key
abbrev K2:=Key ⊕ List K1
abbrev TKey:=List K2
def vk1(prog:Program)(w:World):KeyV prog w K1 2:=qJo (jY2 prog w)
def vk2(prog:Program)(w:World):KeyV prog w K2 4:=qJo (vk1 prog w)
noncomputable def jJi(prog:Program)(w:World):HeapKind prog w TKey where
 is:=λh ks a=>(jUk (vk2 prog w)).is h ks (.ref a)
 hash:=(jUk (vk2 prog w)).hash
 draws:=(jUk (vk2 prog w)).draws
 room:=λA=>A.units+6<cLine
 inj:=λhx hy=>(jUk (vk2 prog w)).inj hx hy
 keeps:=λx ho hd hs=>(jUk (vk2 prog w)).keeps x ho hd hs
 pyHash:=λhu hk h=>(jUk (vk2 prog w)).hashed hu hk h
 eqBool:=λhu hx hy h=>(jUk (vk2 prog w)).eqAt hu hx hy _ _ _ _ h
 quiet:=λhk h=>(jUk (vk2 prog w)).quiet 8 (by decide) hk h
theorem jQi{prog:Program}{w:World}{A:Around}(hu:A.units+20<cLine):(jJi prog w).room A.in1:=by
 show A.in1.units+6<cLine
 rw[lK8];omega
inductive V where
 | non | bl (b:Bool) | int (i:Int) | str (x:Str) | byt (b:Array UInt8) | flt (b:UInt64) | ref (a:Addr) | ty (n:String)
 deriving DecidableEq
noncomputable def RelV:V->Value->Prop
 | .non,u=>u=Value.none
 | .bl b,u=>u=Value.bool b
 | .int i,u=>∃t,u=Value.int i t
 | .str x,u=>∃t,u=Value.str x t
 | .byt b,u=>∃t,u=Value.bytes b t
 | .flt b,u=>∃t,u=Value.float b t
 | .ref a,u=>u=Value.ref a
 | .ty n,u=>u=Value.type n
abbrev Vals:List V->List Value->Prop:=Paired RelV
theorem Vals.length{xs:List V}{us:List Value}(r:Vals xs us):xs.length=us.length:=lVf r
theorem Vals.get:∀{xs:List V}{us:List Value}{i:Nat}{x:V},Vals xs us->xs[i]? =some x->∃u,us[i]? =some u/\RelV x u
 | _,_,_,_,.nil,e=>by simp at e
 | _,_,0,_,.cons r _,e=>by simp at e;subst e;exact⟨_,rfl,r⟩
 | _,_,i+1,x,.cons _ t,e=>by
  obtain⟨u,h1,h2⟩:=Vals.get (i:=i) (x:=x) t (by simpa using e)
  exact⟨u,by simpa using h1,h2⟩
theorem Vals.set{x:V}{u:Value}(r:RelV x u):∀{xs:List V}{us:List Value}(i:Nat),Vals xs us->Vals (xs.set i x) (us.set i u)
 | _,_,_,.nil=> .nil
 | _,_,0,.cons _ t=> .cons r t
 | _,_,i+1,.cons q t=> .cons q (Vals.set r i t)
theorem Vals.append:∀{xs ys:List V}{us ws:List Value},Vals xs us->Vals ys ws->Vals (xs++ys) (us++ws)
 | _,_,_,_,.nil,s=>s
 | _,_,_,_,.cons r t,s=> .cons r (Vals.append t s)
theorem Vals.take:∀{xs:List V}{us:List Value}(n:Nat),Vals xs us->Vals (xs.take n) (us.take n)
 | _,_,0,_=> .nil
 | _,_,_+1,.nil=> .nil
 | _,_,n+1,.cons r t=> .cons r (Vals.take n t)
theorem Vals.drop:∀{xs:List V}{us:List Value}(n:Nat),Vals xs us->Vals (xs.drop n) (us.drop n)
 | _,_,0,r=>r
 | _,_,_+1,.nil=> .nil
 | _,_,n+1,.cons _ t=>Vals.drop n t
def RelO:Option V->Option Value->Prop
 | some v,some u=>RelV v u
 | none,none=>True
 | _,_=>False
def KV{κ:Type}:List (κ×V)->List (κ×Value)->Prop:=Paired λ(p:κ×V)(q:κ×Value)=>p.1=q.1/\RelV p.2 q.2
def kV:Key->V
 | .inl i=> .int i
 | .inr x=> .str x
inductive HO where
  | lst (xs:List V)
  | tup (xs:List V)
  | dK (kvs:List (Key×V)) | dT (kvs:List (TKey×V))
  | set (S:Int->Bool) (n:Nat)
  | ins (C dx:Addr) (fs:List (Str×V))
  | own (x:Addr)
  | xd (fs:List (Str×V))
  | met (f x:Addr)
  | rng (lo hi:Int)
  | frz (o:Obj) (u:HO)
  | tbl (ps:Array Value)
  | ext (φ:Heap->Prop)
abbrev Hp:=Addr->Option HO
def upd(H:Hp)(a:Addr)(o:HO):Hp:=λb=>if b=a then some o else H b
theorem jKv{H:Hp}{a:Addr}{o:HO}:upd H a o a=some o:=by unfold upd;rw[lJc rfl]
theorem jKk{H:Hp}{a b:Addr}{o:HO}(h:b≠a):upd H a o b=H b:=by unfold upd;rw[lJb h]
theorem uV1{H:Hp}{a b:Addr}{o u:HO}(h:H a=some o)(h':H b=some u)(d:o≠u):a≠b:=by
 intro e;subst e;rw[h] at h';exact d (lJ3 h')
theorem jUo{H:Hp}{a b:Addr}{o:HO}(h:H a=some o)(h':H b=none):a≠b:=by
 intro e;subst e;rw[h] at h';cases h'
def Rk1(H:Hp)(k:K1)(v:V):Prop:=match k with
 | .inl k=>v=kV k
 | .inr ks=>∃p vs,v= .ref p/\H p=some (.tup vs)/\Paired (λk v=>v=kV k) ks vs
def Rk2(H:Hp)(k:K2)(v:V):Prop:=match k with
 | .inl k=>v=kV k
 | .inr ks=>∃p vs,v= .ref p/\H p=some (.tup vs)/\Paired (Rk1 H) ks vs
def TKeyAt(H:Hp)(ks:TKey)(a:Addr):Prop:=∃vs,H a=some (.tup vs)/\Paired (Rk2 H) ks vs
theorem jXb{α β:Type}{F G:α->β->Prop}(f:∀a b,F a b->G a b):∀{l:List α}{m:List β},Paired F l m->Paired G l m
 | _,_,.nil=> .nil
 | _,_,.cons r t=> .cons (f _ _ r) (jXb f t)
theorem Rk1.mono{H H':Hp}(ht:∀b ys,H b=some (.tup ys)->H' b=some (.tup ys))(k:K1)(v:V)(r:Rk1 H k v):Rk1 H' k v:=by
 cases k with
 | inl k=>exact r
 | inr ks=>obtain⟨p,vs,e,h,t⟩:=r;exact⟨p,vs,e,ht _ _ h,t⟩
theorem Rk2.mono{H H':Hp}(ht:∀b ys,H b=some (.tup ys)->H' b=some (.tup ys))(k:K2)(v:V)(r:Rk2 H k v):Rk2 H' k v:=by
 cases k with
 | inl k=>exact r
 | inr ks=>obtain⟨p,vs,e,h,t⟩:=r;exact⟨p,vs,e,ht _ _ h,jXb (Rk1.mono ht) t⟩
theorem TKeyAt.mono{H H':Hp}{ks:TKey}{a:Addr}(r:TKeyAt H ks a)(ht:∀b ys,H b=some (.tup ys)->H' b=some (.tup ys)):TKeyAt H' ks a:=by
 obtain⟨vs,h,t⟩:=r;exact⟨vs,ht _ _ h,jXb (Rk2.mono ht) t⟩
section
variable (P:Program)(w:World)
def TupD(h:Heap)(a:Addr)(items:Array Value):Prop:=∃o,h.get? a=some o/\o.cls= .type "tuple"/\∃n,o.data= .seq items n/\o.dict=none
theorem TupD.is{h:Heap}{a:Addr}{items:Array Value}(x:TupD h a items):IsTup h a items:=let ⟨o,e,c,n,d,_⟩:=x;⟨o,e,c,n,d⟩
theorem TupD.new(h:Heap)(items:Array Value):TupD (h.push {cls:= .type "tuple",data:= .seq items}) h.objs.size items:=⟨_,lJz _ rfl,rfl,_,rfl,rfl⟩
noncomputable def ObjOk(H:Hp)(h:Heap)(a:Addr):HO->Prop
 | .lst xs=>xs.length<=sizeLine/\∃(its:List Value)(n:Nat),Vals xs its/\h.get? a=some {cls:= .type "list",data:= .seq its.toArray n}
 | .tup xs=>xs.length<=sizeLine/\∃its:List Value,Vals xs its/\TupD h a its.toArray
 | .dK kvs=>kvs.length<=sizeLine/\(a == sysModules)=false/\∃vs,KV kvs vs/\h.DictOf (jKy P w) a vs
 | .dT kvs=>kvs.length<=sizeLine/\(a == sysModules)=false/\∃xs:List (TKey×Addr×Value),
   Paired (λ(p:TKey×V)(q:TKey×Addr×Value)=>p.1=q.1/\TKeyAt H p.1 q.2.1/\RelV p.2 q.2.2) kvs xs/\
   ∃o es ep,h.get? a=some o/\o.ExactDict/\o.data= .dict es ep/\es.toList=xs.map (entryOfKey (jJi P w))/\(xs.map (·.1)).Nodup
 | .set S n=>h.SetOf (intKind P w) a S n
 | .ins C dx fs=>H dx=some (.own a)/\fs.length<=1000/\dx≠a/\h.get? a=some (PySem.W.instObj C dx)/\
   ∃mA,h.Ns1 dx mA/\(∀f,RelO (fs.lookup f) (mA f))/\PySem.Within mA (fs.map (·.1))
 | .own _=>∃o,h.get? a=some o
 | .xd fs=>∃mA,h.Ns1 a mA/\∀f,RelO (fs.lookup f) (mA f)
 | .rng lo hi=>∃t u v,h.get? a=some {cls:= .type "range",data:= .fields #[.int lo t,.int hi u,.int 1 v]}
 | .frz o u=>h.get? a=some o/\ObjOk H h a u
 | .tbl ps=>h.get? a=some {cls:= .none,data:= .fields ps}
 | .met f x=>h.get? a=some (PySem.W.methodObj (.ref f) (.ref x))
 | .ext φ=>φ h/\(∃o,h.get? a=some o)/\∀h1 h2:Heap,φ h1->(∀o,h1.get? a=some o->h2.get? a=some o)->φ h2
def HOk(H:Hp)(h:Heap):Prop:=∀a o,H a=some o->ObjOk P w H h a o
end
section
variable {P:Program}{w:World}{H H':Hp}{h h':Heap}{a:Addr}{o:HO}
theorem ObjOk.lt(x:ObjOk P w H h a o):a<h.objs.size:=by
 cases o with
 | lst xs=>obtain⟨_,_,_,_,e⟩:=x;exact lJl e
 | tup xs=>obtain⟨_,_,_,p⟩:=x;exact p.is.lt
 | dK kvs=>obtain⟨_,_,_,_,o,_,_,e,_⟩:=x;exact lJl e
 | dT kvs=>obtain⟨_,_,_,_,o,_,_,e,_⟩:=x;exact lJl e
 | set S n=>obtain⟨o,_,_,_,e,_⟩:=x;exact lJl e
 | ins C dx fs=>obtain⟨_,_,_,e,_⟩:=x;exact lJl e
 | own y=>obtain⟨_,e⟩:=x;exact lJl e
 | xd fs=>obtain⟨_,⟨_,_,_,e,_⟩,_⟩:=x;exact lJl e
 | rng lo hi=>obtain⟨_,_,_,e⟩:=x;exact lJl e
 | frz ob u=>obtain⟨e,_⟩:=x;exact lJl e
 | tbl ps=>exact lJl (show h.get? a=some _ from x)
 | met f y=>exact lJl (show h.get? a=some _ from x)
 | ext φ=>obtain⟨_,⟨_,e⟩,_⟩:=x;exact lJl e
theorem Paired.mapP{α β:Type}{F G:α->β->Prop}:∀{l₁:List α}{l₂:List β},Paired F l₁ l₂->(∀a b,F a b->G a b)->Paired G l₁ l₂
 | _,_,.nil,_=> .nil
 | _,_,.cons r t,f=> .cons (f _ _ r) (Paired.mapP t f)
theorem ObjOk.stay(x:ObjOk P w H h a o)(k:∀b u,(b=a\/H b=some (.own a))->h.get? b=some u->h'.get? b=some u)
  (ho:∀b,H b=some (.own a)->H' b=some (.own a)) (ht:∀b xs,H b=some (.tup xs)->H' b=some (.tup xs)):ObjOk P w H' h' a o:=by
 induction o with
 | lst xs=>obtain⟨z,its,n,r,e⟩:=x;exact⟨z,its,n,r,k _ _ (.inl rfl) e⟩
 | tup xs=>obtain⟨z,its,r,ob,e,c⟩:=x;exact⟨z,its,r,ob,k _ _ (.inl rfl) e,c⟩
 | dK kvs=>obtain⟨z,y,vs,r,ob,es,ep,e,c⟩:=x;exact⟨z,y,vs,r,ob,es,ep,k _ _ (.inl rfl) e,c⟩
 | dT kvs=>
  obtain⟨z,y,xs,r,ob,es,ep,e,c⟩:=x;exact⟨z,y,xs,Paired.mapP r λp q z=>⟨z.1,z.2.1.mono ht,z.2.2⟩,ob,es,ep,k _ _ (.inl rfl) e,c⟩
 | set S n=>obtain⟨ob,es,ep,t,e,c⟩:=x;exact⟨ob,es,ep,t,k _ _ (.inl rfl) e,c⟩
 | ins C dx fs=>
  obtain⟨d,z,ne,e,mA,⟨od,es,ep,e2,c⟩,r⟩:=x;exact⟨ho _ d,z,ne,k _ _ (.inl rfl) e,mA,⟨od,es,ep,k _ _ (.inr d) e2,c⟩,r⟩
 | own y=>obtain⟨ob,e⟩:=x;exact⟨ob,k _ _ (.inl rfl) e⟩
 | xd fs=>obtain⟨mA,⟨od,es,ep,e,c⟩,r⟩:=x;exact⟨mA,⟨od,es,ep,k _ _ (.inl rfl) e,c⟩,r⟩
 | rng lo hi=>obtain⟨t,u,v,e⟩:=x;exact⟨t,u,v,k _ _ (.inl rfl) e⟩
 | frz ob u ih=>obtain⟨e,q⟩:=x;exact⟨k _ _ (.inl rfl) e,ih q⟩
 | tbl ps=>
  have e:h.get? a=some {cls:= .none,data:= .fields ps}:=x;show h'.get? a=some {cls:= .none,data:= .fields ps}
  exact k a _ (.inl rfl) e
 | met f y=>
  have e:h.get? a=some (PySem.W.methodObj (.ref f) (.ref y)):=x;show h'.get? a=some (PySem.W.methodObj (.ref f) (.ref y))
  exact k a _ (.inl rfl) e
 | ext φ=>obtain⟨p,⟨o,e⟩,st⟩:=x;exact⟨st _ _ p λo q=>k _ _ (.inl rfl) q,⟨o,k _ _ (.inl rfl) e⟩,st⟩
theorem HOk.lt(x:HOk P w H h)(e:H a=some o):a<h.objs.size:=(x a o e).lt
theorem HOk.fresh(x:HOk P w H h)(e:h.objs.size<=a):H a=none:=by
 cases q:H a with
 | none=>rfl
 | some u=>exact absurd (lKa (x.lt q) e) (lKx _)
theorem HOk.kept(x:HOk P w H h)(k:∀b u,h.get? b=some u->h'.get? b=some u):HOk P w H h':=λa o e=>
 (x a o e).stay (λb u _ q=>k b u q) (λ_ q=>q) λ_ _ q=>q
theorem HOk.laid(x:HOk P w H h)(k:∀b u,h.get? b=some u->h'.get? b=some u)(hp:h.objs.size<=a)(new:ObjOk P w (upd H a o) h' a o):HOk P w (upd H a o) h':=λb u e=>by
 have hn:=x.fresh hp
 by_cases hb:b=a
 .subst hb;rw[jKv] at e;cases e;exact new
 .rw[jKk hb] at e;exact (x b u e).stay (λc v _ q=>k c v q) (λc q=>by rw[jKk (jUo q hn)];exact q) λc xs q=>by rw[jKk (jUo q hn)];exact q
end
def Rd(H:Hp)(a:Addr)(u:HO):Prop:=H a=some u\/∃o,H a=some (.frz o u)
theorem Rd.ok{P:Program}{w:World}{H:Hp}{h:Heap}{a:Addr}{u:HO}(r:Rd H a u)(x:HOk P w H h):ObjOk P w H h a u:=by
 rcases r with r | ⟨o,r⟩
 .exact x a u r
 .obtain⟨_,q⟩:=x a _ r;exact q
def Mut:Option HO->Prop
 | some (.lst _)=>True
 | some (.dK _)=>True
 | some (.dT _)=>True
 | some (.set _ _)=>True
 | some (.ins _ _ _)=>True
 | some (.ext _)=>True
 | _=>False
section
variable {P:Program}{w:World}{H:Hp}{h h':Heap}{x e:Addr}{o':HO}
theorem HOk.write(ok:HOk P w H h)(mu:Mut (H x))(he:e=x\/H e=some (.own x))(k:∀b u,b≠e->h.get? b=some u->h'.get? b=some u)(heo:∃u,h'.get? e=some u)
  (new:ObjOk P w (upd H x o') h' x o'):HOk P w (upd H x o') h':=λb u q=>by
 have nown:∀c y,H c=some (.own y)->c≠x:=λc y r z=>by subst z;rw[r] at mu;exact mu
 have ntup:∀c xs,H c=some (.tup xs)->c≠x:=λc xs r z=>by subst z;rw[r] at mu;exact mu
 by_cases hb:b=x
 .subst hb;rw[jKv] at q;cases q;exact new
 .rw[jKk hb] at q
  by_cases hbe:b=e
  .have q':H b=some (.own x):=by
    rcases he with z | z
    .exact absurd (hbe.trans z) hb
    .rw[hbe];exact z
   rw[q] at q';cases q';obtain⟨v,hv⟩:=heo;exact⟨v,by rw[hbe];exact hv⟩
  .refine (ok b u q).stay (λc v hc r=>k c v ?_ r) (λc r=>by rw[jKk (nown c b r)];exact r) λc xs r=>by rw[jKk (ntup c xs r)];exact r
   rcases hc with rfl | hc
   .exact hbe
   .rintro rfl
    rcases he with z | z
    .exact nown c b hc z
    .rw[hc] at z;cases z;exact hb rfl
end
structure Un (fs ex:List Addr) (H H':Hp) (h h':Heap):Prop where
 keep:∀b o,h.get? b=some o->H b=none->b∉fs->b∉ex->h'.get? b=some o
 slot:∀b o,h.get? b=some o->H b=none->b∈fs->b∉ex->∃sl,h'.get? b=some {o with slots:=sl}
 free:∀b o,h.get? b=some o->H b=none->b∉ex->H' b=none
 there:∀b o,h.get? b=some o->b∉ex->∃o',h'.get? b=some o'
 tups:∀b xs,H b=some (.tup xs)->H' b=some (.tup xs)
 frzs:∀b o u,H b=some (.frz o u)->H' b=some (.frz o u)
 tbls:∀b ps,H b=some (.tbl ps)->∃more,H' b=some (.tbl (ps++more))
section
variable {fs fs' ex ex':List Addr}{H H1 H2:Hp}{h h1 h2 h':Heap}{a x e:Addr}{o:HO}
theorem Un.any(u:Un fs ex H H1 h h1){b:Addr}{ob:Obj}(q:h.get? b=some ob)(n:H b=none)(hx:b∉ex):∃sl,h1.get? b=some {ob with slots:=sl}:=by
 by_cases hb:b∈fs
 .exact u.slot b ob q n hb hx
 .exact⟨ob.slots,u.keep b ob q n hb hx⟩
theorem Un.kept(k:∀b u,h.get? b=some u->h'.get? b=some u):Un fs ex H H h h':=
 ⟨λb ob q _ _ _=>k b ob q,λb ob q _ _ _=>⟨ob.slots,k b ob q⟩,λ_ _ _ n _=>n,λb ob q _=>⟨ob,k b ob q⟩,λ_ _ q=>q,λ_ _ _ q=>q,λ_ ps q=>⟨#[],by rw[q];simp⟩⟩
theorem Un.refl:Un fs ex H H h h:=Un.kept λ_ _ q=>q
theorem Un.laid(k:∀b u,h.get? b=some u->h'.get? b=some u)(hp:h.objs.size<=a)(hn:H a=none):Un fs ex H (upd H a o) h h' where
 keep:=λb u q _ _ _=>k b u q
 slot:=λb u q _ _ _=>⟨u.slots,k b u q⟩
 free:=λb u q n _=>by rw[jKk (lJt (lKa (lJl q) hp))];exact n
 there:=λb u q _=>⟨u,k b u q⟩
 tups:=λb xs q=>by rw[jKk (jUo q hn)];exact q
 frzs:=λb u xs q=>by rw[jKk (jUo q hn)];exact q
 tbls:=λb ps q=>⟨#[],by rw[jKk (jUo q hn),q];simp⟩
theorem Un.write(mu:Mut (H x))(he:e=x\/H e=some (.own x))(k:∀b u,b≠e->h.get? b=some u->h'.get? b=some u)(heo:∃u,h'.get? e=some u):Un fs ex H (upd H x o) h h':=by
 have hx:∀b,H b=none->b≠x:=λb n z=>by subst z;rw[n] at mu;exact mu
 have hb:∀b,H b=none->b≠e:=λb n z=>by
  subst z
  rcases he with r | r
  .exact hx b n r
  .rw[n] at r;cases r
 have hm:∀b u,H b=some u->¬ Mut (some u)->b≠x:=λb u q nm z=>by subst z;rw[q] at mu;exact nm mu
 refine⟨λb u q n _ _=>k b u (hb b n) q,λb u q n _ _=>⟨u.slots,k b u (hb b n) q⟩,λb u q n _=>by rw[jKk (hx b n)];exact n,λb u q _=> ?_,
  λb xs q=>by rw[jKk (hm b _ q λz=>z)];exact q,λb u xs q=>by rw[jKk (hm b _ q λz=>z)];exact q,λb ps q=>⟨#[],by rw[jKk (hm b _ q λz=>z),q];simp⟩⟩
 by_cases hbe:b=e
 .subst hbe;exact heo
 .exact⟨u,k b u hbe q⟩
end
def trk(h:Heap)(H:Hp):List Addr:=(List.range h.objs.size).filter λa=>(H a).isSome
def hidT(h:Heap)(H:Hp):Heap:=PySem.W.hideAll h (trk h H)
theorem qU2(h:Heap)(H:Hp):(hidT h H).objs.size=h.objs.size:=PySem.W.hideAll_size _ _
theorem qZc{h:Heap}{H:Hp}{b:Addr}{o:Obj}(e:h.get? b=some o)(n:H b=none):(hidT h H).get? b=some o:=
 PySem.W.hideAll_get _ e λhm=>by
  have q:(H b).isSome=true:=(lQs.mp hm).2;rw[n] at q;simp at q
theorem uK7{h:Heap}{H:Hp}{b:Addr}{o:Obj}(e:(hidT h H).get? b=some o):h.get? b=some o/\H b=none:=by
 have e':h.get? b=some o:=PySem.W.of_hideAll (trk h H) e;refine⟨e',?_⟩;cases q:H b with
 | none=>rfl
 | some x=>
  have hm:b∈trk h H:=lQs.mpr ⟨lJw.mpr (lJl e'),by simp[q]⟩
  have z:(hidT h H).get? b=none:=PySem.W.hideAll_none (trk h H) hm;rw[z] at e;cases e
def uUd(g h:Heap)(L:Addr):List (Addr×Obj):=(List.range h.objs.size).filterMap λa=>if a=L\/(g.get? a).isSome=true then none else (h.get? a).map λo=>(a,o)
def rest(g h:Heap)(L d:Addr):List (Addr×Obj):=(uUd g h L).filter λp=>decide (p.1≠d)
structure Mod (K:PySem.W.Frag) (mg:Str->Option Value) (base:Heap):Prop where
 kin:K.In base
 glob:base.Ns mainGlobals mg
 blt:∃mb,base.Ns builtinsNs mb/\∀x:Str,x≠"__name__"->mb x=bootBuiltins x
 nolimit:base.NoLimit
structure Cx where
 prog:Program
 w:World
 K:PySem.W.Frag
 mg:Str->Option Value
 base:Heap
 A:Around
 N:List Str
 s₀:Shared
 H₀:Hp
 env:Env
 outer:List Env
 stack:List Env
 ex:List Addr
 fn:Str->Bool
 calm:Bool
 pn:List (Addr×Obj)
 xe:Value->Shared->Prop
def frs(l:List Env):List Addr:=l.filterMap (·.frame)
abbrev Cx.fs(X:Cx):List Addr:=frs X.outer
def Vis(sc:Scope)(x:Str):Prop:=sc.names.lookup x=some .local\/sc.names.lookup x=some .cell\/sc.names.lookup x=some .free
def Loc(sc:Scope)(x:Str):Prop:=sc.names.lookup x=some .local\/sc.names.lookup x=some .cell
def Look(env:Env)(h:Heap)(m:Str->Option Value)(x:Str)(u:Value):Prop:=
 (env.kindOf x=some .local/\m x=some u)\/((env.kindOf x=some .cell\/env.kindOf x=some .free)/\∃c,env.cells.lookup x=some c/\h.IsCell c (some u))
structure Cx.Ok (X:Cx):Prop where
 mod:Mod X.K X.mg X.base
 kind:X.env.scope.kind= .function
 glob:X.env.globals=mainGlobals
 blt:X.env.builtins=builtinsNs
 above:X.s₀.heap.objs.size<=X.env.locals
 inj:∀x y c,X.env.cells.lookup x=some c->X.env.cells.lookup y=some c->x=y
 has:∀x,(X.env.kindOf x=some .cell\/X.env.kindOf x=some .free)->∃c,X.env.cells.lookup x=some c
 cab:∀x c,X.fn x=true->X.env.cells.lookup x=some c->X.s₀.heap.objs.size<=c
 hd:X.calm=true->X.A.handled=none
 gd:X.calm=true->X.A.guards=some []
 frames:X.A.frames=some X.stack
 stk:X.stack=X.outer\/(X.stack=X.env::X.outer/\X.env.frame=some X.env.locals)
 exf:∀b∈X.ex,b≠X.env.locals/\∀x c,X.env.cells.lookup x=some c->c≠b
 bs:∀b o,X.base.get? b=some o->X.s₀.heap.get? b=some o/\X.H₀ b=none
 bsz:X.base.objs.size<=X.s₀.heap.objs.size
 noex:∀b o,X.base.get? b=some o->b∉X.ex
 exfs:∀b∈X.ex,b∉X.fs
 funs:X.s₀.heap.FunFrames X.base X.outer
 frf:∀b∈X.fs,X.H₀ b=none
structure Inv (X:Cx) (pins:List (Addr×Obj)) (σ:List (Option V)) (H:Hp) (s:Shared):Prop where
 ok:X.Ok
 os:s.os=X.s₀.os
 bare:AllBare s.gens
 base:Un X.fs X.ex X.H₀ H X.s₀.heap s.heap
 loc:∃m,s.heap.Ns X.env.locals m/\∀(i:Nat)(x:Str)(v:V),X.N[i]? =some x->σ[i]? =some (some v)->Vis X.env.scope x->∃u,RelV v u/\Look X.env s.heap m x u
 cell:∀x c,X.env.cells.lookup x=some c->∃v,s.heap.IsCell c v
 free:H X.env.locals=none
 freeC:∀x c,X.env.cells.lookup x=some c->H c=none
 pin:∀p∈X.pn++pins,s.heap.get? p.1=some p.2/\H p.1=none/\p.1≠X.env.locals/\p.1∉X.fs/\∀v,p.2.data≠ .cell v
 hok:HOk X.prog X.w H s.heap
 len:σ.length=X.N.length
section
variable {X:Cx}{pins:List (Addr×Obj)}{σ:List (Option V)}{H H':Hp}{s:Shared}{h':Heap}
theorem Cx.Ok.nofr(ok:X.Ok){b:Addr}{o:Obj}(e:X.base.get? b=some o):b∉X.fs:=λhb=>by
 have:=(ok.funs.mem hb).1;rw[e] at this;cases this
theorem Inv.bs(I:Inv X pins σ H s):∀b o,X.base.get? b=some o->s.heap.get? b=some o/\H b=none:=λb o e=>
 ⟨I.base.keep b o (I.ok.bs b o e).1 (I.ok.bs b o e).2 (I.ok.nofr e) (I.ok.noex b o e),I.base.free b o (I.ok.bs b o e).1 (I.ok.bs b o e).2 (I.ok.noex b o e)⟩
theorem Inv.bk(I:Inv X pins σ H s):∀b o,X.base.get? b=some o->s.heap.get? b=some o:=λb o e=>(I.bs b o e).1
theorem Inv.mod(I:Inv X pins σ H s):Mod X.K X.mg X.base:=I.ok.mod
theorem Inv.kIn(I:Inv X pins σ H s):X.K.In s.heap:=I.ok.mod.kin.keeps I.bk
theorem Inv.lt(I:Inv X pins σ H s):X.env.locals<s.heap.objs.size:=let ⟨_,hn,_⟩:=I.loc;hn.lt
theorem Inv.sz(I:Inv X pins σ H s):X.s₀.heap.objs.size<=s.heap.objs.size:=lKc I.ok.above (lQ3 I.lt)
theorem Inv.nofs(I:Inv X pins σ H s){a:Addr}(h:s.heap.objs.size<=a):a∉X.fs:=λhb=>by
 obtain⟨_,o,ho,_⟩:=I.ok.funs.mem hb;exact absurd (lKa (lJl ho) (lKc I.sz h)) (lKx _)
theorem Inv.cne(I:Inv X pins σ H s):∀x c,X.env.cells.lookup x=some c->c≠X.env.locals:=λx c e z=>by
 obtain⟨v,o,ho,hd⟩:=I.cell x c e;obtain⟨m,⟨o',es,ep,ho',hd',_⟩,_⟩:=I.loc;rw[z,ho'] at ho;cases ho;rw[hd'] at hd;cases hd
theorem Inv.funs(I:Inv X pins σ H s):s.heap.FunFrames X.base X.outer:=by
 have all:∀(l:List Env),(∀b∈frs l,b∈X.fs)->X.s₀.heap.FunFrames X.base l->s.heap.FunFrames X.base l:=by
  intro l
  induction l with
  | nil=>intro _ _;trivial
  | cons env r ih=>
   intro hs hl;obtain⟨hk,⟨L,o,hf,hn,ho,hd⟩,hr⟩:=hl;have hL:L∈X.fs:=hs L (by unfold frs;rw[lQ4,hf];exact lJ2)
   obtain⟨sl,e⟩:=I.base.slot L o ho (I.ok.frf L hL) hL λz=>I.ok.exfs L z hL
   exact⟨hk,⟨L,_,hf,hn,e,hd⟩,ih (λb hb=>hs b (by unfold frs;rw[lQ4,hf];exact lJ5 _ hb)) hr⟩
 exact all X.outer (λ_ hb=>hb) I.ok.funs
theorem Inv.stack(I:Inv X pins σ H s):s.heap.FunFrames X.base X.stack:=by
 rcases I.ok.stk with e | ⟨e,hf⟩
 .rw[e];exact I.funs
 .rw[e];obtain⟨m,hn,_⟩:=I.loc;refine .cons (by rw[I.ok.kind];decide) hf hn ?_ I.funs
  exact Heap.get?_none_of_le (lKc I.ok.bsz I.ok.above)
theorem Inv.stkSub(I:Inv X pins σ H s):∀b∈frs X.stack,b∈X.env.locals::X.fs:=λb hb=>by
 rcases I.ok.stk with e | ⟨e,hf⟩
 .rw[e] at hb;exact lJ5 _ hb
 .rw[e] at hb;unfold frs at hb;rw[lQ4,hf] at hb;exact hb
theorem Inv.stkFree(I:Inv X pins σ H s):∀b∈frs X.stack,H b=none:=λb hb=>by
 rcases lJp.mp (I.stkSub b hb) with e | hb
 .rw[e];exact I.free
 .obtain⟨_,o,ho,_⟩:=I.ok.funs.mem hb;exact I.base.free b o ho (I.ok.frf b hb) λz=>I.ok.exfs b z hb
theorem Inv.step{g':Array GenState}{t':Nat}{d':Drawn}{ch:List Addr}(I:Inv X pins σ H s)
  (hch:∀b∈ch,(b∈X.ex\/X.s₀.heap.objs.size<=b)/\b≠X.env.locals/\(∀x c,X.env.cells.lookup x=some c->c≠b)/\∀p∈X.pn++pins,p.1≠b)
  (keep:∀b o,b≠X.env.locals->b∉X.fs->b∉ch->s.heap.get? b=some o->H b=none->h'.get? b=some o)
  (slot:∀b o,b≠X.env.locals->b∈X.fs->b∉ch->s.heap.get? b=some o->H b=none->∃sl,h'.get? b=some {o with slots:=sl}) (free:∀b o,b∉ch->s.heap.get? b=some o->H b=none->H' b=none)
  (there:∀b o,b∉ch->s.heap.get? b=some o->∃o',h'.get? b=some o')
  (tups:∀b xs,H b=some (.tup xs)->H' b=some (.tup xs)) (frzs:∀b o u,H b=some (.frz o u)->H' b=some (.frz o u)) (tbls:∀b ps,H b=some (.tbl ps)->∃more,H' b=some (.tbl (ps++more)))
  (ns:∀m,s.heap.Ns X.env.locals m->h'.Ns X.env.locals m) (hok:HOk X.prog X.w H' h') (hg:AllBare g'):
  Inv X pins σ H' {s with heap:=h',gens:=g',drawn:=d',toks:=t'}:=by
 have neL:∀b o,X.s₀.heap.get? b=some o->b≠X.env.locals:=λb o e=>lJt (lKa (lJl e) I.ok.above)
 have neC:∀b o,X.s₀.heap.get? b=some o->b∉X.ex->b∉ch:=λb o e hx hb=>by
  rcases (hch b hb).1 with z | z
  .exact hx z
  .exact absurd (lKa (lJl e) z) (lKx _)
 have cellK:∀x c,X.env.cells.lookup x=some c->∀v,s.heap.IsCell c v->h'.IsCell c v:=λx c e v ⟨o,ho,hd⟩=>by
  have nch:c∉ch:=λz=>(hch c z).2.2.1 x c e rfl
  by_cases hc:c∈X.fs
  .obtain⟨sl,q⟩:=slot c o (I.cne x c e) hc nch ho (I.freeC x c e);exact⟨_,q,hd⟩
  .exact⟨o,keep c o (I.cne x c e) hc nch ho (I.freeC x c e),hd⟩
 refine⟨I.ok,I.os,hg,⟨λb o e n hb hx=> ?_,λb o e n hb hx=> ?_,λb o e n hx=> ?_,λb o e hx=> ?_,λb xs e=>tups b xs (I.base.tups b xs e),λb o xs e=>frzs b o xs (I.base.frzs b o xs e),λb ps e=> ?_⟩,?_,λx c e=> ?_,?_,λx c e=> ?_,λp hp=> ?_,hok,I.len⟩
 .exact keep b o (neL b o e) hb (neC b o e hx) (I.base.keep b o e n hb hx) (I.base.free b o e n hx)
 .obtain⟨sl,e1⟩:=I.base.slot b o e n hb hx;obtain⟨sl',e2⟩:=slot b _ (neL b o e) hb (neC b o e hx) e1 (I.base.free b o e n hx);exact⟨sl',e2⟩
 .obtain⟨o',e1⟩:=I.base.there b o e hx;exact free b o' (neC b o e hx) e1 (I.base.free b o e n hx)
 .obtain⟨o',e1⟩:=I.base.there b o e hx;exact there b o' (neC b o e hx) e1
 .obtain⟨m1,e1⟩:=I.base.tbls b ps e;obtain⟨m2,e2⟩:=tbls b _ e1;exact⟨m1++m2,by rw[e2,Array.append_assoc]⟩
 .obtain⟨m,hn,hl⟩:=I.loc;refine⟨m,ns m hn,λi x v e1 e2 e3=> ?_⟩
  obtain⟨u,r,l⟩:=hl i x v e1 e2 e3;refine⟨u,r,?_⟩
  rcases l with l | ⟨k,c,e,z⟩
  .exact .inl l
  .exact .inr ⟨k,c,e,cellK x c e _ z⟩
 .obtain⟨v,z⟩:=I.cell x c e;exact⟨v,cellK x c e v z⟩
 .obtain⟨m,⟨o,_,_,ho,_⟩,_⟩:=I.loc;exact free _ o (λz=>(hch _ z).2.1 rfl) ho I.free
 .obtain⟨v,o,ho,hd⟩:=I.cell x c e;exact free c o (λz=>(hch c z).2.2.1 x c e rfl) ho (I.freeC x c e)
 .obtain⟨e,n,ne,nf,d⟩:=I.pin p hp;have nch:p.1∉ch:=λz=>(hch p.1 z).2.2.2 p hp rfl
  exact⟨keep p.1 p.2 ne nf nch e n,free p.1 p.2 nch e n,ne,nf,d⟩
theorem Inv.un{t':Nat}(I:Inv X pins σ H s)(u:Un X.fs [] H H' s.heap h')(hok:HOk X.prog X.w H' h'):Inv X pins σ H' {s with heap:=h',toks:=t'}:=by
 obtain⟨m,⟨o,es,ep,ho,r⟩,_⟩:=id I.loc;obtain⟨sl,hL⟩:=u.any ho I.free (by simp)
 exact I.step (g':=s.gens) (d':=s.drawn) (ch:=[]) (λ_ z=>nomatch z) (λb o _ hb _ e n=>u.keep b o e n hb (by simp)) (λb o _ hb _ e n=>u.slot b o e n hb (by simp)) (λb o _ e n=>u.free b o e n (by simp)) (λb o _ e=>u.there b o e (by simp)) u.tups u.frzs u.tbls (λm' hm=>by
  obtain⟨o',es',ep',ho',r'⟩:=hm;rw[ho] at ho';cases ho';exact⟨_,es',ep',hL,r'⟩) hok I.bare
theorem Inv.call{g':Array GenState}{t':Nat}{d':Drawn}{ch:List Addr}(I:Inv X pins σ H s)(u:Un (frs X.stack) ch H H' s.heap h')(hok:HOk X.prog X.w H' h')(hg:AllBare g')
  (hch:∀b∈ch,(b∈X.ex\/X.s₀.heap.objs.size<=b)/\b≠X.env.locals/\(∀x c,X.env.cells.lookup x=some c->c≠b)/\∀p∈X.pn++pins,p.1≠b):
  Inv X pins σ H' {s with heap:=h',gens:=g',drawn:=d',toks:=t'}:=by
 obtain⟨m,⟨o,es,ep,ho,r⟩,_⟩:=id I.loc;obtain⟨sl,hL⟩:=u.any ho I.free λz=>(hch _ z).2.1 rfl
 exact I.step (ch:=ch) hch (λb o hL hb hc e n=>u.keep b o e n (λz=>(lJp.mp (I.stkSub b z)).elim hL hb) hc) (λb o _ _ hc e n=>u.any e n hc) (λb o hc e n=>u.free b o e n hc) (λb o hc e=>u.there b o e hc) u.tups u.frzs u.tbls (λm' hm=>by
  obtain⟨o',es',ep',ho',r'⟩:=hm;rw[ho] at ho';cases ho';exact⟨_,es',ep',hL,r'⟩) hok hg
theorem Inv.turned{t':Nat}{it:Addr}(I:Inv X pins σ H s)(k:∀b o,b≠it->s.heap.get? b=some o->h'.get? b=some o)(hn:H it=none)(hL:it≠X.env.locals)
  (h1:it∈X.ex\/X.s₀.heap.objs.size<=it) (h2:∀x c,X.env.cells.lookup x=some c->c≠it) (h3:∀p∈X.pn++pins,p.1≠it):Inv X pins σ H {s with heap:=h',toks:=t'}:=by
 have nit:∀b u,H b=some u->b≠it:=λb u e z=>by rw[z,hn] at e;cases e
 refine I.step (g':=s.gens) (d':=s.drawn) (ch:=[it]) (λb hb=> ?_) (λb o _ _ hc e _=>k b o (λz=>hc (by simp[z])) e) (λb o _ _ hc e _=>⟨o.slots,k b o (λz=>hc (by simp[z])) e⟩) (λ_ _ _ _ n=>n)
  (λb o hc e=>⟨o,k b o (λz=>hc (by simp[z])) e⟩) (λ_ _ e=>e) (λ_ _ _ e=>e) (λb ps e=>⟨#[],by rw[e];simp⟩) (λm hm=> ?_) (λb u e=> ?_) I.bare
 .have e:b=it:=by simpa using hb
  subst e;exact⟨h1,hL,h2,h3⟩
 .obtain⟨o,es,ep,ho,r⟩:=hm;exact⟨o,es,ep,k _ o (Ne.symm hL) ho,r⟩
 .refine (I.hok b u e).stay (λc v hc q=>k c v ?_ q) (λ_ q=>q) λ_ _ q=>q
  rcases hc with z | z
  .rw[z];exact nit b u e
  .exact nit c _ z
theorem Inv.tok(I:Inv X pins σ H s)(t:Nat):Inv X pins σ H {s with toks:=t}:=I.un (h':=s.heap) (t':=t) Un.refl I.hok
theorem Inv.kept{t':Nat}(I:Inv X pins σ H s)(k:∀b u,s.heap.get? b=some u->h'.get? b=some u):Inv X pins σ H {s with heap:=h',toks:=t'}:=I.un (Un.kept k) (I.hok.kept k)
theorem Inv.laid{a:Addr}{o:HO}{t':Nat}(I:Inv X pins σ H s)(k:∀b u,s.heap.get? b=some u->h'.get? b=some u)(hp:s.heap.objs.size<=a)(new:ObjOk X.prog X.w (upd H a o) h' a o):
  Inv X pins σ (upd H a o) {s with heap:=h',toks:=t'}:=I.un (Un.laid k hp (I.hok.fresh hp)) (I.hok.laid k hp new)
theorem Inv.write{x e:Addr}{o:HO}{t':Nat}(I:Inv X pins σ H s)(mu:Mut (H x))(he:e=x\/H e=some (.own x))(k:∀b u,b≠e->s.heap.get? b=some u->h'.get? b=some u)(heo:∃u,h'.get? e=some u)
  (new:ObjOk X.prog X.w (upd H x o) h' x o):Inv X pins σ (upd H x o) {s with heap:=h',toks:=t'}:=I.un (Un.write mu he k heo) (I.hok.write mu he k heo new)
theorem Inv.weak{σ':List (Option V)}(I:Inv X pins σ H s)(hl:σ'.length=σ.length)(w:∀(i:Nat) v,σ'[i]? =some (some v)->σ[i]? =some (some v)):Inv X pins σ' H s:=
 ⟨I.ok,I.os,I.bare,I.base,let ⟨m,hn,hl'⟩:=I.loc;⟨m,hn,λi x v e1 e2 e3=>hl' i x v e1 (w i v e2) e3⟩,I.cell,I.free,I.freeC,I.pin,I.hok,hl.trans I.len⟩
theorem Inv.pins_of{pins':List (Addr×Obj)}(I:Inv X pins σ H s)(h:∀p∈pins',s.heap.get? p.1=some p.2/\H p.1=none/\p.1≠X.env.locals/\p.1∉X.fs/\∀v,p.2.data≠ .cell v):Inv X pins' σ H s:=
 ⟨I.ok,I.os,I.bare,I.base,I.loc,I.cell,I.free,I.freeC,λp hp=>(lKb.mp hp).elim (λz=>I.pin p (lK1 _ z)) (h p),I.hok,I.len⟩
theorem kZi{N:List Str}(hN:N.Nodup){i j:Nat}{x:Str}(a:N[i]? =some x)(b:N[j]? =some x):i=j:=by
 obtain⟨h1,e1⟩:=lJe.mp a;obtain⟨h2,e2⟩:=lJe.mp b;exact (List.getElem_inj hN).mp (e1.trans e2.symm)
theorem qK3{M:Model}{A:Around}{E:Value->Shared->Prop}{i:Nat}{x:Str}{v:V}{u:Value}{Q:Unit->Shared->Prop}(I:Inv X pins σ H s)(hN:X.N.Nodup)(hi:X.N[i]? =some x)(hx:Loc X.env.scope x)(r:RelV v u)
  (h:∀s',Inv X pins (σ.set i (some v)) H s'->(∃a,Heap.SameBut a s.heap s'.heap/\(a=X.env.locals\/X.env.cells.lookup x=some a))->Q () s') (hf:X.fn x=true\/X.env.scope.names.lookup x=some .local:=by first | exact .inl rfl | exact .inr rfl | assumption):wpAny M A (storeName X.env x u) Q E s:=by
 obtain⟨m,hn,hl⟩:=id I.loc;have hcls:(X.env.scope.kind == .class||(X.env.scope.kind == .module&&X.env.locals != X.env.globals))=false:=by rw[I.ok.kind];rfl
 have hiσ:i<σ.length:=by rw[I.len];exact (lJe.mp hi).1
 have cne:=I.cne
 have tracked:∀{a:Addr}{h':Heap},(∃o,s.heap.get? a=some o/\H a=none)->Heap.SameBut a s.heap h'->HOk X.prog X.w H h':=λ{a h'} ha hs b ob e=>by
  obtain⟨_,_,hfree⟩:=ha;refine (I.hok b ob e).stay (λc w' hc q=>(hs.2 c ?_).trans q) (λ_ q=>q) λ_ _ q=>q
  rintro rfl
  rcases hc with rfl | hc
  .rw[hfree] at e;cases e
  .rw[hfree] at hc;cases hc
 rcases hx with hk | hk
 .refine wpAny_storeName_local hk hn (λh' hn' hs=> ?_) hcls
  obtain⟨oL,_,_,hoL,_⟩:=id hn;refine h _ ⟨I.ok,I.os,I.bare,⟨λb o e n hb hx=> ?_,λb o e n hb hx=> ?_,I.base.free,λb o e hx=> ?_,I.base.tups,I.base.frzs,I.base.tbls⟩,⟨_,hn',λj y v' e1 e2 e3=> ?_⟩,λy c e=> ?_,I.free,I.freeC,λp hp=> ?_,tracked ⟨oL,hoL,I.free⟩ hs,by simpa using I.len⟩ ⟨_,hs,.inl rfl⟩
  .exact (hs.2 b (lJt (lKa (lJl e) I.ok.above))).trans (I.base.keep b o e n hb hx)
  .obtain⟨sl,e1⟩:=I.base.slot b o e n hb hx;exact⟨sl,(hs.2 b (lJt (lKa (lJl e) I.ok.above))).trans e1⟩
  .obtain⟨o',e1⟩:=I.base.there b o e hx;exact⟨o',(hs.2 b (lJt (lKa (lJl e) I.ok.above))).trans e1⟩
  .by_cases hj:j=i
   .subst hj;rw[hi] at e1;cases e1;rw[lK9 hiσ] at e2;cases e2;exact⟨u,r,.inl ⟨hk,by simp⟩⟩
   .rw[lKy (Ne.symm hj)] at e2;obtain⟨u',r',q⟩:=hl j y v' e1 e2 e3;refine⟨u',r',?_⟩
    rcases q with ⟨k,e⟩ | ⟨k,c,e,z⟩
    .refine .inl ⟨k,?_⟩;have:y≠x:=λe=>hj (kZi hN e1 (e▸hi))
     simp[this,e]
    .exact .inr ⟨k,c,e,z.sameBut hs (cne y c e)⟩
  .obtain⟨w',z⟩:=I.cell y c e;exact⟨w',z.sameBut hs (cne y c e)⟩
  .obtain⟨e,n,ne,nf,d⟩:=I.pin p hp;exact⟨(hs.2 p.1 ne).trans e,n,ne,nf,d⟩
 .have hfn:X.fn x=true:=by
   rcases hf with z | z
   .exact z
   .rw[z] at hk;cases hk
  obtain⟨c,hc⟩:=I.ok.has x (.inl hk);obtain⟨w',z⟩:=I.cell x c hc;refine wpAny_storeName_cell I.ok.kind hk hc z (λh' hc' hs=> ?_)
  obtain⟨oc,hoc,hocd⟩:=id z;refine h {s with heap:=h'} ⟨I.ok,I.os,I.bare,⟨λb o e n hb hx=> ?_,λb o e n hb hx=> ?_,I.base.free,λb o e hx=> ?_,I.base.tups,I.base.frzs,I.base.tbls⟩,⟨m,hn.sameBut hs (Ne.symm (cne x c hc)),λj y v' e1 e2 e3=> ?_⟩,λy c' e=> ?_,I.free,I.freeC,λp hp=> ?_,tracked ⟨oc,hoc,I.freeC x c hc⟩ hs,by simpa using I.len⟩ ⟨c,hs,.inr hc⟩
  .exact (hs.2 b (lJt (lKa (lJl e) (I.ok.cab x c hfn hc)))).trans (I.base.keep b o e n hb hx)
  .obtain⟨sl,e1⟩:=I.base.slot b o e n hb hx;exact⟨sl,(hs.2 b (lJt (lKa (lJl e) (I.ok.cab x c hfn hc)))).trans e1⟩
  .obtain⟨o',e1⟩:=I.base.there b o e hx;exact⟨o',(hs.2 b (lJt (lKa (lJl e) (I.ok.cab x c hfn hc)))).trans e1⟩
  .by_cases hj:j=i
   .subst hj;rw[hi] at e1;cases e1;rw[lK9 hiσ] at e2;cases e2;exact⟨u,r,.inr ⟨.inl hk,c,hc,hc'⟩⟩
   .rw[lKy (Ne.symm hj)] at e2;obtain⟨u',r',q⟩:=hl j y v' e1 e2 e3;refine⟨u',r',?_⟩
    rcases q with q | ⟨k,c',e,z'⟩
    .exact .inl q
    .refine .inr ⟨k,c',e,z'.sameBut hs ?_⟩;rintro rfl;exact hj (kZi hN e1 (I.ok.inj _ _ _ e hc▸hi))
  .by_cases hcc:c'=c
   .subst hcc;exact⟨_,hc'⟩
   .obtain⟨w2,z2⟩:=I.cell y c' e;exact⟨w2,z2.sameBut hs hcc⟩
  .obtain⟨e,n,ne,nf,d⟩:=I.pin p hp;refine⟨(hs.2 p.1 ?_).trans e,n,ne,nf,d⟩;intro q;rw[q,hoc] at e;have q':oc=p.2:=lJ3 e;exact d w' (by rw[<-q'];exact hocd)
theorem jXi{M:Model}{A:Around}{E:Value->Shared->Prop}{i:Nat}{x:Str}{v:V}{u:Value}{Q:Unit->Shared->Prop}(I:Inv X pins σ H s)(hN:X.N.Nodup)(hi:X.N[i]? =some x)(hx:Loc X.env.scope x)(r:RelV v u)
  (h:∀s',Inv X pins (σ.set i (some v)) H s'->Q () s') (hf:X.fn x=true\/X.env.scope.names.lookup x=some .local:=by first | exact .inl rfl | exact .inr rfl | assumption):wpAny M A (storeName X.env x u) Q E s:=
 qK3 I hN hi hx r (λs' I' _=>h s' I') hf
theorem Inv.call'{s':Shared}{ch:List Addr}(I:Inv X pins σ H s)(ho:s'.os=s.os)(u:Un (frs X.stack) ch H H' s.heap s'.heap)(hok:HOk X.prog X.w H' s'.heap)(hg:AllBare s'.gens)
  (hch:∀b∈ch,(b∈X.ex\/X.s₀.heap.objs.size<=b)/\b≠X.env.locals/\(∀x c,X.env.cells.lookup x=some c->c≠b)/\∀p∈X.pn++pins,p.1≠b):Inv X pins σ H' s':=by
 obtain⟨h',g',d',t',o'⟩:=s';have e:o'=s.os:=ho;subst e;exact I.call (g':=g') (t':=t') (d':=d') u hok hg hch
end
abbrev XK:=Value->Option Addr->Hp->Prop
abbrev St:=List (Option V)
abbrev VK:=V->Hp->Prop
abbrev TE:=St->Hp->VK->Prop
abbrev TT:=St->Hp->(Bool->Hp->Prop)->Prop
abbrev TA:=St->Hp->(List V->Hp->Prop)->Prop
structure Ends where
 nx:St->Hp->Prop
 rt:VK
 bk:St->Hp->Prop:=λ_ _=>False
 ct:St->Hp->Prop:=λ_ _=>False
abbrev TS:=Ends->St->Hp->Prop
def EP(X:Cx)(pins:List (Addr×Obj))(σ:St)(Q:VK)(u:Value)(s':Shared):Prop:=∃v H',Inv X pins σ H' s'/\RelV v u/\Q v H'
def TP(X:Cx)(pins:List (Addr×Obj))(σ:St)(Q:Bool->Hp->Prop)(b:Bool)(s':Shared):Prop:=∃H',Inv X pins σ H' s'/\Q b H'
def SP(X:Cx)(pins:List (Addr×Obj))(D:Ends)(f:Flow)(s':Shared):Prop:=
 match f with
 | .next=>∃ σ' H',Inv X pins σ' H' s'/\D.nx σ' H'
 | .brk=>∃ σ' H',Inv X pins σ' H' s'/\D.bk σ' H'
 | .cont=>∃ σ' H',Inv X pins σ' H' s'/\D.ct σ' H'
 | .ret u=>∃v σ' H',Inv X pins σ' H' s'/\RelV v u/\D.rt v H'
def PE(X:Cx)(e:Expr)(t:TE):Prop:=
 ∀(pins:List (Addr×Obj))(s:Shared)(σ:St)(H:Hp)(Q:VK),Inv X pins σ H s->t σ H Q->wpAny (model X.prog X.w) X.A (eval e X.env) (EP X pins σ Q) X.xe s
def PSs(X:Cx)(st:List Stmt)(t:TS):Prop:=
 ∀(pins:List (Addr×Obj))(s:Shared)(σ:St)(H:Hp)(D:Ends),Inv X pins σ H s->t D σ H->wpAny (model X.prog X.w) X.A (execs st X.env) (SP X pins D) X.xe s
theorem thn{α:Type}{t:Sem α}{Q Q':α->Shared->Prop}{M:Model}{A:Around}{E:Value->Shared->Prop}{s:Shared}(h:wpAny M A t Q E s)(hQ:∀a s,Q a s->Q' a s):wpAny M A t Q' E s:=lQp h hQ λ_ _ x=>x
section
variable {X:Cx}
def tVar(i:Nat):TE:=λσ H Q=>∃v,σ[i]? =some (some v)/\Q v H
def tC(v:V):TE:=λ_ H Q=>Q v H
theorem uVg{i:Nat}{x:Str}{pos:Pos}(hN:X.N[i]? =some x)(hv:Vis X.env.scope x)(hd:(x == ("__debug__":Str))=false:=by decide)(hcd:(x == ("__classdict__":Str))=false:=by decide):PE X (.Name x pos) (tVar i):=by
 intro pins s σ H Q I h;obtain⟨v,e,h⟩:=h;obtain⟨m,hn,hl⟩:=I.loc;obtain⟨u,r,l⟩:=hl i x v hN e hv;have fin:EP X pins σ Q u s:=⟨v,H,I,r,h⟩
 rcases l with ⟨hk,hm⟩ | ⟨hk,c,hc,hcell⟩
 .exact wpAny_Name (wpAny_loadName_local I.ok.kind hk hn hm fin) hd
 .rcases hk with hk | hk
  .exact wpAny_Name (wpAny_loadName_cell I.ok.kind hk hc hcell fin) hd
  .exact wpAny_Name (wpAny_loadName_free I.ok.kind hk hc hcell fin hcd) hd
theorem uVj {i j pos}:PE X (.Constant (.int i) j pos) (tC (.int i)):=λ_ _ _ H _ I h=>wpAny_Constant_int ⟨.int i,H,I.tok _,⟨_,rfl⟩,h⟩
theorem uYh {b j pos}:PE X (.Constant (.bool b) j pos) (tC (.bl b)):=λ_ _ _ H _ I h=>Constant_bool ⟨.bl b,H,I,rfl,h⟩
theorem uVi {j pos}:PE X (.Constant .none j pos) (tC .non):=λ_ _ _ H _ I h=>Constant_none ⟨.non,H,I,rfl,h⟩
theorem uVh {x j pos}:PE X (.Constant (.str x) j pos) (tC (.str x)):=λ_ _ _ H _ I h=>Calls.Constant_str ⟨.str x,H,I.tok _,⟨_,rfl⟩,h⟩
def Gl(X:Cx)(x:Str):Prop:=X.env.kindOf x=some .globalImplicit
theorem uQh{E:Value->Shared->Prop}{pins:List (Addr×Obj)}{s:Shared}{σ:St}{H:Hp}{x:Str}{u:Value}{pos:Pos}{Q:Value->Shared->Prop}(I:Inv X pins σ H s)(hg:Gl X x)(hm:X.mg x=some u)(h:Q u s)
  (hd:(x == ("__debug__":Str))=false:=by decide):wpAny (model X.prog X.w) X.A (eval (.Name x pos) X.env) Q E s:=
 Calls.Name_function_global I.ok.kind hg (Calls.loadGlobal_global (by rw[I.ok.glob];exact I.mod.glob.keeps I.bk) hm h) hd
theorem jUe{E:Value->Shared->Prop}{pins:List (Addr×Obj)}{s:Shared}{σ:St}{H:Hp}{x:Str}{u:Value}{pos:Pos}{Q:Value->Shared->Prop}(I:Inv X pins σ H s)(hg:Gl X x)(hm:X.mg x=none)(hv:bootBuiltins x=some u)(h:Q u s)
  (hn:x≠"__name__":=by decide) (hd:(x == ("__debug__":Str))=false:=by decide):wpAny (model X.prog X.w) X.A (eval (.Name x pos) X.env) Q E s:=by
 obtain⟨mb,h1,h2⟩:=I.mod.blt;exact Calls.Name_function_global I.ok.kind hg (Calls.loadGlobal_builtin (by rw[I.ok.glob];exact I.mod.glob.keeps I.bk) hm (by rw[I.ok.blt];exact h1.keeps I.bk) ((h2 x hn).trans hv) h) hd
theorem uK0{x:Str}{v:V}{u:Value}{pos:Pos}(hg:Gl X x)(hm:X.mg x=none)(hv:bootBuiltins x=some u)(r:RelV v u)(hn:x≠"__name__":=by decide)(hd:(x == ("__debug__":Str))=false:=by decide):PE X (.Name x pos) (tC v):=
 λ_ _ _ H _ I h=>jUe I hg hm hv ⟨v,H,I,r,h⟩ hn hd
variable {a b:Expr}{ta tb:TE}{pos:Pos}
def tB(t:TE):TT:=λσ H Q=>t σ H λx H1=>∃c,x= .bl c/\Q c H1
variable {tA tB':TT}{rest:List Expr}
def tOrV(ta tb:TE):TE:=λσ H Q=>ta σ H λx H1=>∃c,x= .bl c/\if c=true then Q (.bl true) H1 else tb σ H1 Q
end
def SqL(K:PySem.W.Frag)(H:Hp)(a:Addr)(xs:List V):Prop:=
 Rd H a (.lst xs)\/
  ∃(o:Obj)(its:Array Value)(n:Nat),K.lookup a=some o/\o.cls= .type "list"/\o.dict=none/\o.data= .seq its n/\its.size<=sizeLine/\Vals xs its.toList
def SqT(K:PySem.W.Frag)(H:Hp)(a:Addr)(xs:List V):Prop:=
 Rd H a (.tup xs)\/
  ∃(o:Obj)(its:Array Value)(n:Nat),K.lookup a=some o/\o.cls= .type "tuple"/\o.data= .seq its n/\its.size<=sizeLine/\Vals xs its.toList
noncomputable def absV:Value->Option V
 | .none=>some .non
 | .bool b=>some (.bl b)
 | .int i _=>some (.int i)
 | .str x _=>some (.str x)
 | .bytes b _=>some (.byt b)
 | .float b _=>some (.flt b)
 | .ref a=>some (.ref a)
 | .type n=>some (.ty n)
 | _=>none
theorem RelV.abs{x:V}{u:Value}(r:RelV x u):absV u=some x:=by
 cases x with
 | non=>cases r;rfl
 | bl _=>cases r;rfl
 | int _=>obtain⟨t,rfl⟩:=r;rfl
 | str _=>obtain⟨t,rfl⟩:=r;rfl
 | byt _=>obtain⟨t,rfl⟩:=r;rfl
 | flt _=>obtain⟨t,rfl⟩:=r;rfl
 | ref _=>cases r;rfl
 | ty _=>cases r;rfl
theorem RelV.inj{x y:V}{u:Value}(r:RelV x u)(q:RelV y u):x=y:=lJ3 (r.abs.symm.trans q.abs)
theorem Vals.inj{xs ys:List V}{us:List Value}(h:Vals xs us)(g:Vals ys us):xs=ys:=by
 induction h generalizing ys with
 | nil=>(cases g;rfl)
 | cons r _ ih=>(cases g with | cons r' t'=>rw[r.inj r',ih t'])
section
variable {X:Cx}{pins:List (Addr×Obj)}{σ:St}{H:Hp}{s:Shared}{a:Addr}{xs ys:List V}
theorem SqL.of{K:PySem.W.Frag}(h:H a=some (.lst xs)):SqL K H a xs:= .inl (.inl h)
theorem SqT.of{K:PySem.W.Frag}(h:H a=some (.tup xs)):SqT K H a xs:= .inl (.inl h)
theorem Inv.list(I:Inv X pins σ H s)(h:SqL X.K H a xs):∃its:List Value,Vals xs its/\PlainL s.heap a its.toArray/\xs.length<=sizeLine:=by
 rcases h with h | ⟨o,its,n,hk,hc,hd,hs,hz,r⟩
 .obtain⟨z,its,n,r,e⟩:=h.ok I.hok;exact⟨its,r,⟨_,n,e,rfl,rfl,rfl⟩,z⟩
 .refine⟨its.toList,r,⟨o,n,I.kIn a o hk,hc,hd,by simpa using hs⟩,?_⟩
  have e:=r.length;simp only[lKm] at e;omega
theorem Inv.tuple(I:Inv X pins σ H s)(h:SqT X.K H a xs):∃its:List Value,Vals xs its/\IsTup s.heap a its.toArray/\xs.length<=sizeLine:=by
 rcases h with h | ⟨o,its,n,hk,hc,hs,hz,r⟩
 .obtain⟨z,its,r,p⟩:=h.ok I.hok;exact⟨its,r,p.is,z⟩
 .refine⟨its.toList,r,⟨o,I.kIn a o hk,hc,n,by simpa using hs⟩,?_⟩
  have e:=r.length;simp only[lKm] at e;omega
theorem Inv.list_inj(I:Inv X pins σ H s)(h:SqL X.K H a xs)(h':SqL X.K H a ys):xs=ys:=by
 obtain⟨its,r,⟨o,n,e,_,_,d⟩,_⟩:=I.list h;obtain⟨its',r',⟨o',n',e',_,_,d'⟩,_⟩:=I.list h';rw[e] at e';cases e';rw[d] at d';injection d' with d1 _
 have:its=its':=by simpa using lJs Array.toList d1
 subst this;exact r.inj r'
theorem Inv.tuple_inj(I:Inv X pins σ H s)(h:SqT X.K H a xs)(h':SqT X.K H a ys):xs=ys:=by
 obtain⟨its,r,⟨o,e,_,n,d⟩,_⟩:=I.tuple h;obtain⟨its',r',⟨o',e',_,n',d'⟩,_⟩:=I.tuple h';rw[e] at e';cases e';rw[d] at d';injection d' with d1 _
 have:its=its':=by simpa using lJs Array.toList d1
 subst this;exact r.inj r'
end
abbrev Cx.wish(X:Cx)(E:Value->Shared->Prop):Cx:={X with xe:=E}
abbrev Cx.nox(X:Cx):Cx:=X.wish λ_ _=>False
theorem Cx.Ok.wish{X:Cx}(ok:X.Ok)(E:Value->Shared->Prop):(X.wish E).Ok:=
 ⟨ok.mod,ok.kind,ok.glob,ok.blt,ok.above,ok.inj,ok.has,ok.cab,ok.hd,ok.gd,ok.frames,ok.stk,ok.exf,ok.bs,ok.bsz,ok.noex,ok.exfs,ok.funs,ok.frf⟩
theorem Cx.Ok.unwish{X:Cx}{E:Value->Shared->Prop}(ok:(X.wish E).Ok):X.Ok:=
 ⟨ok.mod,ok.kind,ok.glob,ok.blt,ok.above,ok.inj,ok.has,ok.cab,ok.hd,ok.gd,ok.frames,ok.stk,ok.exf,ok.bs,ok.bsz,ok.noex,ok.exfs,ok.funs,ok.frf⟩
section
variable {X:Cx}{pins:List (Addr×Obj)}{σ:St}{H:Hp}{s:Shared}{E:Value->Shared->Prop}
theorem Inv.wish(I:Inv X pins σ H s)(E:Value->Shared->Prop):Inv (X.wish E) pins σ H s:=⟨I.ok.wish E,I.os,I.bare,I.base,I.loc,I.cell,I.free,I.freeC,I.pin,I.hok,I.len⟩
theorem Inv.unwish(I:Inv (X.wish E) pins σ H s):Inv X pins σ H s:=⟨I.ok.unwish,I.os,I.bare,I.base,I.loc,I.cell,I.free,I.freeC,I.pin,I.hok,I.len⟩
theorem SP.unwish{D:Ends}{f:Flow}{s':Shared}(h:SP (X.wish E) pins D f s'):SP X pins D f s':=by
 cases f with
 | next=>obtain⟨σ',H',I,q⟩:=h;exact⟨σ',H',I.unwish,q⟩
 | brk=>obtain⟨σ',H',I,q⟩:=h;exact⟨σ',H',I.unwish,q⟩
 | cont=>obtain⟨σ',H',I,q⟩:=h;exact⟨σ',H',I.unwish,q⟩
 | ret u=>obtain⟨v,σ',H',I,r,q⟩:=h;exact⟨v,σ',H',I.unwish,r,q⟩
theorem PSs.nox{st:List Stmt}{t:TS}(h:PSs X.nox st t):PSs X st t:=λpins s σ H D I hw=>
 lQp (h pins s σ H D (I.wish _) hw) (λ_ _ q=>q.unwish) λ_ _ z=>False.elim z
end
section
variable {X:Cx}{st:Stmt}{rest:List Stmt}{t u:TS}{e:Expr}{te:TE}{pos:Pos}
theorem Inv.quiet{pins:List (Addr×Obj)}{σ:St}{H:Hp}{s:Shared}(I:Inv X pins σ H s):interactive X.env=false:=by simp[interactive,I.ok.kind]
def uUu:TS:=λD _ H=>D.rt .non H
end
abbrev TSet:=V->V->V->Hp->(Hp->Prop)->Prop
def PSet(X:Cx)(t:TSet):Prop:=
 ∀(pins:List (Addr×Obj))(s:Shared)(σ:St)(H:Hp)(o i v:V)(ov iv u:Value)(Q:Hp->Prop),Inv X pins σ H s->RelV o ov->RelV i iv->RelV v u->t o i v H Q->
  wpAny (model X.prog X.w) X.A (setItem ov iv u) (λ_ s'=>∃H',Inv X pins σ H' s'/\Q H') X.xe s
section
variable {X:Cx}{pos:Pos}
end
section
variable {X:Cx}{pos:Pos}
end
structure It where
 go:Nat->Hp->Prop
 yld:Nat->Hp->V->Hp->Prop
 stop:Nat->Hp->Prop
def FpOk(X:Cx)(pins:List (Addr×Obj))(H:Hp)(b:Addr):Prop:=
 H b=none/\b≠X.env.locals/\b∉X.fs/\(b∈X.ex\/X.s₀.heap.objs.size<=b)/\(∀x c,X.env.cells.lookup x=some c->c≠b)/\∀p∈X.pn++pins,p.1≠b
theorem Inv.fpOk{X:Cx}{pins:List (Addr×Obj)}{σ:St}{H H':Hp}{s:Shared}{b:Addr}(I:Inv X pins σ H s)(hb:s.heap.objs.size<=b)(hn:H' b=none):FpOk X pins H' b:=by
 refine⟨hn,lQ5 (lKa I.lt hb),I.nofs hb,.inr (lKc I.sz hb),λx c e z=> ?_,λp hp z=> ?_⟩
 .obtain⟨v,q⟩:=I.cell x c e;exact absurd (lKa q.lt (by rw[z];exact hb)) (lKx _)
 .exact absurd (lKa (lJl (I.pin p hp).1) (by rw[z];exact hb)) (lKx _)
structure Turn (P:Program) (w:World) (K:PySem.W.Frag) (tg:Expr) (J:It) (fp:List Addr) (it:Addr) (tn:Nat->Heap->Prop):Prop where
 mem:it∈fp
 obj:∀i h,tn i h->∀b∈fp,∃o,h.get? b=some o/\∀v,o.data≠ .cell v
 keep:∀i h h',tn i h->(∀b∈fp,∀o,h.get? b=some o->h'.get? b=some o)->tn i h'
 item:∀(X:Cx),X.prog=P->X.w=w->X.K=K->X.calm=true->∀(i:Nat)(pins:List (Addr×Obj))(s:Shared)(σ:St)(H:Hp)(E:Value->Shared->Prop),Inv X pins σ H s->(∀b∈fp,FpOk X pins H b)->tn i s.heap->J.go i H->
  wpAny (model P w) X.A (pyNext (.ref it)) (λr s1=>∃u,r=some u/\
   wpAny (model P w) X.A (letOwnedTupleGo tg (.ref it) u) (λ_ s2=>∃x H',Inv X pins σ H' s2/\RelV x u/\J.yld i H x H'/\tn (i+1) s2.heap/\∀b∈fp,H' b=none) E s1) E s
 done:∀(X:Cx),X.prog=P->X.w=w->X.K=K->X.calm=true->∀(i:Nat)(pins:List (Addr×Obj))(s:Shared)(σ:St)(H:Hp)(E:Value->Shared->Prop),Inv X pins σ H s->(∀b∈fp,FpOk X pins H b)->tn i s.heap->J.stop i H->
  wpAny (model P w) X.A (pyNext (.ref it)) (λr s1=>r=none/\Inv X pins σ H s1) E s
 self:∀(A:Around)(i:Nat)(s:Shared)(Q:Value->Shared->Prop)(E:Value->Shared->Prop),tn i s.heap->Q (.ref it) s->wpAny (model P w) A (pyIter (.ref it)) Q E s
abbrev TI:=St->Hp->(It->Hp->Prop)->Prop
def PIE(X:Cx)(pins:List (Addr×Obj))(σ:St)(tg:Expr)(R:It->Hp->Prop)(itv:Value)(s2:Shared):Prop:=
 ∃(it:Addr)(fp:List Addr)(tn:Nat->Heap->Prop)(J:It)(H':Hp),itv= .ref it/\Inv X pins σ H' s2/\Turn X.prog X.w X.K tg J fp it tn/\tn 0 s2.heap/\(∀b∈fp,FpOk X pins H' b)/\R J H'
def PI(X:Cx)(tg iter:Expr)(wi:TI):Prop:=
 ∀(pins:List (Addr×Obj))(s:Shared)(σ:St)(H:Hp)(R:It->Hp->Prop),Inv X pins σ H s->wi σ H R->
  wpAny (model X.prog X.w) X.A (eval iter X.env) (λv s1=>wpAny (model X.prog X.w) X.A (pyIter v) (PIE X pins σ tg R) X.xe s1) X.xe s
theorem qZh{M:Model}{A:Around}{E:Value->Shared->Prop}{s:Shared}{tg:Expr}{it:Addr}{u:Value}{o:Obj}{n:String}{vs:Array Value}{Q:Unit->Shared->Prop}(ho:s.heap.get? it=some o)(hc:o.cls= .type n)(hd:o.data= .fields vs)
  (hn:["enumerate","zip","dict_itemiterator","dict_reverseitemiterator","odict_iterator","itertools.zip_longest","itertools.pairwise"].contains n=false) (hQ:Q () s):wpAny M A (letOwnedTupleGo tg (.ref it) u) Q E s:=by
 unfold letOwnedTupleGo
 cases tg<;>first
  | exact lJd hQ
  | (cases u<;>first
    | exact lJd hQ
    | (refine lJa (wpAny_load ho ?_)
       rw[hc,hd];show wpAny M A (if (["enumerate","zip","dict_itemiterator","dict_reverseitemiterator","odict_iterator","itertools.zip_longest","itertools.pairwise"].contains n&&vs[0]? == some (rawInt _))=true then _ else _) Q E s
       rw[lJb (by intro h;rw[hn,Bool.false_and] at h;cases h)]
       exact lJd hQ))
noncomputable def Itl(K:PySem.W.Frag)(a:Addr):It:=
 ⟨λi H=>∃xs x,SqL K H a xs/\xs[i]? =some x,λi H x H'=>H'=H/\∀xs,SqL K H a xs->xs[i]? =some x,λi H=>∃xs,SqL K H a xs/\xs.length<=i⟩
noncomputable def Itt(K:PySem.W.Frag)(a:Addr):It:=
 ⟨λi H=>∃xs x,SqT K H a xs/\xs[i]? =some x,λi H x H'=>H'=H/\∀xs,SqT K H a xs->xs[i]? =some x,λi H=>∃xs,SqT K H a xs/\xs.length<=i⟩
def Itr(lo:Int)(n:Nat):It:=⟨λi _=>i<n,λi H x H'=>H'=H/\x= .int (lo+i),λi _=>n<=i⟩
theorem qKy{P:Program}{w:World}{K:PySem.W.Frag}{tg:Expr}(a it:Addr):Turn P w K tg (Itl K a) [it] it (λi h=>h.IsListIter it a i) where
 mem:=by simp
 obj:=λi h st b hb=>by
  have e:b=it:=by simpa using hb
  subst e;obtain⟨o,e,c,d⟩:=st;exact⟨o,e,λv z=>by rw[d] at z;cases z⟩
 keep:=λi h h' st k=>st.at λo e=>k it (by simp) o e
 item:=by
  intro X hP hw hK hc i pins s σ H E I hf st hg;subst hP hw hK;obtain⟨xs,x,hq,hx⟩:=hg;obtain⟨its,rv,p,hz⟩:=I.list hq;obtain⟨u,hu,ru⟩:=rv.get hx;obtain⟨f0,f1,f2,f3,f4,f5⟩:=hf it (by simp)
  refine wpAny_pyNext_list_item st p.isList (x:=u) (by simpa using hu) λh' st' sb=> ?_
  have I1:Inv X pins σ H {s with heap:=h'}:=I.turned (t':=s.toks) (λb o hb e=>(sb.2 b hb).trans e) f0 f1 f3 f4 f5
  obtain⟨o,e,c,d⟩:=id st';exact⟨u,rfl,qZh (s:={s with heap:=h'}) e c d (by decide) ⟨x,H,I1,ru,⟨rfl,λys hy=>by rw[I.list_inj hy hq];exact hx⟩,st',λb hb=>(hf b hb).1⟩⟩
 done:=by
  intro X hP hw hK hc i pins s σ H E I hf st hg;subst hP hw hK;obtain⟨xs,hq,hx⟩:=hg;obtain⟨its,rv,p,hz⟩:=I.list hq;obtain⟨f0,f1,f2,f3,f4,f5⟩:=hf it (by simp)
  have hl:=rv.length;exact wpAny_pyNext_list_end (I.ok.hd hc) st p.isList (by simp;omega) λh' eb=>⟨rfl,I.turned (t':=s.toks) (λb o hb e=>eb b o hb e) f0 f1 f3 f4 f5⟩
 self:=λ_ _ _ _ _ st h=>wpAny_pyIter_listiter st h
theorem qJk{P:Program}{w:World}{K:PySem.W.Frag}{tg:Expr}(a it:Addr):Turn P w K tg (Itt K a) [it] it (λi h=>h.IsTupleIter it a i) where
 mem:=by simp
 obj:=λi h st b hb=>by
  have e:b=it:=by simpa using hb
  subst e;obtain⟨o,e,c,d⟩:=st;exact⟨o,e,λv z=>by rw[d] at z;cases z⟩
 keep:=λi h h' st k=>st.at λo e=>k it (by simp) o e
 item:=by
  intro X hP hw hK hc i pins s σ H E I hf st hg;subst hP hw hK;obtain⟨xs,x,hq,hx⟩:=hg;obtain⟨its,rv,p,hz⟩:=I.tuple hq;obtain⟨u,hu,ru⟩:=rv.get hx;obtain⟨f0,f1,f2,f3,f4,f5⟩:=hf it (by simp)
  refine wpAny_pyNext_tuple_item st (show s.heap.IsTuple a its.toArray from p) (x:=u) (by simpa using hu) λh' st' sb=> ?_
  have I1:Inv X pins σ H {s with heap:=h'}:=I.turned (t':=s.toks) (λb o hb e=>(sb.2 b hb).trans e) f0 f1 f3 f4 f5
  obtain⟨o,e,c,d⟩:=id st';exact⟨u,rfl,qZh (s:={s with heap:=h'}) e c d (by decide) ⟨x,H,I1,ru,⟨rfl,λys hy=>by rw[I.tuple_inj hy hq];exact hx⟩,st',λb hb=>(hf b hb).1⟩⟩
 done:=by
  intro X hP hw hK hc i pins s σ H E I hf st hg;subst hP hw hK;obtain⟨xs,hq,hx⟩:=hg;obtain⟨its,rv,p,hz⟩:=I.tuple hq;obtain⟨f0,f1,f2,f3,f4,f5⟩:=hf it (by simp)
  have hl:=rv.length;exact wpAny_pyNext_tuple_end (I.ok.hd hc) st (show s.heap.IsTuple a its.toArray from p) (by simp;omega) λh' eb=>⟨rfl,I.turned (t':=s.toks) (λb o hb e=>eb b o hb e) f0 f1 f3 f4 f5⟩
 self:=λ_ _ _ _ _ st h=>wpAny_pyIter_tupleiter st h
theorem qJl{P:Program}{w:World}{K:PySem.W.Frag}{tg:Expr}(it:Addr)(lo:Int)(n:Nat):Turn P w K tg (Itr lo n) [it] it (λi h=>IsRangeIter h it (lo+(i:Nat)*1) ((n:Int)-(i:Nat)) 1) where
 mem:=by simp
 obj:=λi h st b hb=>by
  have e:b=it:=by simpa using hb
  subst e
  exact⟨_,st,λv z=>by
   have z':Data.fields _=Data.cell v:=z;cases z'⟩
 keep:=λi h h' st k=>k it (by simp) _ st
 item:=by
  intro X hP hw hK hc i pins s σ H E I hf st hg;subst hP hw hK;obtain⟨f0,f1,f2,f3,f4,f5⟩:=hf it (by simp)
  have W:=Walks.range (prog:=X.prog) (w:=X.w) (I.ok.hd hc) it lo 1 n;refine W.item i s _ _ hg st λv h' tk hv st' kk=> ?_
  obtain⟨t,rfl⟩:=hv;have I1:Inv X pins σ H {s with heap:=h',toks:=tk}:=I.turned (λb o hb e=>kk b o (by simpa using hb) e) f0 f1 f3 f4 f5
  refine⟨_,rfl,qZh (s:={s with heap:=h',toks:=tk}) (n:="range_iterator") st' rfl rfl (by decide) ⟨.int (lo+i),H,I1,⟨t,?_⟩,⟨rfl,rfl⟩,st',λb hb=>(hf b hb).1⟩⟩
  rw[Int.mul_one]
 done:=by
  intro X hP hw hK hc i pins s σ H E I hf st hg;subst hP hw hK;obtain⟨f0,f1,f2,f3,f4,f5⟩:=hf it (by simp)
  exact wpAny_pyNext_range_end (I.ok.hd hc) st (by have:n<=i:=hg;omega) λh' eb=>⟨rfl,I.turned (t':=s.toks) (λb o hb e=>eb b o hb e) f0 f1 f3 f4 f5⟩
 self:=λ_ _ _ _ _ st h=>wpAny_pyIter_rangeiter st h
section
variable {X:Cx}{tg:Expr}
theorem kZd{pins:List (Addr×Obj)}{σ:St}{H:Hp}{s:Shared}{R:It->Hp->Prop}{E:Value->Shared->Prop}{lo hi:Int}{t u v:Tok}{tk:Nat}(I:Inv X pins σ H s)(h1: -(2^62)<=lo)(h2:lo<2^62)(h3: -(2^62)<=hi)(h4:hi<2^62)
  (q:R (Itr lo (hi-lo).toNat) H):wpAny (model X.prog X.w) X.A (pyIter (.ref s.heap.objs.size)) (PIE X pins σ tg R) E {s with heap:=s.heap.push {cls:= .type "range",data:= .fields #[.int lo t,.int hi u,.int 1 v]},toks:=tk}:=by
 refine wpAny_pyIter_range (IsRange.new ..) (small_one h1 h2 h3 h4) ?_;have I1:Inv X pins σ H {s with heap:=s.heap.push {cls:= .type "range",data:= .fields #[.int lo t,.int hi u,.int 1 v]},toks:=tk}:=I.kept λb o e=>lJm _ e
 refine⟨(s.heap.push {cls:= .type "range",data:= .fields #[.int lo t,.int hi u,.int 1 v]}).objs.size,[(s.heap.push {cls:= .type "range",data:= .fields #[.int lo t,.int hi u,.int 1 v]}).objs.size],_,_,H,rfl,
  I1.kept (t':=tk) λb o e=>lJm _ e,qJl _ lo (hi-lo).toNat,?_,λb hb=> ?_,q⟩
 .have e1:lo+((0:Nat):Int)*1=lo:=by simp
  have e2:(((hi-lo).toNat:Nat):Int)-((0:Nat):Int)=Builtin.Range.rangeSize lo hi 1:=by rw[rangeSize_one];split<;>omega
  show IsRangeIter _ _ (lo+((0:Nat):Int)*1) ((((hi-lo).toNat:Nat):Int)-((0:Nat):Int)) 1
  rw[e1,e2];exact lJz _ rfl
 .have e:b=(s.heap.push {cls:= .type "range",data:= .fields #[.int lo t,.int hi u,.int 1 v]}).objs.size:=by simpa using hb
  subst e;exact I1.fpOk (lJh _) (I1.hok.fresh (lJh _))
def jVz(fp:List Addr)(h:Heap):List (Addr×Obj):=fp.filterMap λb=>(h.get? b).map λo=>(b,o)
theorem jVp{fp:List Addr}{h:Heap}{b:Addr}{o:Obj}(hb:b∈fp)(e:h.get? b=some o):(b,o)∈jVz fp h:=lVq.mpr ⟨b,hb,by rw[e];rfl⟩
theorem qUe{fp:List Addr}{h:Heap}{p:Addr×Obj}(hp:p∈jVz fp h):p.1∈fp/\h.get? p.1=some p.2:=by
 obtain⟨b,hb,e⟩:=lVq.mp hp;cases q:h.get? b with
 | none=>rw[q] at e;cases e
 | some o=>
  rw[q] at e;have e':(b,o)=p:=lJ3 e;subst e';exact⟨hb,q⟩
theorem Inv.pinned{pins:List (Addr×Obj)}{σ:St}{H:Hp}{s:Shared}{fp:List Addr}(I:Inv X pins σ H s)(hf:∀b∈fp,FpOk X pins H b)(ho:∀b∈fp,∃o,s.heap.get? b=some o/\∀v,o.data≠ .cell v):Inv X (pins++jVz fp s.heap) σ H s:=
 I.pins_of λp hp=>(lKb.mp hp).elim (λz=>I.pin p (lKs _ z)) λz=>by
  obtain⟨hb,e⟩:=qUe z;obtain⟨f0,f1,f2,_⟩:=hf p.1 hb;obtain⟨o,e',d⟩:=ho p.1 hb;rw[e] at e';cases e';exact⟨e,f0,f1,f2,d⟩
theorem Inv.unpinned{pins pl:List (Addr×Obj)}{σ:St}{H:Hp}{s:Shared}(I:Inv X (pins++pl) σ H s):Inv X pins σ H s:=I.pins_of λp hp=>I.pin p (lKs _ (lK1 _ hp))
end
abbrev R2:=V->V->Hp->VK->Prop
def OpR(X:Cx)(f:Value->Value->Sem Value)(r:R2):Prop:=
 ∀(pins:List (Addr×Obj))(s:Shared)(σ:St)(H:Hp)(x y:V)(v u:Value)(Q:VK),Inv X pins σ H s->RelV x v->RelV y u->r x y H Q->
  wpAny (model X.prog X.w) X.A (f v u) (EP X pins σ Q) X.xe s
def UnR(X:Cx)(f:Value->Sem Value)(r:V->Hp->VK->Prop):Prop:=
 ∀(pins:List (Addr×Obj))(s:Shared)(σ:St)(H:Hp)(x:V)(v:Value)(Q:VK),Inv X pins σ H s->RelV x v->r x H Q->
  wpAny (model X.prog X.w) X.A (f v) (EP X pins σ Q) X.xe s
def kKk(X:Cx)(f:Value)(r:List V->Hp->VK->Prop):Prop:=
 ∀(pins:List (Addr×Obj))(s:Shared)(σ:St)(H:Hp)(xs:List V)(us:List Value)(Q:VK),Inv X pins σ H s->Vals xs us->r xs H Q->
  wpAny (model X.prog X.w) X.A (call f us) (EP X pins σ Q) X.xe s
def TruR(X:Cx)(r:V->Hp->(Bool->Hp->Prop)->Prop):Prop:=
 ∀(pins:List (Addr×Obj))(s:Shared)(σ:St)(H:Hp)(x:V)(v:Value)(Q:Bool->Hp->Prop),Inv X pins σ H s->RelV x v->r x H Q->
  wpAny (model X.prog X.w) X.A (truthy v) (TP X pins σ Q) X.xe s
def rI(C:Int->Int->Prop)(g:Int->Int->V):R2:=λx y H Q=>∃i j,x= .int i/\y= .int j/\C i j/\Q (g i j) H
def rI0(g:Int->Int->V):R2:=λx y H Q=>∃i j,x= .int i/\y= .int j/\Q (g i j) H
def rU(g:Int->V):V->Hp->VK->Prop:=λx H Q=>∃i,x= .int i/\Q (g i) H
section
variable {X:Cx}{a b c:Expr}{ta tb tc:TE}{pos:Pos}
theorem opI{f:Value->Value->Sem Value}{C:Int->Int->Prop}{g:Int->Int->Int}
  (rule:∀(i j:Int)(t u:Tok)(s:Shared)(Q:Value->Shared->Prop)(E:Value->Shared->Prop),C i j->Q (.int (g i j) s.toks) {s with toks:=s.toks+1}->wpAny (model X.prog X.w) X.A (f (.int i t) (.int j u)) Q E s):
  OpR X f (rI C λi j=> .int (g i j)):=by
 intro pins s σ H x y v u Q I rx ry h;obtain⟨i,j,rfl,rfl,hc,q⟩:=h;obtain⟨t,rfl⟩:=rx;obtain⟨t',rfl⟩:=ry;exact rule i j t t' s _ _ hc ⟨.int (g i j),H,I.tok _,⟨_,rfl⟩,q⟩
theorem opI0{f:Value->Value->Sem Value}{g:Int->Int->Int}
  (rule:∀(i j:Int)(t u:Tok)(s:Shared)(Q:Value->Shared->Prop)(E:Value->Shared->Prop),Q (.int (g i j) s.toks) {s with toks:=s.toks+1}->wpAny (model X.prog X.w) X.A (f (.int i t) (.int j u)) Q E s):
  OpR X f (rI0 λi j=> .int (g i j)):=by
 intro pins s σ H x y v u Q I rx ry h;obtain⟨i,j,rfl,rfl,q⟩:=h;obtain⟨t,rfl⟩:=rx;obtain⟨t',rfl⟩:=ry;exact rule i j t t' s _ _ ⟨.int (g i j),H,I.tok _,⟨_,rfl⟩,q⟩
theorem opB0{f:Value->Value->Sem Value}{g:Int->Int->Bool}
  (rule:∀(i j:Int)(t u:Tok)(s:Shared)(Q:Value->Shared->Prop)(E:Value->Shared->Prop),Q (.bool (g i j)) s->wpAny (model X.prog X.w) X.A (f (.int i t) (.int j u)) Q E s):
  OpR X f (rI0 λi j=> .bl (g i j)):=by
 intro pins s σ H x y v u Q I rx ry h;obtain⟨i,j,rfl,rfl,q⟩:=h;obtain⟨t,rfl⟩:=rx;obtain⟨t',rfl⟩:=ry;exact rule i j t t' s _ _ ⟨.bl (g i j),H,I,rfl,q⟩
def CDiv(i j:Int):Prop:=0<j/\j<1073741824
def CPow(i j:Int):Prop:=0<=j/\j<=1000000/\i.natAbs<2^64
def CMul(i j:Int):Prop:=(-(2^64)<i/\i<2^64)\/(-(2^64)<j/\j<2^64)
theorem CMul.ok{i j:Int}(h:CMul i j):IntMulOk i j:=by
 rcases h with ⟨h1,h2⟩ | ⟨h1,h2⟩
 .exact .of_left (intBits_le_64 h1 h2)
 .exact .of_right (intBits_le_64 h1 h2)
theorem uVr:OpR X (binaryOp .Add) (rI0 λi j=> .int (i+j)):=opI0 λ_ _ _ _ _ _ _ q=>add_int q
theorem uVk:OpR X (binaryOp .Sub) (rI0 λi j=> .int (i-j)):=opI0 λ_ _ _ _ _ _ _ q=>sub_int q
theorem uVn:OpR X (binaryOp .Mult) (rI CMul λi j=> .int (i*j)):=opI λ_ _ _ _ _ _ _ hc q=>mul_int q hc.ok
theorem uK3:OpR X (binaryOp .FloorDiv) (rI CDiv λi j=> .int (i / j)):=opI λi j _ _ _ _ _ hc q=>by
 have h1:(0:Int)<j:=hc.1;have h2:j<1073741824:=hc.2;exact floordiv_int (by omega) (by rw[lZ5 i (by omega)];exact q) (.inl (lY5 (by omega)))
theorem uVo:OpR X (binaryOp .Mod) (rI (λ_ j=>0<j) λi j=> .int (i%j)):=opI λi j _ _ _ _ _ hc q=>by
 have h1:(0:Int)<j:=hc;exact mod_int' (by omega) (by rw[lZ6 i (by omega)];exact q)
theorem uVm:OpR X (binaryOp .Pow) (rI CPow λi j=> .int (i^j.toNat)):=opI λ_ _ _ _ _ _ _ hc q=>pow_int_small hc.1 hc.2.1 hc.2.2 q
theorem unI{f:Value->Sem Value}{g:Int->Int}
  (rule:∀(i:Int)(t:Tok)(s:Shared)(Q:Value->Shared->Prop)(E:Value->Shared->Prop),Q (.int (g i) s.toks) {s with toks:=s.toks+1}->wpAny (model X.prog X.w) X.A (f (.int i t)) Q E s):
  UnR X f (rU λi=> .int (g i)):=by
 intro pins s σ H x v Q I rx h;obtain⟨i,rfl,q⟩:=h;obtain⟨t,rfl⟩:=rx;exact rule i t s _ _ ⟨.int (g i),H,I.tok _,⟨_,rfl⟩,q⟩
theorem uUq:UnR X (unaryOp .USub) (rU λi=> .int (-i)):=unI λ_ _ _ _ _ q=>neg_int q
end
section
variable {X:Cx}{a b c:Expr}{ta tb tc:TE}{pos:Pos}
theorem uKa{pins:List (Addr×Obj)}{σ:St}{H:Hp}{s:Shared}{Q:VK}{k k':Bool}(I:Inv X pins σ H s)(q:Q (.bl k) H)(e:k=k'):EP X pins σ Q (.bool k') s:=by
 subst e;exact⟨.bl k,H,I,rfl,q⟩
theorem uYj:OpR X (compareOp .Lt) (rI0 λi j=> .bl (decide (i<j))):=opB0 λ_ _ _ _ _ _ _ q=>lt_int q
theorem uYk:OpR X (compareOp .LtE) (rI0 λi j=> .bl (decide (i<=j))):=opB0 λ_ _ _ _ _ _ _ q=>le_int q
theorem uYl:OpR X (compareOp .Gt) (rI0 λi j=> .bl (decide (j<i))):=opB0 λ_ _ _ _ _ _ _ q=>gt_int q
theorem uYm:OpR X (compareOp .GtE) (rI0 λi j=> .bl (decide (j<=i))):=opB0 λ_ _ _ _ _ _ _ q=>ge_int q
theorem uVp:OpR X (compareOp .Is) (λx y H Q=>y= .non/\Q (.bl (decide (x= .non))) H):=by
 intro pins s σ H x y v u Q I rx ry h;obtain⟨rfl,q⟩:=h;cases ry;refine is_none_gen (uKa I q ?_)
 cases x<;>first
  | (cases rx;rfl)
  | (obtain⟨t,rfl⟩:=rx;rfl)
theorem uK2:OpR X (compareOp .IsNot) (λx y H Q=>y= .non/\Q (.bl (!decide (x= .non))) H):=by
 intro pins s σ H x y v u Q I rx ry h;obtain⟨rfl,q⟩:=h;cases ry;refine isnot_none_gen (uKa I q ?_)
 cases x<;>first
  | (cases rx;rfl)
  | (obtain⟨t,rfl⟩:=rx;rfl)
theorem uVz(b:Expr){op:CmpOp}(h:op≠ .In:=by decide)(h2:op≠ .NotIn:=by decide):behindInMarks op b=false:=by
 have e1:(op == CmpOp.In)=false:=by cases op<;>first | rfl | exact absurd rfl h
 have e2:(op == CmpOp.NotIn)=false:=by cases op<;>first | rfl | exact absurd rfl h2
 cases b<;>simp[behindInMarks,e1,e2]
def TruV(K:PySem.W.Frag)(x:V)(H:Hp)(k:Bool):Prop:=
 match x with
 | .non=>k=false
 | .bl b=>k=b
 | .int i=>k=(i != 0)
 | .str y=>y.length<=sizeLine/\k=((y.length:Int) != 0)
 | .byt y=>y.size<=sizeLine/\k=((y.size:Int) != 0)
 | .ref p=>(∃xs,SqL K H p xs/\k= !xs.isEmpty)\/(∃xs,SqT K H p xs/\k= !xs.isEmpty)\/∃kvs,H p=some (.dK kvs)/\k= !kvs.isEmpty
 | _=>False
theorem qKi{κ:Type}{kvs:List (κ×V)}{vs:List (κ×Value)}(r:KV kvs vs):(!vs.isEmpty)= !kvs.isEmpty:=by
 cases r<;>rfl
theorem kKv{xs:List V}{its:List Value}(r:Vals xs its):(!its.toArray.isEmpty)= !xs.isEmpty:=by
 cases r<;>simp
theorem jYz:(sizeLine:Nat)<2^63:=by rw[lKg];decide
theorem uUs:TruR X (λx H Q=>∃k,TruV X.K x H k/\Q k H):=by
 intro pins s σ H x v Q I rx h;obtain⟨k,e,q⟩:=h;have hl:=jYz;have hs:sizeLine=16777216:=lKg;cases x with
 | non=>
  cases rx;have e':k=false:=e;subst e';exact truthy_none ⟨H,I,q⟩
 | bl b=>
  cases rx;have e':k=b:=e;subst e';exact lVo ⟨H,I,q⟩
 | int i=>
  obtain⟨t,rfl⟩:=rx;have e':k=(i != 0):=e;subst e';exact PySem.P.truthy_int ⟨H,I,q⟩
 | str y=>
  obtain⟨t,rfl⟩:=rx;obtain⟨hy,e'⟩:y.length<=sizeLine/\k=((y.length:Int) != 0):=e;subst e';exact PySem.P.truthy_str (by omega) ⟨H,I.tok _,q⟩
 | byt y=>
  obtain⟨t,rfl⟩:=rx;obtain⟨hy,e'⟩:y.size<=sizeLine/\k=((y.size:Int) != 0):=e;subst e';exact PySem.W.truthy_bytes (by omega) ⟨H,I.tok _,q⟩
 | ref p=>
  cases rx;have e':(∃xs,SqL X.K H p xs/\k= !xs.isEmpty)\/(∃xs,SqT X.K H p xs/\k= !xs.isEmpty)\/∃kvs,H p=some (.dK kvs)/\k= !kvs.isEmpty:=e
  rcases e' with ⟨xs,hx,e'⟩ | ⟨xs,hx,e'⟩ | ⟨kvs,hx,e'⟩
  .subst e';obtain⟨its,r,pl,hz⟩:=I.list hx;have hlen:=r.length;exact wpAny_truthy_list pl.isList (by simp only[lJu];omega) ⟨H,I.tok _,by rw[kKv r];exact q⟩
  .subst e';obtain⟨its,r,pl,hz⟩:=I.tuple hx;have hlen:=r.length;exact truthy_tuple pl (by simp only[lJu];omega) ⟨H,I.tok _,by rw[kKv r];exact q⟩
  .subst e';obtain⟨hz,hS,vs,r,m⟩:kvs.length<=sizeLine/\(p == sysModules)=false/\∃vs,KV kvs vs/\s.heap.DictOf (jKy X.prog X.w) p vs:=I.hok p _ hx
   have hlen:kvs.length=vs.length:=lVf r;exact wpAny_truthy_dict hS m (by omega) ⟨H,I.tok _,by rw[qKi r];exact q⟩
 | _=>exact (show False from e).elim
theorem kUp{x:V}{us:List Value}(r:Vals [x] us):∃u,us=[u]/\RelV x u:=by
 cases r with
 | cons r1 r2=>cases r2;exact⟨_,rfl,r1⟩
theorem uUo{x y:V}{us:List Value}(r:Vals [x,y] us):∃u w',us=[u,w']/\RelV x u/\RelV y w':=by
 cases r with
 | cons r1 r2=>
  cases r2 with
  | cons r3 r4=>cases r4;exact⟨_,_,rfl,r1,r3⟩
theorem qZw:kKk X (.builtin "abs") (λxs H Q=>∃i,xs=[.int i]/\Q (.int (if i<0 then -i else i)) H):=by
 intro pins s σ H xs us Q I r h;obtain⟨i,rfl,q⟩:=h;obtain⟨u,rfl,t,rfl⟩:=kUp r;exact call_abs_int λu tk=>⟨.int (if i<0 then -i else i),H,I.tok _,⟨_,rfl⟩,q⟩
theorem qVx(hc:X.calm=true):kKk X (.builtin "max") (λxs H Q=>∃i j,xs=[.int i,.int j]/\Q (.int (if j>i then j else i)) H):=by
 intro pins s σ H xs us Q I r h;obtain⟨i,j,rfl,q⟩:=h;obtain⟨u,w',rfl,⟨t,rfl⟩,⟨t',rfl⟩⟩:=uUo r;refine max_two_ints (I.ok.hd hc) λh' tk k=>⟨_,H,I.kept k,?_,q⟩
 by_cases hj:j>i
 .rw[lJc hj,lJc hj];exact⟨_,rfl⟩
 .rw[lJb hj,lJb hj];exact⟨_,rfl⟩
theorem qVy:kKk X (.type "int") (λxs H Q=>(∃i,xs=[.int i]/\Q (.int i) H)\/∃k,xs=[.bl k]/\Q (.int (if k then 1 else 0)) H):=by
 intro pins s σ H xs us Q I r h
 rcases h with ⟨i,rfl,q⟩ | ⟨k,rfl,q⟩
 .obtain⟨u,rfl,t,rfl⟩:=kUp r;exact call_int_int ⟨.int i,H,I,⟨_,rfl⟩,q⟩
 .obtain⟨u,rfl,r1⟩:=kUp r;cases r1;exact call_int_bool ⟨.int (if k then 1 else 0),H,I.tok _,⟨_,rfl⟩,q⟩
theorem kYr:kKk X (.builtin "divmod") (λxs H Q=>∃i j,xs=[.int i,.int j]/\CDiv i j/\∀p,H p=none->Q (.ref p) (upd H p (.tup [.int (i / j),.int (i%j)]))):=by
 intro pins s σ H xs us Q I r h;obtain⟨i,j,rfl,⟨h1,h2⟩,q⟩:=h;obtain⟨u,w',rfl,⟨t,rfl⟩,⟨t',rfl⟩⟩:=uUo r;refine divmod_int (by omega) ?_ (.inl (lY5 (by omega)))
 rw[lZ5 i (by omega),lZ6 i (by omega)]
 have hn:H s.heap.objs.size=none:=I.hok.fresh (lJh _);refine⟨.ref s.heap.objs.size,_,?_,rfl,q _ hn⟩;refine I.laid (λb o e=>lJm _ e) (lJh _) ⟨by simp only[lJ7,lQd];rw[lKg];decide,[.int (i / j) s.toks,.int (i%j) (s.toks+1)],.cons ⟨_,rfl⟩ (.cons ⟨_,rfl⟩ .nil),?_⟩
 exact⟨_,lJz s.heap rfl,rfl,0,rfl,rfl⟩
end
section
variable {prog:Program}{w:World}{A:Around}{E:Value->Shared->Prop}{s:Shared}{K:PySem.W.Frag}{x dx C f:Addr}{mA:Str->Option Value}{name:Str}{v:Value}
end
theorem RelO.some_of{v:V}{o:Option Value}(r:RelO (some v) o):∃u,o=some u/\RelV v u:=by
 cases o with
 | none=>exact (show False from r).elim
 | some u=>exact⟨u,rfl,r⟩
section
variable {P:Program}{w:World}{H H':Hp}{h h':Heap}{a C dx:Addr}{fs fs':List (Str×V)}
end
section
variable {X:Cx}{pins:List (Addr×Obj)}{σ:St}{H:Hp}{s:Shared}{a C dx:Addr}{fs:List (Str×V)}{f:Str}{v:V}{A:Around}{E:Value->Shared->Prop}
end
section
variable {X:Cx}{o e value:Expr}{f:Str}{pos pos' tpos:Pos}{ta tv:TE}
end
section
variable {X:Cx}{pins:List (Addr×Obj)}{σ:St}{H:Hp}{s:Shared}{A:Around}{E:Value->Shared->Prop}{Q:Value->Shared->Prop}{c:Value}{b:Bool}
end
structure Room (k:Nat) (A:Around):Prop where
 hd:A.handled=none
 gd:A.guards=some []
 dp:A.depth+3*k+5<recursionLimit
 un:A.units+16*k+200<cLine
theorem Room.mono{j k:Nat}{A:Around}(r:Room k A)(h:j<=k):Room j A:=⟨r.hd,r.gd,by have:=r.dp;omega,by have:=r.un;omega⟩
theorem Room.deeper{k:Nat}{A:Around}(r:Room (k+1) A)(env:Env):Room k (A.deeper env):=
 ⟨r.hd,r.gd,by have:=r.dp;show A.depth+1+3*k+5<_;omega,by have:=r.un;show A.units+3+16*k+200<_;omega⟩
theorem Room.depth{k:Nat}{A:Around}(r:Room k A):A.depth<recursionLimit:=by have:=r.dp;omega
theorem Room.units{k:Nat}{A:Around}(r:Room k A):A.units+64<cLine:=by have:=r.un;omega
section
variable {X:Cx}{e:Expr}{es:List Expr}{te:TE}{t:TA}{pos:Pos}
end
abbrev Sp:=List V->Hp->VK->XK->Prop
abbrev CXT:=List Env->Hp->Shared->XK->Value->Shared->Prop
structure Env0 (P:Program) (w:World) (K:PySem.W.Frag) (mg:Str->Option Value) (base:Heap) (A:Around) (outer:List Env) (s:Shared) (H:Hp):Prop where
 frames:A.frames=some outer
 mod:Mod K mg base
 bs:∀b o,base.get? b=some o->s.heap.get? b=some o/\H b=none
 bsz:base.objs.size<=s.heap.objs.size
 funs:s.heap.FunFrames base outer
 frf:∀b∈frs outer,H b=none
 hok:HOk P w H s.heap
 bare:AllBare s.gens
def CE(outer:List Env)(P:Program)(w:World)(H:Hp)(s:Shared)(Q:VK)(u:Value)(s':Shared):Prop:=
 ∃v H',s'.os=s.os/\AllBare s'.gens/\Un (frs outer) [] H H' s.heap s'.heap/\HOk P w H' s'.heap/\RelV v u/\Q v H'
def CR(CX:CXT)(outer:List Env)(P:Program)(w:World)(H:Hp)(s:Shared)(Q:VK)(E:XK)(r:Result)(s':Shared):Prop:=
 match r with
 | .ok (.ret u)=>CE outer P w H s Q u s'
 | .ok _=>False
 | .error e=>CX outer H s E e s'
structure FnOk (P:Program) (w:World) (K:PySem.W.Frag) (mg:Str->Option Value) (base:Heap) (CX:CXT) (k:Nat) (f:Addr) (fd:FuncData) (ps:List Str) (sp:Sp):Prop where
 len:∀vs H Q E,sp vs H Q E->vs.length=ps.length
 run:∀(A:Around)(outer:List Env)(s:Shared)(H:Hp)(args:Args)(us:List Value)(vs:List V)(Q:VK)(E:XK),Room k A->Env0 P w K mg base A outer s H->BindsTo s fd args (ps.zip us)->Vals vs us->sp vs H Q E->
  codeAny (model P w) A (.call (.ref f) args) (CR CX outer P w H s Q E) s
section
variable {X:Cx}{pins:List (Addr×Obj)}{σ:St}{H:Hp}{s s':Shared}
theorem Inv.env0(I:Inv X pins σ H s):Env0 X.prog X.w X.K X.mg X.base X.A X.stack s H:=
 ⟨I.ok.frames,I.ok.mod,I.bs,lKc I.ok.bsz I.sz,I.stack,I.stkFree,I.hok,I.bare⟩
theorem Inv.after{Q:VK}{u:Value}(I:Inv X pins σ H s)(h:CE X.stack X.prog X.w H s Q u s'):EP X pins σ Q u s':=by
 obtain⟨v,H',os,bare,un,hok,r,q⟩:=h;obtain⟨hh,g,d,t,os'⟩:=s';obtain rfl:os'=s.os:=os;exact⟨v,H',I.call (h':=hh) (g':=g) (d':=d) (t':=t) (ch:=[]) un hok bare (λb z=>absurd z (by simp)),r,q⟩
end
def Binds(K:PySem.W.Frag)(fd:FuncData)(ps:List Str)(ds:List Value):Prop:=
 ∀(s:Shared)(us:List Value),K.In s.heap->(us++ds).length=ps.length->BindsTo s fd ⟨us,[]⟩ (ps.zip (us++ds))
theorem Binds.all{K:PySem.W.Frag}{fd:FuncData}{ps:List Str}(h:∀us:List Value,us.length=ps.length->bindArgs fd ⟨us,[]⟩=pure (ps.zip us)):Binds K fd ps []:=λs us _ hl=>by
 rw[lQ2] at hl ⊢;exact .of_eq (h us hl)
def uKf(CX:CXT)(X:Cx)(E:XK):Prop:=∀(pins:List (Addr×Obj))(σ:St)(H:Hp)(s:Shared)(e:Value)(s':Shared),Inv X pins σ H s->CX X.stack H s E e s'->X.xe e s'
section
variable {X:Cx}{CX:CXT}{k:Nat}{f C:Addr}{fd:FuncData}{ps:List Str}{sp:Sp}{dvs:List V}{ds:List Value}{E:XK}{x m:Str}{p pos apos:Pos}{e o:Expr}{es:List Expr}{ta:TE}{t:TA}
theorem uU3{pins:List (Addr×Obj)}{σ:St}{H:Hp}{s:Shared}{Q:VK}{us:List Value}{vs:List V}(F:FnOk X.prog X.w X.K X.mg X.base CX k f fd ps sp)(hr:Room k X.A)(hb:Binds X.K fd ps ds)(hd:Vals dvs ds)(hx:uKf CX X E)
  (I:Inv X pins σ H s) (r:Vals vs us) (h:sp (vs++dvs) H Q E):wpAny (model X.prog X.w) X.A (call (.ref f) us) (EP X pins σ Q) X.xe s:=by
 have r2:Vals (vs++dvs) (us++ds):=r.append hd;have hl:(us++ds).length=ps.length:=by rw[<-r2.length];exact F.len _ _ _ _ h
 refine wpAny_call (lX6 (F.run X.A X.stack s H ⟨us,[]⟩ (us++ds) (vs++dvs) Q E hr I.env0 (hb s us I.kIn hl) r2 h) λr s' hq=> ?_)
 cases r with
 | error e=>exact hx pins σ H s e s' I hq
 | ok fl=>
  cases fl with
  | ret u=>exact I.after hq
  | next=>exact False.elim hq
  | brk=>exact False.elim hq
  | cont=>exact False.elim hq
end
section
variable {X:Cx}{CX:CXT}{k:Nat}{f C:Addr}{fd:FuncData}{ps ks:List Str}{sp:Sp}{E:XK}{x m:Str}{p pos apos kpos:Pos}{e o:Expr}{es:List Expr}{kws:List Keyword}{te ta:TE}{t tk:TA}{nm:Option Str}
variable {g:List Value->List Value->List Value}{gV:List V->List V->List V}
end
structure FnScope (N P:List Str) (sc:Scope):Prop where
 kind:sc.kind= .function
 co:sc.isCoroutine=false
 gen:sc.isGenerator=false
 nd:N.Nodup
 pre:N.take P.length=P
 par:∀x∈P,sc.names.lookup x=some .local\/sc.names.lookup x=some .cell
 nofree:∀y∈sc.names,y.2≠ .free
theorem kVv{kindOf:Str->Option NameKind}{x:Str}:∀{binds:List (Str×Value)}{m:Str->Option Value},(∀v,(x,v)∉binds)->bindL kindOf binds m x=m x
 | [],_,_=>rfl
 | (n,v)::r,m,h=>by
  unfold bindL;rw[kVv λw hw=>h w (lJ5 _ hw)]
  split
  .have:x≠n:=by rintro rfl;exact h v lJ2
   simp[this]
  .rfl
theorem kVx{kindOf:Str->Option NameKind}{x:Str}:∀{binds:List (Str×Value)}{m:Str->Option Value},(∀v,(x,v)∉binds)->bindC kindOf binds m x=m x
 | [],_,_=>rfl
 | (n,v)::r,m,h=>by
  unfold bindC;rw[kVx λw hw=>h w (lJ5 _ hw)]
  split
  .rfl
  .have:x≠n:=by rintro rfl;exact h v lJ2
   simp[this]
theorem kVw{kindOf:Str->Option NameKind}{x:Str}{v:Value}:∀{P:List Str}{vs:List Value}{i:Nat}{m:Str->Option Value},P.Nodup->P[i]? =some x->vs[i]? =some v->kindOf x=some .local->
  bindL kindOf (P.zip vs) m x=some v
 | [],_,_,_,_,h,_,_=>by simp at h
 | _::_,[],_,_,_,_,h,_=>by simp at h
 | p::P,w::vs,0,m,nd,h1,h2,hk=>by
  simp at h1 h2;subst h1;subst h2;show bindL kindOf ((p,w)::P.zip vs) m p=_
  unfold bindL;rw[kVv λv hv=>(lKn.mp nd).1 (lY6 hv).1,lJc hk]
  simp
 | p::P,w::vs,i+1,m,nd,h1,h2,hk=>by
  show bindL kindOf ((p,w)::P.zip vs) m x=_
  unfold bindL;exact kVw (i:=i) (lKn.mp nd).2 (by simpa using h1) (by simpa using h2) hk
theorem kVy{kindOf:Str->Option NameKind}{x:Str}{v:Value}:∀{P:List Str}{vs:List Value}{i:Nat}{m:Str->Option Value},P.Nodup->P[i]? =some x->vs[i]? =some v->kindOf x≠some .local->
  bindC kindOf (P.zip vs) m x=some v
 | [],_,_,_,_,h,_,_=>by simp at h
 | _::_,[],_,_,_,_,h,_=>by simp at h
 | p::P,w::vs,0,m,nd,h1,h2,hk=>by
  simp at h1 h2;subst h1;subst h2;show bindC kindOf ((p,w)::P.zip vs) m p=_
  unfold bindC;rw[kVx λv hv=>(lKn.mp nd).1 (lY6 hv).1,lJb hk]
  simp
 | p::P,w::vs,i+1,m,nd,h1,h2,hk=>by
  show bindC kindOf ((p,w)::P.zip vs) m x=_
  unfold bindC;exact kVy (i:=i) (lKn.mp nd).2 (by simpa using h1) (by simpa using h2) hk
def start(N:List Str)(vs:List V):St:=vs.map some++List.replicate (N.length-vs.length) none
noncomputable def cxOf(CX:CXT)(P:Program)(w:World)(K:PySem.W.Frag)(mg:Str->Option Value)(base:Heap)(N:List Str)(qual:Str)(scope:Scope)(f:Addr)(cd:Value)(A:Around)(outer:List Env)(s:Shared)(H:Hp)(E:XK):Cx where
 prog:=P
 w:=w
 K:=K
 mg:=mg
 base:=base
 A:=A.deeper (envOfC qual scope s.heap.objs.size f cd)
 N:=N
 s₀:=s
 H₀:=H
 env:=envOfC qual scope s.heap.objs.size f cd
 outer:=outer
 stack:=envOfC qual scope s.heap.objs.size f cd::outer
 ex:=[]
 calm:=true
 fn:=λ_=>true
 pn:=[]
 xe:=λe s'=>wpAny (model P w) (A.deeper (envOfC qual scope s.heap.objs.size f cd)) (leaving (envOfC qual scope s.heap.objs.size f cd) e) (λ_ s''=>CX outer H s E e s'') (λe' s''=>CX outer H s E e' s'') s'
theorem qJe{sc:Scope}{n:Nat}{x:Str}(h:sc.names.lookup x=some .cell):∃c,(cellsFrom n sc.names []).lookup x=some c:=by
 have q:=PySem.W.cellsFrom_some sc.names n [] (.inl h);exact lYc.mp q
theorem qU0{CX:CXT}{P:Program}{w:World}{K:PySem.W.Frag}{mg:Str->Option Value}{base:Heap}{N ps:List Str}{qual:Str}{scope:Scope}{f:Addr}{cd:Value}{A:Around}{outer:List Env}{s s1:Shared}{H:Hp}{E:XK}{us:List Value}{vs:List V}
  (S:FnScope N ps scope) (hd:A.handled=none/\A.guards=some []) (e0:Env0 P w K mg base A outer s H) (hl:vs.length=ps.length) (r:Vals vs us)
  (x:InCallC s s.heap.objs.size (bindL (envOfC qual scope s.heap.objs.size f cd).kindOf (ps.zip us) λ_=>none) (cellsFrom (s.heap.objs.size+1) scope.names []) (bindC (envOfC qual scope s.heap.objs.size f cd).kindOf (ps.zip us) λ_=>none) s1):
  Inv (cxOf CX P w K mg base N qual scope f cd A outer s H E) [] (start N vs) H s1:=by
 have hpl:ps.length<=N.length:=by have:=lJs List.length S.pre;rw[lQ6] at this;omega
 obtain⟨h1,tk,rfl,hk⟩:=x.done;have noA:∀b:Addr,b∉(cxOf CX P w K mg base N qual scope f cd A outer s H E).ex:=λb z=>absurd (show b∈([]:List Addr) from z) (by simp)
 refine⟨⟨e0.mod,S.kind,rfl,rfl,lJh _,λy z c h1 h2=> ?_,λy hy=> ?_,λy c _ h=> ?_,λ_=>hd.1,λ_=>hd.2,Around.frames_deeper e0.frames,.inr ⟨rfl,rfl⟩,λb z=>absurd z (noA b),e0.bs,e0.bsz,λb _ _=>noA b,λb z=>absurd z (noA b),e0.funs,e0.frf⟩,
  rfl,e0.bare,Un.kept hk,⟨_,x.toInCall.ns,λi y v h1 h2 h3=> ?_⟩,λy c h=>⟨_,x.cell y c h⟩,e0.hok.fresh (lJh _),λy c h=> ?_,λp hp=>absurd (show p∈([]:List (Addr×Obj)) from hp) (by simp),e0.hok.kept hk,?_⟩
 .exact name_of_addr x.apart (lV3 h1) (lV3 h2)
 .have hy:scope.names.lookup y=some .cell\/scope.names.lookup y=some .free:=hy
  rcases hy with hy | hy
  .exact qJe hy
  .exact absurd rfl (S.nofree _ (lV3 hy))
 .exact lQ3 (x.above y c (lV3 h))
 .have hi:i<vs.length:=by
   unfold start at h2
   by_cases hi:i<vs.length
   .exact hi
   .rw[lQe (by simpa using hi)] at h2
    rw[lXp] at h2;split at h2<;>cases h2
  have ha:vs[i]? =some v:=by
   unfold start at h2;rw[lJ9 (by simpa using hi),lJj] at h2
   cases e:vs[i]? with
   | none=>rw[e] at h2;cases h2
   | some a=>rw[e] at h2;cases h2;rfl
  obtain⟨u,hu,rv⟩:=r.get ha
  have hp:ps[i]? =some y:=by
   rw[<-S.pre,List.getElem?_take_of_lt (by omega)];exact h1
  have ndP:ps.Nodup:=by rw[<-S.pre];exact S.nd.sublist (lY7 _ _)
  refine⟨u,rv,?_⟩
  rcases S.par y (lJk hp) with k | k
  .exact .inl ⟨k,kVw ndP hp hu k⟩
  .obtain⟨c,e⟩:=qJe (n:=s.heap.objs.size+1) k;refine .inr ⟨.inl k,c,e,?_⟩;have q:=x.cell y c e;rw[kVy ndP hp hu (by show scope.names.lookup y≠_;rw[k];decide)] at q
   exact q
 .exact e0.hok.fresh (lQ3 (x.above y c (lV3 h)))
 .unfold start;show _=N.length
  rw[lJv,lJg,List.length_replicate];omega
theorem uYv{CX:CXT}{P:Program}{w:World}{K:PySem.W.Frag}{mg:Str->Option Value}{base:Heap}{k:Nat}{f:Addr}{name qual:Str}{params:Arguments}{body:List Stmt}{scope:Scope}{dV kV doc pm cdv ct oc:Value}{an od:Option Addr}
  {osl:Array (Option Value)} {N ps:List Str} {sp:Sp} (lk:K.lookup f=some ⟨oc,od,.func (PySem.W.fnOf name qual params body scope dV kV doc pm an cdv ct),osl⟩) (hcd:PySem.W.codeIn K cdv qual=true) (S:FnScope N ps scope)
  (len:∀vs H Q E,sp vs H Q E->vs.length=ps.length)
  (hbody:∀(A:Around)(outer:List Env)(s:Shared)(H:Hp)(vs:List V)(Q:VK)(E:XK),Room k (A.deeper (envOfC qual scope s.heap.objs.size f cdv))->sp vs H Q E->
   ∃t,PSs (cxOf CX P w K mg base N qual scope f cdv A outer s H E) body t/\t {nx:=λ_ H'=>Q .non H',rt:=Q} (start N vs) H):
  FnOk P w K mg base CX (k+1) f (PySem.W.fnOf name qual params body scope dV kV doc pm an cdv ct) ps sp:=by
 refine⟨len,λA outer s H args us vs Q E hr e0 hb r hsp=> ?_⟩
 have hl:=len _ _ _ _ hsp;have KX:K.In s.heap:=e0.mod.kin.keeps λb o e=>(e0.bs b o e).1
 have lim:s.heap.NoLimit:=e0.mod.nolimit.keeps λb o e=>(e0.bs b o e).1
 have hkind:∀y∈ps.zip us,scope.names.lookup y.1=some .local\/(scope.names.lookup y.1=some .cell/\((cellsFrom (s.heap.objs.size+1) scope.names []).lookup y.1).isSome=true):=λ⟨n,v⟩ hy=>by
  rcases S.par n (lY6 hy).1 with q | q
  .exact .inl q
  .exact .inr ⟨q,PySem.W.cellsFrom_some _ _ _ (.inl q)⟩
 refine codeAny_call_function hr.depth (KX _ _ lk) rfl S.co S.gen rfl (PySem.W.codeRec_of KX hcd) (hb _ _ _ _ ?_);refine wpAny_newFunctionEnv_cells S.kind hkind λenv he s1 x=> ?_
 subst he;refine⟨lim.keeps x.toInCall.keep,codeAny_func ?_⟩;obtain⟨t,ht,hq⟩:=hbody A outer s H vs Q E (hr.deeper _) hsp;have I:Inv (cxOf CX P w K mg base N qual scope f cdv A outer s H E) [] (start N vs) H s1:=qU0 S ⟨hr.hd,hr.gd⟩ e0 hl r x;refine lQp (ht [] s1 (start N vs) H _ I hq) (λfl s' hs=> ?_) λe s' hs=>hs
 have fin:∀{σ':St}{H':Hp}{v:V}{u:Value},Inv (cxOf CX P w K mg base N qual scope f cdv A outer s H E) [] σ' H' s'->RelV v u->Q v H'->CE outer P w H s Q u s':=
  λ{σ' H' v u} J rv q=>⟨v,H',J.os,J.bare,J.base,J.hok,rv,q⟩
 cases fl with
 | ret u=>
  obtain⟨v,σ',H',J,rv,q⟩:=hs;exact fin J rv q
 | next=>
  obtain⟨σ',H',J,q⟩:=hs;exact fin (v:=V.non) (u:=Value.none) J rfl q
 | brk=>
  obtain⟨_,_,_,q⟩:=hs;exact False.elim q
 | cont=>
  obtain⟨_,_,_,q⟩:=hs;exact False.elim q
section
variable {X:Cx}{x:Str}{p pos:Pos}{e:Expr}{es:List Expr}{t:TA}{id T:String}{r:List V->Hp->VK->Prop}
end
end L2
namespace HT
open PySem PyProof.Rows
theorem qZn(A:Around)(s:Shared)(a:Int)(t:Tok)(c:Int)(u:Tok):∃e,SeqAt.EqAt A s (.int a t) (.int c u) e/\(e=true↔a=c):=
 ⟨(a == c),SeqAt.EqAt.int_int a t c u,by simp⟩
section
open PySem.SeqAt
open PySem.AutoSeq1 (wpAny_loadPart')
open PySem.MeetsSeq PySem.MeetsSeq2 PySem.MeetsSeq3
end
section
variable {prog:Program}{w:World}{A:Around}{E:Value->Shared->Prop}{s:Shared}
theorem cat_tup{t b:Addr}{vs ws:List Value}{Q:Value->Shared->Prop}(ht:IsTup s.heap t vs.toArray)(hb:IsTup s.heap b ws.toArray)(hv:vs≠[])
  (h1:ws=[]->Q (.ref t) s) (h2:ws≠[]->Q (.ref s.heap.objs.size) {s with heap:=s.heap.push {cls:= .type "tuple",data:= .seq (vs++ws).toArray} })
  (hsz:vs.length+ws.length<=sizeLine):wpAny (model prog w) A (binaryOp .Add (.ref t) (.ref b)) Q E s:=by
 obtain⟨⟨cls,dd,data,sl⟩,ho,hc,n,hd⟩:=id ht;obtain⟨⟨cls2,dd2,data2,sl2⟩,ho2,hc2,n2,hd2⟩:=id hb;simp only at hc hd hc2 hd2;subst hc hd hc2 hd2;have e:vs.toArray++ws.toArray=(vs++ws).toArray:=by simp
 by_cases hw:ws=[]
 .exact concat_meets ⟨_,ho,rfl⟩ ⟨_,ho2,rfl⟩ lZt seq_tuple_add lY8 lY9 (lZa _ _)
   (tuple_addW1 t b vs.toArray ws.toArray n n2 dd dd2 sl sl2 (by simpa using hv) (by simp[hw])) ⟨ho,ho2,h1 hw⟩
 .refine concat_meets ⟨_,ho,rfl⟩ ⟨_,ho2,rfl⟩ lZt seq_tuple_add lY8 lY9 (lZa _ _)
   (tuple_addW2 t b vs.toArray ws.toArray n n2 dd dd2 sl sl2 (by simpa using hv) (by simpa using hw) (by rw[lJu,lJu];exact hsz)) ⟨ho,ho2,?_⟩
  rw[e];exact h2 hw
def sIx(n d:Nat):Option Int->Nat
 | none=>d
 | some v=>if v<0 then (v+(n:Int)).toNat else min v.toNat n
theorem uU2(n d:Nat)(hd:d<=n)(o:Option Int):sIx n d o<=n:=by
 cases o with
 | none=>exact hd
 | some v=>
  show (if v<0 then (v+(n:Int)).toNat else min v.toNat n)<=n
  by_cases hv:v<0
  .rw[lJc hv];omega
  .rw[lJb hv];exact Nat.min_le_right _ _
theorem qVu(v:Int)(n d:Nat):(if v<0 then max (v+(n:Int)) 0 else min v (n:Int))=((sIx n d (some v):Nat):Int):=by
 show (if v<0 then max (v+(n:Int)) 0 else min v (n:Int))=(((if v<0 then (v+(n:Int)).toNat else min v.toNat n):Nat):Int)
 by_cases hv:v<0
 .simp only[lJc hv];omega
 .simp only[lJb hv];omega
theorem qKn(lo hi:Option Int)(n:Nat):Builtin.Slice.sliceAdjust lo hi 1 (n:Int)=(((sIx n 0 lo:Nat):Int),((sIx n n hi:Nat):Int)):=by
 have h1:¬ ((1:Int)<0):=by omega
 unfold Builtin.Slice.sliceAdjust;simp only[h1,lJ6];refine Prod.ext ?_ ?_
 .cases lo with
  | none=>rfl
  | some v=>exact qVu v n 0
 .cases hi with
  | none=>rfl
  | some v=>exact qVu v n n
theorem qJ2(i j:Nat):Builtin.Slice.slicePlaces (i:Int) (j:Int) 1=j-i:=by
 unfold Builtin.Slice.slicePlaces;have h1:(1:Int)>0:=by omega
 simp only[h1,lK0,Int.ediv_one];split<;>omega
theorem kKn{v:Value}{o:Option Int}{Q:Option Int->Shared->Prop}(p:IsPart v o)(h:Q o s):wpAny (model prog w) A (Builtin.Slice.slicePartIndex v) Q E s:=by
 cases p with
 | none=>exact slicePart_none h
 | int i t=>exact slicePart_int h
theorem jU0{sl:Addr}{vl vu:Value}{lo hi:Option Int}{n:Nat}{Q:Int×Int×Nat->Shared->Prop}(hs:s.heap.IsSliceOf sl vl vu .none)(pl:IsPart vl lo)(pu:IsPart vu hi)
  (h:Q (((sIx n 0 lo:Nat):Int),1,sIx n n hi-sIx n 0 lo) s):wpAny (model prog w) A (Builtin.Slice.sliceApplied (.ref sl) (pure (n:Int))) Q E s:=by
 obtain⟨os,hos,hcs,hds⟩:=id hs;unfold Builtin.Slice.sliceApplied Builtin.Slice.sliceFields;refine lJa (lJa (lXl hos hds (x:=vl) rfl (lJa (lXl hos hds (x:=vu) rfl (lJa (lXl hos hds (x:= .none) rfl (lJd ?_)))))));refine lJa (slicePart_none ?_);show wpAny _ _ (if ((1:Int) == 0)=true then _ else _) _ _ s
 rw[lJb (by decide)]
 refine lJa (kKn pl (lJa (kKn pu (lJa (lJd ?_)))));show wpAny _ _ (match Builtin.Slice.sliceAdjust lo hi 1 (n:Int) with | (lo,hi)=>pure (lo,(1:Int),Builtin.Slice.slicePlaces lo hi 1)) _ _ s
 rw[qKn lo hi n];show wpAny _ _ (pure (((sIx n 0 lo:Nat):Int),(1:Int),Builtin.Slice.slicePlaces ((sIx n 0 lo:Nat):Int) ((sIx n n hi:Nat):Int) 1)) _ _ s
 rw[qJ2];exact lJd h
theorem qX9(xs:Array Value)(i k:Nat):((List.range k).filterMap λ(m:Nat)=>xs[((i:Int)+(m:Int)*1).toNat]?).toArray=((xs.toList.drop i).take k).toArray:=by
 have e:(λ(m:Nat)=>xs[((i:Int)+(m:Int)*1).toNat]?)=λm=>xs[i+m]? :=by
  funext m
  have:((i:Int)+(m:Int)*1).toNat=i+m:=by omega
  rw[this]
 rw[e];have:=pick_run xs i k;rw[List.filterMap_map] at this;have e2:((λx=>xs[x]?)∘λx=>i+x)=λm=>xs[i+m]? :=rfl
 rw[e2] at this;rw[this]
theorem getItem_tuple_cut{t sl:Addr}{items:Array Value}{vl vu:Value}{lo hi:Option Int}{Q:Value->Shared->Prop}(ht:IsTup s.heap t items)(hs:s.heap.IsSliceOf sl vl vu .none)(pl:IsPart vl lo)(pu:IsPart vu hi)
  (hw:¬ (sIx items.size 0 lo=0/\sIx items.size items.size hi=items.size))
  (h:Q (.ref s.heap.objs.size) {s with heap:=s.heap.push {cls:= .type "tuple",data:= .seq ((items.toList.drop (sIx items.size 0 lo)).take (sIx items.size items.size hi-sIx items.size 0 lo)).toArray} })
  (hsz:items.size<=sizeLine):wpAny (model prog w) A (getItem (.ref t) (.ref sl)) Q E s:=by
 have htake:sizeOk (.seq ((items.toList.drop (sIx items.size 0 lo)).take (sIx items.size items.size hi-sIx items.size 0 lo)).toArray):=by
  show ((items.toList.drop (sIx items.size 0 lo)).take (sIx items.size items.size hi-sIx items.size 0 lo)).toArray.size<=sizeLine
  rw[lJu,lQ6,lYd,lKm];omega
 have hj:sIx items.size items.size hi<=items.size:=uU2 _ _ (lJh _) hi;obtain⟨os,hos,hcs,hds⟩:=id hs;have hTs:s.TypeIs (.ref sl) "slice":=⟨os,hos,hcs⟩;unfold getItem
 try with_reducible refine lKw ?_
 first | refine lJa (lJd ?_) | skip
 refine lJa (wpAny_sequenceKey ht.typeIs (by decide) ?_)
 refine lJa (lVc (name:=Str.ofString "__getitem__") ht.typeIs lV4
  (lK6 lV4 ht.typeIs entry_tuple_getitem ?_ (args_tuple_getitem _ _)))
 show wpAny _ _ (Builtin.Tuple.tupleItemsOf (.ref t) >>= _) _ _ s
 refine lJa (tupleItemsOf_ ht ?_);refine lJa (lVp hTs ?_);rw[lJc (by decide)]
 refine lJa (jU0 hs pl pu ?_)
 have hno:¬ ((((sIx items.size 0 lo:Nat):Int) == 0&&(1:Int) == 1&&(sIx items.size items.size hi-sIx items.size 0 lo) == items.size)=true):=by
  intro q;rw[lKt,lKt] at q;have q1:((sIx items.size 0 lo:Nat):Int)=0:=eq_of_beq q.1.1;have q2:sIx items.size items.size hi-sIx items.size 0 lo=items.size:=eq_of_beq q.2;exact hw ⟨by omega,by omega⟩
 show wpAny _ _ (if (((sIx items.size 0 lo:Nat):Int) == 0&&(1:Int) == 1&&(sIx items.size items.size hi-sIx items.size 0 lo) == items.size)=true then _ else _) _ _ s
 rw[lJb hno,qX9]
 first
  | exact lJa (m:=Builtin.Tuple.tupleExact _) (lKl (lJd ⟨_,rfl,lJd h⟩) htake)
  | exact lJa (m:=Builtin.Tuple.tupleExact _) (lKl (lJa (lJd (lJd ⟨_,rfl,lJd h⟩))) htake)
  | exact lJa (lJa (m:=Builtin.Tuple.tupleExact _) (lKl (lJd (lJd ⟨_,rfl,lJd h⟩)) htake))
  | exact lJa (lJa (m:=Builtin.Tuple.tupleExact _) (lKl (lJd ⟨_,rfl,lJd h⟩) htake))
end
end HT
namespace L2
open PySem PySem.Spec PyProof.Rows
abbrev TO:=St->Hp->(Option Int->Hp->Prop)->Prop
theorem kKw{ns:List Int}:∀{us:List Value},Vals (ns.map V.int) us->IntsAre us ns:=by
 induction ns with
 | nil=>intro us r;rw[lYe] at r;cases r;exact .nil
 | cons n ns ih=>
  intro us r;rw[lJq] at r;cases r with
  | cons r1 r2=>
   obtain⟨t,e⟩:=r1;subst e;exact .cons n t (ih r2)
section
variable {X:Cx}{e:Expr}{te:TE}{lo hi:Option Expr}{tl th:TO}{pos p2:Pos}
def SlR(X:Cx)(r:V->Option Int->Option Int->Hp->VK->Prop):Prop:=
 ∀(pins:List (Addr×Obj))(s:Shared)(σ:St)(H:Hp)(x:V)(v vl vu:Value)(lo hi:Option Int)(sl:Addr)(Q:VK),Inv X pins σ H s->RelV x v->s.heap.IsSliceOf sl vl vu .none->IsPart vl lo->IsPart vu hi->r x lo hi H Q->
  ∃T id,typeLookup (.type T) "__getitem__"=pure (some (.builtin id))/\s.TypeIs v T/\wpAny (model X.prog X.w) X.A (getItem v (.ref sl)) (EP X pins σ Q) X.xe s
def cutV(xs:List V)(lo hi:Option Int):List V:=(xs.drop (HT.sIx xs.length 0 lo)).take (HT.sIx xs.length xs.length hi-HT.sIx xs.length 0 lo)
theorem kJs(xs:List V)(lo hi:Option Int):(cutV xs lo hi).length<=xs.length:=by
 unfold cutV;rw[lQ6,lYd];omega
noncomputable def rSlT(K:PySem.W.Frag):V->Option Int->Option Int->Hp->VK->Prop:=λx lo hi H Q=>∃a xs,x= .ref a/\SqT K H a xs/\
 ¬ (HT.sIx xs.length 0 lo=0/\HT.sIx xs.length xs.length hi=xs.length)/\∀p,H p=none->Q (.ref p) (upd H p (.tup (cutV xs lo hi)))
theorem uUz:SlR X (rSlT X.K):=by
 intro pins s σ H x v vl vu lo hi sl Q I rx hs pl pu h;obtain⟨a,xs,rfl,hx,hw,q⟩:=h;cases rx;obtain⟨its,r,ht,hz⟩:=I.tuple hx;have hlen:its.toArray.size=xs.length:=by rw[lJu];exact r.length.symm
 refine⟨"tuple",_,lV4.lookup,ht.typeIs,?_⟩;refine HT.getItem_tuple_cut ht hs pl pu (by rw[hlen];exact hw) ?_ (by rw[hlen];exact hz)
 rw[hlen];refine⟨.ref s.heap.objs.size,_,I.laid (t':=s.toks) (o:= .tup (cutV xs lo hi)) (λb ob q=>lJm _ q) (lJh _) ?_,rfl,q _ (I.hok.fresh (lJh _))⟩
 exact⟨lKc (kJs xs lo hi) hz,_,(r.drop (HT.sIx xs.length 0 lo)).take (HT.sIx xs.length xs.length hi-HT.sIx xs.length 0 lo),TupD.new _ _⟩
noncomputable def qX6(K:PySem.W.Frag):R2:=λx y H Q=>∃a b xs ys,x= .ref a/\y= .ref b/\SqT K H a xs/\SqT K H b ys/\xs≠[]/\xs.length+ys.length<=sizeLine/\
 (ys=[]->Q (.ref a) H)/\(ys≠[]->∀p,H p=none->Q (.ref p) (upd H p (.tup (xs++ys))))
theorem Vals.nil_iff{xs:List V}{us:List Value}(r:Vals xs us):us=[]↔xs=[]:=by
 cases r with
 | nil=>simp
 | cons _ _=>simp
theorem uK4:OpR X (binaryOp .Add) (qX6 X.K):=by
 intro pins s σ H x y v u Q I rx ry h;obtain⟨a,b,xs,ys,rfl,rfl,ha,hb,hx,hz,q1,q2⟩:=h;cases rx;cases ry;obtain⟨its,r1,p1,_⟩:=I.tuple ha;obtain⟨its2,r2,p2,_⟩:=I.tuple hb;refine HT.cat_tup p1 p2 (λz=>hx (r1.nil_iff.mp z)) (λz=>⟨.ref a,H,I,rfl,q1 (r2.nil_iff.mp z)⟩) (λz=> ?_) (by rw[<-r1.length,<-r2.length];exact hz)
 refine⟨.ref s.heap.objs.size,_,I.laid (t':=s.toks) (o:= .tup (xs++ys)) (λb ob q=>lJm _ q) (lJh _) ?_,rfl,q2 (λw=>z (r2.nil_iff.mpr w)) _ (I.hok.fresh (lJh _))⟩
 exact⟨by rw[lJv];exact hz,_,r1.append r2,TupD.new _ _⟩
end
def ixN(n:Nat)(i:Int):Option Nat:=if 0<=i then (if i<n then some i.toNat else none) else if -(n:Int)<=i then some (i+n).toNat else none
def atI{α:Type}(xs:List α)(i:Int):Option α:=(ixN xs.length i).bind λj=>xs[j]?
theorem qUz{n:Nat}{i:Int}{j:Nat}(h:ixN n i=some j):seqIndex? i n=some j/\j<n/\ -(n:Int)<=i/\i<n:=by
 unfold ixN at h
 by_cases h0:0<=i
 .rw[lJc h0] at h
  by_cases h1:i<n
  .rw[lJc h1] at h;have e:i.toNat=j:=lJ3 h;exact⟨by rw[seqIndex_of h0 h1,e],by omega,by omega,h1⟩
  .rw[lJb h1] at h;cases h
 .rw[lJb h0] at h
  by_cases h1: -(n:Int)<=i
  .rw[lJc h1] at h;have e:(i+n).toNat=j:=lJ3 h;exact⟨by rw[seqIndex_neg (by omega) h1,e],by omega,h1,by omega⟩
  .rw[lJb h1] at h;cases h
theorem qV4{α:Type}{xs:List α}{i:Int}{v:α}(h:atI xs i=some v):∃j,seqIndex? i xs.length=some j/\xs[j]? =some v/\j<xs.length/\ -(xs.length:Int)<=i/\i<xs.length:=by
 unfold atI at h;cases e:ixN xs.length i with
 | none=>rw[e] at h;cases h
 | some j=>
  rw[e] at h;obtain⟨h1,h2,h3,h4⟩:=qUz e;exact⟨j,h1,h,h2,h3,h4⟩
theorem atI_nat{α:Type}{xs:List α}{j:Nat}{v:α}(h:xs[j]? =some v):atI xs (j:Int)=some v:=by
 have hj:j<xs.length:=(lJe.mp h).1
 have e:ixN xs.length (j:Int)=some j:=by
  unfold ixN;rw[lJc (by omega),lJc (by omega)];simp
 unfold atI;rw[e];exact h
def qV8(b:Expr):Prop:=∀o i,subscripted b false o i=operate [o,i] (getItem o i)
def IxR(X:Cx)(r:R2):Prop:=
 ∀(value slice:Expr)(pins:List (Addr×Obj))(s:Shared)(σ:St)(H:Hp)(x y:V)(v u:Value)(Q:VK),Inv X pins σ H s->RelV x v->RelV y u->r x y H Q->
  subscripted slice false v u=operate [v,u] (getItem v u)->wpAny (model X.prog X.w) X.A (subscriptTail value slice v u) (EP X pins σ Q) X.xe s
def MtR(X:Cx)(id:String)(r:V->List V->Hp->VK->Prop):Prop:=
 ∀(pins:List (Addr×Obj))(s:Shared)(σ:St)(H:Hp)(x:V)(xs:List V)(v:Value)(us:List Value)(Q:VK),Inv X pins σ H s->RelV x v->Vals xs us->r x xs H Q->
  wpAny (model X.prog X.w) X.A (call (.builtin id) (v::us)) (EP X pins σ Q) X.xe s
section
variable {X:Cx}{a b:Expr}{ta tb:TE}{pos:Pos}
theorem IxR.or{r r':R2}(h:IxR X r)(h':IxR X r'):IxR X (λx y H Q=>r x y H Q\/r' x y H Q):=by
 intro value slice pins s σ H x y v u Q I rx ry q hs
 rcases q with q | q
 .exact h value slice pins s σ H x y v u Q I rx ry q hs
 .exact h' value slice pins s σ H x y v u Q I rx ry q hs
def rIxL(K:PySem.W.Frag):R2:=λx y H Q=>∃p xs i v,x= .ref p/\y= .int i/\SqL K H p xs/\atI xs i=some v/\Q v H
def rIxT(K:PySem.W.Frag):R2:=λx y H Q=>∃p xs i v,x= .ref p/\y= .int i/\SqT K H p xs/\atI xs i=some v/\Q v H
theorem ix_list:IxR X (rIxL X.K):=by
 intro value slice pins s σ H x y v u Q I rx ry h hs;obtain⟨p,xs,i,z,rfl,rfl,hq,he,q⟩:=h;cases rx;obtain⟨t,rfl⟩:=ry;obtain⟨its,r,pl,hz⟩:=I.list hq;obtain⟨j,h1,h2,h3,h4,h5⟩:=qV4 he;obtain⟨w,ew,rw'⟩:=r.get h2;have hl:=r.length;have hn:=jYz;have fin:EP X pins σ Q w s:=⟨z,H,I,rw',q⟩
 by_cases h0:0<=i
 .have hj:i.toNat=j:=by
   rw[seqIndex_of h0 h5] at h1;exact lJ3 h1
  exact item_listR pl.isList h0 (by omega) (by rw[hj];simpa using ew) fin hs
 .have hj:(i+(its.toArray.size:Int)).toNat=j:=by
   rw[seqIndex_neg (by omega) h4] at h1
   rw[lJu,<-hl];exact lJ3 h1
  exact subscriptTail_builtinR (x:=w) pl.isList.typeIs slot_list_getitem.lookup
   (wpAny_getItem_list_neg (Q:=λr s'=>r=w/\EP X pins σ Q r s') pl.isList (by omega) (by rw[lJu]<;>omega) (by omega) (by rw[hj];simpa using ew) ⟨rfl,fin⟩) hs
theorem uXd:IxR X (rIxT X.K):=by
 intro value slice pins s σ H x y v u Q I rx ry h hs;obtain⟨p,xs,i,z,rfl,rfl,hq,he,q⟩:=h;cases rx;obtain⟨t,rfl⟩:=ry;obtain⟨its,r,pl,hz⟩:=I.tuple hq;obtain⟨j,h1,h2,h3,h4,h5⟩:=qV4 he;obtain⟨w,ew,rw'⟩:=r.get h2;have hl:=r.length;have hn:=jYz;have fin:EP X pins σ Q w s:=⟨z,H,I,rw',q⟩
 exact subscriptTail_builtinR (x:=w) pl.typeIs slot_tuple_getitem.lookup
  (getItem_tuple (j:=j) (Q:=λr s'=>r=w/\EP X pins σ Q r s') pl (by omega) (by omega) (by rw[lJu,<-hl];exact h1) (by simpa using ew) ⟨rfl,fin⟩) hs
theorem qKa(its:List Value)(n j:Nat)(u:Value):Obj.mapSeq (·.setIfInBounds j u) {cls:= .type "list",data:= .seq its.toArray n}={cls:= .type "list",data:= .seq (its.set j u).toArray n}:=by
 simp[Obj.mapSeq]
theorem Inv.lst{pins:List (Addr×Obj)}{σ:St}{H:Hp}{s:Shared}{p:Addr}{xs:List V}(I:Inv X pins σ H s)(h:H p=some (.lst xs)):
  ∃(its:List Value)(n:Nat),Vals xs its/\s.heap.get? p=some {cls:= .type "list",data:= .seq its.toArray n}/\xs.length<=sizeLine:=by
 obtain⟨z,its,n,r,e⟩:=I.hok p _ h;exact⟨its,n,r,e,z⟩
theorem Inv.lstUpd{pins:List (Addr×Obj)}{σ:St}{H:Hp}{s:Shared}{p:Addr}{xs ys:List V}{its its':List Value}{n n':Nat}{f:Obj->Obj}(I:Inv X pins σ H s)(h:H p=some (.lst xs))
  (ho:s.heap.get? p=some {cls:= .type "list",data:= .seq its.toArray n}) (hf:f {cls:= .type "list",data:= .seq its.toArray n}={cls:= .type "list",data:= .seq its'.toArray n'}) (r:Vals ys its') (hz:ys.length<=sizeLine) (t:Nat):
  Inv X pins σ (upd H p (.lst ys)) {s with heap:=s.heap.update p f,toks:=t}:=by
 have e:(s.heap.update p f).get? p=some {cls:= .type "list",data:= .seq its'.toArray n'}:=by
  rw[lV5 f ho (by rw[hf]<;>rfl),hf]
 refine I.write (x:=p) (e:=p) (by rw[h];trivial) (.inl rfl) (λb u hb q=>(lYf _ _ (Ne.symm hb)).trans q) ⟨_,e⟩ ?_
 exact⟨hz,its',n',r,e⟩
def qX2:V->V->V->Hp->(Hp->Prop)->Prop:=λo i v H Q=>∃p xs k j,o= .ref p/\i= .int k/\H p=some (.lst xs)/\ixN xs.length k=some j/\Q (upd H p (.lst (xs.set j v)))
theorem kQk:PSet X qX2:=by
 intro pins s σ H o i v ov iv u Q I ro ri rv h;obtain⟨p,xs,k,j,rfl,rfl,hp,hj,q⟩:=h;cases ro;obtain⟨t,rfl⟩:=ri;obtain⟨its,n,r,ho,hz⟩:=I.lst hp;obtain⟨h1,h2,h3,h4⟩:=qUz hj;have hl:=r.length;have hn:=jYz
 have I':Inv X pins σ (upd H p (.lst (xs.set j v))) {s with heap:=s.heap.update p (Obj.mapSeq (·.setIfInBounds j u))}:=
  I.lstUpd hp ho (qKa its n j u) (r.set rv j) (by rw[lVg];exact hz) s.toks
 by_cases h0:0<=k
 .have hk:k.toNat=j:=by
   rw[seqIndex_of h0 h4] at h1;exact lJ3 h1
  exact PySem.W.ki_setAt ho h0 (by omega) (by rw[lJu,<-hl];exact h4) (by rw[hk];exact⟨_,I',q⟩)
 .have hk:(k+(its.toArray.size:Int)).toNat=j:=by
   rw[seqIndex_neg (by omega) h3] at h1
   rw[lJu,<-hl];exact lJ3 h1
  exact PySem.W.ki_setBack ho (by omega) (by rw[lJu,<-hl];exact h3) (by omega) (by rw[hk];exact⟨_,I',q⟩)
theorem kUt(lo hi:Option Int)(n:Nat):(sliceBounds lo hi none n).1=((HT.sIx n 0 lo:Nat):Int)/\(sliceBounds lo hi none n).2.1=((HT.sIx n n hi:Nat):Int)/\(sliceBounds lo hi none n).2.2=1:=by
 refine⟨?_,?_,rfl⟩
 .cases lo with
  | none=>simp[sliceBounds,HT.sIx]
  | some i=>
   simp only[sliceBounds,HT.sIx,Option.getD_none,show (1:Int)>0 by decide,lK0]
   by_cases h:i<0
   .simp only[h,lK0]<;>omega
   .simp only[h,lJ6]<;>omega
 .cases hi with
  | none=>simp[sliceBounds,HT.sIx]
  | some i=>
   simp only[sliceBounds,HT.sIx,Option.getD_none,show (1:Int)>0 by decide,lK0]
   by_cases h:i<0
   .simp only[h,lK0]<;>omega
   .simp only[h,lJ6]<;>omega
theorem kQi(its:List Value)(lo hi:Option Int):slicePick its.toArray lo hi none=((its.drop (HT.sIx its.length 0 lo)).take (HT.sIx its.length its.length hi-HT.sIx its.length 0 lo)).toArray:=by
 obtain⟨h1,h2,h3⟩:=kUt lo hi its.toArray.size;unfold slicePick;rw[h1,h2,h3];simp only[sliceRange_one,pick_run,lJu]<;>rfl
def rSlL(K:PySem.W.Frag):V->Option Int->Option Int->Hp->VK->Prop:=λx lo hi H Q=>∃a xs,x= .ref a/\SqL K H a xs/\∀p,H p=none->Q (.ref p) (upd H p (.lst (cutV xs lo hi)))
theorem uKr:SlR X (rSlL X.K):=by
 intro pins s σ H x v vl vu lo hi sl Q I rx hs pl pu h;obtain⟨a,xs,rfl,hx,q⟩:=h;cases rx;obtain⟨its,r,ht,hz⟩:=I.list hx;have hlen:=r.length;refine⟨"list",_,slot_list_getitem.lookup,ht.isList.typeIs,?_⟩;refine wpAny_getItem_list_slice ht.isList hs pl pu .none (by simp) ?_ (by rw[lJu]<;>omega)
 rw[kQi,<-hlen];refine⟨.ref s.heap.objs.size,_,I.laid (t':=s.toks) (o:= .lst (cutV xs lo hi)) (λb ob q=>lJm _ q) (lJh _) ?_,rfl,q _ (I.hok.fresh (lJh _))⟩
 exact⟨lKc (kJs xs lo hi) hz,_,0,(r.drop (HT.sIx xs.length 0 lo)).take (HT.sIx xs.length xs.length hi-HT.sIx xs.length 0 lo),lJz _ rfl⟩
def kKh:V->Bool
 | .non=>true
 | .bl _=>true
 | .int _=>true
 | .str _=>true
 | _=>false
noncomputable def eqV:V->V->Bool
 | .non,.non=>true
 | .bl a,.bl b=>a == b
 | .bl a,.int b=>(if a then 1 else 0) == b
 | .int a,.bl b=>a == (if b then 1 else 0)
 | .int a,.int b=>a == b
 | .str a,.str b=>a == b
 | _,_=>false
theorem uXm{A:Around}{s:Shared}{y x:V}{u v:Value}(ry:RelV y u)(rx:RelV x v)(fy:kKh y=true)(fx:kKh x=true):SeqAt.EqAt A s u v (eqV y x):=by
 cases y with
 | non=>
  cases ry;cases x with
  | non=>cases rx;exact SeqAt.EqAt.same _
  | bl b=>cases rx;exact SeqAt.EqAt.none_bool b
  | int b=>obtain⟨t,rfl⟩:=rx;exact SeqAt.EqAt.none_int b t
  | str b=>obtain⟨t,rfl⟩:=rx;exact SeqAt.EqAt.none_str b t
  | _=>exact absurd (show false=true from fx) lJo
 | bl a=>
  cases ry;cases x with
  | non=>cases rx;exact SeqAt.EqAt.bool_none a
  | bl b=>cases rx;exact SeqAt.EqAt.bool_bool a b
  | int b=>obtain⟨t,rfl⟩:=rx;exact SeqAt.EqAt.bool_int a b t
  | str b=>obtain⟨t,rfl⟩:=rx;exact SeqAt.EqAt.bool_str a b t
  | _=>exact absurd (show false=true from fx) lJo
 | int a=>
  obtain⟨t',rfl⟩:=ry;cases x with
  | non=>cases rx;exact SeqAt.EqAt.int_none a t'
  | bl b=>cases rx;exact SeqAt.EqAt.int_bool a t' b
  | int b=>obtain⟨t,rfl⟩:=rx;exact SeqAt.EqAt.int_int a t' b t
  | str b=>obtain⟨t,rfl⟩:=rx;exact SeqAt.EqAt.int_str a t' b t
  | _=>exact absurd (show false=true from fx) lJo
 | str a=>
  obtain⟨t',rfl⟩:=ry;cases x with
  | non=>cases rx;exact SeqAt.EqAt.str_none a t'
  | bl b=>cases rx;exact SeqAt.EqAt.str_bool a t' b
  | int b=>obtain⟨t,rfl⟩:=rx;exact SeqAt.EqAt.str_int a t' b t
  | str b=>obtain⟨t,rfl⟩:=rx;exact SeqAt.EqAt.str_str a t' b t
  | _=>exact absurd (show false=true from fx) lJo
 | _=>exact absurd (show false=true from fy) lJo
def eqU(x:V)(u:Value):Bool:=match u with
 | .none=>eqV .non x
 | .bool b=>eqV (.bl b) x
 | .int i _=>eqV (.int i) x
 | .str z _=>eqV (.str z) x
 | _=>false
theorem kZ2{x y:V}{u:Value}(r:RelV y u)(f:kKh y=true):eqU x u=eqV y x:=by
 cases y with
 | non=>cases r;rfl
 | bl b=>cases r;rfl
 | int i=>obtain⟨t,rfl⟩:=r;rfl
 | str z=>obtain⟨t,rfl⟩:=r;rfl
 | _=>exact absurd (show false=true from f) lJo
theorem kYt{x:V}:∀{xs:List V}{us:List Value},Vals xs us->xs.all kKh=true->us.any (eqU x)=xs.any λy=>eqV y x
 | _,_,.nil,_=>rfl
 | y::xs,u::us,.cons r t,f=>by
  rw[lQt,lKt] at f;rw[lQu,lQu,kZ2 r f.1,kYt t f.2]
theorem jXu{A:Around}{s:Shared}{x:V}{v:Value}(rx:RelV x v)(fx:kKh x=true):∀{xs:List V}{us:List Value},Vals xs us->xs.all kKh=true->∀u∈us,SeqAt.EqAt A s u v (eqU x u)
 | _,_,.nil,_=>λu hu=>by cases hu
 | y::xs,u::us,.cons r t,f=>λu' hu=>by
  rw[lQt,lKt] at f
  rcases (lJp.mp hu) with rfl | hu
  .rw[kZ2 r f.1];exact uXm r rx f.1 fx
  .exact jXu rx fx t f.2 u' hu
def inV(x:V)(xs:List V):Bool:=xs.any λy=>eqV y x
def rIn(K:PySem.W.Frag)(neg:Bool):R2:=λx y H Q=>∃p xs,y= .ref p/\(SqL K H p xs\/SqT K H p xs)/\kKh x=true/\xs.all kKh=true/\Q (.bl (if neg then !inV x xs else inV x xs)) H
theorem kU9:OpR X (compareOp .NotIn) (rIn X.K true):=by
 intro pins s σ H x y v u Q I rx ry h;obtain⟨p,xs,rfl,hq,fx,fs,q⟩:=h;cases ry
 rcases hq with hq | hq
 .obtain⟨its,r,pl,hz⟩:=I.list hq;refine SeqAt.notIn_listAt (eqU x) pl.isList (λw hw=>jXu rx fx r fs w (by simpa using hw)) ⟨.bl _,H,I,rfl,?_⟩
  rw[show its.toArray.any (eqU x)=its.any (eqU x) by simp,kYt r fs]
  exact q
 .obtain⟨its,r,pl,hz⟩:=I.tuple hq;refine SeqAt.notIn_tupleAt (eqU x) pl (λw hw=>jXu rx fx r fs w (by simpa using hw)) ⟨.bl _,H,I,rfl,?_⟩
  rw[show its.toArray.any (eqU x)=its.any (eqU x) by simp,kYt r fs]
  exact q
theorem kVu:kKk X (.builtin "len") (λxs H Q=>∃p ys,xs=[.ref p]/\(SqL X.K H p ys\/SqT X.K H p ys)/\Q (.int ys.length) H):=by
 intro pins s σ H xs us Q I r h;obtain⟨p,ys,rfl,hq,q⟩:=h;obtain⟨u,rfl,rx⟩:=kUp r;cases rx;have hn:=jYz
 rcases hq with hq | hq
 .obtain⟨its,r',pl,hz⟩:=I.list hq;have hlen:=r'.length;exact Calls.call_len_list pl.isList (by simp only[lJu]<;>omega) ⟨.int ys.length,H,I.tok _,⟨s.toks+1,by rw[lJu,hlen]⟩,q⟩
 .obtain⟨its,r',pl,hz⟩:=I.tuple hq;have hlen:=r'.length;exact len_tuple pl (by simp only[lJu]<;>omega) ⟨.int ys.length,H,I.tok _,⟨s.toks+1,by rw[lJu,hlen]⟩,q⟩
theorem kVt:kKk X (.type "list") (λxs H Q=>∃p ys,xs=[.ref p]/\(SqL X.K H p ys\/SqT X.K H p ys)/\∀l,H l=none->Q (.ref l) (upd H l (.lst ys))):=by
 intro pins s σ H xs us Q I r h;obtain⟨p,ys,rfl,hq,q⟩:=h;obtain⟨u,rfl,rx⟩:=kUp r;cases rx
 have fin:∀(its:List Value),Vals ys its->ys.length<=sizeLine->∀(h':Heap)(c':Nat),(∀b o',s.heap.get? b=some o'->h'.get? b=some o')->
   h'.get? s.heap.objs.size=some {cls:= .type "list",dict:=none,data:= .seq its.toArray c',slots:= #[]}->EP X pins σ Q (.ref s.heap.objs.size) {s with heap:=h'}:=λits r' hz h' c' kp e=>
  ⟨.ref s.heap.objs.size,_,I.laid (t':=s.toks) kp (lJh _) (show ObjOk X.prog X.w _ h' _ (.lst ys) from⟨hz,its,c',r',e⟩),rfl,q _ (I.hok.fresh (lJh _))⟩
 rcases hq with hq | hq
 .obtain⟨its,r',pl,hz⟩:=I.list hq;have hlen:=r'.length;obtain⟨o,ho,hc,n,hd⟩:=pl.isList;exact call_list_seq p (.inl rfl) ho hc hd (λh' c' kp e=>fin its r' hz h' c' kp e) (by simp only[lJu]<;>omega)
 .obtain⟨its,r',pl,hz⟩:=I.tuple hq;have hlen:=r'.length;obtain⟨o,ho,hc,n,hd⟩:=pl;exact call_list_seq p (.inr rfl) ho hc hd (λh' c' kp e=>fin its r' hz h' c' kp e) (by simp only[lJu]<;>omega)
theorem kUm:kKk X (.type "tuple") (λxs H Q=>∃p ys,xs=[.ref p]/\((SqL X.K H p ys/\∀l,H l=none->Q (.ref l) (upd H l (.tup ys)))\/(SqT X.K H p ys/\Q (.ref p) H))):=by
 intro pins s σ H xs us Q I r h;obtain⟨p,ys,rfl,h⟩:=h;obtain⟨u,rfl,rx⟩:=kUp r;cases rx
 rcases h with ⟨hq,q⟩ | ⟨hq,q⟩
 .obtain⟨its,r',pl,hz⟩:=I.list hq;have hlen:=r'.length;refine call_tuple_list pl.isList (λh' kp=> ?_) (by simp only[lJu]<;>omega)
  have I1:Inv X pins σ H {s with heap:=h'}:=I.kept (t':=s.toks) kp
  have I2:Inv X pins σ (upd H h'.objs.size (.tup ys)) {s with heap:=h'.push {cls:= .type "tuple",data:= .seq its.toArray} }:=
   I1.laid (t':=s.toks) (λb o e=>lJm _ e) (lJh _) (show ObjOk X.prog X.w _ _ _ (.tup ys) from⟨hz,its,r',TupD.new _ _⟩)
  exact⟨.ref h'.objs.size,_,I2,rfl,q _ (I1.hok.fresh (lJh _))⟩
 .obtain⟨its,r',pl,hz⟩:=I.tuple hq;exact call_tuple_same pl ⟨.ref p,H,I,rfl,q⟩
def tyV(K:PySem.W.Frag)(T:String)(x:V)(H:Hp):Prop:=match x with
 | .str _=>T="str"
 | .int _=>T="int"
 | .ref p=>(T="list"/\∃xs,SqL K H p xs)\/(T="tuple"/\∃o,K.lookup p=some o/\o.cls= .type "tuple"/\o.dict=none)\/
   (T="dict"/\((∃kvs,H p=some (.dK kvs))\/∃kvs,H p=some (.dT kvs)))\/(T="set"/\∃S n,H p=some (.set S n))
 | _=>False
theorem uUr{pins:List (Addr×Obj)}{σ:St}{H:Hp}{s:Shared}{T:String}{x:V}{v:Value}(I:Inv X pins σ H s)(r:RelV x v)(ty:tyV X.K T x H):
  s.TypeIs v T/\∀a,v= .ref a->∃ob,s.heap.get? a=some ob/\ob.dict=none:=by
 cases x with
 | str z=>
  obtain⟨t,rfl⟩:=r;cases (show T="str" from ty)
  exact⟨typeIs_str s z t,λ_ e=>nomatch e⟩
 | int i=>
  obtain⟨t,rfl⟩:=r;cases (show T="int" from ty)
  exact⟨lX7 s i t,λ_ e=>nomatch e⟩
 | ref p=>
  cases r
  rcases ty with ⟨rfl,xs,hq⟩ | ⟨rfl,o,hk,hc,hd⟩ | ⟨rfl,hk⟩ | ⟨rfl,S,n,hk⟩
  .obtain⟨its,_,pl,_⟩:=I.list hq;refine⟨pl.isList.typeIs,λa e=> ?_⟩
   cases e;obtain⟨o,n,e,c,hd,_⟩:=pl;exact⟨o,e,hd⟩
  .refine⟨⟨o,I.kIn p o hk,hc⟩,λa e=> ?_⟩
   cases e;exact⟨o,I.kIn _ o hk,hd⟩
  .have z:∃o,s.heap.get? p=some o/\o.ExactDict:=by
    rcases hk with ⟨kvs,hk⟩ | ⟨kvs,hk⟩
    .obtain⟨_,_,_,_,o,_,_,e,ex,_⟩:=I.hok p _ hk;exact⟨o,e,ex⟩
    .obtain⟨_,_,_,_,o,_,_,e,ex,_⟩:=I.hok p _ hk;exact⟨o,e,ex⟩
   obtain⟨o,e,ex⟩:=z;refine⟨⟨o,e,ex.1⟩,λa e2=> ?_⟩
   cases e2;exact⟨o,e,ex.2.1⟩
  .obtain⟨o,_,_,_,e,ex,_⟩:=I.hok p _ hk;refine⟨⟨o,e,ex.1⟩,λa e2=> ?_⟩
   cases e2;exact⟨o,e,ex.2.1⟩
 | _=>exact False.elim ty
variable {o e:Expr}{es:List Expr}{to:TE}{t:TA}{name:Str}{apos cpos:Pos}{T id:String}{r:V->List V->Hp->VK->Prop}
end
def MtM(X:Cx)(id:String)(r:V->List V->Hp->VK->Prop):Prop:=
 ∀(pins:List (Addr×Obj))(s:Shared)(σ:St)(H:Hp)(x:V)(xs:List V)(v:Value)(us:List Value)(Q:VK),Inv X pins σ H s->RelV x v->Vals xs us->r x xs H Q->
  wpAny (model X.prog X.w) X.A (call (.builtin id) (v::us)) (EP X pins σ Q) X.xe s
theorem Vals.one{x:V}{us:List Value}(h:Vals [x] us):∃u,us=[u]/\RelV x u:=by
 cases h with | cons r t=>(cases t;exact⟨_,rfl,r⟩)
theorem Vals.two{x y:V}{us:List Value}(h:Vals [x,y] us):∃u v,us=[u,v]/\RelV x u/\RelV y v:=by
 cases h with | cons r t=>(cases t with | cons q t=>(cases t;exact⟨_,_,rfl,r,q⟩))
theorem Vals.reverse{xs:List V}{us:List Value}(h:Vals xs us):Vals xs.reverse us.reverse:=by
 induction h with
 | nil=>exact .nil
 | cons r t ih=>rw[lYg,lYg];exact Vals.append ih (.cons r .nil)
theorem Vals.rep{xs:List V}{us:List Value}(h:Vals xs us):∀k:Nat,Vals (List.replicate k xs).flatten (List.replicate k us).flatten
 | 0=> .nil
 | k+1=>by
  rw[lK2,lK2,lQv,lQv];exact Vals.append h (Vals.rep h k)
theorem kJm(its:List Value):∀(k:Nat)(acc:List Value),
  List.foldl (λx1 x2=>x1++x2) acc.toArray (List.replicate k its.toArray)=(acc++(List.replicate k its).flatten).toArray
 | 0,acc=>by simp
 | k+1,acc=>by
  have e:acc.toArray++its.toArray=(acc++its).toArray:=by simp
  have e2:(acc++its)++(List.replicate k its).flatten=acc++(List.replicate (k+1) its).flatten:=by
   rw[lK2,lQv,lQ7]
  rw[<-e2,<-kJm its k (acc++its),<-e,lK2,lVr]
section
variable {X:Cx}{pins:List (Addr×Obj)}{σ:St}{H:Hp}{s:Shared}{l b:Addr}{xs ys zs:List V}
theorem Inv.lset{its its':List Value}{n:Nat}{f:Array Value->Array Value}{t':Nat}(I:Inv X pins σ H s)(hH:H l=some (.lst xs))
  (e:s.heap.get? l=some {cls:= .type "list",data:= .seq its.toArray n}) (hf:f its.toArray=its'.toArray) (hv:Vals ys its') (hz:ys.length<=sizeLine):
  Inv X pins σ (upd H l (.lst ys)) {s with heap:=s.heap.update l (Obj.mapSeq f),toks:=t'}:=by
 have q:=PySem.IsL.update e f;rw[hf] at q;refine I.write (x:=l) (e:=l) (by rw[hH];exact trivial) (.inl rfl) (λb' u hb hu=>(lYf s.heap (Obj.mapSeq f) (Ne.symm hb)).trans hu) ⟨_,q⟩ ?_
 exact⟨hz,its',_,hv,q⟩
theorem Inv.lnew{its:List Value}{t':Nat}(I:Inv X pins σ H s)(hv:Vals ys its)(hz:ys.length<=sizeLine):
  Inv X pins σ (upd H s.heap.objs.size (.lst ys)) {s with heap:=s.heap.push {cls:= .type "list",data:= .seq its.toArray},toks:=t'}:=
 I.laid (λ_ _ q=>lJm _ q) (lJh _) ⟨hz,its,0,hv,lJz _ rfl⟩
theorem Inv.fresh(I:Inv X pins σ H s):H s.heap.objs.size=none:=I.hok.fresh (lJh _)
theorem Inv.lstM(I:Inv X pins σ H s)(hH:H l=some (.lst xs)):xs.length<=sizeLine/\∃(its:List Value)(n:Nat),Vals xs its/\xs.length=its.length/\s.heap.get? l=some {cls:= .type "list",data:= .seq its.toArray n}:=by
 obtain⟨z,its,n,r,e⟩:=I.hok l _ hH;exact⟨z,its,n,r,r.length,e⟩
theorem qYk{n:Nat}(h:n<=sizeLine):Builtin.List.listTooLong n=false:=by
 unfold Builtin.List.listTooLong;exact lJ4 (by omega)
end
section
variable {X:Cx}
def jJ5:V->List V->Hp->VK->Prop:=λx vs H Q=>∃l xs y,x= .ref l/\vs=[y]/\H l=some (.lst xs)/\xs.length<sizeLine/\Q .non (upd H l (.lst (xs++[y])))
theorem qUj:MtM X "list.append" jJ5:=by
 intro pins s σ H x vs v us Q I rx rv h;obtain⟨l,xs,y,rfl,rfl,hH,hz,q⟩:=h;cases rx;obtain⟨u,rfl,ru⟩:=rv.one;obtain⟨z,its,n,r,hl,e⟩:=I.lstM hH;refine lQ1 F.slot_list_append ⟨_,e,rfl⟩ F.entry_list_append (F.args_list_append_2 _ _) (PySem.list_append l its.toArray n u (by rw[lJu];omega)) ⟨e,?_⟩
 refine⟨.non,_,I.lset (its':=its++[u]) hH e (by simp) (r.append (.cons ru .nil)) ?_,rfl,q⟩
 rw[lJv,lQw];omega
noncomputable def rCat:R2:=λx y H Q=>∃l b xs zs,x= .ref l/\y= .ref b/\H l=some (.lst xs)/\H b=some (.lst zs)/\xs.length+zs.length<=sizeLine/\∀p,H p=none->Q (.ref p) (upd H p (.lst (xs++zs)))
theorem uVq:OpR X (binaryOp .Add) rCat:=by
 intro pins s σ H x y v u Q I rx ry h;obtain⟨l,b,xs,zs,rfl,rfl,hH,hB,hz,q⟩:=h;cases rx;cases ry;obtain⟨z,its,n,r,hl,e⟩:=I.lstM hH;obtain⟨z2,its2,n2,r2,hl2,e2⟩:=I.lstM hB;refine PySem.P.add_list e e2 ?_ (by rw[lJu,lJu];omega)
 have ea:its.toArray++its2.toArray=(its++its2).toArray:=by simp
 rw[ea];exact⟨.ref _,_,I.lnew (t':=s.toks) (r.append r2) (by rw[lJv];omega),rfl,q _ I.fresh⟩
noncomputable def rRep:R2:=λx y H Q=>∃l k xs,x= .ref l/\y= .int k/\H l=some (.lst xs)/\ -(2^63)<=k/\k<2^63/\xs.length*k.toNat<=sizeLine/\
 ∀p,H p=none->Q (.ref p) (upd H p (.lst (List.replicate k.toNat xs).flatten))
theorem kYa{α:Type}(xs:List α)(k:Nat):(List.replicate k xs).flatten.length=k*xs.length:=by
 induction k with
 | zero=>simp
 | succ k ih=>rw[lK2,lQv,lJv,ih,lQx,Nat.add_comm]
theorem uVl:OpR X (binaryOp .Mult) rRep:=by
 intro pins s σ H x y v u Q I rx ry h;obtain⟨l,k,xs,rfl,rfl,hH,h1,h2,hz,q⟩:=h;cases rx;obtain⟨t,rfl⟩:=ry;obtain⟨z,its,n,r,hl,e⟩:=I.lstM hH;have hlen:its.toArray.size*k.toNat<=sizeLine:=by rw[lJu,<-hl];exact hz
 have hcap:¬ its.toArray.size*k.toNat>(2^63-1) / 8:=by
  have:(sizeLine:Nat)<=(2^63-1) / 8:=by decide
  omega
 have hfit:¬ (!Builtin.List.listFitsIndex k)=true:=by
  rw[fitsIndex_both h1 h2];exact lJo
 have hlong:¬ Builtin.List.listTooLong (its.toArray.size*k.toNat)=true:=by
  rw[qYk hlen];exact lJo
 have hnew:List.foldl (λx1 x2=>x1++x2) #[] (List.replicate (if its.toArray.isEmpty=true then 0 else k.toNat) its.toArray)=(List.replicate k.toNat its).flatten.toArray:=by
  have f0:∀m:Nat,List.foldl (λx1 x2=>x1++x2) #[] (List.replicate m its.toArray)=(List.replicate m its).flatten.toArray:=λm=>by
   have:=kJm its m [];rw[List.nil_append] at this;exact this
  rw[f0];cases its with
  | nil=>simp
  | cons a r'=>rw[lJb (by simp)]
 refine wpAny_binaryOp_repeat_ref (T:="list") (U:="int") (by decide) ⟨_,e,rfl⟩ (λs'=>lX7 s' k t) noFill_list_mul F.fills_int_mul F.slot_int_rmul repeat_list F.slot_int_index.lookup
  (lQ1 F.slot_int_rmul (lX7 s k t) F.entry_int_rmul (F.args_int_rmul_2 _ _) (int___rmul___int_list k t l its.toArray n)
   ⟨e,rfl,⟨_,e,rfl⟩,lQ1 F.slot_list_mul ⟨_,e,rfl⟩ F.entry_list_mul (F.args_list_mul_2 _ _) (AutoListH.list___mul___list_int_3 l its.toArray n k t hfit hcap hlong) ⟨e,?_⟩⟩)
 rw[hnew];exact⟨.ref _,_,I.lnew (t':=s.toks) (r.rep k.toNat) (by rw[kYa,lQy];exact hz),rfl,q _ I.fresh⟩
end
section
variable {prog:Program}{w:World}{A:Around}{E:Value->Shared->Prop}{s:Shared}
end
section
variable {X:Cx}
end
section
variable {κ:Type}[DecidableEq κ]
def valV(kvs:List (κ×V))(k:κ):Option V:=(kvs.find? λkv=>decide (kv.1=k)).map (·.2)
def putK(kvs:List (κ×V))(k:κ)(v:V):List (κ×V):=
 if (kvs.any λkv=>decide (kv.1=k))=true then kvs.map (λkv=>if kv.1=k then (kv.1,v) else kv) else kvs++[(k,v)]
theorem jZe{p:κ×V}{r:List (κ×V)}{k:κ}(e:p.1=k):valV (p::r) k=some p.2:=by simp[valV,lQf,e]
theorem jZf{p:κ×V}{r:List (κ×V)}{k:κ}(e:¬ p.1=k):valV (p::r) k=valV r k:=by simp[valV,lQf,e]
theorem kY0(k:κ):∀kvs:List (κ×V),(kvs.any λkv=>decide (kv.1=k))=(valV kvs k).isSome
 | []=>rfl
 | p::r=>by
  rw[lQu]
  by_cases e:p.1=k
  .simp only[jZe e,lKf e,Bool.true_or,Option.isSome_some]
  .rw[jZf e,lJ4 e,Bool.false_or];exact kY0 k r
theorem kJg(kvs:List (κ×V))(k:κ)(v:V):(putK kvs k v).length<=kvs.length+1:=by
 unfold putK;split
 .rw[lJg];omega
 .rw[lJv,lJ7,lQd];omega
theorem RelO.isSome_eq{o:Option V}{u:Option Value}(r:RelO o u):o.isSome=u.isSome:=by
 cases o with
 | none=>cases u with
  | none=>rfl
  | some _=>exact (show False from r).elim
 | some _=>cases u with
  | none=>exact (show False from r).elim
  | some _=>rfl
theorem KV.val{kvs:List (κ×V)}{vs:List (κ×Value)}(r:KV kvs vs)(k:κ):RelO (valV kvs k) (valueAt vs k):=by
 unfold KV at r
 induction r with
 | nil=>exact True.intro
 | @cons p q ps qs h t ih=>
  obtain⟨h1,h2⟩:=h
  by_cases e:p.1=k
  .have e':q.1=k:=h1.symm.trans e;have b:valueAt (q::qs) k=some q.2:=by simp[valueAt,lQf,e']
   rw[jZe e,b];exact h2
  .have e':¬ q.1=k:=λz=>e (h1.trans z)
   have b:valueAt (q::qs) k=valueAt qs k:=by simp[valueAt,lQf,e']
   rw[jZf e,b];exact ih
theorem KV.any{kvs:List (κ×V)}{vs:List (κ×Value)}(r:KV kvs vs)(k:κ):(kvs.any λkv=>decide (kv.1=k))=vs.any λkv=>decide (kv.1=k):=by
 unfold KV at r
 induction r with
 | nil=>rfl
 | cons h t ih=>rw[lQu,lQu,ih,h.1]
theorem KV.repl{kvs:List (κ×V)}{vs:List (κ×Value)}(r:KV kvs vs)(k:κ){y:V}{u:Value}(ry:RelV y u):
  KV (kvs.map λkv=>if kv.1=k then (kv.1,y) else kv) (vs.map λkv=>if kv.1=k then (kv.1,u) else kv):=by
 unfold KV at r ⊢
 induction r with
 | nil=>exact .nil
 | @cons p q ps qs h t ih=>
  rw[lJq,lJq];refine .cons ?_ ih;obtain⟨h1,h2⟩:=h
  by_cases e:p.1=k
  .rw[lJc e,lJc (h1.symm.trans e)];exact⟨h1,ry⟩
  .rw[lJb e,lJb (λz=>e (h1.trans z))];exact⟨h1,h2⟩
theorem KV.put{kvs:List (κ×V)}{vs:List (κ×Value)}(r:KV kvs vs)(k:κ){y:V}{u:Value}(ry:RelV y u):KV (putK kvs k y) (stored vs k u):=by
 unfold putK stored;rw[r.any k]
 by_cases e:(vs.any λkv=>decide (kv.1=k))=true
 .rw[lJc e,lJc e];exact r.repl k ry
 .rw[lJb e,lJb e];exact Paired.snoc r ⟨rfl,ry⟩
theorem KV.length{kvs:List (κ×V)}{vs:List (κ×Value)}(r:KV kvs vs):kvs.length=vs.length:=lVf r
end
theorem kYc{P:Program}{w:World}{k:Key}{u:Value}(r:RelV (kV k) u):(jKy P w).is k u=true:=by
 cases k with
 | inl i=>obtain⟨t,e⟩:=(show ∃t,u=Value.int i t from r);subst e;exact kX3 P w i t
 | inr x=>obtain⟨t,e⟩:=(show ∃t,u=Value.str x t from r);subst e;exact kX2 P w x t
abbrev KT(H:Hp):List (TKey×V)->List (TKey×Addr×Value)->Prop:=Paired λp q=>p.1=q.1/\TKeyAt H p.1 q.2.1/\RelV p.2 q.2.2
theorem KT.val{H:Hp}{kvs:List (TKey×V)}{xs:List (TKey×Addr×Value)}(r:KT H kvs xs)(k:TKey):RelO (valV kvs k) ((atKey xs k).map (·.2)):=by
 induction r with
 | nil=>exact True.intro
 | @cons p q ps qs h t ih=>
  obtain⟨h1,_,h2⟩:=h
  by_cases e:p.1=k
  .have e':q.1=k:=h1.symm.trans e;have b:atKey (q::qs) k=some q.2:=by simp[atKey,lQf,e']
   rw[jZe e,b];exact h2
  .have e':¬ q.1=k:=λz=>e (h1.trans z)
   have b:atKey (q::qs) k=atKey qs k:=by simp[atKey,lQf,e']
   rw[jZf e,b];exact ih
theorem KT.repl{H:Hp}{kvs:List (TKey×V)}{xs:List (TKey×Addr×Value)}(r:KT H kvs xs)(k:TKey){y:V}{u:Value}(ry:RelV y u):
  KT H (kvs.map λkv=>if kv.1=k then (kv.1,y) else kv) (xs.map (putAt k u)):=by
 induction r with
 | nil=>exact .nil
 | @cons p q ps qs h t ih=>
  rw[lJq,lJq];refine .cons ?_ ih;obtain⟨h1,h2,h3⟩:=h;unfold putAt
  by_cases e:p.1=k
  .rw[lJc e,lJc (h1.symm.trans e)];exact⟨h1,h2,ry⟩
  .rw[lJb e,lJb (λz=>e (h1.trans z))];exact⟨h1,h2,h3⟩
theorem KT.put{H:Hp}{kvs:List (TKey×V)}{xs:List (TKey×Addr×Value)}(r:KT H kvs xs)(k:TKey){b:Addr}{y:V}{u:Value}(hb:TKeyAt H k b)(ry:RelV y u):
  KT H (putK kvs k y) (storedH xs k b u):=by
 have e:(kvs.any λkv=>decide (kv.1=k))=(atKey xs k).isSome:=by
  rw[kY0,(r.val k).isSome_eq,lYh]
 unfold putK storedH;rw[e]
 by_cases q:(atKey xs k).isSome=true
 .rw[lJc q,lJc q];exact r.repl k ry
 .rw[lJb q,lJb q];exact Paired.snoc r ⟨rfl,hb,ry⟩
theorem KT.keeps{H H':Hp}{kvs:List (TKey×V)}{xs:List (TKey×Addr×Value)}(r:KT H kvs xs)(ht:∀b ys,H b=some (.tup ys)->H' b=some (.tup ys)):KT H' kvs xs:=
 Paired.mapP r λ_ _ z=>⟨z.1,z.2.1.mono ht,z.2.2⟩
section
variable {P:Program}{w:World}{H:Hp}{h:Heap}{a:Addr}
theorem uU5{u:HO}(ok:HOk P w H h)(e:Rd H a u):ObjOk P w H h a u:=e.ok ok
theorem qZt{kvs:List (Key×V)}(ok:HOk P w H h)(e:Rd H a (.dK kvs)):kvs.length<=sizeLine/\(a == sysModules)=false/\∃vs,KV kvs vs/\h.DictOf (jKy P w) a vs:=
 show ObjOk P w H h a (.dK kvs) from uU5 ok e
theorem uXs{kvs:List (Key×V)}(ok:HOk P w H h)(e:H a=some (.dK kvs)):kvs.length<=sizeLine/\(a == sysModules)=false/\∃vs,KV kvs vs/\h.DictOf (jKy P w) a vs:=qZt ok (.inl e)
theorem kZu{K:Type}[DecidableEq K]{c:Nat}{T:KeyV P w K c}{R:K->V->Prop}(hR:∀k x u,R k x->RelV x u->T.is h k u):∀{ks:List K}{xs:List V}{us:List Value},Paired R ks xs->Vals xs us->ItemsV T h ks us
 | _,_,_,.nil,.nil=> .nil
 | _,_,_,.cons r t,.cons q z=> .cons (hR _ _ _ r q) (kZu hR t z)
theorem kV7{K:Type}[DecidableEq K]{c:Nat}{T:KeyV P w K c}{R:K->V->Prop}{ks:List K}{xs:List V}{p:Addr}(ok:HOk P w H h)(hR:∀k x u,R k x->RelV x u->T.is h k u)(e:H p=some (.tup xs))(r:Paired R ks xs):kJ3 T h ks (.ref p):=by
 obtain⟨_,its,q,o,h1,h2,n,h3,_⟩:=(show ObjOk P w H h p (.tup xs) from ok p _ e)
 exact⟨p,o,its.toArray,n,rfl,h1,h2,h3,by simpa using kZu hR r q⟩
theorem uYf(ok:HOk P w H h)(k:K1)(x:V)(u:Value)(r:Rk1 H k x)(q:RelV x u):(vk1 P w).is h k u:=by
 cases k with
 | inl k=>cases (show x=kV k from r);exact kYc (P:=P) (w:=w) q
 | inr ks=>
  obtain⟨p,vs,rfl,e,t⟩:=(show ∃p vs,x= .ref p/\H p=some (.tup vs)/\Paired (λk v=>v=kV k) ks vs from r)
  cases (show u=Value.ref p from q)
  exact kV7 (T:=jY2 P w) ok (λk x u r q=>by subst r;exact kYc (P:=P) (w:=w) q) e t
theorem uYe(ok:HOk P w H h)(k:K2)(x:V)(u:Value)(r:Rk2 H k x)(q:RelV x u):(vk2 P w).is h k u:=by
 cases k with
 | inl k=>cases (show x=kV k from r);exact kYc (P:=P) (w:=w) q
 | inr ks=>
  obtain⟨p,vs,rfl,e,t⟩:=(show ∃p vs,x= .ref p/\H p=some (.tup vs)/\Paired (Rk1 H) ks vs from r)
  cases (show u=Value.ref p from q)
  exact kV7 (T:=vk1 P w) ok (uYf ok) e t
theorem jXx{ks:TKey}(ok:HOk P w H h)(e:TKeyAt H ks a):(jJi P w).is h ks a:=by
 obtain⟨vs,h1,t⟩:=e;exact kV7 (T:=vk2 P w) ok (uYe ok) h1 t
theorem qZs{kvs:List (TKey×V)}(ok:HOk P w H h)(e:Rd H a (.dT kvs)):kvs.length<=sizeLine/\(a == sysModules)=false/\
  ∃xs,KT H kvs xs/\h.DictOfH (jJi P w) a xs:=by
 obtain⟨z,y,xs,r,o,es,ep,h1,h2,h3,h4,h5⟩:=(show ObjOk P w H h a (.dT kvs) from uU5 ok e)
 refine⟨z,y,xs,r,o,es,ep,h1,h2,h3,h4,λx hx=> ?_,h5⟩
 have all:∀{l:List (TKey×V)}{m:List (TKey×Addr×Value)},KT H l m->∀x∈m,(jJi P w).is h x.1 x.2.1:=by
  intro l m q
  induction q with
  | nil=>intro x hx;exact nomatch hx
  | @cons p q ps qs hq t ih=>
   intro x hx
   rcases (lJp.mp hx) with e | hx
   .subst e;exact jXx ok (by rw[<-hq.1];exact hq.2.1)
   .exact ih x hx
 exact all r x hx
theorem uXr{kvs:List (TKey×V)}(ok:HOk P w H h)(e:H a=some (.dT kvs)):kvs.length<=sizeLine/\(a == sysModules)=false/\
  ∃xs,KT H kvs xs/\h.DictOfH (jJi P w) a xs:=qZs ok (.inl e)
end
def DGet(H:Hp)(a:Addr)(y:V)(r:Option V):Prop:=
 (∃kvs k,Rd H a (.dK kvs)/\y=kV k/\r=valV kvs k)\/∃kvs k b,Rd H a (.dT kvs)/\y= .ref b/\TKeyAt H k b/\r=valV kvs k
def DPut(H:Hp)(a:Addr)(y v:V)(H':Hp):Prop:=
 (∃kvs k,H a=some (.dK kvs)/\y=kV k/\kvs.length<sizeLine/\H'=upd H a (.dK (putK kvs k v)))\/
 ∃kvs k b,H a=some (.dT kvs)/\y= .ref b/\TKeyAt H k b/\kvs.length<sizeLine/\H'=upd H a (.dT (putK kvs k v))
theorem DGet.k{H:Hp}{a:Addr}{kvs:List (Key×V)}{k:Key}(e:H a=some (.dK kvs)):DGet H a (kV k) (valV kvs k):= .inl ⟨kvs,k,.inl e,rfl,rfl⟩
theorem DGet.t{H:Hp}{a b:Addr}{kvs:List (TKey×V)}{k:TKey}(e:H a=some (.dT kvs))(eb:TKeyAt H k b):DGet H a (.ref b) (valV kvs k):= .inr ⟨kvs,k,b,.inl e,rfl,eb,rfl⟩
theorem DPut.k{H:Hp}{a:Addr}{kvs:List (Key×V)}{k:Key}{v:V}(e:H a=some (.dK kvs))(hl:kvs.length<sizeLine):DPut H a (kV k) v (upd H a (.dK (putK kvs k v))):= .inl ⟨kvs,k,e,rfl,hl,rfl⟩
theorem DPut.t{H:Hp}{a b:Addr}{kvs:List (TKey×V)}{k:TKey}{v:V}(e:H a=some (.dT kvs))(eb:TKeyAt H k b)(hl:kvs.length<sizeLine):
  DPut H a (.ref b) v (upd H a (.dT (putK kvs k v))):= .inr ⟨kvs,k,b,e,rfl,eb,hl,rfl⟩
section
variable {X:Cx}{pins:List (Addr×Obj)}{σ:St}{H:Hp}{s:Shared}{a:Addr}{y v:V}{u r:Value}{o:Option V}{A:Around}{E:Value->Shared->Prop}
theorem Inv.big(I:Inv X pins σ H s):sysModules<s.heap.objs.size:=by
 have h:mainGlobals<s.heap.objs.size:=(I.mod.glob.keeps I.bk).lt;exact lXq (by decide) h
theorem qVo{Q:Value->Shared->Prop}(hu:A.units+20<cLine)(I:Inv X pins σ H s)(g:DGet H a y (some v))(ry:RelV y u)(h:∀w' s',Inv X pins σ H s'->RelV v w'->Q w' s'):
  wpAny (model X.prog X.w) A (getItem (.ref a) u) Q E s:=by
 rcases g with ⟨kvs,k,e,ey,l⟩ | ⟨kvs,k,b,e,ey,eb,l⟩
 .subst ey;obtain⟨z,hd,vs,rel,dd⟩:=qZt I.hok e;obtain⟨w',hw,rw'⟩:=RelO.some_of (v:=v) (o:=valueAt vs k) (by rw[l];exact rel.val k)
  exact wpAny_getItem_of (kYc ry) dd.mapOf hw (h w' _ (I.tok _) rw')
 .subst ey;cases (show u=Value.ref b from ry)
  obtain⟨z,hd,xs,rel,dd⟩:=qZs I.hok e;obtain⟨w',hw,rw'⟩:=RelO.some_of (v:=v) (o:=(atKey xs k).map (·.2)) (by rw[l];exact rel.val k)
  obtain⟨p,hp,hp2⟩:=lK3.mp hw;refine wpAny_getItem_heap (jQi hu) (jXx I.hok eb) dd hp ?_;rw[hp2];exact h w' _ (I.tok _) rw'
theorem uQ8{Q:Value->Shared->Prop}(hu:A.units+20<cLine)(I:Inv X pins σ H s)(g:DGet H a y o)(ry:RelV y u)(h:∀s',Inv X pins σ H s'->Q (.bool (!o.isSome)) s'):
  wpAny (model X.prog X.w) A (compareOp .NotIn u (.ref a)) Q E s:=by
 rcases g with ⟨kvs,k,e,ey,l⟩ | ⟨kvs,k,b,e,ey,eb,l⟩
 .subst ey;obtain⟨z,hd,vs,rel,dd⟩:=qZt I.hok e;refine wpAny_notIn_of (kYc ry) hd dd.mapOf ?_;rw[<-(rel.val k).isSome_eq,<-l];exact h _ (I.tok _)
 .subst ey;cases (show u=Value.ref b from ry)
  obtain⟨z,hd,xs,rel,dd⟩:=qZs I.hok e;refine wpAny_notIn_heap (jQi hu) (jXx I.hok eb) hd dd ?_;have q:=(rel.val k).isSome_eq;rw[lYh] at q;rw[<-q,<-l];exact h _ (I.tok _)
theorem kUj{h':Heap}{t':Nat}{ob:HO}(I:Inv X pins σ H s)(mu:Mut (H a))(hs:Heap.SameBut a s.heap h')(he:∃q,h'.get? a=some q)(new:ObjOk X.prog X.w (upd H a ob) h' a ob):
  Inv X pins σ (upd H a ob) {s with heap:=h',toks:=t'}:=
 I.write (x:=a) (e:=a) mu (.inl rfl) (λb q hb z=>(hs.2 b hb).trans z) he new
theorem uKc{P:Program}{w:World}{H':Hp}{h':Heap}{kvs:List (Key×V)}{vs:List (Key×Value)}(z:kvs.length<=sizeLine)(hd:(a == sysModules)=false)(rel:KV kvs vs)(dd:h'.DictOf (jKy P w) a vs):
  ObjOk P w H' h' a (.dK kvs):=⟨z,hd,vs,rel,dd⟩
theorem kVq{H':Hp}{Q:Unit->Shared->Prop}(hu:A.units+20<cLine)(I:Inv X pins σ H s)(g:DPut H a y v H')(ry:RelV y u)(rv:RelV v r)(h:∀s',Inv X pins σ H' s'->Q () s'):
  wpAny (model X.prog X.w) A (setItem (.ref a) u r) Q E s:=by
 rcases g with ⟨kvs,k,e,ey,l,eH⟩ | ⟨kvs,k,b,e,ey,eb,l,eH⟩
 .subst ey eH;obtain⟨z,hd,vs,rel,dd⟩:=uXs I.hok e;have hz:vs.length<=sizeLine:=by rw[<-rel.length];exact z
  have hl:(putK kvs k v).length<=sizeLine:=by have:=kJg kvs k v;omega
  refine wpAny_setItem_pairs (hsz:=hz) (kYc ry) dd λh' dd' hs=>h _ ?_
  have he:∃q,h'.get? a=some q:=let ⟨q,_,_,hq,_⟩:=dd';⟨q,hq⟩
  exact kUj I (by rw[e];exact True.intro) hs he (uKc hl hd (rel.put k rv) dd')
 .subst ey eH;cases (show u=Value.ref b from ry)
  obtain⟨z,hd,xs,rel,dd⟩:=uXr I.hok e;have hz:xs.length<=sizeLine:=by rw[<-lVf rel];exact z
  have hl:(putK kvs k v).length<=sizeLine:=by have:=kJg kvs k v;omega
  refine wpAny_setItem_heap (hsz:=hz) (jQi hu) (jXx I.hok eb) dd λh' dd' hs=>h _ ?_
  obtain⟨q,es,ep,hq,h2,h3,h4,_,h5⟩:=dd';refine kUj I (by rw[e];exact True.intro) hs ⟨q,hq⟩ ⟨hl,hd,_,(rel.put k eb rv).keeps λc ys ec=> ?_,q,es,ep,hq,h2,h3,h4,h5⟩
  rw[jKk (uV1 ec e (λz=>nomatch z))]
  exact ec
end
section
variable {X:Cx}{pins:List (Addr×Obj)}{σ:St}{H:Hp}{s:Shared}{a:Addr}{kvs:List (Key×V)}{k:Key}{u:Value}{A:Around}{E:Value->Shared->Prop}
end
theorem kYn{X:Cx}{pins:List (Addr×Obj)}{σ:St}{H:Hp}{s:Shared}{a:Addr}{y:V}{o:Option V}(I:Inv X pins σ H s)(g:DGet H a y o):s.TypeIs (.ref a) "dict":=by
 rcases g with ⟨kvs,k,e,_,_⟩ | ⟨kvs,k,b,e,_,_,_⟩
 .obtain⟨_,_,vs,_,dd⟩:=qZt I.hok e;exact dd.typeIs
 .obtain⟨_,_,xs,_,dd⟩:=qZs I.hok e;exact dd.typeIs
section
variable {X:Cx}{o i e value:Expr}{pos pos' tpos:Pos}{td ty tv:TE}
end
theorem qJa{P:Program}{w:World}{H:Hp}(h:Heap)(hb:sysModules<h.objs.size):ObjOk P w H (h.push {cls:= .type "dict",data:= .dict #[]}) h.objs.size (.dK []):=
 ⟨lJx _,beq_eq_false_iff_ne.mpr (Ne.symm (lJt hb)),[],.nil,Heap.DictOf.new h⟩
theorem kZ6{P:Program}{w:World}{H:Hp}(h:Heap)(hb:sysModules<h.objs.size):ObjOk P w H (h.push {cls:= .type "dict",data:= .dict #[]}) h.objs.size (.dT []):=
 ⟨lJx _,beq_eq_false_iff_ne.mpr (Ne.symm (lJt hb)),[],.nil,_,#[],0,lJz _ rfl,⟨rfl,rfl,rfl⟩,rfl,rfl,lVs⟩
def uUw:TE:=λ_ H Q=>∀p,H p=none->Q (.ref p) (upd H p (.dK []))
def uUv:TE:=λ_ H Q=>∀p,H p=none->Q (.ref p) (upd H p (.dT []))
section
variable {X:Cx}{pos:Pos}
theorem qYb:PE X (.Dict [] [] pos) uUw:=λpins s σ H Q I h=>
 wpAny_Dict_empty ⟨.ref s.heap.objs.size,_,I.laid (a:=s.heap.objs.size) (o:= .dK []) (t':=s.toks) (λ_ _ q=>lJm _ q) (lJh _) (qJa s.heap I.big),rfl,h _ (I.hok.fresh (lJh _))⟩
theorem qYa:PE X (.Dict [] [] pos) uUv:=λpins s σ H Q I h=>
 wpAny_Dict_empty ⟨.ref s.heap.objs.size,_,I.laid (a:=s.heap.objs.size) (o:= .dT []) (t':=s.toks) (λ_ _ q=>lJm _ q) (lJh _) (kZ6 s.heap I.big),rfl,h _ (I.hok.fresh (lJh _))⟩
end
abbrev VV:List (V×V)->List (Value×Value)->Prop:=Paired λp q=>RelV p.1 q.1/\RelV p.2 q.2
def uV6(kvs more:List (Key×V)):List (Key×V):=more.foldl (λacc kv=>putK acc kv.1 kv.2) kvs
theorem KV.merge:∀{more:List (Key×V)}{rs:List (Key×Value)}{kvs:List (Key×V)}{vs:List (Key×Value)},KV more rs->KV kvs vs->KV (uV6 kvs more) (merged vs rs):=by
 intro more rs kvs vs r;unfold KV at r
 induction r generalizing kvs vs with
 | nil=>intro q;exact q
 | @cons p q ps qs h t ih=>
  intro r0
  have e:KV (putK kvs p.1 p.2) (stored vs q.1 q.2):=by
   have:=r0.put p.1 h.2;rw[<-h.1];exact this
  exact ih e
theorem kK6{P:Program}{w:World}:∀{kvs:List (Key×V)}{ws:List (Value×Value)},VV (kvs.map λkv=>(kV kv.1,kv.2)) ws->∃rs,Carries (jKy P w) ws rs/\KV kvs rs
 | [],_,r=>by rw[lYe] at r;cases r;exact⟨[],True.intro,.nil⟩
 | p::kvs,_,r=>by
  rw[lJq] at r;cases r with
  | @cons a b as bs h t=>
   obtain⟨rs,c,q⟩:=kK6 (P:=P) (w:=w) t;obtain⟨b1,b2⟩:=b;exact⟨(p.1,b2)::rs,⟨kYc h.1,rfl,c⟩,.cons ⟨rfl,h.2⟩ q⟩
section
variable {X:Cx}{pins:List (Addr×Obj)}{σ:St}{H:Hp}{s:Shared}{a:Addr}{y d:V}{u r:Value}{o:Option V}{A:Around}{E:Value->Shared->Prop}
end
section
variable {X:Cx}{o e f:Expr}{apos cpos:Pos}{td ty tx:TE}
end
section
variable {X:Cx}{pins:List (Addr×Obj)}{σ:St}{H:Hp}{s:Shared}{a:Addr}{kvs:List (Key×V)}{A:Around}{E:Value->Shared->Prop}
end
section
variable {X:Cx}{pins:List (Addr×Obj)}{σ:St}{H:Hp}{s:Shared}{a:Addr}{y:V}{u:Value}{A:Around}{E:Value->Shared->Prop}
end
end L2
namespace Att
open PySem PySem.W PySem.Calls PyProof.Rows
theorem kJj{P:Params}{h:Heap}:∀(ns:List Int)(vs:List Value),WellAll P h vs (ns.map WData.int)->IntsAre vs ns:=by
 intro ns
 induction ns with
 | nil=>
  intro vs w;rw[lYe] at w;cases w;exact .nil
 | cons n ns ih=>
  intro vs w;rw[lJq] at w;cases w with
  | cons a b=>
   cases a;exact .cons _ _ (ih _ b)
theorem qQa{l:OpenLaw}{n:Nat}(hn:l.most=some n){P:Params}{h:Heap}{args:List WData}{vals:List Value}
  (hpre:l.row.toRowW.claim.pre args=true) (hwl:WellAll P h vals args):
  ∃a vs ns,vals=[Value.ref a]/\args=[WData.list (ns.map WData.int)]/\h.get? a=some {cls:= .type "list",data:= .seq vs.toArray}/\IntsAre vs ns/\ns.length<=n:=by
 have hsh:WShape.hasAll [] args [.list .int]=true:=(pre_splitW hpre).1;have hc:l.pre.holds [] {args:=args}=true:=(pre_splitW hpre).2;obtain⟨d,r,rfl,h1,h2⟩:=hasAllW_cons hsh;obtain rfl:=hasAllW_nil h2;obtain⟨xs,rfl,h3⟩:=hasW_list h1;obtain⟨ns,rfl⟩:=items_int h3
 have hlen:ns.length<=n:=by
  unfold OpenLaw.pre at hc
  have h4:(WTm.not (.lt (.lit (.int (n:Int))) (.len (.arg 0)))).holds [] {args:=[.list (ns.map .int)]}=true:=by
   have h4:=(holds_andW hc).1;rw[hn] at h4;exact h4
  have h5:=condW_of h4 (w_not (w_lt w_lit (w_len_list (w_arg rfl))));rw[lJg] at h5;refine Nat.le_of_not_lt λq=> ?_
  have q':(n:Int)<((ns.length:Nat):Int):=by omega
  first
   | (rw[lKf q'] at h5;exact absurd h5 (by decide))
   | (simp at h5;omega)
 cases hwl with
 | cons w1 w2=>
  cases w2;cases w1 with
  | list ho hall=>exact⟨_,_,ns,rfl,rfl,ho,kJj ns _ hall,hlen⟩
theorem qQz(l:OpenLaw)(args:List WData):l.row.toRowW.claim.post args (.bool true) args=true:=
 postW_of (r:=l.row.toRowW) (X:=(true == true))
  (show WShape.has [] (.bool true) .bool=true by first | rfl | decide | simp[WShape.has,WShape.arms,WShape.armsAll])
  (show (WTm.eq .res (.lit (.bool true))).value [] {args:=args,res:=some (.bool true),after:=args}=some (.bool (true == true)) from w_eq_bool (w_res rfl) w_lit) rfl
theorem attach_call{l:OpenLaw}{n:Nat}{q:Program}{loose:List Str}{XP:(Str->Option Value)->Heap->Prop}{YP:World->Heap->Prop}{d:DefRec}
  (hn:l.most=some n) (hdf:d.params.defaults=[])
  (call:∀(w:World)(s₀ s₁:Shared)(mg mb:Str->Option Value)(fa:Addr)(o:Obj)(pm cd doc:Value)(a:Addr)(vs:List Value)(ns:List Int),
   Ground q loose [] XP w s₀ mg mb s₁.heap->YP w s₁.heap->
   s₁.heap.get? fa=some o->o.data= .func (docDef d.name d.params d.body d.scope pm cd doc)->s₁.heap.CodeRec cd d.name->mg d.name=some (.ref fa)->
   s₁.heap.get? a=some {cls:= .type "list",data:= .seq vs.toArray}->IntsAre vs ns->ns.length<=n->s₁.gens= #[]->
   codeAny (model l.prog w) callerA (.call (.ref fa) ⟨[.ref a],[]⟩) (λr s'=>r= .ok (.ret (.bool true))/\OldK s₁.heap s'.heap/\s'.os=s₁.os/\AllBare s'.gens) s₁):
  WalkO q loose XP YP l.row.toRowW d [] (λf vs=>PySem.call f vs):=by
 intro w s₀ s₁ mg mb G Y fa o pm cd doc dV kV ho hd hcd hD hmg hg args vals as hpre hlay hrd hwl hlo;obtain rfl:dV= .none:=Dflts.none hD hdf;obtain rfl:kV= .none:=Dflts.noKw hD;obtain⟨a,vs,ns,rfl,rfl,hobj,hints,hlen⟩:=qQa hn hpre hwl;refine enter_call (lX6 (call w s₀ s₁ mg mb fa o pm cd doc a vs ns G Y ho (fd_plain hd) hcd hmg hobj hints hlen hg) λr s' hq=> ?_)
 obtain⟨rfl,h2,h3,h4⟩:=hq;exact⟨.inl ⟨.bool true,.bool true,[],rfl,λ_=>rfl,.bool true,qQz l _,λ_=>⟨List.Pairwise.nil,λ_ hm=>(nomatch hm)⟩⟩,h2,h3,h4⟩
section
variable {prog:Program}{w:World}{A:Around}{E:Value->Shared->Prop}{s:Shared}{K:Frag}
end
end Att
namespace L2
open PySem PySem.Spec PyProof.Rows
theorem jUj:∀{vs:List Value}{ns:List Int},IntsAre vs ns->Vals (ns.map V.int) vs
 | _,_,.nil=> .nil
 | _,_,.cons n t h=> .cons ⟨t,rfl⟩ (jUj h)
def Only(H:Hp):Prop:=∀b,H b=none\/∃o xs,H b=some (.frz o (.lst xs))
theorem qYt{P:Program}{w:World}{K:PySem.W.Frag}{mg mb:Str->Option Value}{CX:CXT}{k:Nat}{fa a:Addr}{fd:FuncData}{x:Str}{sp:Sp}{s₁:Shared}{vs:List Value}{ns:List Int}
  (KX:K.In s₁.heap) (hns:s₁.heap.Ns mainGlobals mg) (hb:s₁.heap.Ns builtinsNs mb) (hbb:∀x:Str,x≠"__name__"->mb x=bootBuiltins x) (hlim:s₁.heap.NoLimit) (hg:s₁.gens= #[])
  (ha:s₁.heap.get? a=some {cls:= .type "list",data:= .seq vs.toArray}) (hi:IntsAre vs ns) (hl:ns.length<=sizeLine) (hr:Room k callerA)
  (F:∀base:Heap,K.In base->base.Ns mainGlobals mg->FnOk P w K mg base CX k fa fd [x] sp) (hbind:∀(s:Shared)(u:Value),BindsTo s fd ⟨[u],[]⟩ [(x,u)])
  (hsp:∀H:Hp,Only H->SqL K H a (ns.map V.int)->sp [.ref a] H (λv _=>v= .bl true) λ_ _ _=>False)
  (hCX:∀H e s',CX [] H s₁ (λ_ _ _=>False) e s'->False):
  codeAny (model P w) callerA (.call (.ref fa) ⟨[.ref a],[]⟩) (λr s'=>r= .ok (.ret (.bool true))/\OldK s₁.heap s'.heap/\s'.os=s₁.os/\AllBare s'.gens) s₁:=by
 have rv:=jUj hi;have lenV:=hi.length
 have core:∀H:Hp,Only H->SqL K H a (ns.map V.int)->HOk P w H s₁.heap->(∀b,H b≠none->b=a)->(H a≠none->K.lookup a=none)->
   codeAny (model P w) callerA (.call (.ref fa) ⟨[.ref a],[]⟩) (λr s'=>r= .ok (.ret (.bool true))/\OldK s₁.heap s'.heap/\s'.os=s₁.os/\AllBare s'.gens) s₁:=by
  intro H hO hS hok hA hK;have base_of:∀{b:Addr}{o:Obj},s₁.heap.get? b=some o->H b=none->(hidT s₁.heap H).get? b=some o:=λe n=>qZc e n
  have noA:∀{b:Addr}{o:Obj}{es:Array DictEntry}{ep:Nat},s₁.heap.get? b=some o->o.data= .dict es ep->H b=none:=λ{b o es ep} e d=>by
   cases q:H b with
   | none=>rfl
   | some u=>
    have e':b=a:=hA b (by rw[q];simp)
    subst e';rw[ha] at e;cases e;have d':Data.seq vs.toArray _=Data.dict es ep:=d;cases d'
  have nsK:∀{b:Addr}{m:Str->Option Value},s₁.heap.Ns b m->(hidT s₁.heap H).Ns b m:=λ{b m} ⟨o,es,ep,e,d,r⟩=>⟨o,es,ep,base_of e (noA e d),d,r⟩
  have hKb:K.In (hidT s₁.heap H):=λb o e=>base_of (KX b o e) (by
   cases q:H b with
   | none=>rfl
   | some u=>
    have e':b=a:=hA b (by rw[q];simp)
    subst e';rw[hK (by rw[q];simp)] at e;cases e)
  have hM:Mod K mg (hidT s₁.heap H):=⟨hKb,nsK hns,⟨mb,nsK hb,hbb⟩,let ⟨mc,h1,h2⟩:=hlim;⟨mc,nsK h1,h2⟩⟩
  have e0:Env0 P w K mg (hidT s₁.heap H) callerA [] s₁ H:=⟨rfl,hM,λb o e=>uK7 e,lXr (qU2 _ _),trivial,λb hb=>absurd (show b∈([]:List Addr) from hb) (by simp),hok,.of_eq hg⟩
  refine lX6 ((F _ hKb (nsK hns)).run callerA [] s₁ H ⟨[.ref a],[]⟩ [.ref a] [.ref a] _ _ hr e0 (hbind s₁ (.ref a)) (.cons rfl .nil) (hsp H hO hS)) λr s' h=> ?_
  cases r with
  | error e=>exact (hCX H e s' h).elim
  | ok fl=>
   cases fl with
   | next=>exact False.elim h
   | brk=>exact False.elim h
   | cont=>exact False.elim h
   | ret u=>
    obtain⟨v,H',os,bare,un,hok',r',q⟩:=h;have q':v= .bl true:=q;subst q';obtain rfl:u=Value.bool true:=r';refine⟨rfl,OldK.of_keep λb o e=> ?_,os,bare⟩
    cases q:H b with
    | none=>exact un.keep b o e q (by intro z;exact absurd (show b∈([]:List Addr) from z) (by simp)) (by simp)
    | some u=>
     rcases hO b with z | ⟨ob,xs,z⟩
     .rw[q] at z;cases z
     .have z2:=un.frzs b ob _ z;obtain⟨e1,_⟩:=hok b _ z;obtain⟨e2,_⟩:=hok' b _ z2;rw[e] at e1;cases e1;exact e2
 cases hk:K.lookup a with
 | some o=>
  have e:=KX a o hk;rw[ha] at e;cases e;refine core (λ_=>none) (λ_=> .inl rfl) (.inr ⟨_,vs.toArray,_,hk,rfl,rfl,rfl,by rw[lJu,lenV];exact hl,by simpa using rv⟩) (λb u z=>by have z':(none:Option HO)=some u:=z;cases z') (λb z=>absurd rfl z) λz=>absurd rfl z
 | none=>
  refine core (λb=>if b=a then some (.frz {cls:= .type "list",data:= .seq vs.toArray} (.lst (ns.map V.int))) else none) (λb=> ?_) (.inl (.inr ⟨{cls:= .type "list",data:= .seq vs.toArray},lJc rfl⟩)) (λb u z=> ?_) (λb z=> ?_) λ_=>hk
  .by_cases hb:b=a
   .exact .inr ⟨_,_,lJc hb⟩
   .exact .inl (lJb hb)
  .by_cases hb:b=a
   .have z':=(lJc hb).symm.trans z;cases z';subst hb;exact⟨ha,by rw[lJg];exact hl,vs,_,rv,ha⟩
   .have z':=(lJb hb).symm.trans z;cases z'
  .by_cases hb:b=a
   .exact hb
   .exact absurd (lJb hb) z
theorem walk_of{l:PySem.W.OpenLaw}{n k:Nat}{q:Program}{loose:List Str}{XP:(Str->Option Value)->Heap->Prop}{YP:World->Heap->Prop}{d:DefRec}{K:Params->PySem.W.Frag}{CX:World->CXT}{sp:World->Sp}{x:Str}
  (hn:l.most=some n) (hn2:n<=sizeLine) (hdf:d.params.defaults=[]) (hr:Room k callerA)
  (hY:∀(w:World)(h:Heap),YP w h->(K w.params).In h)
  (F:∀(w:World)(mg:Str->Option Value)(fa:Addr)(h:Heap),(K w.params).In h->h.Ns mainGlobals mg->mg d.name=some (.ref fa)->
   ∃fd:FuncData,(∀(s:Shared)(u:Value),BindsTo s fd ⟨[u],[]⟩ [(x,u)])/\
    ∀base:Heap,(K w.params).In base->base.Ns mainGlobals mg->FnOk l.prog w (K w.params) mg base (CX w) k fa fd [x] (sp w))
  (hsp:∀(w:World)(H:Hp)(a:Addr)(ns:List Int),ns.length<=n->Only H->SqL (K w.params) H a (ns.map V.int)->sp w [.ref a] H (λv _=>v= .bl true) λ_ _ _=>False)
  (hCX:∀(w:World)(H:Hp)(s:Shared)(e:Value)(s':Shared),CX w [] H s (λ_ _ _=>False) e s'->False):
  PySem.W.WalkO q loose XP YP l.row.toRowW d [] (λf vs=>PySem.call f vs):=by
 refine Att.attach_call hn hdf λw s₀ s₁ mg mb fa o pm cd doc a vs ns G Y ho hd hcd hmg hobj hints hlen hg=> ?_
 have KX:=hY w _ Y;obtain⟨fd,hb,hF⟩:=F w mg fa _ KX G.T.g hmg;exact qYt KX G.T.g G.T.b G.T.builtins G.T.nolimit hg hobj hints (lKc hlen hn2) hr hF hb (λH hO hS=>hsp w H a ns hlen hO hS) λH e s'=>hCX w H s₁ e s'
noncomputable def jYw(s:Stmt):Arguments:=match s with
 | .FunctionDef _ a _ _ _ _ _ _ _ _=>a
 | _=>{posonlyargs:=[],args:=[],vararg:=none,kwonlyargs:=[],kw_defaults:=[],kwarg:=none,defaults:=[]}
def jUy(s:Stmt):List Stmt:=match s with
 | .FunctionDef _ _ b _ _ _ _ _ _ _=>b
 | _=>[]
def jKj(s:Stmt):Scope:=match s with
 | .FunctionDef _ _ _ _ _ _ sc _ _ _=>sc
 | _=>{kind:= .function,names:=[],isGenerator:=false,isCoroutine:=false}
abbrev CX0:CXT:=λ_ _ _ _ _ _=>False
abbrev E0:XK:=λ_ _ _=>False
theorem uYi{X:Cx}:uKf CX0 X E0:=λ_ _ _ _ _ _ _ h=>h.elim
structure Fun (K:PySem.W.Frag) (x qual:Str) (st:Stmt) (f:Addr) (fd:FuncData):Prop where
 ex:∃(oc:Value)(od:Option Addr)(kV doc pm:Value)(an:Option Addr)(cdv ct:Value)(osl:Array (Option Value)),
  fd=PySem.W.fnOf x qual (jYw st) (jUy st) (jKj st) .none kV doc pm an cdv ct/\K.lookup f=some ⟨oc,od,.func fd,osl⟩/\PySem.W.codeIn K cdv qual=true
 kp:PySem.W.keepIn K (.ref f)=true
section
variable {P:Program}{w:World}{K:PySem.W.Frag}{mg:Str->Option Value}{base:Heap}
theorem Fun.ok{x qual:Str}{st:Stmt}{f:Addr}{fd:FuncData}{N ps:List Str}{k:Nat}{sp:Sp}(F:Fun K x qual st f fd)(S:FnScope N ps (jKj st))(len:∀vs H Q E,sp vs H Q E->vs.length=ps.length)
  (hbody:∀(cdv:Value)(A:Around)(outer:List Env)(s:Shared)(H:Hp)(vs:List V)(Q:VK)(E:XK),Room k (A.deeper (envOfC qual (jKj st) s.heap.objs.size f cdv))->sp vs H Q E->
   ∃t,PSs (cxOf CX0 P w K mg base N qual (jKj st) f cdv A outer s H E).nox (jUy st) t/\t {nx:=λ_ H'=>Q .non H',rt:=Q} (start N vs) H):FnOk P w K mg base CX0 (k+1) f fd ps sp:=by
 obtain⟨oc,od,kV,doc,pm,an,cdv,ct,osl,rfl,lk,hcd⟩:=F.ex;refine uYv lk hcd S len λA outer s H vs Q E hr hsp=> ?_
 obtain⟨t,h,q⟩:=hbody cdv A outer s H vs Q E hr hsp;exact⟨t,h.nox,q⟩
theorem Fun.binds{x qual:Str}{st:Stmt}{f:Addr}{fd:FuncData}{ps:List Str}(F:Fun K x qual st f fd)
  (h:∀(kV doc pm:Value)(an:Option Addr)(cdv ct:Value)(us:List Value),us.length=ps.length->bindArgs (PySem.W.fnOf x qual (jYw st) (jUy st) (jKj st) .none kV doc pm an cdv ct) ⟨us,[]⟩=pure (ps.zip us)):Binds K fd ps []:=by
 obtain⟨oc,od,kV,doc,pm,an,cdv,ct,osl,rfl,lk,hcd⟩:=F.ex;exact .all (h kV doc pm an cdv ct)
theorem uXi{x qual:Str}{st:Stmt}{f:Addr}{oc:Value}{od an:Option Addr}{osl:Array (Option Value)}{kV doc pm cdv ct:Value}(l:K.lookup f=some ⟨oc,od,.func (PySem.W.fnOf x qual (jYw st) (jUy st) (jKj st) .none kV doc pm an cdv ct),osl⟩)
  (c:PySem.W.codeIn K cdv qual=true) (k:PySem.W.keepIn K (.ref f)=true):Fun K x qual st f (PySem.W.fnOf x qual (jYw st) (jUy st) (jKj st) .none kV doc pm an cdv ct):=⟨⟨oc,od,kV,doc,pm,an,cdv,ct,osl,rfl,l,c⟩,k⟩
end
theorem uXf{A:Around}{k:Nat}(hr:Room k A):A.units+20<cLine:=lYi (Nat.add_le_add_left (by decide:20<=64) _) hr.units
section
variable {X:Cx}
end
end L2
set_option Elab.async false
set_option linter.all false
set_option maxRecDepth 100000
set_option maxHeartbeats 5000000
namespace L3
open PySem PySem.Spec PyProof.Rows L2
inductive T where
 | non | bl (b:Bool) | int (i:Int) | str (x:Str) | tup (xs:List T) | scr (xs:List T) | ref (a:Addr) | ty (n:String)
structure Ext (H H':Hp):Prop where
 tup:∀b xs,H b=some (.tup xs)->H' b=some (.tup xs)
 frz:∀b ob u,H b=some (.frz ob u)->H' b=some (.frz ob u)
theorem Ext.refl(H:Hp):Ext H H:=⟨λ_ _ h=>h,λ_ _ _ h=>h⟩
theorem Ext.trans{H H1 H2:Hp}(a:Ext H H1)(b:Ext H1 H2):Ext H H2:=⟨λc o h=>b.tup c o (a.tup c o h),λc o u h=>b.frz c o u (a.frz c o u h)⟩
def FrL(K:PySem.W.Frag)(H:Hp)(a:Addr)(xs:List V):Prop:=
 (∃ob,H a=some (.frz ob (.lst xs)))\/
  ∃(o:Obj)(its:Array Value)(n:Nat),K.lookup a=some o/\o.cls= .type "list"/\o.dict=none/\o.data= .seq its n/\its.size<=sizeLine/\Vals xs its.toList
theorem FrL.sq{K:PySem.W.Frag}{H:Hp}{a:Addr}{xs:List V}(h:FrL K H a xs):SqL K H a xs:=by
 rcases h with ⟨ob,h⟩ | h
 .exact .inl (.inr ⟨ob,h⟩)
 .exact .inr h
theorem FrL.mono{K:PySem.W.Frag}{H H':Hp}{a:Addr}{xs:List V}(e:Ext H H')(h:FrL K H a xs):FrL K H' a xs:=by
 rcases h with ⟨ob,h⟩ | h
 .exact .inl ⟨ob,e.frz _ _ _ h⟩
 .exact .inr h
mutual
noncomputable def Rep(K:PySem.W.Frag)(H:Hp):T->V->Prop
 | .non,v=>v= .non
 | .bl b,v=>v= .bl b
 | .int i,v=>v= .int i
 | .str x,v=>v= .str x
 | .ref a,v=>v= .ref a
 | .ty n,v=>v= .ty n
 | .tup xs,v=>∃a vs,v= .ref a/\H a=some (.tup vs)/\Reps K H xs vs
 | .scr xs,v=>∃a vs,v= .ref a/\FrL K H a vs/\Reps K H xs vs
noncomputable def Reps(K:PySem.W.Frag)(H:Hp):List T->List V->Prop
 | [],vs=>vs=[]
 | x::xs,vs=>∃v ws,vs=v::ws/\Rep K H x v/\Reps K H xs ws
end
mutual
theorem Rep.mono{K:PySem.W.Frag}{H H':Hp}(e:Ext H H'):∀(x:T){v:V},Rep K H x v->Rep K H' x v
 | .non,_,h=>h
 | .bl _,_,h=>h
 | .int _,_,h=>h
 | .str _,_,h=>h
 | .ref _,_,h=>h
 | .ty _,_,h=>h
 | .tup xs,_,⟨a,vs,r1,r2,r3⟩=>⟨a,vs,r1,e.tup _ _ r2,Reps.mono e xs r3⟩
 | .scr xs,_,⟨a,vs,r1,r2,r3⟩=>⟨a,vs,r1,r2.mono e,Reps.mono e xs r3⟩
theorem Reps.mono{K:PySem.W.Frag}{H H':Hp}(e:Ext H H'):∀(xs:List T){vs:List V},Reps K H xs vs->Reps K H' xs vs
 | [],_,h=>h
 | x::xs,_,⟨v,ws,r1,r2,r3⟩=>⟨v,ws,r1,Rep.mono e x r2,Reps.mono e xs r3⟩
end
section
variable {K:PySem.W.Frag}{H:Hp}
theorem Reps.length:∀{xs:List T}{vs:List V},Reps K H xs vs->xs.length=vs.length
 | [],_,h=>by cases h;rfl
 | _::_,_,⟨_,_,r1,_,r3⟩=>by subst r1;simp[Reps.length r3]
theorem Reps.get:∀{xs:List T}{vs:List V}{i:Nat}{x:T},Reps K H xs vs->xs[i]? =some x->∃v,vs[i]? =some v/\Rep K H x v
 | [],_,_,_,_,e=>by simp at e
 | y::ys,_,0,x,⟨v,ws,r1,r2,r3⟩,e=>by subst r1;simp at e;subst e;exact⟨v,rfl,r2⟩
 | y::ys,_,i+1,x,⟨v,ws,r1,r2,r3⟩,e=>by subst r1;simpa using Reps.get r3 (by simpa using e)
theorem Reps.get':∀{xs:List T}{vs:List V}{i:Nat}{v:V},Reps K H xs vs->vs[i]? =some v->∃x,xs[i]? =some x/\Rep K H x v
 | [],_,_,_,h,e=>by cases h;simp at e
 | y::ys,_,0,x,⟨v,ws,r1,r2,r3⟩,e=>by subst r1;simp at e;subst e;exact⟨y,rfl,r2⟩
 | y::ys,_,i+1,x,⟨v,ws,r1,r2,r3⟩,e=>by subst r1;simpa using Reps.get' r3 (by simpa using e)
theorem Reps.append:∀{xs ys:List T}{vs ws:List V},Reps K H xs vs->Reps K H ys ws->Reps K H (xs++ys) (vs++ws)
 | [],_,_,_,h,h2=>by cases h;exact h2
 | _::_,_,_,_,⟨v,ws,r1,r2,r3⟩,h2=>by subst r1;exact⟨v,_,rfl,r2,Reps.append r3 h2⟩
theorem Reps.one{x:T}{v:V}(r:Rep K H x v):Reps K H [x] [v]:=⟨v,[],rfl,r,rfl⟩
theorem Reps.set{x:T}{v:V}(r:Rep K H x v):∀{xs:List T}{vs:List V}(i:Nat),Reps K H xs vs->Reps K H (xs.set i x) (vs.set i v)
 | [],_,_,e=>by cases e;rfl
 | _::_,_,0,⟨_,ws,r1,r2,r3⟩=>by subst r1;exact⟨v,ws,rfl,r,r3⟩
 | _::_,_,i+1,⟨u,ws,r1,r2,r3⟩=>by subst r1;exact⟨u,_,rfl,r2,Reps.set r i r3⟩
theorem Reps.take:∀{xs:List T}{vs:List V}(n:Nat),Reps K H xs vs->Reps K H (xs.take n) (vs.take n)
 | _,_,0,_=>by simp[Reps]
 | [],_,_+1,h=>by cases h;simp[Reps]
 | _::_,_,n+1,⟨u,ws,r1,r2,r3⟩=>by subst r1;exact⟨u,_,rfl,r2,Reps.take n r3⟩
theorem Reps.drop:∀{xs:List T}{vs:List V}(n:Nat),Reps K H xs vs->Reps K H (xs.drop n) (vs.drop n)
 | _,_,0,h=>h
 | [],_,_+1,h=>by cases h;simp[Reps]
 | _::_,_,n+1,⟨u,ws,r1,r2,r3⟩=>by subst r1;exact Reps.drop n r3
theorem Reps.reverse:∀{xs:List T}{vs:List V},Reps K H xs vs->Reps K H xs.reverse vs.reverse
 | [],_,h=>by cases h;simp[Reps]
 | _::_,_,⟨u,ws,r1,r2,r3⟩=>by
  subst r1;rw[lYg,lYg];exact (Reps.reverse r3).append ⟨u,[],rfl,r2,rfl⟩
theorem Reps.rep{xs:List T}{vs:List V}(r:Reps K H xs vs):∀n:Nat,Reps K H (List.replicate n xs).flatten (List.replicate n vs).flatten
 | 0=>by simp[Reps]
 | n+1=>by simpa[lK2] using r.append (Reps.rep r n)
theorem Reps.atI{xs:List T}{vs:List V}{i:Int}{x:T}(r:Reps K H xs vs)(h:atI xs i=some x):∃v,atI vs i=some v/\Rep K H x v:=by
 unfold L2.atI at h ⊢;rw[<-r.length];cases e:ixN xs.length i with
 | none=>rw[e] at h;cases h
 | some j=>rw[e] at h;exact r.get h
end
inductive GO where
 | lst (xs:List T) | dct (kvs:List (TKey×T)) | dck (kvs:List (Key×T)) | fdc (kvs:List (TKey×T)) | ins (cn:Str) (fs:List (Str×T))
abbrev Gp:=Addr->Option GO
def gup(G:Gp)(a:Addr)(o:GO):Gp:=λb=>if b=a then some o else G b
theorem jJh{G:Gp}{a:Addr}{o:GO}:gup G a o a=some o:=by simp[gup]
theorem jJm{G:Gp}{a b:Addr}{o:GO}(h:b≠a):gup G a o b=G b:=by simp[gup,h]
theorem qU4{G:Gp}{a:Addr}{o o':GO}:gup (gup G a o) a o'=gup G a o':=by funext b;by_cases h:b=a<;>simp[gup,h]
def asL:Option GO->Option (List T)
 | some (.lst xs)=>some xs
 | _=>none
def seqT(G:Gp):T->Option (List T)
 | .tup xs=>some xs
 | .scr xs=>some xs
 | .ref a=>asL (G a)
 | _=>none
def PKV{κ:Type}(K:PySem.W.Frag)(H:Hp):List (κ×T)->List (κ×V)->Prop:=Paired λp q=>p.1=q.1/\Rep K H p.2 q.2
noncomputable def GOk(K:PySem.W.Frag)(H:Hp)(a:Addr):GO->Prop
 | .lst xs=>∃vs,H a=some (.lst vs)/\Reps K H xs vs
 | .dct kvs=>∃ws,H a=some (.dT ws)/\PKV K H kvs ws
 | .dck kvs=>∃ws,H a=some (.dK ws)/\PKV K H kvs ws
 | .fdc kvs=>∃ob ws,H a=some (.frz ob (.dT ws))/\PKV K H kvs ws
 | .ins cn fs=>∃C dx ws,H a=some (.ins C dx ws)/\PySem.W.nsIn K mainGlobals cn=some (some (.ref C))/\PKV K H fs ws
def GRel(K:PySem.W.Frag)(H:Hp)(G:Gp):Prop:=∀a o,G a=some o->GOk K H a o
section
variable {K:PySem.W.Frag}{H H':Hp}{G:Gp}{a:Addr}
theorem PKV.mono{κ:Type}{kvs:List (κ×T)}{ws:List (κ×V)}(e:Ext H H')(h:PKV K H kvs ws):PKV K H' kvs ws:=Paired.mapP h λ_ _ z=>⟨z.1,Rep.mono e _ z.2⟩
theorem GOk.move{o:GO}(h:GOk K H a o)(e:Ext H H')(ha:H' a=H a):GOk K H' a o:=by
 cases o with
 | lst xs=>obtain⟨vs,h1,h2⟩:=h;exact⟨vs,ha.trans h1,Reps.mono e _ h2⟩
 | dct kvs=>obtain⟨vs,h1,h2⟩:=h;exact⟨vs,ha.trans h1,h2.mono e⟩
 | dck kvs=>obtain⟨vs,h1,h2⟩:=h;exact⟨vs,ha.trans h1,h2.mono e⟩
 | fdc kvs=>obtain⟨ob,vs,h1,h2⟩:=h;exact⟨ob,vs,ha.trans h1,h2.mono e⟩
 | ins cn fs=>obtain⟨C,dx,ws,h1,h2,h3⟩:=h;exact⟨C,dx,ws,ha.trans h1,h2,h3.mono e⟩
theorem GOk.some{o:GO}(h:GOk K H a o):H a≠none:=by
 cases o with
 | lst xs=>obtain⟨vs,h1,h2⟩:=h;rw[h1];simp
 | dct kvs=>obtain⟨vs,h1,h2⟩:=h;rw[h1];simp
 | dck kvs=>obtain⟨vs,h1,h2⟩:=h;rw[h1];simp
 | fdc kvs=>obtain⟨ob,vs,h1,h2⟩:=h;rw[h1];simp
 | ins cn fs=>obtain⟨C,dx,ws,h1,h2,h3⟩:=h;rw[h1];simp
theorem GRel.fresh(g:GRel K H G)(h:H a=none):G a=none:=by
 cases e:G a with
 | none=>rfl
 | some o=>exact absurd h (g a o e).some
def Soft(o:Option HO):Prop:=o=none\/(∃xs,o=some (.lst xs))\/(∃kvs,o=some (.dK kvs))\/(∃kvs,o=some (.dT kvs))\/∃C dx fs,o=some (.ins C dx fs)
theorem Ext.upd{o:HO}(h:Soft (H a)):Ext H (L2.upd H a o):=by
 refine⟨λb xs e=> ?_,λb ob u e=> ?_⟩
 .rw[jKk];exact e;rintro rfl;rw[e] at h;rcases h with h | ⟨_,h⟩ | ⟨_,h⟩ | ⟨_,h⟩ | ⟨_,_,_,h⟩<;>cases h
 .rw[jKk];exact e;rintro rfl;rw[e] at h;rcases h with h | ⟨_,h⟩ | ⟨_,h⟩ | ⟨_,h⟩ | ⟨_,_,_,h⟩<;>cases h
theorem GRel.upd{o:HO}{go:GO}(g:GRel K H G)(h:Soft (H a))(n:GOk K (L2.upd H a o) a go):GRel K (L2.upd H a o) (gup G a go):=by
 intro b u e
 by_cases hb:b=a
 .subst hb;rw[jJh] at e;cases e;exact n
 .rw[jJm hb] at e;exact (g b u e).move (Ext.upd h) (jKk hb)
theorem Soft.none(h:H a=none):Soft (H a):= .inl h
theorem Soft.lst{xs:List V}(h:H a=some (.lst xs)):Soft (H a):= .inr (.inl ⟨xs,h⟩)
theorem Soft.dT{xs:List (TKey×V)}(h:H a=some (.dT xs)):Soft (H a):= .inr (.inr (.inr (.inl ⟨xs,h⟩)))
theorem Soft.dK{xs:List (Key×V)}(h:H a=some (.dK xs)):Soft (H a):= .inr (.inr (.inl ⟨xs,h⟩))
theorem GRel.tupNew{vs:List V}(g:GRel K H G)(h:H a=Option.none):GRel K (L2.upd H a (.tup vs)) G:=by
 intro b u e;have hb:b≠a:=by rintro rfl;exact (g b u e).some h
 exact (g b u e).move (Ext.upd (.none h)) (jKk hb)
theorem Rep.tupNew{xs:List T}{vs:List V}(r:Reps K H xs vs)(h:H a=Option.none):Rep K (L2.upd H a (.tup vs)) (.tup xs) (.ref a):=
 ⟨a,vs,rfl,jKv,Reps.mono (Ext.upd (.none h)) _ r⟩
theorem GRel.lstNew{xs:List T}{vs:List V}(g:GRel K H G)(r:Reps K H xs vs)(h:Soft (H a)):GRel K (L2.upd H a (.lst vs)) (gup G a (.lst xs)):=
 g.upd h ⟨vs,jKv,Reps.mono (Ext.upd h) _ r⟩
theorem GRel.lst{xs:List T}(g:GRel K H G)(h:G a=some (.lst xs)):∃vs,H a=some (.lst vs)/\Reps K H xs vs:=g a _ h
end
abbrev St3:=List (Option T)
def SRel(K:PySem.W.Frag)(H:Hp)(σ:L2.St)(τ:St3):Prop:=σ.length=τ.length/\∀(i:Nat)(t:T),τ[i]? =some (some t)->∃v,σ[i]? =some (some v)/\Rep K H t v
theorem SRel.mono{K:PySem.W.Frag}{H H':Hp}{σ:L2.St}{τ:St3}(e:Ext H H')(h:SRel K H σ τ):SRel K H' σ τ:=
 ⟨h.1,λi t q=>let ⟨v,h1,h2⟩:=h.2 i t q;⟨v,h1,Rep.mono e _ h2⟩⟩
theorem SRel.set{K:PySem.W.Frag}{H:Hp}{σ:L2.St}{τ:St3}{t:T}{v:V}(h:SRel K H σ τ)(i:Nat)(r:Rep K H t v):SRel K H (σ.set i (some v)) (τ.set i (some t)):=by
 refine⟨by simp[h.1],λj u q=> ?_⟩
 by_cases hj:i=j
 .subst hj
  have hl:i<τ.length:=by
   rcases lQr i τ.length with z | z
   .exact z
   .rw[lJy (by simpa using z)] at q;cases q
  rw[lK9 hl] at q;cases q;exact⟨v,by rw[lK9 (by rw[h.1];exact hl)],r⟩
 .rw[lKy hj] at q ⊢;exact h.2 j u q
def Inv3(X:Cx)(pins:List (Addr×Obj))(τ:St3)(G:Gp)(H:Hp)(s:Shared):Prop:=∃ σ,Inv X pins σ H s/\SRel X.K H σ τ/\GRel X.K H G
abbrev VK3:=T->Gp->Prop
abbrev TE3:=St3->Gp->VK3->Prop
abbrev TT3:=St3->Gp->(Bool->Gp->Prop)->Prop
abbrev TA3:=St3->Gp->(List T->Gp->Prop)->Prop
structure Ends3 where
 nx:St3->Gp->Prop
 rt:VK3
 bk:St3->Gp->Prop:=λ_ _=>False
 ct:St3->Gp->Prop:=λ_ _=>False
abbrev TS3:=Ends3->St3->Gp->Prop
def RU(K:PySem.W.Frag)(H:Hp)(t:T)(u:Value):Prop:=∃v,Rep K H t v/\RelV v u
def RUs(K:PySem.W.Frag)(H:Hp)(ts:List T)(us:List Value):Prop:=∃vs,Reps K H ts vs/\Vals vs us
theorem RU.mono{K:PySem.W.Frag}{H H':Hp}{t:T}{u:Value}(e:Ext H H')(h:RU K H t u):RU K H' t u:=let ⟨v,h1,h2⟩:=h;⟨v,Rep.mono e _ h1,h2⟩
def EP3(X:Cx)(pins:List (Addr×Obj))(τ:St3)(H:Hp)(Q:VK3)(u:Value)(s':Shared):Prop:=∃t G' H',Ext H H'/\Inv3 X pins τ G' H' s'/\RU X.K H' t u/\Q t G'
def TP3(X:Cx)(pins:List (Addr×Obj))(τ:St3)(H:Hp)(Q:Bool->Gp->Prop)(b:Bool)(s':Shared):Prop:=∃G' H',Ext H H'/\Inv3 X pins τ G' H' s'/\Q b G'
def AP3(X:Cx)(pins:List (Addr×Obj))(τ:St3)(H:Hp)(Q:List T->Gp->Prop)(us:List Value)(s':Shared):Prop:=∃ts G' H',Ext H H'/\Inv3 X pins τ G' H' s'/\RUs X.K H' ts us/\Q ts G'
def SP3(X:Cx)(pins:List (Addr×Obj))(H:Hp)(D:Ends3)(f:Flow)(s':Shared):Prop:=
 match f with
 | .next=>∃ τ' G' H',Ext H H'/\Inv3 X pins τ' G' H' s'/\D.nx τ' G'
 | .brk=>∃ τ' G' H',Ext H H'/\Inv3 X pins τ' G' H' s'/\D.bk τ' G'
 | .cont=>∃ τ' G' H',Ext H H'/\Inv3 X pins τ' G' H' s'/\D.ct τ' G'
 | .ret u=>∃t τ' G' H',Ext H H'/\Inv3 X pins τ' G' H' s'/\RU X.K H' t u/\D.rt t G'
def PE3(X:Cx)(e:Expr)(t:TE3):Prop:=∀(pins:List (Addr×Obj))(s:Shared)(τ:St3)(G:Gp)(H:Hp)(Q:VK3),Inv3 X pins τ G H s->t τ G Q->wpAny (model X.prog X.w) X.A (eval e X.env) (EP3 X pins τ H Q) X.xe s
def PT3(X:Cx)(e:Expr)(t:TT3):Prop:=∀(pins:List (Addr×Obj))(s:Shared)(τ:St3)(G:Gp)(H:Hp)(Q:Bool->Gp->Prop),Inv3 X pins τ G H s->t τ G Q->wpAny (model X.prog X.w) X.A (isTrue e X.env (eval e X.env)) (TP3 X pins τ H Q) X.xe s
def PW3(X:Cx)(e:Expr)(t:TT3):Prop:=∀(whole:Sem Value)(pins:List (Addr×Obj))(s:Shared)(τ:St3)(G:Gp)(H:Hp)(Q:Bool->Gp->Prop),Inv3 X pins τ G H s->t τ G Q->wpAny (model X.prog X.w) X.A (isTrue e X.env whole) (TP3 X pins τ H Q) X.xe s
theorem PW3.pt{X:Cx}{e:Expr}{t:TT3}(h:PW3 X e t):PT3 X e t:=h _
def PA3(X:Cx)(es:List Expr)(t:TA3):Prop:=∀(pos:Pos)(pins:List (Addr×Obj))(s:Shared)(τ:St3)(G:Gp)(H:Hp)(Q:List T->Gp->Prop),Inv3 X pins τ G H s->t τ G Q->wpAny (model X.prog X.w) X.A (spliced (backTo pos (starEach es X.env))) (AP3 X pins τ H Q) X.xe s
def PS3(X:Cx)(st:Stmt)(t:TS3):Prop:=∀(pins:List (Addr×Obj))(s:Shared)(τ:St3)(G:Gp)(H:Hp)(D:Ends3),Inv3 X pins τ G H s->t D τ G->wpAny (model X.prog X.w) X.A (exec st X.env) (SP3 X pins H D) X.xe s
def PSs3(X:Cx)(st:List Stmt)(t:TS3):Prop:=∀(pins:List (Addr×Obj))(s:Shared)(τ:St3)(G:Gp)(H:Hp)(D:Ends3),Inv3 X pins τ G H s->t D τ G->wpAny (model X.prog X.w) X.A (execs st X.env) (SP3 X pins H D) X.xe s
section
variable {X:Cx}{pins:List (Addr×Obj)}{τ:St3}{G:Gp}{H H1:Hp}{s:Shared}{C:Prop}
theorem EP3.el{Q:VK3}{u:Value}(h:EP3 X pins τ H Q u s)(k:∀t G' H',Ext H H'->Inv3 X pins τ G' H' s->RU X.K H' t u->Q t G'->C):C:=let ⟨t,G',H',a,b,c,d⟩:=h;k t G' H' a b c d
theorem AP3.el{Q:List T->Gp->Prop}{u:List Value}(h:AP3 X pins τ H Q u s)(k:∀t G' H',Ext H H'->Inv3 X pins τ G' H' s->RUs X.K H' t u->Q t G'->C):C:=let ⟨t,G',H',a,b,c,d⟩:=h;k t G' H' a b c d
theorem TP3.el{Q:Bool->Gp->Prop}{u:Bool}(h:TP3 X pins τ H Q u s)(k:∀G' H',Ext H H'->Inv3 X pins τ G' H' s->Q u G'->C):C:=let ⟨G',H',a,b,c⟩:=h;k G' H' a b c
theorem Inv3.el(h:Inv3 X pins τ G H s)(k:∀ σ,Inv X pins σ H s->SRel X.K H σ τ->GRel X.K H G->C):C:=let ⟨σ,a,b,c⟩:=h;k σ a b c
theorem RU.el{K:PySem.W.Frag}{t:T}{u:Value}(h:RU K H t u)(k:∀v,Rep K H t v->RelV v u->C):C:=let ⟨v,a,b⟩:=h;k v a b
theorem RUs.el{K:PySem.W.Frag}{t:List T}{u:List Value}(h:RUs K H t u)(k:∀v,Reps K H t v->Vals v u->C):C:=let ⟨v,a,b⟩:=h;k v a b
end
section
variable {X:Cx}{pins:List (Addr×Obj)}{τ:St3}{G:Gp}{H H1:Hp}{s:Shared}
theorem EP3.ext{Q:VK3}{u:Value}(e:Ext H H1)(h:EP3 X pins τ H1 Q u s):EP3 X pins τ H Q u s:=let ⟨t,G',H',a,b⟩:=h;⟨t,G',H',e.trans a,b⟩
theorem TP3.ext{Q:Bool->Gp->Prop}{u:Bool}(e:Ext H H1)(h:TP3 X pins τ H1 Q u s):TP3 X pins τ H Q u s:=let ⟨G',H',a,b⟩:=h;⟨G',H',e.trans a,b⟩
theorem SP3.ext{D:Ends3}{f:Flow}(e:Ext H H1)(h:SP3 X pins H1 D f s):SP3 X pins H D f s:=by
 cases f with
 | next=>obtain⟨τ',G',H',a,b⟩:=h;exact⟨τ',G',H',e.trans a,b⟩
 | brk=>obtain⟨τ',G',H',a,b⟩:=h;exact⟨τ',G',H',e.trans a,b⟩
 | cont=>obtain⟨τ',G',H',a,b⟩:=h;exact⟨τ',G',H',e.trans a,b⟩
 | ret u=>obtain⟨t,τ',G',H',a,b⟩:=h;exact⟨t,τ',G',H',e.trans a,b⟩
theorem bin3{a b:Expr}{ta tb:TE3}(ha:PE3 X a ta)(hb:PE3 X b tb){R:T->T->Gp->Prop}(I:Inv3 X pins τ G H s)(h:ta τ G λx G1=>tb τ G1 λy G2=>R x y G2)
  {α:Type} {Q:α->Shared->Prop} {f:Value->Value->Sem α}
  (hf:∀v u s2 x y G2 H2,Ext H H2->Inv3 X pins τ G2 H2 s2->RU X.K H2 x v->RU X.K H2 y u->R x y G2->wpAny (model X.prog X.w) X.A (f v u) Q X.xe s2):
  wpAny (model X.prog X.w) X.A (eval a X.env) (λv s₁=>wpAny (model X.prog X.w) X.A (eval b X.env) (λu s₂=>wpAny (model X.prog X.w) X.A (f v u) Q X.xe s₂) X.xe s₁) X.xe s:=by
 refine thn (ha pins s τ G H _ I h) λv s1 w_=>w_.el λx G1 H1 e1 I1 r1 q1=> ?_
 refine thn (hb pins s1 τ G1 H1 _ I1 q1) λu s2 w_=>w_.el λy G2 H2 e2 I2 r2 q2=> ?_
 exact hf v u s2 x y G2 H2 (e1.trans e2) I2 (r1.mono e2) r2 q2
def up(K:PySem.W.Frag)(H:Hp)(Q:VK3):VK:=λv H'=>∃t G',Ext H H'/\GRel K H' G'/\Rep K H' t v/\Q t G'
theorem jVh{σ:L2.St}{Q:VK3}{u:Value}(hs:SRel X.K H σ τ)(h:EP X pins σ (up X.K H Q) u s):EP3 X pins τ H Q u s:=
 let ⟨v,H',I',r',t,G',e,g',rt,q⟩:=h
 ⟨t,G',H',e,⟨σ,I',hs.mono e,g'⟩,⟨v,rt,r'⟩,q⟩
end
section
variable {X:Cx}{pos:Pos}
def tVar(i:Nat):TE3:=λτ G Q=>∃t,τ[i]? =some (some t)/\Q t G
def tC(t:T):TE3:=λ_ G Q=>Q t G
theorem jJa(i:Nat){x:Str}(hN:X.N[i]? =some x:=by rfl)(hv:Vis X.env.scope x:=by first | exact Or.inl rfl | exact Or.inr (Or.inl rfl) | exact Or.inr (Or.inr rfl))
  (hd:(x == ("__debug__":Str))=false:=by decide) (hcd:(x == ("__classdict__":Str))=false:=by decide):PE3 X (.Name x pos) (tVar i):=by
 rintro pins s τ G H Q ⟨σ,I,hs,hg⟩ ⟨t,e,q⟩;obtain⟨v,ev,rv⟩:=hs.2 i t e;exact thn (uVg hN hv hd hcd pins s σ H (up X.K H Q) I ⟨v,ev,t,G,.refl H,hg,rv,q⟩) λu s' h=>jVh hs h
theorem jJl {i j}:PE3 X (.Constant (.int i) j pos) (tC (.int i)):=λpins s τ G H Q ⟨σ,I,hs,hg⟩ q=>
 thn (uVj pins s σ H (up X.K H Q) I ⟨.int i,G,.refl H,hg,rfl,q⟩) λu s' h=>jVh hs h
theorem e_bl {b j}:PE3 X (.Constant (.bool b) j pos) (tC (.bl b)):=λpins s τ G H Q ⟨σ,I,hs,hg⟩ q=>
 thn (uYh pins s σ H (up X.K H Q) I ⟨.bl b,G,.refl H,hg,rfl,q⟩) λu s' h=>jVh hs h
theorem jVw {j}:PE3 X (.Constant .none j pos) (tC .non):=λpins s τ G H Q ⟨σ,I,hs,hg⟩ q=>
 thn (uVi pins s σ H (up X.K H Q) I ⟨.non,G,.refl H,hg,rfl,q⟩) λu s' h=>jVh hs h
theorem qZq {x j}:PE3 X (.Constant (.str x) j pos) (tC (.str x)):=λpins s τ G H Q ⟨σ,I,hs,hg⟩ q=>
 thn (uVh pins s σ H (up X.K H Q) I ⟨.str x,G,.refl H,hg,rfl,q⟩) λu s' h=>jVh hs h
end
abbrev R3:=T->T->Gp->VK3->Prop
def Op3(X:Cx)(f:Value->Value->Sem Value)(r:R3):Prop:=
 ∀(pins:List (Addr×Obj))(s:Shared)(τ:St3)(G:Gp)(H:Hp)(x y:T)(v u:Value)(Q:VK3),Inv3 X pins τ G H s->RU X.K H x v->RU X.K H y u->r x y G Q->wpAny (model X.prog X.w) X.A (f v u) (EP3 X pins τ H Q) X.xe s
def Un3(X:Cx)(f:Value->Sem Value)(r:T->Gp->VK3->Prop):Prop:=
 ∀(pins:List (Addr×Obj))(s:Shared)(τ:St3)(G:Gp)(H:Hp)(x:T)(v:Value)(Q:VK3),Inv3 X pins τ G H s->RU X.K H x v->r x G Q->wpAny (model X.prog X.w) X.A (f v) (EP3 X pins τ H Q) X.xe s
def Call3(X:Cx)(f:Value)(r:List T->Gp->VK3->Prop):Prop:=
 ∀(pins:List (Addr×Obj))(s:Shared)(τ:St3)(G:Gp)(H:Hp)(xs:List T)(us:List Value)(Q:VK3),Inv3 X pins τ G H s->RUs X.K H xs us->r xs G Q->wpAny (model X.prog X.w) X.A (call f us) (EP3 X pins τ H Q) X.xe s
def Mt3(X:Cx)(id:String)(r:T->List T->Gp->VK3->Prop):Prop:=
 ∀(pins:List (Addr×Obj))(s:Shared)(τ:St3)(G:Gp)(H:Hp)(x:T)(xs:List T)(v:Value)(us:List Value)(Q:VK3),Inv3 X pins τ G H s->RU X.K H x v->RUs X.K H xs us->r x xs G Q->
  wpAny (model X.prog X.w) X.A (call (.builtin id) (v::us)) (EP3 X pins τ H Q) X.xe s
def Ix3(X:Cx)(r:R3):Prop:=
 ∀(value slice:Expr)(pins:List (Addr×Obj))(s:Shared)(τ:St3)(G:Gp)(H:Hp)(x y:T)(v u:Value)(Q:VK3),Inv3 X pins τ G H s->RU X.K H x v->RU X.K H y u->r x y G Q->
  subscripted slice false v u=operate [v,u] (getItem v u)->wpAny (model X.prog X.w) X.A (subscriptTail value slice v u) (EP3 X pins τ H Q) X.xe s
def Set3(X:Cx)(r:T->T->T->Gp->(Gp->Prop)->Prop):Prop:=
 ∀(pins:List (Addr×Obj))(s:Shared)(τ:St3)(G:Gp)(H:Hp)(o i v:T)(ov iv u:Value)(Q:Gp->Prop),Inv3 X pins τ G H s->RU X.K H o ov->RU X.K H i iv->RU X.K H v u->r o i v G Q->
  wpAny (model X.prog X.w) X.A (setItem ov iv u) (λ_ s'=>∃G' H',Ext H H'/\Inv3 X pins τ G' H' s'/\Q G') X.xe s
def Tru3(X:Cx)(r:T->Gp->(Bool->Gp->Prop)->Prop):Prop:=
 ∀(pins:List (Addr×Obj))(s:Shared)(τ:St3)(G:Gp)(H:Hp)(x:T)(v:Value)(Q:Bool->Gp->Prop),Inv3 X pins τ G H s->RU X.K H x v->r x G Q->wpAny (model X.prog X.w) X.A (truthy v) (TP3 X pins τ H Q) X.xe s
section
variable {X:Cx}
theorem Op3.of{f:Value->Value->Sem Value}{r:R2}{r3:R3}(h:OpR X f r)
  (hr:∀H G x y a b Q,GRel X.K H G->Rep X.K H x a->Rep X.K H y b->r3 x y G Q->r a b H (up X.K H Q)):Op3 X f r3:=by
 rintro pins s τ G H x y v u Q ⟨σ,I,hs,hg⟩ ⟨a,ra,rv⟩ ⟨b,rb,ru⟩ q;exact thn (h pins s σ H a b v u _ I rv ru (hr H G x y a b Q hg ra rb q)) λu s' h=>jVh hs h
theorem Un3.of{f:Value->Sem Value}{r:V->Hp->VK->Prop}{r3:T->Gp->VK3->Prop}(h:UnR X f r)
  (hr:∀H G x a Q,GRel X.K H G->Rep X.K H x a->r3 x G Q->r a H (up X.K H Q)):Un3 X f r3:=by
 rintro pins s τ G H x v Q ⟨σ,I,hs,hg⟩ ⟨a,ra,rv⟩ q;exact thn (h pins s σ H a v _ I rv (hr H G x a Q hg ra q)) λu s' h=>jVh hs h
theorem Call3.of{f:Value}{r:List V->Hp->VK->Prop}{r3:List T->Gp->VK3->Prop}(h:kKk X f r)
  (hr:∀H G xs as Q,GRel X.K H G->Reps X.K H xs as->r3 xs G Q->r as H (up X.K H Q)):Call3 X f r3:=by
 rintro pins s τ G H xs us Q ⟨σ,I,hs,hg⟩ ⟨as,ra,rv⟩ q;exact thn (h pins s σ H as us _ I rv (hr H G xs as Q hg ra q)) λu s' h=>jVh hs h
theorem Mt3.of{id:String}{r:V->List V->Hp->VK->Prop}{r3:T->List T->Gp->VK3->Prop}(h:MtR X id r)
  (hr:∀H G x xs a as Q,GRel X.K H G->Rep X.K H x a->Reps X.K H xs as->r3 x xs G Q->r a as H (up X.K H Q)):Mt3 X id r3:=by
 rintro pins s τ G H x xs v us Q ⟨σ,I,hs,hg⟩ ⟨a,ra,rv⟩ ⟨as,ras,rvs⟩ q;exact thn (h pins s σ H a as v us _ I rv rvs (hr H G x xs a as Q hg ra ras q)) λu s' h=>jVh hs h
theorem Ix3.of{r:R2}{r3:R3}(h:IxR X r)
  (hr:∀H G x y a b Q,GRel X.K H G->Rep X.K H x a->Rep X.K H y b->r3 x y G Q->r a b H (up X.K H Q)):Ix3 X r3:=by
 rintro value slice pins s τ G H x y v u Q ⟨σ,I,hs,hg⟩ ⟨a,ra,rv⟩ ⟨b,rb,ru⟩ q hh;exact thn (h value slice pins s σ H a b v u _ I rv ru (hr H G x y a b Q hg ra rb q) hh) λu s' h=>jVh hs h
theorem Set3.of{t:TSet}{r3:T->T->T->Gp->(Gp->Prop)->Prop}(h:PSet X t)
  (hr:∀H G o i v a b c Q,GRel X.K H G->Rep X.K H o a->Rep X.K H i b->Rep X.K H v c->r3 o i v G Q->t a b c H (λH'=>∃G',Ext H H'/\GRel X.K H' G'/\Q G')):Set3 X r3:=by
 rintro pins s τ G H o i v ov iv u Q ⟨σ,I,hs,hg⟩ ⟨a,ra,rv⟩ ⟨b,rb,ru⟩ ⟨c,rc,rw'⟩ q;exact thn (h pins s σ H a b c ov iv u _ I rv ru rw' (hr H G o i v a b c Q hg ra rb rc q)) λ_ s' ⟨H',I',G',e,g',q'⟩=>⟨G',H',e,⟨σ,I',hs.mono e,g'⟩,q'⟩
theorem Tru3.of{r:V->Hp->(Bool->Hp->Prop)->Prop}{r3:T->Gp->(Bool->Gp->Prop)->Prop}(h:TruR X r)
  (hr:∀H G x a Q,GRel X.K H G->Rep X.K H x a->r3 x G Q->r a H (λb H'=>H'=H/\Q b G)):Tru3 X r3:=by
 rintro pins s τ G H x v Q ⟨σ,I,hs,hg⟩ ⟨a,ra,rv⟩ q
 exact thn (h pins s σ H a v _ I rv (hr H G x a Q hg ra q)) λb s' ⟨H',I',e,q'⟩=>by
  subst e;exact⟨G,H',.refl _,⟨σ,I',hs,hg⟩,q'⟩
theorem Op3.or{f:Value->Value->Sem Value}{r r':R3}(h:Op3 X f r)(h':Op3 X f r'):Op3 X f (λx y G Q=>r x y G Q\/r' x y G Q):=by
 intro pins s τ G H x y v u Q I rx ry q
 rcases q with q | q
 .exact h pins s τ G H x y v u Q I rx ry q
 .exact h' pins s τ G H x y v u Q I rx ry q
def rI(C:Int->Int->Prop)(g:Int->Int->T):R3:=λx y G Q=>∃i j,x= .int i/\y= .int j/\C i j/\Q (g i j) G
def rI0(g:Int->Int->T):R3:=λx y G Q=>∃i j,x= .int i/\y= .int j/\Q (g i j) G
theorem o_I{f:Value->Value->Sem Value}{C:Int->Int->Prop}{g:Int->Int->V}{g':Int->Int->T}(h:OpR X f (L2.rI C g))(hg':∀K H i j,Rep K H (g' i j) (g i j)):Op3 X f (rI C g'):=
 Op3.of h λH G x y a b Q hg ra rb ⟨i,j,ex,ey,c,q⟩=>by
  subst ex;subst ey;cases (show a= .int i from ra);cases (show b= .int j from rb)
  exact⟨i,j,rfl,rfl,c,g' i j,G,.refl H,hg,hg' _ _ i j,q⟩
theorem o_I0{f:Value->Value->Sem Value}{g:Int->Int->V}{g':Int->Int->T}(h:OpR X f (L2.rI0 g))(hg':∀K H i j,Rep K H (g' i j) (g i j)):Op3 X f (rI0 g'):=
 Op3.of h λH G x y a b Q hg ra rb ⟨i,j,ex,ey,q⟩=>by
  subst ex;subst ey;cases (show a= .int i from ra);cases (show b= .int j from rb)
  exact⟨i,j,rfl,rfl,g' i j,G,.refl H,hg,hg' _ _ i j,q⟩
theorem o_add:Op3 X (binaryOp .Add) (rI0 λi j=> .int (i+j)):=o_I0 uVr λ_ _ _ _=>rfl
theorem kKc:Op3 X (binaryOp .Sub) (rI0 λi j=> .int (i-j)):=o_I0 uVk λ_ _ _ _=>rfl
theorem o_mul:Op3 X (binaryOp .Mult) (rI CMul λi j=> .int (i*j)):=o_I uVn λ_ _ _ _=>rfl
theorem uVv:Op3 X (binaryOp .FloorDiv) (rI CDiv λi j=> .int (i / j)):=o_I uK3 λ_ _ _ _=>rfl
theorem jYn:Op3 X (binaryOp .Mod) (rI (λ_ j=>0<j) λi j=> .int (i%j)):=o_I uVo λ_ _ _ _=>rfl
theorem uYo:Op3 X (binaryOp .Pow) (rI CPow λi j=> .int (i^j.toNat)):=o_I uVm λ_ _ _ _=>rfl
theorem o_lt:Op3 X (compareOp .Lt) (rI0 λi j=> .bl (decide (i<j))):=o_I0 uYj λ_ _ _ _=>rfl
theorem o_le:Op3 X (compareOp .LtE) (rI0 λi j=> .bl (decide (i<=j))):=o_I0 uYk λ_ _ _ _=>rfl
theorem o_gt:Op3 X (compareOp .Gt) (rI0 λi j=> .bl (decide (j<i))):=o_I0 uYl λ_ _ _ _=>rfl
theorem o_ge:Op3 X (compareOp .GtE) (rI0 λi j=> .bl (decide (j<=i))):=o_I0 uYm λ_ _ _ _=>rfl
def kKg:T->Bool
 | .non=>true
 | _=>false
theorem Rep.non_iff{K:PySem.W.Frag}{H:Hp}{x:T}{a:V}(r:Rep K H x a):decide (a= .non)=kKg x:=by
 cases x with
 | non=>cases (show a= .non from r);rfl
 | bl b=>cases (show a= .bl b from r);rfl
 | int b=>cases (show a= .int b from r);rfl
 | str b=>cases (show a= .str b from r);rfl
 | ref b=>cases (show a= .ref b from r);rfl
 | ty b=>cases (show a= .ty b from r);rfl
 | tup b=>obtain⟨_,_,e,_⟩:=(show ∃c vs,a= .ref c/\_ from r);subst e;rfl
 | scr b=>obtain⟨_,_,e,_⟩:=(show ∃c vs,a= .ref c/\_ from r);subst e;rfl
theorem qYh:Op3 X (compareOp .Is) (λx y G Q=>y= .non/\Q (.bl (kKg x)) G):=
 Op3.of uVp λH G x y a b Q hg ra rb ⟨ey,q⟩=>by
  subst ey;cases (show b= .non from rb)
  exact⟨rfl,.bl (kKg x),G,.refl H,hg,by rw[ra.non_iff];rfl,q⟩
theorem kZh:Op3 X (compareOp .IsNot) (λx y G Q=>y= .non/\Q (.bl (!kKg x)) G):=
 Op3.of uK2 λH G x y a b Q hg ra rb ⟨ey,q⟩=>by
  subst ey;cases (show b= .non from rb)
  exact⟨rfl,.bl (!kKg x),G,.refl H,hg,by rw[ra.non_iff];rfl,q⟩
end
def tOp(r:R3)(ta tb:TE3):TE3:=λτ G Q=>ta τ G λx G1=>tb τ G1 λy G2=>r x y G2 Q
def tUn(r:T->Gp->VK3->Prop)(ta:TE3):TE3:=λτ G Q=>ta τ G λx G1=>r x G1 Q
def jJx(t:TE3):TT3:=λτ G Q=>t τ G λx G1=>∃c,x= .bl c/\Q c G1
def tAnd(t u:TT3):TT3:=λτ G Q=>t τ G λc G1=>if c=true then u τ G1 Q else Q false G1
def tOr(t u:TT3):TT3:=λτ G Q=>t τ G λc G1=>if c=true then Q true G1 else u τ G1 Q
def tNot(t:TT3):TT3:=λτ G Q=>t τ G λc G1=>Q (!c) G1
def uKn(ta tb:TE3):TE3:=λτ G Q=>ta τ G λx G1=>∃c,x= .bl c/\if c=true then tb τ G1 Q else Q (.bl false) G1
def tOrV(ta tb:TE3):TE3:=λτ G Q=>ta τ G λx G1=>∃c,x= .bl c/\if c=true then Q (.bl true) G1 else tb τ G1 Q
def uKm(ta:TE3):TE3:=λτ G Q=>ta τ G λx G1=>∃c,x= .bl c/\Q (.bl (!c)) G1
def tIf(t:TT3)(ta tb:TE3):TE3:=λτ G Q=>t τ G λc G1=>if c=true then ta τ G1 Q else tb τ G1 Q
noncomputable def kKl(r r':R3)(ta tb tc:TE3):TE3:=λτ G Q=>ta τ G λx G1=>tb τ G1 λy G2=>r x y G2 λz G3=>∃k,z= .bl k/\if k=true then tc τ G3 (λw G4=>r' y w G4 Q) else Q (.bl false) G3
def tNil:TA3:=λ_ G Q=>Q [] G
def jJc(ta:TE3)(tr:TA3):TA3:=λτ G Q=>ta τ G λx G1=>tr τ G1 λxs G2=>Q (x::xs) G2
def tTup(t:TA3):TE3:=λτ G Q=>t τ G λxs G1=>xs.length<=sizeLine/\Q (.tup xs) G1
def tLst(t:TA3):TE3:=λτ G Q=>t τ G λxs G1=>xs.length<=sizeLine/\∀p,G1 p=none->Q (.ref p) (gup G1 p (.lst xs))
def tCB(r:List T->Gp->VK3->Prop)(t:TA3):TE3:=λτ G Q=>t τ G λxs G1=>r xs G1 Q
section
variable {X:Cx}{a b c:Expr}{ta tb tc:TE3}{tA tB:TT3}{pos:Pos}{rest es:List Expr}{t:TA3}
theorem e_op{op:Operator}{r:R3}(ho:Op3 X (binaryOp op) r)(ha:PE3 X a ta)(hb:PE3 X b tb):PE3 X (.BinOp a op b pos) (tOp r ta tb):=by
 intro pins s τ G H Q I h;exact wpAny_BinOp (bin3 ha hb I h λv u s2 x y G2 H2 e I2 rx ry q=>thn (ho pins s2 τ G2 H2 x y v u Q I2 rx ry q) λ_ _ z=>z.ext e)
theorem e_un{op:UnaryOp}{r:T->Gp->VK3->Prop}(ho:Un3 X (unaryOp op) r)(ha:PE3 X a ta):PE3 X (.UnaryOp op a pos) (tUn r ta):=by
 intro pins s τ G H Q I h;exact UnaryOp_ (thn (ha pins s τ G H _ I h) λv s1 w_=>w_.el λx G1 H1 e I1 r1 q1=>thn (ho pins s1 τ G1 H1 x v Q I1 r1 q1) λ_ _ z=>z.ext e)
theorem kYl{op:CmpOp}{r:R3}(ho:Op3 X (compareOp op) r)(ha:PE3 X a ta)(hb:PE3 X b tb)(hm:behindInMarks op b=false):PE3 X (.Compare a [op] [b] pos) (tOp r ta tb):=by
 intro pins s τ G H Q I h;exact wpAny_Compare1 (bin3 ha hb I h λv u s2 x y G2 H2 e I2 rx ry q=>thn (ho pins s2 τ G2 H2 x y v u Q I2 rx ry q) λ_ _ z=>z.ext e) hm
theorem jKh{op:CmpOp}{r:R3}(ho:Op3 X (compareOp op) r)(ha:PE3 X a ta)(hb:PE3 X b tb)(hm:behindInMarks op b=false):PT3 X (.Compare a [op] [b] pos) (jJx (tOp r ta tb)):=by
 intro pins s τ G H Q I h;refine wpAny_isTrue_Compare1 (bin3 ha hb I h λv u s2 x y G2 H2 e I2 rx ry q=>thn (ho pins s2 τ G2 H2 x y v u _ I2 rx ry q) λw' s3 w_=>w_.el λz G3 H3 e3 I3 r3 ⟨k,ez,q3⟩=> ?_) hm
 subst ez;obtain⟨v',rv',ru'⟩:=r3;cases (show v'= .bl k from rv');cases ru'
 exact lVo ⟨G3,H3,e.trans e3,I3,q3⟩
theorem qXi{e:Expr}{t:TE3}(h:PE3 X e t)(he:∀whole,isTrue e X.env whole=(do let v <-whole;standAt e.pos;holding [v] (truthy v)):=by intro _;rfl):PT3 X e (jJx t):=by
 intro pins s τ G H Q I hw;refine isTrue_plain (thn (h pins s τ G H _ I hw) λv s1 w_=>w_.el λx G1 H1 e1 I1 r1 ⟨k,ez,q1⟩=> ?_) (he _)
 subst ez;obtain⟨v',rv',ru'⟩:=r1;cases (show v'= .bl k from rv');cases ru'
 exact lVo ⟨G1,H1,e1,I1,q1⟩
def tTru(r:T->Gp->(Bool->Gp->Prop)->Prop)(t:TE3):TT3:=λτ G Q=>t τ G λx G1=>r x G1 Q
theorem qXj{e:Expr}{t:TE3}{r:T->Gp->(Bool->Gp->Prop)->Prop}(hr:Tru3 X r)(h:PE3 X e t)(he:∀whole,isTrue e X.env whole=(do let v <-whole;standAt e.pos;holding [v] (truthy v)):=by intro _;rfl):PT3 X e (tTru r t):=by
 intro pins s τ G H Q I hw;exact isTrue_plain (thn (h pins s τ G H _ I hw) λv s1 w_=>w_.el λx G1 H1 e1 I1 r1 q1=>thn (hr pins s1 τ G1 H1 x v Q I1 r1 q1) λ_ _ z=>z.ext e1) (he _)
theorem uJg(ha:PT3 X a tA):PW3 X (.BoolOp .And [a] pos) tA:=by
 intro wh pins s τ G H Q I h;refine isTrue_and (thn (ha pins s τ G H Q I h) λc s1 e=> ?_)
 cases c with
 | true=>exact isTrue_and_nil e
 | false=>exact e
theorem qKw(ha:PT3 X a tA):PW3 X (.BoolOp .Or [a] pos) tA:=by
 intro wh pins s τ G H Q I h;refine isTrue_or (thn (ha pins s τ G H Q I h) λc s1 e=> ?_)
 cases c with
 | false=>exact isTrue_or_nil e
 | true=>exact e
theorem uUm(ha:PT3 X a tA)(hb:PW3 X (.BoolOp .And (b::rest) pos) tB):PW3 X (.BoolOp .And (a::b::rest) pos) (tAnd tA tB):=by
 intro wh pins s τ G H Q I h;refine isTrue_and (thn (ha pins s τ G H _ I h) λc s1 w_=>w_.el λG1 H1 e1 I1 q1=> ?_)
 cases c with
 | true=>exact thn (hb wh pins s1 τ G1 H1 Q I1 q1) λ_ _ z=>z.ext e1
 | false=>exact⟨G1,H1,e1,I1,q1⟩
theorem w_or(ha:PT3 X a tA)(hb:PW3 X (.BoolOp .Or (b::rest) pos) tB):PW3 X (.BoolOp .Or (a::b::rest) pos) (tOr tA tB):=by
 intro wh pins s τ G H Q I h;refine isTrue_or (thn (ha pins s τ G H _ I h) λc s1 w_=>w_.el λG1 H1 e1 I1 q1=> ?_)
 cases c with
 | true=>exact⟨G1,H1,e1,I1,q1⟩
 | false=>exact thn (hb wh pins s1 τ G1 H1 Q I1 q1) λ_ _ z=>z.ext e1
theorem qJn(ha:PT3 X a tA):PT3 X (.UnaryOp .Not a pos) (tNot tA):=by
 intro pins s τ G H Q I h;exact isTrue_not (thn (ha pins s τ G H (λc G1=>Q (!c) G1) I h) λc s1 w_=>w_.el λG1 H1 e1 I1 q1=>⟨G1,H1,e1,I1,q1⟩)
theorem uYx {op} {t:TE3} (h:PE3 X a t):PE3 X (.BoolOp op [a] pos) t:=λpins s τ G H Q I hw=>BoolOp_one (h pins s τ G H Q I hw)
theorem uY0(ha:PE3 X a ta)(hb:PE3 X (.BoolOp .And (b::rest) pos) tb):PE3 X (.BoolOp .And (a::b::rest) pos) (uKn ta tb):=by
 intro pins s τ G H Q I h;refine BoolOp_and (thn (ha pins s τ G H _ I h) λv s1 w_=>w_.el λx G1 H1 e1 I1 r1 ⟨k,ez,q1⟩=> ?_)
 subst ez;obtain⟨v',rv',ru'⟩:=r1;cases (show v'= .bl k from rv');cases ru'
 refine lVo ?_;cases k with
 | true=>exact thn (hb pins s1 τ G1 H1 Q I1 q1) λ_ _ z=>z.ext e1
 | false=>exact⟨.bl false,G1,H1,e1,I1,⟨.bl false,rfl,rfl⟩,q1⟩
theorem uYy(ha:PE3 X a ta):PE3 X (.UnaryOp .Not a pos) (uKm ta):=by
 intro pins s τ G H Q I h;refine UnaryOp_ (thn (ha pins s τ G H _ I h) λv s1 w_=>w_.el λx G1 H1 e1 I1 r1 ⟨k,ez,q1⟩=> ?_)
 subst ez;obtain⟨v',rv',ru'⟩:=r1;cases (show v'= .bl k from rv');cases ru'
 exact not_of (lVo ⟨.bl (!k),G1,H1,e1,I1,⟨.bl (!k),rfl,rfl⟩,q1⟩)
theorem kJp(hc:PT3 X c tA)(ha:PE3 X a ta)(hb:PE3 X b tb):PE3 X (.IfExp c a b pos) (tIf tA ta tb):=by
 intro pins s τ G H Q I h;refine IfExp_ (thn (hc pins s τ G H _ I h) λk s1 w_=>w_.el λG1 H1 e1 I1 q1=> ?_)
 cases k with
 | true=>exact thn (ha pins s1 τ G1 H1 Q I1 q1) λ_ _ z=>z.ext e1
 | false=>exact thn (hb pins s1 τ G1 H1 Q I1 q1) λ_ _ z=>z.ext e1
theorem jJe:PA3 X [] tNil:=λ_ _ _ _ G H Q I h=>Calls.spliced_nil ⟨[],G,H,.refl H,I,⟨[],rfl,.nil⟩,h⟩
theorem jJb{e:Expr}{te:TE3}(ha:PE3 X e te)(hr:PA3 X es t)(hs:starEach (e::es) X.env=(false,eval e X.env)::starEach es X.env:=by rfl):PA3 X (e::es) (jJc te t):=by
 intro pos pins s τ G H Q I h;rw[hs];show wpAny _ _ (spliced ((false,eval e X.env)::backTo pos (starEach es X.env))) _ _ s
 refine Calls.spliced_cons (thn (ha pins s τ G H _ I h) λu s1 w_=>w_.el λx G1 H1 e1 I1 r1 q1=> ?_)
 refine thn (hr pos pins s1 τ G1 H1 _ I1 q1) λus s2 w_=>w_.el λxs G2 H2 e2 I2 r_ q2=>r_.el λvs rs rv=> ?_
 obtain⟨v,rr,rvv⟩:=r1.mono e2;exact⟨x::xs,G2,H2,e1.trans e2,I2,⟨v::vs,⟨v,vs,rfl,rr,rs⟩,.cons rvv rv⟩,q2⟩
theorem jKi {x1} (h:PA3 X es t):PE3 X (.Tuple es x1 pos) (tTup t):=by
 intro pins s τ G H Q I hq;refine wpAny_Tuple_spliced (thn (h pos pins s τ G H _ I hq) λus s1 w_=>w_.el λxs G1 H1 e1 i_ r_ ⟨z,q⟩=>i_.el λσ I1 hs1 hg1=>r_.el λvs rs rv=>⟨by rw[<-rv.length,<-rs.length];exact z,?_⟩)
 have hf:H1 s1.heap.objs.size=none:=I1.hok.fresh (lJh _);have e2:Ext H1 (upd H1 s1.heap.objs.size (.tup vs)):= .upd (.none hf);refine⟨.tup xs,G1,upd H1 s1.heap.objs.size (.tup vs),e1.trans e2,⟨σ,I1.laid (t':=s1.toks) (λb u e=>lJm _ e) (lJh _) ?_,hs1.mono e2,hg1.tupNew hf⟩,⟨.ref s1.heap.objs.size,Rep.tupNew rs hf,rfl⟩,q⟩
 exact⟨by rw[<-rs.length];exact z,us,rv,⟨_,lJz _ rfl,rfl,_,rfl,rfl⟩⟩
theorem jK3(h:PA3 X es t):PE3 X (.List es pos) (tLst t):=by
 intro pins s τ G H Q I hq;refine wpAny_List_spliced (thn (h pos pins s τ G H _ I hq) λus s1 w_=>w_.el λxs G1 H1 e1 i_ r_ ⟨z,q⟩=>i_.el λσ I1 hs1 hg1=>r_.el λvs rs rv=>⟨by rw[<-rv.length,<-rs.length];exact z,?_⟩)
 have hf:H1 s1.heap.objs.size=none:=I1.hok.fresh (lJh _);have e2:Ext H1 (upd H1 s1.heap.objs.size (.lst vs)):= .upd (.none hf);refine⟨.ref s1.heap.objs.size,gup G1 s1.heap.objs.size (.lst xs),upd H1 s1.heap.objs.size (.lst vs),e1.trans e2,⟨σ,I1.laid (t':=s1.toks) (λb u e=>lJm _ e) (lJh _) ?_,hs1.mono e2,hg1.lstNew rs (.none hf)⟩,⟨.ref s1.heap.objs.size,rfl,rfl⟩,q _ (hg1.fresh hf)⟩
 exact⟨by rw[<-rs.length];exact z,us,0,rv,lJz _ rfl⟩
theorem e_ix{r:R3}(hr:Ix3 X r)(ha:PE3 X a ta)(hb:PE3 X b tb)(hs:qV8 b):PE3 X (.Subscript a b pos) (tOp r ta tb):=by
 intro pins s τ G H Q I h;exact Subscript_ (bin3 ha hb I h λv u s2 x y G2 H2 e I2 rx ry q=>thn (hr a b pins s2 τ G2 H2 x y v u Q I2 rx ry q (hs _ _)) λ_ _ z=>z.ext e)
def rIx:R3:=λx y G Q=>∃xs i t,seqT G x=some xs/\y= .int i/\atI xs i=some t/\Q t G
theorem jX5{o:Option GO}{xs:List T}(h:asL o=some xs):o=some (.lst xs):=by
 cases o with
 | none=>cases h
 | some g=>cases g with
  | lst ys=>cases h;rfl
  | dct _=>cases h
  | dck _=>cases h
  | fdc _=>cases h
  | ins _ _=>cases h
theorem jUm{K:PySem.W.Frag}{H:Hp}{G:Gp}{x:T}{a:V}{xs:List T}(hg:GRel K H G)(r:Rep K H x a)(h:seqT G x=some xs):
  ∃p vs,a= .ref p/\(SqL K H p vs\/SqT K H p vs)/\Reps K H xs vs:=by
 cases x with
 | tup ys=>cases h;obtain⟨p,vs,e,h1,h2⟩:=(show ∃p vs,a= .ref p/\H p=some (.tup vs)/\Reps K H xs vs from r);exact⟨p,vs,e,.inr (.of h1),h2⟩
 | scr ys=>cases h;obtain⟨p,vs,e,h1,h2⟩:=(show ∃p vs,a= .ref p/\FrL K H p vs/\Reps K H xs vs from r);exact⟨p,vs,e,.inl h1.sq,h2⟩
 | ref p=>
  obtain⟨vs,h1,h2⟩:=hg.lst (jX5 h);exact⟨p,vs,r,.inl (.of h1),h2⟩
 | non=>cases h
 | bl _=>cases h
 | int _=>cases h
 | str _=>cases h
 | ty _=>cases h
theorem ix_any:Ix3 X rIx:=
 Ix3.of (ix_list.or uXd) λH G x y a b Q hg ra rb ⟨xs,i,t,hx,ey,ht,q⟩=>by
  subst ey;cases (show b= .int i from rb)
  obtain⟨p,vs,e,hq,r⟩:=jUm hg ra hx;subst e;obtain⟨v,hv,rv⟩:=r.atI ht
  rcases hq with hq | hq
  .exact .inl ⟨p,vs,i,v,rfl,rfl,hq,hv,t,G,.refl H,hg,rv,q⟩
  .exact .inr ⟨p,vs,i,v,rfl,rfl,hq,hv,t,G,.refl H,hg,rv,q⟩
theorem jQw{id:String}{r:List T->Gp->VK3->Prop}{x:Str}{p:Pos}{e:Expr}(hc:Call3 X (.builtin id) r)(hg:Gl X x)(hm:X.mg x=none)(hv:bootBuiltins x=some (.builtin id))(ha:PA3 X (e::es) t)(hn:x≠"__name__":=by decide)(hdb:(x == ("__debug__":Str))=false:=by decide)
  (he:starEach (e::es) X.env=(false,eval e X.env)::starEach es X.env:=by rfl) (hpl:(backTo pos (starEach es X.env)).any (·.1)=false:=by rfl):PE3 X (.Call (.Name x p) (e::es) [] pos) (tCB r t):=by
 intro pins s τ G H Q I h;obtain⟨σ,I0,hs0,hg0⟩:=_root_.id I;refine lYt (jUe I0 hg hm hv ?_ hn hdb);exact lZ7 (thn (ha pos pins s τ G H _ I h) λus s1 w_=>w_.el λxs G1 H1 e1 I1 r1 q1=>thn (hc pins s1 τ G1 H1 xs us Q I1 r1 q1) λ_ _ z=>z.ext e1) he hpl
theorem jJ9{T0:String}{r:List T->Gp->VK3->Prop}{x:Str}{p:Pos}{e:Expr}(hc:Call3 X (.type T0) r)(hg:Gl X x)(hm:X.mg x=none)(hv:bootBuiltins x=some (.type T0))(ha:PA3 X (e::es) t)(hn:x≠"__name__":=by decide)(hdb:(x == ("__debug__":Str))=false:=by decide)
  (he:starEach (e::es) X.env=(false,eval e X.env)::starEach es X.env:=by rfl) (hpl:(backTo pos (starEach es X.env)).any (·.1)=false:=by rfl):PE3 X (.Call (.Name x p) (e::es) [] pos) (tCB r t):=by
 intro pins s τ G H Q I h;obtain⟨σ,I0,hs0,hg0⟩:=_root_.id I;refine lYt (jUe I0 hg hm hv ?_ hn hdb);exact lQj (thn (ha pos pins s τ G H _ I h) λus s1 w_=>w_.el λxs G1 H1 e1 I1 r1 q1=>thn (hc pins s1 τ G1 H1 xs us Q I1 r1 q1) λ_ _ z=>z.ext e1) he hpl
theorem jUn{K:PySem.W.Frag}{H:Hp}{x:T}{vs:List V}(h:Reps K H [x] vs):∃v,vs=[v]/\Rep K H x v:=by
 obtain⟨v,ws,rfl,r,e⟩:=h;cases e;exact⟨v,rfl,r⟩
theorem kXf{K:PySem.W.Frag}{H:Hp}{x y:T}{vs:List V}(h:Reps K H [x,y] vs):∃v w,vs=[v,w]/\Rep K H x v/\Rep K H y w:=by
 obtain⟨v,ws,rfl,r,w,ws2,rfl,r2,e⟩:=h;cases e;exact⟨v,w,rfl,r,r2⟩
def rLen:List T->Gp->VK3->Prop:=λxs G Q=>∃x ys,xs=[x]/\seqT G x=some ys/\Q (.int ys.length) G
theorem uXx:Call3 X (.builtin "len") rLen:=
 Call3.of kVu λH G xs as Q hg ra ⟨x,ys,e,hx,q⟩=>by
  subst e;obtain⟨v,rfl,rv⟩:=jUn ra;obtain⟨p,vs,rfl,hq,r⟩:=jUm hg rv hx;exact⟨p,vs,rfl,hq,.int ys.length,G,.refl H,hg,by rw[r.length];rfl,q⟩
def rAbs:List T->Gp->VK3->Prop:=λxs G Q=>∃i,xs=[.int i]/\Q (.int (if i<0 then -i else i)) G
theorem uXz:Call3 X (.builtin "abs") rAbs:=
 Call3.of qZw λH G xs as Q hg ra ⟨i,e,q⟩=>by
  subst e;obtain⟨v,rfl,rv⟩:=jUn ra;cases (show v= .int i from rv)
  exact⟨i,rfl,.int _,G,.refl H,hg,rfl,q⟩
def rMax:List T->Gp->VK3->Prop:=λxs G Q=>∃i j,xs=[.int i,.int j]/\Q (.int (if j>i then j else i)) G
theorem uY1(hc:X.calm=true):Call3 X (.builtin "max") rMax:=
 Call3.of (qVx hc) λH G xs as Q hg ra ⟨i,j,e,q⟩=>by
  subst e;obtain⟨v,w,rfl,rv,rw'⟩:=kXf ra;cases (show v= .int i from rv);cases (show w= .int j from rw')
  exact⟨i,j,rfl,.int _,G,.refl H,hg,rfl,q⟩
def kKp:List T->Gp->VK3->Prop:=λxs G Q=>∃k,xs=[.bl k]/\Q (.int (if k then 1 else 0)) G
theorem qZx:Call3 X (.type "int") kKp:=
 Call3.of qVy λH G xs as Q hg ra ⟨k,e,q⟩=>by
  subst e;obtain⟨v,rfl,rv⟩:=jUn ra;cases (show v= .bl k from rv)
  exact .inr ⟨k,rfl,.int _,G,.refl H,hg,rfl,q⟩
def kXu:List T->Gp->VK3->Prop:=λxs G Q=>∃i j,xs=[.int i,.int j]/\CDiv i j/\Q (.tup [.int (i / j),.int (i%j)]) G
theorem qZy:Call3 X (.builtin "divmod") kXu:=
 Call3.of kYr λH G xs as Q hg ra ⟨i,j,e,c,q⟩=>by
  subst e;obtain⟨v,w,rfl,rv,rw'⟩:=kXf ra;cases (show v= .int i from rv);cases (show w= .int j from rw')
  exact⟨i,j,rfl,c,λp hp=>⟨.tup [.int (i / j),.int (i%j)],G,.upd (.none hp),hg.tupNew hp,Rep.tupNew ⟨_,_,rfl,rfl,_,_,rfl,rfl,rfl⟩ hp,q⟩⟩
def kXs:List T->Gp->VK3->Prop:=λxs G Q=>∃x ys,xs=[x]/\seqT G x=some ys/\∀p,G p=none->Q (.ref p) (gup G p (.lst ys))
theorem uXv:Call3 X (.type "list") kXs:=
 Call3.of kVt λH G xs as Q hg ra ⟨x,ys,e,hx,q⟩=>by
  subst e;obtain⟨v,rfl,rv⟩:=jUn ra;obtain⟨p,vs,rfl,hq,r⟩:=jUm hg rv hx;exact⟨p,vs,rfl,hq,λl hl=>⟨.ref l,_,.upd (.none hl),hg.lstNew r (.none hl),rfl,q l (hg.fresh hl)⟩⟩
def jJ6:List T->Gp->VK3->Prop:=λxs G Q=>∃x ys,xs=[x]/\seqT G x=some ys/\Q (.tup ys) G
theorem jK8:Call3 X (.type "tuple") jJ6:=
 Call3.of kUm λH G xs as Q hg ra ⟨x,ys,e,hx,q⟩=>by
  subst e;obtain⟨v,rfl,rv⟩:=jUn ra;obtain⟨p,vs,rfl,hq,r⟩:=jUm hg rv hx;cases x with
  | tup zs=>
   cases hx;obtain⟨p',vs',e',h1,h2⟩:=(show ∃p' vs',V.ref p= .ref p'/\H p'=some (.tup vs')/\Reps X.K H ys vs' from rv)
   cases e';exact⟨p,vs',rfl,.inr ⟨.of h1,.tup ys,G,.refl H,hg,⟨p,vs',rfl,h1,h2⟩,q⟩⟩
  | scr zs=>
   cases hx;obtain⟨p',vs',e',h1,h2⟩:=(show ∃p' vs',V.ref p= .ref p'/\FrL X.K H p' vs'/\Reps X.K H ys vs' from rv)
   cases e';exact⟨p,vs',rfl,.inl ⟨h1.sq,λl hl=>⟨.tup ys,G,.upd (.none hl),hg.tupNew hl,Rep.tupNew h2 hl,q⟩⟩⟩
  | ref p'=>
   cases (show V.ref p= .ref p' from rv)
   obtain⟨vs',h1,h2⟩:=hg.lst (jX5 hx);exact⟨p,vs',rfl,.inl ⟨.of h1,λl hl=>⟨.tup ys,G,.upd (.none hl),hg.tupNew hl,Rep.tupNew h2 hl,q⟩⟩⟩
  | non=>cases hx
  | bl _=>cases hx
  | int _=>cases hx
  | str _=>cases hx
  | ty _=>cases hx
noncomputable def rCat:R3:=λx y G Q=>∃p q xs ys,x= .ref p/\y= .ref q/\G p=some (.lst xs)/\G q=some (.lst ys)/\xs.length+ys.length<=sizeLine/\∀l,G l=none->Q (.ref l) (gup G l (.lst (xs++ys)))
noncomputable def rRep:R3:=λx y G Q=>∃p xs n,x= .ref p/\y= .int n/\G p=some (.lst xs)/\n.toNat * xs.length<=sizeLine/\n<2^62/\ -(2^62)<n/\∀l,G l=none->Q (.ref l) (gup G l (.lst (List.replicate n.toNat xs).flatten))
def tyT(G:Gp)(T0:String)(x:T):Prop:=match x with
 | .str _=>T0="str"
 | .int _=>T0="int"
 | .ref p=>(T0="list"/\∃xs,G p=some (.lst xs))\/(T0="dict"/\((∃kvs,G p=some (.dck kvs))\/∃kvs,G p=some (.dct kvs)))
 | _=>False
theorem tyT.of{K:PySem.W.Frag}{H:Hp}{G:Gp}{T0:String}{x:T}{a:V}(hg:GRel K H G)(r:Rep K H x a)(h:tyT G T0 x):tyV K T0 a H:=by
 cases x with
 | str z=>cases (show a= .str z from r);exact h
 | int z=>cases (show a= .int z from r);exact h
 | ref p=>
  cases (show a= .ref p from r)
  rcases h with ⟨e,xs,h⟩ | ⟨e,h⟩
  .obtain⟨vs,h1,_⟩:=hg.lst h;exact .inl ⟨e,vs,.of h1⟩
  .refine .inr (.inr (.inl ⟨e,?_⟩))
   rcases h with ⟨kvs,h⟩ | ⟨kvs,h⟩
   .obtain⟨ws,h1,_⟩:=hg p _ h;exact .inl ⟨ws,h1⟩
   .obtain⟨ws,h1,_⟩:=hg p _ h;exact .inr ⟨ws,h1⟩
 | non=>exact False.elim h
 | bl _=>exact False.elim h
 | ty _=>exact False.elim h
 | tup _=>exact False.elim h
 | scr _=>exact False.elim h
def tBM(T0:String)(r:T->List T->Gp->VK3->Prop)(to:TE3)(t:TA3):TE3:=λτ G Q=>to τ G λx G1=>tyT G1 T0 x/\t τ G1 λxs G2=>r x xs G2 Q
theorem e_bm{T0 id:String}{r:T->List T->Gp->VK3->Prop}{o e:Expr}{name:Str}{apos cpos:Pos}{to:TE3}(pa:PlainAttrs T0)(slot:Slot T0 name id)(hty:typeOf (.builtin id)=pure (.type "method_descriptor"))(hm:Mt3 X id r)(ho:PE3 X o to)(ha:PA3 X (e::es) t)
  (hbase:attributeBase o name X.env (eval o X.env)=eval o X.env:=by rfl)
  (hfew:((backTo cpos (starEach (e::es) X.env)).all (λx=> !x.1)&&(backToKw cpos (keywordEach [] X.env)).all (λx=>x.1.isSome)
   &&decide ((e::es).length+([]:List Keyword).length+(if ([]:List Keyword).isEmpty then 0 else 1)<30))=true:=by rfl)
  (hline:(apos.endLine == cpos.line)=true:=by rfl) (hs:starEach (e::es) X.env=(false,eval e X.env)::starEach es X.env:=by rfl) (hplain:(backTo cpos (starEach es X.env)).any (·.1)=false:=by rfl):
  PE3 X (.Call (.Attribute o name apos) (e::es) [] cpos) (tBM T0 r to t):=by
 intro pins s τ G H Q I h;refine wpAny_Call_method_late hbase hfew hline rfl (thn (ho pins s τ G H _ I h) λv s1 w_=>w_.el λx G1 H1 e1 I1 r1 ⟨ty,q1⟩=> ?_)
 obtain⟨σ,I0,hs0,hg0⟩:=_root_.id I1;obtain⟨a0,ra0,rv0⟩:=_root_.id r1;obtain⟨h1,h2⟩:=uUr I0 rv0 (tyT.of hg0 ra0 ty);refine⟨T0,id,pa,slot,hty,h1,h2,?_⟩;have hA:=ha cpos pins s1 τ G1 H1 _ I1 q1;rw[hs] at hA ⊢;refine Calls.callWith_builtin (by show (false||(backTo cpos (starEach es X.env)).any (·.1))=false;rw[hplain]<;>rfl) (Calls.evalArgs_plain ?_)
 exact thn hA λus s2 w_=>w_.el λvs G2 H2 e2 I2 r2 q2=>thn (hm pins s2 τ G2 H2 x vs v us Q I2 (r1.mono e2) r2 q2) λ_ _ z=>(z.ext e2).ext e1
def jJ5:T->List T->Gp->VK3->Prop:=λx xs G Q=>∃p ys y,x= .ref p/\xs=[y]/\G p=some (.lst ys)/\ys.length<sizeLine/\Q .non (gup G p (.lst (ys++[y])))
def qX2:T->T->T->Gp->(Gp->Prop)->Prop:=λo i v G Q=>∃p xs k j,o= .ref p/\i= .int k/\G p=some (.lst xs)/\ixN xs.length k=some j/\Q (gup G p (.lst (xs.set j v)))
theorem s_list:Set3 X qX2:=
 Set3.of kQk λH G o i v a b c Q hg ra rb rc ⟨p,xs,k,j,eo,ei,hp,hj,q⟩=>by
  subst eo;subst ei;cases (show a= .ref p from ra);cases (show b= .int k from rb)
  obtain⟨vs,h1,h2⟩:=hg.lst hp;exact⟨p,vs,k,j,rfl,rfl,h1,by rw[<-h2.length];exact hj,_,.upd (.lst h1),hg.lstNew (h2.set rc j) (.lst h1),q⟩
end
section
variable {X:Cx}
theorem o_cat:Op3 X (binaryOp .Add) rCat:=
 Op3.of uVq λH G x y a b Q hg ra rb ⟨p,q,xs,ys,ex,ey,hp,hq,hz,h⟩=>by
  subst ex;subst ey;cases (show a= .ref p from ra);cases (show b= .ref q from rb)
  obtain⟨vs,h1,h2⟩:=hg.lst hp;obtain⟨ws,h3,h4⟩:=hg.lst hq;exact⟨p,q,vs,ws,rfl,rfl,h1,h3,by rw[<-h2.length,<-h4.length];exact hz,λl hl=>⟨.ref l,_,.upd (.none hl),hg.lstNew (h2.append h4) (.none hl),rfl,h l (hg.fresh hl)⟩⟩
theorem uYn:Op3 X (binaryOp .Mult) rRep:=
 Op3.of uVl λH G x y a b Q hg ra rb ⟨p,xs,n,ex,ey,hp,hz,h1,h2,h⟩=>by
  subst ex;subst ey;cases (show a= .ref p from ra);cases (show b= .int n from rb)
  obtain⟨vs,h3,h4⟩:=hg.lst hp;refine⟨p,n,vs,rfl,rfl,h3,by omega,by omega,by rw[<-h4.length,lQy];exact hz,λl hl=>⟨.ref l,_,.upd (.none hl),hg.lstNew (h4.rep _) (.none hl),rfl,h l (hg.fresh hl)⟩⟩
theorem jKe:Mt3 X "list.append" jJ5:=
 Mt3.of qUj λH G x xs a as Q hg ra ras ⟨p,ys,y,ex,exs,hp,hz,q⟩=>by
  subst ex;subst exs;cases (show a= .ref p from ra)
  obtain⟨v,rfl,rv⟩:=jUn ras;obtain⟨vs,h1,h2⟩:=hg.lst hp;exact⟨p,vs,v,rfl,rfl,h1,by rw[<-h2.length];exact hz,.non,_,.upd (.lst h1),hg.lstNew (h2.append (.one rv)) (.lst h1),rfl,q⟩
end
def jKm:TS3:=λD τ G=>D.nx τ G
def tSeq(t u:TS3):TS3:=λD τ G=>t {D with nx:=u D} τ G
def jQg(te:TE3):TS3:=λD τ G=>te τ G λ_ G1=>D.nx τ G1
def tRet(te:TE3):TS3:=λD τ G=>te τ G D.rt
def uUu:TS3:=λD _ G=>D.rt .non G
def tIfS(c:TT3)(t u:TS3):TS3:=λD τ G=>c τ G λb G1=>if b=true then t D τ G1 else u D τ G1
section
variable {X:Cx}{st:Stmt}{rest:List Stmt}{t u:TS3}{e:Expr}{te:TE3}{pos:Pos}
theorem jKb:PSs3 X [] jKm:=λ_ _ τ G H _ I h=>lYu ⟨τ,G,H,.refl H,I,h⟩
theorem jJd(h1:PS3 X st t)(h2:PSs3 X rest u):PSs3 X (st::rest) (tSeq t u):=by
 intro pins s τ G H D I h;refine wpAny_execs_cons (thn (h1 pins s τ G H {D with nx:=u D} I h) λf s1 q=> ?_)
 cases f with
 | next=>
  obtain⟨τ',G',H',e',I',q⟩:=q;exact thn (h2 pins s1 τ' G' H' D I' q) λ_ _ z=>z.ext e'
 | ret v=>exact q
 | brk=>exact q
 | cont=>exact q
theorem jJk(h1:PS3 X st t):PSs3 X [st] t:=by
 intro pins s τ G H D I h;refine wpAny_execs_cons (thn (h1 pins s τ G H D I h) λf s1 q=> ?_)
 cases f with
 | next=>exact lYu q
 | ret v=>exact q
 | brk=>exact q
 | cont=>exact q
theorem jK9(he:PE3 X e te)(hs:swapsWith e none pos.line X.env=pure false:=by rfl):PS3 X (.Expr e pos) (jQg te):=by
 intro pins s τ G H D I h;obtain⟨σ,I0,hs0,hg0⟩:=id I;exact wpAny_Expr_any (thn (he pins s τ G H _ I h) λv s1 w_=>w_.el λx G1 H1 e1 I1 r1 q1=>⟨τ,G1,H1,e1,I1,q1⟩) I0.quiet hs
theorem jJ3(he:PE3 X e te):PS3 X (.Return (some e) pos) (tRet te):=by
 intro pins s τ G H D I h;exact wpAny_Return_some (thn (he pins s τ G H _ I h) λv s1 w_=>w_.el λx G1 H1 e1 I1 r1 q1=>⟨x,τ,G1,H1,e1,I1,r1,q1⟩)
theorem s_if{c:Expr}{a b:List Stmt}{tc:TT3}(hc:PT3 X c tc)(ha:PSs3 X a t)(hb:PSs3 X b u):PS3 X (.If c a b pos) (tIfS tc t u):=by
 intro pins s τ G H D I h;refine wpAny_If (thn (hc pins s τ G H _ I h) λd s1 w_=>w_.el λG1 H1 e1 I1 q1=> ?_)
 cases d with
 | true=>exact thn (ha pins s1 τ G1 H1 D I1 q1) λ_ _ z=>z.ext e1
 | false=>exact thn (hb pins s1 τ G1 H1 D I1 q1) λ_ _ z=>z.ext e1
end
abbrev TG3:=T->St3->Gp->(St3->Gp->Prop)->Prop
abbrev TGs3:=List T->St3->Gp->(St3->Gp->Prop)->Prop
def GP3(X:Cx)(pins:List (Addr×Obj))(H:Hp)(Q:St3->Gp->Prop)(s':Shared):Prop:=∃ τ' G' H',Ext H H'/\Inv3 X pins τ' G' H' s'/\Q τ' G'
def PG3(X:Cx)(target:Expr)(t:TG3):Prop:=
 ∀(pins:List (Addr×Obj))(s:Shared)(τ:St3)(G:Gp)(H:Hp)(v:T)(u:Value)(Q:St3->Gp->Prop),Inv3 X pins τ G H s->RU X.K H v u->t v τ G Q->
  wpAny (model X.prog X.w) X.A (assign target X.env u) (λ_ s'=>GP3 X pins H Q s') X.xe s
def PGs3(X:Cx)(ts:List Expr)(t:TGs3):Prop:=
 ∀(pins:List (Addr×Obj))(s:Shared)(τ:St3)(G:Gp)(H:Hp)(vs:List T)(us:List Value)(Q:St3->Gp->Prop),Inv3 X pins τ G H s->RUs X.K H vs us->t vs τ G Q->
  wpAny (model X.prog X.w) X.A (assignInOrder ((assignEach ts X.env).map (·.2)) us) (λ_ s'=>GP3 X pins H Q s') X.xe s
def jJg(i:Nat):TG3:=λv τ G Q=>Q (τ.set i (some v)) G
def gNil:TGs3:=λvs τ G Q=>vs=[]/\Q τ G
def jKa(t:TG3)(u:TGs3):TGs3:=λvs τ G Q=>∃v r,vs=v::r/\t v τ G λτ' G'=>u r τ' G' Q
def gTup(n:Nat)(t:TGs3):TG3:=λv τ G Q=>∃xs,v= .tup xs/\xs.length=n/\t xs τ G Q
def gSub(to ti:TE3)(t:T->T->T->Gp->(Gp->Prop)->Prop):TG3:=λv τ G Q=>to τ G λo G1=>ti τ G1 λi G2=>t o i v G2 λG3=>Q τ G3
def tAsg(te:TE3)(g:TG3):TS3:=λD τ G=>te τ G λx G1=>g x τ G1 D.nx
section
variable {X:Cx}{pos:Pos}
theorem jJo{i:Nat}{x:Str}(hN:X.N.Nodup)(hi:X.N[i]? =some x:=by rfl)(hx:Loc X.env.scope x:=by first | exact Or.inl rfl | exact Or.inr rfl)(hf:X.fn x=true\/X.env.scope.names.lookup x=some .local:=by first | exact .inl rfl | exact .inr rfl):PG3 X (.Name x pos) (jJg i):=by
 rintro pins s τ G H v u Q ⟨σ,I,hs,hg⟩ ⟨a,ra,rv⟩ h;exact wpAny_assign_Name (jXi I hN hi hx rv (λs' I'=>⟨_,G,H,.refl H,⟨_,I',hs.set i ra,hg⟩,h⟩) hf)
theorem jQa:PGs3 X [] gNil:=by
 rintro pins s τ G H vs us Q I ⟨as,r,rv⟩ ⟨e,h⟩;subst e;cases (show as=[] from r)
 cases rv;exact assignInOrder_nil ⟨τ,G,H,.refl H,I,h⟩
theorem jJw{e:Expr}{es:List Expr}{t:TG3}{u:TGs3}(h1:PG3 X e t)(h2:PGs3 X es u)
  (hs:(assignEach (e::es) X.env).map (·.2)=assign e X.env::(assignEach es X.env).map (·.2):=by rfl):PGs3 X (e::es) (jKa t u):=by
 rintro pins s τ G H vs us Q I ⟨as,r,rv⟩ ⟨v,vr,e1,h⟩;subst e1;obtain⟨a,ar,rfl,ra,rar⟩:=r;cases rv with
 | cons q qq=>
  rw[hs];refine lZu (thn (h1 pins s τ G H v _ _ I ⟨a,ra,q⟩ h) λ_ s1 ⟨τ1,G1,H1,e1,I1,q1⟩=> ?_)
  exact thn (h2 pins s1 τ1 G1 H1 vr _ Q I1 ⟨ar,Reps.mono e1 _ rar,qq⟩ q1) λ_ s2 ⟨τ2,G2,H2,e2,z⟩=>⟨τ2,G2,H2,e1.trans e2,z⟩
theorem jUp{es:List Expr}{k:Nat}{t:TGs3}{n:Nat}(hc:X.calm=true)(h:PGs3 X es t)
  (hn:(assignEach es X.env).length=n:=by rfl) (hst:(assignEach es X.env).findIdx? (·.1)=none:=by rfl):PG3 X (.Tuple es k pos) (gTup n t):=by
 rintro pins s τ G H v u Q ⟨σ,I,hs,hg⟩ ⟨a,ra,rv⟩ ⟨xs,ev,hl,hw⟩;subst ev;obtain⟨p,vs,e1,h1,r1⟩:=(show ∃p vs,a= .ref p/\H p=some (.tup vs)/\Reps X.K H xs vs from ra)
 subst e1;cases rv;obtain⟨its,rv,ht,hz⟩:=I.tuple (.of h1);refine assign_Tuple_tuple (I.ok.hd hc) ht (by simp[hn,<-hl,r1.length,rv.length]) hst λh' hx=> ?_
 have I1:Inv X pins σ H {s with heap:=h'}:=I.kept (t':=s.toks) λb o e=>hx b o (lJt (lJl e)) e
 exact h pins _ τ G H xs _ Q ⟨σ,I1,hs,hg⟩ ⟨vs,r1,by simpa using rv⟩ hw
theorem jVk{o i:Expr}{to ti:TE3}{t:T->T->T->Gp->(Gp->Prop)->Prop}(ho:PE3 X o to)(hi:PE3 X i ti)(hs:Set3 X t)
  (ha:∀v,assign (.Subscript o i pos) X.env v=(do
   let ov <-holding [v] (eval o X.env)
   let iv <-holding [v,ov] (eval i X.env)
   standAt pos
   holding [v,ov,iv] (setItem ov iv v)
   release [v,ov,iv] []):=by intro _;rfl):PG3 X (.Subscript o i pos) (gSub to ti t):=by
 intro pins s τ G H v u Q I r h;rw[ha];refine lJa (lKw (thn (ho pins s τ G H _ I h) λov s1 w_=>w_.el λx G1 H1 e1 I1 r1 q1=> ?_))
 refine lJa (lKw (thn (hi pins s1 τ G1 H1 _ I1 q1) λiv s2 w_=>w_.el λy G2 H2 e2 I2 r2 q2=> ?_))
 refine lJa (lYv (lJa (lKw (thn (hs pins s2 τ G2 H2 x y v ov iv u _ I2 (r1.mono e2) r2 (r.mono (e1.trans e2)) q2) λ_ s3 ⟨G3,H3,e3,I3,q3⟩=> ?_))))
 exact wpAny_release ⟨τ,G3,H3,(e1.trans e2).trans e3,I3,q3⟩
theorem jU3{tg e:Expr}{te:TE3}{g:TG3}(he:PE3 X e te)(hg:PG3 X tg g)(hs:swapsWithSole [tg] e pos.line X.env=pure false:=by rfl)(hw:swappedStores [tg] e X.env=pure none:=by rfl)
  (h1:(assignEach [tg] X.env).map (·.2)=[assign tg X.env]:=by rfl):PS3 X (.Assign [tg] e pos) (tAsg te g):=by
 intro pins s τ G H D I h;refine wpAny_Assign_stores (thn (he pins s τ G H _ I h) λv s1 w_=>w_.el λx G1 H1 e1 I1 r1 q1=> ?_) hs hw
 rw[h1];exact thn (hg pins s1 τ G1 H1 x v _ I1 r1 q1) λ_ s2 ⟨τ2,G2,H2,e2,q⟩=>⟨τ2,G2,H2,e1.trans e2,q⟩
theorem jJu{i:Nat}{x:Str}{e:Expr}{te:TE3}{pos':Pos}(hN:X.N.Nodup)(he:PE3 X e te)(hi:X.N[i]? =some x:=by rfl)(hx:Loc X.env.scope x:=by first | exact Or.inl rfl | exact Or.inr rfl)
  (hs:swapsWith e (some (.Name x pos')) pos.line X.env=pure false:=by rfl) (hf:X.fn x=true\/X.env.scope.names.lookup x=some .local:=by first | exact .inl rfl | exact .inr rfl):
  PS3 X (.Assign [.Name x pos'] e pos) (tAsg te (jJg i)):=by
 intro pins s τ G H D I h;refine wpAny_Assign_Name (thn (he pins s τ G H _ I h) λv s1 w_=>w_.el λy G1 H1 e1 i_ r_ q1=>i_.el λσ I1 hs1 hg1=>r_.el λa ra rv=> ?_) hs
 exact jXi I1 hN hi hx rv (λs2 I2=>⟨_,G1,H1,e1,⟨_,I2,hs1.set i ra,hg1⟩,q1⟩) hf
def tPar(i j:Nat)(ta:TA3):TS3:=λD τ G=>ta τ G λvs G1=>∃v w,vs=[v,w]/\D.nx ((τ.set i (some v)).set j (some w)) G1
theorem uU1{i j:Nat}{x y:Str}{a b:Expr}{ta:TA3}{px py pt:Pos}{kt k2 pt2} (hc:X.calm=true) (hN:X.N.Nodup) (hij:i≠j) (ha:PA3 X [a,b] ta) (hi:X.N[i]? =some x:=by rfl) (hj:X.N[j]? =some y:=by rfl)
  (hx:X.env.scope.names.lookup x=some .local:=by rfl) (hy:X.env.scope.names.lookup y=some .local:=by rfl)
  (hw:swappedStores [.Tuple [.Name x px,.Name y py] kt pt] (.Tuple [a,b] k2 pt2) X.env=pure (some [x,y]):=by rfl)
  (hs:swapsWithSole [.Tuple [.Name x px,.Name y py] kt pt] (.Tuple [a,b] k2 pt2) pos.line X.env=pure false:=by rfl):
  PS3 X (.Assign [.Tuple [.Name x px,.Name y py] kt pt] (.Tuple [a,b] k2 pt2) pos) (tPar i j ta):=by
 intro pins s τ G H D I h;rw[exec_Assign_arm];refine lJa (lYv ?_);rw[hs];refine lJa (lJd ?_);rw[lJb (by decide)]
 refine lJa (Tuple_ (thn (ha _ pins s τ G H _ I h) λus s1 w_=>w_.el λvs G1 H1 e1 i_ r_ q1=>i_.el λσ I1 hs1 hg1=>r_.el λas ras rvs=> ?_))
 obtain⟨v,w,ev,q1⟩:=q1;subst ev;obtain⟨a1,a2,rfl,ra1,ra2⟩:=kXf ras;obtain⟨u1,u2,rfl,rv,rw'⟩:=rvs.two;refine lKl ?_ (by show 2<=sizeLine;decide)
 have I2:Inv X pins σ H1 {s1 with heap:=s1.heap.push {cls:= .type "tuple",data:= .seq [u1,u2].toArray} }:=I1.kept (t':=s1.toks) λb o e=>lJm _ e
 rw[hw];refine lJa (lJd ?_);show wpAny (model X.prog X.w) X.A (do rule "assign.swapped-stores"; let items <-unpackItems (.ref s1.heap.objs.size) 2 none;assignInOrder [λv=>bindName X.env y v,λv=>bindName X.env x v] items.reverse;pure Flow.next) _ _ _
 refine lJa (wpAny_rule (lJa (unpackItems_tuple (items:= #[u1,u2]) (I1.ok.hd hc) (IsTup.new s1.heap _) λh' hx'=> ?_)))
 have I3:=I2.kept (h':=h') (t':=s1.toks) λb o e=>hx' b o (lJt (lJl e)) e
 show wpAny _ _ (assignInOrder [λv=>bindName X.env y v,λv=>bindName X.env x v] [u2,u1] >>= λ_=>pure Flow.next) _ _ _
 refine lJa (lZu (wpAny_bindName (jXi I3 hN hj (.inl hy) rw' (λs2 I4=> ?_) (.inr hy))))
 refine lZu (wpAny_bindName (jXi I4 hN hi (.inl hx) rv (λs3 I5=>assignInOrder_nil (lJd ?_)) (.inr hx)))
 rw[List.set_comm _ _ (Ne.symm hij)] at I5;exact⟨_,G1,H1,e1,⟨_,I5,(hs1.set i ra1).set j ra2,hg1⟩,q1⟩
noncomputable def jUz(c:TT3)(tb:TS3):TS3:=λD τ G=>∃W:Nat->St3->Gp->Prop,(∃m,W m τ G)/\∀m τ G,W m τ G->
 c τ G λb G1=>if b=true then ∃N:St3->Gp->Prop,(∀ τ' G',N τ' G'->∃m',m'<m/\W m' τ' G')/\tb {D with nx:=N,ct:=N,bk:=D.nx} τ G1 else D.nx τ G1
theorem jZx{c:Expr}{body:List Stmt}{tc:TT3}{tb:TS3}(hp:PassesOwn (model X.prog X.w) X.A X.env X.xe)(hc:PT3 X c tc)(hb:PSs3 X body tb):PS3 X (.While c body [] pos) (jUz tc tb):=by
 intro pins s τ G H D I h;obtain⟨W,⟨m0,w0⟩,turn⟩:=h;refine wpAny_While (codeAny_whileLoop (λn s'=>∃ τ' G' H',Ext H H'/\Inv3 X pins τ' G' H' s'/\W n τ' G') ?_ m0 ⟨τ,G,H,.refl H,I,w0⟩)
 rintro n s1 ⟨τ1,G1,H1,e1,I1,w1⟩;refine lV1 hp (thn (hc pins s1 τ1 G1 H1 _ I1 (turn n τ1 G1 w1)) λb s2 w_=>w_.el λG2 H2 e2 I2 q2=> ?_)
 cases b with
 | true=>
  obtain⟨N,hN,q2⟩:=q2;rw[lJc rfl];refine lV1 hp (thn (hb pins s2 τ1 G2 H2 _ I2 q2) λf s3 q3=> ?_)
  cases f with
  | next=>
   obtain⟨τ3,G3,H3,e3,I3,n3⟩:=q3;obtain⟨m',hm,w3⟩:=hN τ3 G3 n3;exact⟨m',hm,τ3,G3,H3,(e1.trans e2).trans e3,I3,w3⟩
  | cont=>
   obtain⟨τ3,G3,H3,e3,I3,n3⟩:=q3;obtain⟨m',hm,w3⟩:=hN τ3 G3 n3;exact⟨m',hm,τ3,G3,H3,(e1.trans e2).trans e3,I3,w3⟩
  | brk=>exact SP3.ext (f:= .next) (e1.trans e2) q3
  | ret v=>exact SP3.ext (f:= .ret v) (e1.trans e2) q3
 | false=>
  rw[lJb lJo];exact lYu ⟨τ1,G2,H2,e1.trans e2,I2,q2⟩
end
def uUj(K:PySem.W.Frag)(H0:Hp)(J:It)(xs:List T)(stay:Gp->Prop):Prop:=
 ∀i H G,Ext H0 H->GRel K H G->stay G->(i<xs.length->J.go i H)/\(xs.length<=i->J.stop i H)/\(i<xs.length->∀x H',J.yld i H x H'->Ext H H'/\GRel K H' G/\∃t,xs[i]? =some t/\Rep K H' t x)
abbrev TI3:=St3->Gp->(List T->(Gp->Prop)->Gp->Prop)->Prop
def PIE3(X:Cx)(pins:List (Addr×Obj))(τ:St3)(H:Hp)(tg:Expr)(R:List T->(Gp->Prop)->Gp->Prop)(itv:Value)(s2:Shared):Prop:=
 ∃(it:Addr)(fp:List Addr)(tn:Nat->Heap->Prop)(J:It)(xs:List T)(stay:Gp->Prop)(G':Gp)(H':Hp),itv= .ref it/\Ext H H'/\Inv3 X pins τ G' H' s2/\Turn X.prog X.w X.K tg J fp it tn/\tn 0 s2.heap/\(∀b∈fp,FpOk X pins H' b)/\
  uUj X.K H' J xs stay/\R xs stay G'
def PI3(X:Cx)(tg iter:Expr)(wi:TI3):Prop:=
 ∀(pins:List (Addr×Obj))(s:Shared)(τ:St3)(G:Gp)(H:Hp)(R:List T->(Gp->Prop)->Gp->Prop),Inv3 X pins τ G H s->wi τ G R->
  wpAny (model X.prog X.w) X.A (eval iter X.env) (λv s1=>wpAny (model X.prog X.w) X.A (pyIter v) (PIE3 X pins τ H tg R) X.xe s1) X.xe s
noncomputable def tFor(wi:TI3)(g:TG3)(tb:TS3):TS3:=λD τ G=>wi τ G λxs stay G1=>∃P:Nat->St3->Gp->Prop,P 0 τ G1/\(∀i τ G,i<=xs.length->P i τ G->stay G)/\
 (∀i x τ G,xs[i]? =some x->P i τ G->g x τ G λτ2 G2=>tb {D with nx:=P (i+1),ct:=P (i+1),bk:=D.nx} τ2 G2)/\∀ τ G,P xs.length τ G->D.nx τ G
section
variable {X:Cx}{tg:Expr}{pos:Pos}
theorem jKn{iter:Expr}{body:List Stmt}{wi:TI3}{g:TG3}{tb:TS3}(hp:PassesOwn (model X.prog X.w) X.A X.env X.xe)(hc:X.calm=true)(hi:PI3 X tg iter wi)(hg:PG3 X tg g)(hb:PSs3 X body tb)
  (hs:∀x,foldedSetIterable iter X.env x=pure x:=by intro _;rfl):PS3 X (.For tg iter body [] pos) (tFor wi g tb):=by
 intro pins s τ G H D I h;refine wpAny_For (thn (hi pins s τ G H _ I h) λv s1 h1=>thn h1 λitv s2 h2=> ?_) hs
 obtain⟨it,fp,tn,J,xs,stay,G2,H2,e,eH,I2,T0,st2,f2,IT,P,p0,hstay,turn,fin⟩:=h2;subst e;have stat:∀{H':Hp},(∀b∈fp,H' b=none)->∀b∈fp,FpOk X pins H' b:=λhn b hb=>⟨hn b hb,(f2 b hb).2⟩
 refine codeAny_forLoop_any (λn s'=>∃i τ' G' H',n=xs.length-i/\i<=xs.length/\Ext H2 H'/\Inv3 X pins τ' G' H' s'/\tn i s'.heap/\(∀b∈fp,H' b=none)/\P i τ' G') ?_ xs.length ⟨0,τ,G2,H2,rfl,lJx _,.refl _,I2,st2,λb hb=>(f2 b hb).1,p0⟩
 rintro n s3 ⟨i,τ3,G3,H3,en,hi3,e3,⟨σ3,I3,hs3,hg3⟩,st3,fr3,p3⟩;obtain⟨go,stop,yl⟩:=IT i H3 G3 e3 hg3 (hstay i τ3 G3 hi3 p3)
 by_cases hlt:i<xs.length
 .refine lV1 hp (thn (T0.item X rfl rfl rfl hc i pins s3 σ3 H3 X.xe I3 (stat fr3) st3 (go hlt)) λr s4 ⟨u,hr,h4⟩=> ?_)
  subst hr;refine lV1 hp (thn h4 λ_ s5 ⟨x,H5,I5,r5,y5,st5,fr5⟩=> ?_)
  obtain⟨e5,g5,t,ht,rt⟩:=yl hlt x H5 y5;have I5':=I5.pinned (stat fr5) (T0.obj _ _ st5);refine lV1 hp (thn (hg _ s5 τ3 G3 H5 t u _ ⟨σ3,I5',hs3.mono e5,g5⟩ ⟨x,rt,r5⟩ (turn i t τ3 G3 ht p3)) λ_ s6 ⟨τ6,G6,H6,e6,I6,q6⟩=> ?_)
  refine lV1 hp (thn (hb _ s6 τ6 G6 H6 _ I6 q6) λf s7 q7=> ?_)
  have e36:Ext H2 H6:=(e3.trans e5).trans e6
  have again:∀{τ7:St3}{G7:Gp}{H7:Hp},Ext H6 H7->Inv3 X (pins++jVz fp s5.heap) τ7 G7 H7 s7->P (i+1) τ7 G7->
    ∃m,m<n/\∃i τ' G' H',m=xs.length-i/\i<=xs.length/\Ext H2 H'/\Inv3 X pins τ' G' H' s7/\tn i s7.heap/\(∀b∈fp,H' b=none)/\P i τ' G':=λ{τ7 G7 H7} e7 ⟨σ7,I7,hs7,hg7⟩ p7=>by
   refine⟨xs.length-(i+1),by omega,i+1,τ7,G7,H7,rfl,hlt,e36.trans e7,⟨σ7,I7.unpinned,hs7,hg7⟩,T0.keep _ _ _ st5 λb hb o e=>(I7.pin (b,o) (lKs _ (lKs _ (jVp hb e)))).1,λb hb=> ?_,p7⟩
   obtain⟨o,e,d⟩:=T0.obj _ _ st5 b hb;exact (I7.pin (b,o) (lKs _ (lKs _ (jVp hb e)))).2.1
  have un:∀{τ7:St3}{G7:Gp}{H7:Hp},Inv3 X (pins++jVz fp s5.heap) τ7 G7 H7 s7->Inv3 X pins τ7 G7 H7 s7:=λ⟨σ7,I7,a,b⟩=>⟨σ7,I7.unpinned,a,b⟩
  cases f with
  | next=>obtain⟨τ7,G7,H7,e7,I7,n7⟩:=q7;exact again e7 I7 n7
  | cont=>obtain⟨τ7,G7,H7,e7,I7,n7⟩:=q7;exact again e7 I7 n7
  | brk=>obtain⟨τ7,G7,H7,e7,I7,q7⟩:=q7;exact⟨τ7,G7,H7,(eH.trans e36).trans e7,un I7,q7⟩
  | ret v=>obtain⟨x7,τ7,G7,H7,e7,I7,r7,q7⟩:=q7;exact⟨x7,τ7,G7,H7,(eH.trans e36).trans e7,un I7,r7,q7⟩
 .have ei:i=xs.length:=by omega
  refine lV1 hp (thn (T0.done X rfl rfl rfl hc i pins s3 σ3 H3 X.xe I3 (stat fr3) st3 (stop (by omega))) λr s4 ⟨hr,I4⟩=> ?_)
  subst hr;subst ei;exact lYu ⟨τ3,G3,H3,eH.trans e3,⟨σ3,I4,hs3,hg3⟩,fin τ3 G3 p3⟩
def iSeq(tl:TE3):TI3:=λτ G R=>tl τ G λx G1=>∃xs,seqT G1 x=some xs/\R xs (λG'=>seqT G' x=some xs) G1
theorem jQ1{l:Expr}{tl:TE3}(hl:PE3 X l tl):PI3 X tg l (iSeq tl):=by
 intro pins s τ G H R I h;refine thn (hl pins s τ G H _ I h) λv s1 w_=>w_.el λx G1 H1 e1 i_ r_ ⟨xs,hx,q⟩=>i_.el λσ I1 hs1 hg1=>r_.el λa ra rv=> ?_
 obtain⟨p,vs,e,hq,r⟩:=jUm hg1 ra hx;subst e;cases rv
 have fpk:∀b∈[s1.heap.objs.size],FpOk X pins H1 b:=λb hb=>by
  have e:b=s1.heap.objs.size:=by simpa using hb
  subst e;exact I1.fpOk (lJh _) (I1.hok.fresh (lJh _))
 rcases hq with hq | hq
 .obtain⟨its,rv,pl,hz⟩:=I1.list hq;refine lZv pl.isList ?_;refine⟨s1.heap.objs.size,[s1.heap.objs.size],_,_,xs,λG'=>seqT G' x=some xs,G1,H1,rfl,e1,⟨σ,I1.kept (t':=s1.toks) λb o e=>lJm _ e,hs1,hg1⟩,qKy p _,⟨_,lJz _ rfl,rfl,rfl⟩,fpk,?_,q⟩
  intro i H2 G2 e2 g2 st;have ra2:=Rep.mono e2 _ ra
  have now:∃ws,SqL X.K H2 p ws/\Reps X.K H2 xs ws:=by
   cases x with
   | scr ys=>cases hx;obtain⟨p',ws,ep,h1,h2⟩:=(show ∃p' ws,V.ref p= .ref p'/\FrL X.K H2 p' ws/\Reps X.K H2 xs ws from ra2);cases ep;exact⟨ws,h1.sq,h2⟩
   | ref p'=>cases (show V.ref p= .ref p' from ra);obtain⟨ws,h1,h2⟩:=g2.lst (jX5 st);exact⟨ws,.of h1,h2⟩
   | tup ys=>
    obtain⟨p',ws,ep,h1,h2⟩:=(show ∃p' ws,V.ref p= .ref p'/\H1 p'=some (.tup ws)/\Reps X.K H1 ys ws from ra)
    cases ep
    exfalso
    obtain⟨its',_,pl',_⟩:=I1.tuple (.of h1);obtain⟨o,n,ho,hc,_⟩:=pl;obtain⟨o',ho',hc',_⟩:=pl';rw[ho] at ho';cases ho';rw[hc] at hc';exact absurd hc' (by decide)
   | non=>cases hx
   | bl _=>cases hx
   | int _=>cases hx
   | str _=>cases hx
   | ty _=>cases hx
  obtain⟨ws,h1,h2⟩:=now;have hlen:=h2.length;refine⟨λhi=> ?_,λhi=>⟨ws,h1,by omega⟩,λ_ y H' ⟨eH,hy⟩=> ?_⟩
  .exact⟨ws,ws[i]'(by omega),h1,by simp[hlen▸hi]⟩
  .subst eH;obtain⟨t,ht,rt⟩:=h2.get' (hy ws h1);exact⟨.refl _,g2,t,ht,rt⟩
 .obtain⟨its,rv,pl,hz⟩:=I1.tuple hq;refine lZw (show s1.heap.IsTuple p its.toArray from pl) ?_
  refine⟨s1.heap.objs.size,[s1.heap.objs.size],_,_,xs,λG'=>seqT G' x=some xs,G1,H1,rfl,e1,⟨σ,I1.kept (t':=s1.toks) λb o e=>lJm _ e,hs1,hg1⟩,qJk p _,⟨_,lJz _ rfl,rfl,rfl⟩,fpk,?_,q⟩
  intro i H2 G2 e2 g2 st;have ra2:=Rep.mono e2 _ ra
  have now:∃ws,H2 p=some (.tup ws)/\Reps X.K H2 xs ws:=by
   cases x with
   | tup ys=>cases hx;obtain⟨p',ws,ep,h1,h2⟩:=(show ∃p' ws,V.ref p= .ref p'/\H2 p'=some (.tup ws)/\Reps X.K H2 xs ws from ra2);cases ep;exact⟨ws,h1,h2⟩
   | scr ys=>
    obtain⟨p',ws,ep,h1,h2⟩:=(show ∃p' ws,V.ref p= .ref p'/\FrL X.K H1 p' ws/\Reps X.K H1 ys ws from ra)
    cases ep
    exfalso
    obtain⟨its',_,pl',_⟩:=I1.list h1.sq;obtain⟨o,n,ho,hc,_⟩:=pl';obtain⟨o',ho',hc',_⟩:=pl;rw[ho] at ho';cases ho';rw[hc] at hc';exact absurd hc' (by decide)
   | ref p'=>
    cases (show V.ref p= .ref p' from ra)
    obtain⟨ws,h1,h2⟩:=hg1.lst (jX5 hx)
    exfalso
    obtain⟨its',_,pl',_⟩:=I1.list (.of h1);obtain⟨o,n,ho,hc,_⟩:=pl';obtain⟨o',ho',hc',_⟩:=pl;rw[ho] at ho';cases ho';rw[hc] at hc';exact absurd hc' (by decide)
   | non=>cases hx
   | bl _=>cases hx
   | int _=>cases hx
   | str _=>cases hx
   | ty _=>cases hx
  obtain⟨ws,h1,h2⟩:=now;have hlen:=h2.length;refine⟨λhi=> ?_,λhi=>⟨ws,.of h1,by omega⟩,λ_ y H' ⟨eH,hy⟩=> ?_⟩
  .exact⟨ws,ws[i]'(by omega),.of h1,by simp[hlen▸hi]⟩
  .subst eH;obtain⟨t,ht,rt⟩:=h2.get' (hy ws (.of h1));exact⟨.refl _,g2,t,ht,rt⟩
def rngT(lo:Int)(n:Nat):List T:=(List.range n).map λ(k:Nat)=>T.int (lo+k)
def jJ1(ta:TA3):TI3:=λτ G R=>ta τ G λvs G1=>∃j:Int,vs=[.int j]/\ -(2^62)<=j/\j<2^62/\R (rngT 0 j.toNat) (λ_=>True) G1
def kVn(ta:TA3):TI3:=λτ G R=>ta τ G λvs G1=>∃i j:Int,vs=[.int i,.int j]/\(-(2^62)<=i/\i<2^62/\ -(2^62)<=j/\j<2^62)/\R (rngT i (j-i).toNat) (λ_=>True) G1
theorem kVk{K:PySem.W.Frag}{H:Hp}(lo:Int)(n:Nat):uUj K H (Itr lo n) (rngT lo n) λ_=>True:=by
 intro i H' G e g _;have hl:(rngT lo n).length=n:=by simp[rngT]
 refine⟨λh=>by rw[hl] at h;exact h,λh=>by rw[hl] at h;exact h,λhi x H2 ⟨eH,ex⟩=> ?_⟩
 rw[hl] at hi;subst eH;subst ex;exact⟨.refl _,g,.int (lo+i),by simp[rngT,hi],rfl⟩
theorem jJ0{a:Expr}{ta:TA3}{p:Pos}(hg:Gl X "range")(hm:X.mg "range"=none)(ha:PA3 X [a] ta)(hs:starEach [a] X.env=[(false,eval a X.env)]:=by rfl):PI3 X tg (.Call (.Name "range" p) [a] [] pos) (jJ1 ta):=by
 intro pins s τ G H R I h;obtain⟨σ,I0,hs0,hg0⟩:=id I;refine Call_ (jUe I0 hg hm boot_range (lQj (thn (ha pos pins s τ G H _ I h) λus s1 w_=>w_.el λxs G1 H1 e1 i_ r_ q1=>i_.el λσ I1 hs1 hg1=>r_.el λas ras rvs=> ?_) hs rfl))
 obtain⟨j,e,q1,q2,q⟩:=q1;subst e;obtain⟨v,rfl,rv⟩:=jUn ras;cases (show v= .int j from rv)
 obtain⟨u,rfl,ru⟩:=rvs.one;obtain⟨t,rfl⟩:=ru;refine call_range_1 (thn (kZd (tg:=tg) (R:=λJ H'=>J=Itr 0 j.toNat/\H'=H1) I1 (by omega) (by omega) q1 q2 ⟨by simp,rfl⟩) λitv s2 z=> ?_)
 obtain⟨it,fp,tn,J,H',ei,I2,T0,st,fk,eJ,eH⟩:=z;subst eJ;subst eH;exact⟨it,fp,tn,_,rngT 0 j.toNat,λ_=>True,G1,H',ei,e1,⟨σ,I2,hs1,hg1⟩,T0,st,fk,kVk 0 j.toNat,q⟩
theorem kUc{a b:Expr}{ta:TA3}{p:Pos}(hg:Gl X "range")(hm:X.mg "range"=none)(ha:PA3 X [a,b] ta)(hs:starEach [a,b] X.env=[(false,eval a X.env),(false,eval b X.env)]:=by rfl)(hs2:starEach [b] X.env=[(false,eval b X.env)]:=by rfl):
  PI3 X tg (.Call (.Name "range" p) [a,b] [] pos) (kVn ta):=by
 intro pins s τ G H R I h;obtain⟨σ,I0,hs0,hg0⟩:=id I;refine Call_ (jUe I0 hg hm boot_range (lQj (thn (ha pos pins s τ G H _ I h) λus s1 w_=>w_.el λxs G1 H1 e1 i_ r_ q1=>i_.el λσ I1 hs1 hg1=>r_.el λas ras rvs=> ?_) (by rw[hs,hs2]) (by rw[hs2];rfl)))
 obtain⟨i,j,e,⟨q1,q2,q3,q4⟩,q⟩:=q1;subst e;obtain⟨v,w,rfl,rv,rw'⟩:=kXf ras;cases (show v= .int i from rv);cases (show w= .int j from rw')
 obtain⟨u,u',rfl,ru,ru'⟩:=rvs.two;obtain⟨t,rfl⟩:=ru;obtain⟨t',rfl⟩:=ru';refine call_range_2 (thn (kZd (tg:=tg) (R:=λJ H'=>J=Itr i (j-i).toNat/\H'=H1) I1 q1 q2 q3 q4 ⟨rfl,rfl⟩) λitv s2 z=> ?_)
 obtain⟨it,fp,tn,J,H',ei,I2,T0,st,fk,eJ,eH⟩:=z;subst eJ;subst eH;exact⟨it,fp,tn,_,rngT i (j-i).toNat,λ_=>True,G1,H',ei,e1,⟨σ,I2,hs1,hg1⟩,T0,st,fk,kVk i (j-i).toNat,q⟩
end
abbrev Sp3:=List T->Gp->VK3->Prop
def dn(K:PySem.W.Frag)(n:Nat)(sp:Sp3):Sp:=λvs H Q _=>vs.length=n/\∃xs G,Reps K H xs vs/\GRel K H G/\sp xs G λt G'=>∀v H',Ext H H'->GRel K H' G'->Rep K H' t v->Q v H'
def Fn3(P:Program)(w:World)(K:PySem.W.Frag)(mg:Str->Option Value)(base:Heap)(k:Nat)(f:Addr)(fd:FuncData)(ps:List Str)(sp:Sp3):Prop:=FnOk P w K mg base CX0 k f fd ps (dn K ps.length sp)
def jJs(sp:Sp3)(t:TA3):TE3:=λτ G Q=>t τ G λxs G1=>sp xs G1 Q
def Mono(sp:Sp3):Prop:=∀xs G Q Q',(∀t G',Q t G'->Q' t G')->sp xs G Q->sp xs G Q'
def jZs(N:List Str)(xs:List T):St3:=xs.map some++List.replicate (N.length-xs.length) none
theorem qK4{K:PySem.W.Frag}{H:Hp}{N:List Str}{xs:List T}{vs:List V}(r:Reps K H xs vs):SRel K H (start N vs) (jZs N xs):=by
 have hl:=r.length;refine⟨by simp[L2.start,jZs,hl],λi t h=> ?_⟩
 unfold jZs at h;unfold L2.start
 by_cases hi:i<xs.length
 .rw[lJ9 (by simpa using hi),lJj] at h
  cases e:xs[i]? with
  | none=>rw[e] at h;cases h
  | some x=>
   rw[e] at h;cases h;obtain⟨v,hv,rv⟩:=r.get e;exact⟨v,by rw[lJ9 (by simp;omega),lJj,hv];rfl,rv⟩
 .rw[lQe (by simpa using hi),lXp] at h
  split at h<;>cases h
theorem fn3{P:Program}{w:World}{K:PySem.W.Frag}{mg:Str->Option Value}{base:Heap}{x qual:Str}{st:Stmt}{f:Addr}{fd:FuncData}{N ps:List Str}{k:Nat}{sp:Sp3}(F:Fun K x qual st f fd)(S:FnScope N ps (jKj st))
  (hbody:∀(cdv:Value)(A:Around)(outer:List Env)(s:Shared)(H:Hp)(E:XK),Room k (A.deeper (envOfC qual (jKj st) s.heap.objs.size f cdv))->
   ∃t,PSs3 (cxOf CX0 P w K mg base N qual (jKj st) f cdv A outer s H E).nox (jUy st) t/\∀xs G Q,sp xs G Q->t {nx:=λ_ G'=>Q .non G',rt:=Q} (jZs N xs) G):Fn3 P w K mg base (k+1) f fd ps sp:=by
 refine Fun.ok (sp:=dn K ps.length sp) F S (λvs H Q E h=>h.1) λcdv A outer s H vs Q E hr hsp=> ?_
 obtain⟨t,ht,hq⟩:=hbody cdv A outer s H E hr;obtain⟨hl,xs,G,rs,hg,hsp⟩:=hsp;refine⟨λD σ H1=>D.nx=(λ_ H'=>Q .non H')/\D.rt=Q/\σ=L2.start N vs/\H1=H,?_,rfl,rfl,rfl,rfl⟩
 rintro pins s1 σ1 H1 D I ⟨e1,e2,e3,e4⟩;subst e3;subst e4;have I3:Inv3 (cxOf CX0 P w K mg base N qual (jKj st) f cdv A outer s H1 E).nox pins (jZs N xs) G H1 s1:=⟨_,I,qK4 rs,hg⟩;refine thn (ht pins s1 _ G H1 _ I3 (hq xs G _ hsp)) λfl s2 z=> ?_
 cases fl with
 | next=>obtain⟨τ',G',H',e',⟨σ',I',a,b⟩,q⟩:=z;exact⟨σ',H',I',by rw[e1];exact q .non H' e' b rfl⟩
 | brk=>obtain⟨τ',G',H',e',_,q⟩:=z;exact q.elim
 | cont=>obtain⟨τ',G',H',e',_,q⟩:=z;exact q.elim
 | ret u=>obtain⟨x',τ',G',H',e',⟨σ',I',a,b⟩,⟨v,rv,ru⟩,q⟩:=z;exact⟨v,σ',H',I',ru,by rw[e2];exact q v H' e' b rv⟩
mutual
noncomputable def dep:T->Nat
 | .tup xs=>deps xs+1
 | _=>0
noncomputable def deps:List T->Nat
 | []=>0
 | x::xs=>max (dep x) (deps xs)
end
mutual
noncomputable def tree:T->Bool
 | .tup xs=>jQd xs
 | .ref _=>false
 | .scr _=>false
 | .ty _=>false
 | .non=>true
 | .bl _=>true
 | .int _=>true
 | .str _=>true
noncomputable def jQd:List T->Bool
 | []=>true
 | x::xs=>tree x&&jQd xs
end
mutual
noncomputable def eqT:T->T->Bool
 | .non,.non=>true
 | .bl a,.bl b=>a == b
 | .bl a,.int b=>(if a then 1 else 0) == b
 | .int a,.bl b=>a == (if b then 1 else 0)
 | .int a,.int b=>a == b
 | .str a,.str b=>a == b
 | .tup xs,.tup ys=>eqTs xs ys
 | _,_=>false
noncomputable def eqTs:List T->List T->Bool
 | [],[]=>true
 | x::xs,y::ys=>eqT x y&&eqTs xs ys
 | [],_::_=>false
 | _::_,[]=>false
end
mutual
theorem qZk{K:PySem.W.Frag}{H:Hp}:∀(x y:T){a:V},tree x=true->tree y=true->Rep K H x a->Rep K H y a->eqT x y=true
 | .non,y,a,hx,hy,r,q=>by
  cases (show a= .non from r)
  cases y<;>first | rfl | (exact absurd (show false=true from hy) lJo) | (cases (show V.non=_ from q)) | (obtain⟨_,_,e,_⟩:=(show ∃c vs,V.non= .ref c/\_ from q);cases e)
 | .bl b,y,a,hx,hy,r,q=>by
  cases (show a= .bl b from r)
  cases y with
  | bl c=>cases (show V.bl b=V.bl c from q);simp[eqT]
  | tup ys=>obtain⟨_,_,e,_⟩:=(show ∃c vs,V.bl b= .ref c/\_ from q);cases e
  | non=>cases (show V.bl b= .non from q)
  | int c=>cases (show V.bl b= .int c from q)
  | str c=>cases (show V.bl b= .str c from q)
  | _=>exact absurd (show false=true from hy) lJo
 | .int b,y,a,hx,hy,r,q=>by
  cases (show a= .int b from r)
  cases y with
  | int c=>cases (show V.int b=V.int c from q);simp[eqT]
  | tup ys=>obtain⟨_,_,e,_⟩:=(show ∃c vs,V.int b= .ref c/\_ from q);cases e
  | non=>cases (show V.int b= .non from q)
  | bl c=>cases (show V.int b= .bl c from q)
  | str c=>cases (show V.int b= .str c from q)
  | _=>exact absurd (show false=true from hy) lJo
 | .str b,y,a,hx,hy,r,q=>by
  cases (show a= .str b from r)
  cases y with
  | str c=>cases (show V.str b=V.str c from q);simp[eqT]
  | tup ys=>obtain⟨_,_,e,_⟩:=(show ∃c vs,V.str b= .ref c/\_ from q);cases e
  | non=>cases (show V.str b= .non from q)
  | bl c=>cases (show V.str b= .bl c from q)
  | int c=>cases (show V.str b= .int c from q)
  | _=>exact absurd (show false=true from hy) lJo
 | .tup xs,y,a,hx,hy,r,q=>by
  obtain⟨p,vs,e,h1,h2⟩:=(show ∃p vs,a= .ref p/\H p=some (.tup vs)/\Reps K H xs vs from r)
  subst e;cases y with
  | tup ys=>
   obtain⟨p',vs',e',h1',h2'⟩:=(show ∃p' vs',V.ref p= .ref p'/\H p'=some (.tup vs')/\Reps K H ys vs' from q)
   cases e';rw[h1] at h1';cases h1';exact kVp xs ys (show jQd xs=true from hx) (show jQd ys=true from hy) h2 h2'
  | non=>cases (show V.ref p= .non from q)
  | bl c=>cases (show V.ref p= .bl c from q)
  | int c=>cases (show V.ref p= .int c from q)
  | str c=>cases (show V.ref p= .str c from q)
  | _=>exact absurd (show false=true from hy) lJo
 | .ref _,_,_,hx,_,_,_=>absurd (show false=true from hx) lJo
 | .scr _,_,_,hx,_,_,_=>absurd (show false=true from hx) lJo
 | .ty _,_,_,hx,_,_,_=>absurd (show false=true from hx) lJo
theorem kVp{K:PySem.W.Frag}{H:Hp}:∀(xs ys:List T){vs:List V},jQd xs=true->jQd ys=true->Reps K H xs vs->Reps K H ys vs->eqTs xs ys=true
 | [],ys,_,_,_,r,q=>by
  cases r;cases ys with
  | nil=>rfl
  | cons y ys=>obtain⟨_,_,e,_⟩:=q;cases e
 | x::xs,ys,_,hx,hy,⟨v,ws,e,r1,r2⟩,q=>by
  subst e;cases ys with
  | nil=>cases q
  | cons y ys=>
   obtain⟨v',ws',e',q1,q2⟩:=q;cases e';have hx':tree x=true/\jQd xs=true:=by simpa[jQd] using hx
   have hy':tree y=true/\jQd ys=true:=by simpa[jQd] using hy
   show (eqT x y&&eqTs xs ys)=true
   rw[qZk x y hx'.1 hy'.1 r1 q1,kVp xs ys hx'.2 hy'.2 r2 q2];rfl
end
section
variable {X:Cx}
def rSub:R3:=rI0 λi j=> .int (i-j)
def rMod:R3:=rI (λ_ j=>0<j) λi j=> .int (i%j)
def uVc:R3:=rI CDiv λi j=> .int (i / j)
def rPow:R3:=rI CPow λi j=> .int (i^j.toNat)
def rLt:R3:=rI0 λi j=> .bl (decide (i<j))
def rGt:R3:=rI0 λi j=> .bl (decide (j<i))
def rGe:R3:=rI0 λi j=> .bl (decide (j<=i))
def rIsN:R3:=λx y G Q=>y= .non/\Q (.bl (kKg x)) G
def jZ7:R3:=λx y G Q=>y= .non/\Q (.bl (!kKg x)) G
def qX6:R3:=λx y G Q=>∃xs ys,x= .tup xs/\y= .tup ys/\xs≠[]/\xs.length+ys.length<=sizeLine/\Q (.tup (xs++ys)) G
theorem uVw:Op3 X (binaryOp .Add) qX6:=
 Op3.of uK4 λH G x y a b Q hg ra rb ⟨xs,ys,ex,ey,hx,hz,q⟩=>by
  subst ex;subst ey;obtain⟨p,vs,e1,h1,h2⟩:=(show ∃p vs,a= .ref p/\H p=some (.tup vs)/\Reps X.K H xs vs from ra)
  obtain⟨p',ws,e2,h3,h4⟩:=(show ∃p vs,b= .ref p/\H p=some (.tup vs)/\Reps X.K H ys vs from rb)
  subst e1;subst e2;have l1:=h2.length;have l2:=h4.length;refine⟨p,p',vs,ws,rfl,rfl,.of h1,.of h3,λz=>hx ?_,by omega,λz=> ?_,λz l hl=> ?_⟩
  .rw[z] at l1;exact lQg.mp l1
  .rw[z] at l2;have:ys=[]:=lQg.mp l2;subst this;exact⟨.tup (xs++[]),G,.refl H,hg,by rw[lQ2];exact ra,q⟩
  .exact⟨.tup (xs++ys),G,.upd (.none hl),hg.tupNew hl,Rep.tupNew (h2.append h4) hl,q⟩
def uYd:R3:=rI0 λi j=> .int (i+j)
def uVf:R3:=λx y G Q=>uYd x y G Q\/rCat x y G Q\/qX6 x y G Q
theorem o_addA:Op3 X (binaryOp .Add) uVf:=o_add.or (o_cat.or uVw)
def uYc:R3:=rI CMul λi j=> .int (i*j)
def uVb:R3:=λx y G Q=>uYc x y G Q\/rRep x y G Q
theorem o_mulA:Op3 X (binaryOp .Mult) uVb:=o_mul.or uYn
def rNeg:T->Gp->VK3->Prop:=λx G Q=>∃i,x= .int i/\Q (.int (-i)) G
theorem qXh:Un3 X (unaryOp .USub) rNeg:=
 Un3.of uUq λH G x a Q hg ra ⟨i,e,q⟩=>by
  subst e;cases (show a= .int i from ra)
  exact⟨i,rfl,.int (-i),G,.refl H,hg,rfl,q⟩
theorem jJq(b:Expr){op:CmpOp}(h:behindInMarks op b=false:=by first | exact uVz _ | with_unfolding_all rfl):behindInMarks op b=false:=h
variable {a b c:Expr}{ta tb tc:TE3}{pos:Pos}
theorem qK1{op op':CmpOp}{r r':R3}(ho:Op3 X (compareOp op) r)(ho':Op3 X (compareOp op') r')(ha:PE3 X a ta)(hb:PE3 X b tb)(hc:PE3 X c tc)
  (hm:lastMarks [op,op'] [b,c]=false:=by with_unfolding_all rfl):PT3 X (.Compare a [op,op'] [b,c] pos) (jJx (kKl r r' ta tb tc)):=by
 intro pins s τ G H Q I h
 refine isTrue_chain (thn (ha pins s τ G H _ I h) λv s1 w_=>w_.el λx G1 H1 e1 I1 r1 q1=>test_link (thn (hb pins s1 τ G1 H1 _ I1 q1) λu s2 ⟨y,G2,H2,e2,I2,r2,q2⟩=>
  thn (ho pins s2 τ G2 H2 x y v u _ I2 (r1.mono e2) r2 q2) λd s3 w_=>w_.el λz G3 H3 e3 I3 r_ ⟨k,e,q3⟩=>r_.el λv' rv' ru'=> ?_)) hm
 subst e;cases (show v'= .bl k from rv');cases ru'
 refine lVo ?_;cases k with
 | false=>
  obtain⟨k',e',q'⟩:=q3;cases e';exact ite_ff ⟨G3,H3,(e1.trans e2).trans e3,I3,q'⟩
 | true=>
  refine ite_tt (test_last (thn (hc pins s3 τ G3 H3 _ I3 q3) λw' s4 w_=>w_.el λz' G4 H4 e4 I4 r4 q4=>thn (ho' pins s4 τ G4 H4 y z' u w' _ I4 (r2.mono (e3.trans e4)) r4 q4) λd' s5 w_=>w_.el λz2 G5 H5 e5 I5 r_ ⟨k2,e2',q5⟩=>r_.el λv2 rv2 ru2=> ?_))
  subst e2';cases (show v2= .bl k2 from rv2);cases ru2
  exact lVo ⟨G5,H5,(((e1.trans e2).trans e3).trans e4).trans e5,I5,q5⟩
mutual
noncomputable def td:T->PyData
 | .tup xs=> .tuple (tds xs)
 | .int i=> .int i
 | .bl b=> .bool b
 | .str x=> .str x
 | .non=> .none
 | .ref _=> .none
 | .scr _=> .none
 | .ty _=> .none
noncomputable def tds:List T->List PyData
 | []=>[]
 | x::xs=>td x::tds xs
end
def eqOk(x:T):Bool:=tree x&&(td x).canLay0&&decide ((td x).depth<=50)
def jYu(xs:List T):Bool:=jQd xs&&PyData.canLayAll0 (tds xs)&&decide ((PyData.list (tds xs)).depth<=50)
noncomputable def eqG(G:Gp)(x y:T):Option Bool:=match x,y with
 | .ref p,.ref q=>match G p,G q with
  | some (.lst xs),some (.lst ys)=>if jYu xs=true/\jYu ys=true then some (eqTs xs ys) else none
  | _,_=>none
 | _,_=>if eqOk x=true/\eqOk y=true then some (eqT x y) else none
def rEqA:R3:=λx y G Q=>∃b,eqG G x y=some b/\Q (.bl b) G
def rNeA:R3:=λx y G Q=>∃b,eqG G x y=some b/\Q (.bl (!b)) G
noncomputable def truT(G:Gp):T->Option Bool
 | .non=>some false
 | .bl b=>some b
 | .int i=>some (i != 0)
 | .tup xs=>some (!xs.isEmpty)
 | .ref p=>match G p with
  | some (.lst xs)=>some (!xs.isEmpty)
  | some (.dck kvs)=>some (!kvs.isEmpty)
  | _=>none
 | _=>none
def rTru:T->Gp->(Bool->Gp->Prop)->Prop:=λx G Q=>∃b,truT G x=some b/\Q b G
theorem jY1{K:PySem.W.Frag}{H:Hp}{xs:List T}{vs:List V}(r:Reps K H xs vs):xs.isEmpty=vs.isEmpty:=by
 have:=r.length;cases xs<;>cases vs<;>simp_all
theorem kQa:Tru3 X rTru:=
 Tru3.of uUs λH G x a Q hg ra ⟨b,hb,q⟩=>by
  refine⟨b,?_,rfl,q⟩;cases x with
  | non=>cases (show a= .non from ra);cases hb;rfl
  | bl k=>cases (show a= .bl k from ra);cases hb;rfl
  | int k=>cases (show a= .int k from ra);cases hb;rfl
  | tup xs=>
   obtain⟨p,vs,e1,h1,h2⟩:=(show ∃p vs,a= .ref p/\H p=some (.tup vs)/\Reps X.K H xs vs from ra)
   subst e1;cases hb;exact .inr (.inl ⟨vs,.of h1,by rw[jY1 h2]⟩)
  | ref p=>
   cases (show a= .ref p from ra)
   cases hG:G p with
   | none=>simp only[truT,hG] at hb;cases hb
   | some o=>
    simp only[truT,hG] at hb;cases o with
    | lst xs=>cases hb;obtain⟨vs,h1,h2⟩:=hg.lst hG;exact .inl ⟨vs,.of h1,by rw[jY1 h2]⟩
    | dct _=>cases hb
    | fdc _=>cases hb
    | ins _ _=>cases hb
    | dck kvs=>
     cases hb;obtain⟨ws,h1,h2⟩:=hg p _ hG;refine .inr (.inr ⟨ws,h1,?_⟩);cases h2<;>rfl
  | str _=>cases hb
  | scr _=>cases hb
  | ty _=>cases hb
end
section
variable {X:Cx}{pins:List (Addr×Obj)}{σ:L2.St}{H:Hp}{s:Shared}{h':Heap}
theorem qKx{t':Nat}{fp:List Addr}(I:Inv X pins σ H s)(k:∀b o,b∉fp->s.heap.get? b=some o->h'.get? b=some o)(hf:∀b∈fp,FpOk X pins H b):Inv X pins σ H {s with heap:=h',toks:=t'}:=by
 have nit:∀b u,H b=some u->b∉fp:=λb u e z=>by rw[(hf b z).1] at e;cases e
 refine I.step (g':=s.gens) (d':=s.drawn) (ch:=fp) (λb hb=>⟨(hf b hb).2.2.2.1,(hf b hb).2.1,(hf b hb).2.2.2.2.1,(hf b hb).2.2.2.2.2⟩) (λb o _ _ hc e _=>k b o hc e) (λb o _ _ hc e _=>⟨o.slots,k b o hc e⟩) (λ_ _ _ _ n=>n)
  (λb o hc e=>⟨o,k b o hc e⟩) (λ_ _ e=>e) (λ_ _ _ e=>e) (λb ps e=>⟨#[],by rw[e];simp⟩) (λm hm=> ?_) (λb u e=> ?_) I.bare
 .obtain⟨o,es,ep,ho,r⟩:=hm;exact⟨o,es,ep,k _ o (λz=>(hf _ z).2.1 rfl) ho,r⟩
 .refine (I.hok b u e).stay (λc v hc q=>k c v ?_ q) (λ_ q=>q) λ_ _ q=>q
  rcases hc with z | z
  .rw[z];exact nit b u e
  .exact nit c _ z
theorem kUq{t':Nat}{fp:List Addr}{p:Addr}{vs:List V}{us:List Value}(I:Inv X pins σ H s)(k:∀b o,b∉fp->s.heap.get? b=some o->h'.get? b=some o)(hf:∀b∈fp,FpOk X pins H b)
  (hp:s.heap.objs.size<=p) (ht:TupD h' p us.toArray) (r:Vals vs us) (hz:vs.length<=sizeLine):Inv X pins σ (upd H p (.tup vs)) {s with heap:=h',toks:=t'}:=by
 have hn:H p=none:=I.hok.fresh hp;have nit:∀b u,H b=some u->b∉fp:=λb u e z=>by rw[(hf b z).1] at e;cases e
 have old:∀b o,s.heap.get? b=some o->b≠p:=λb o e=>lJt (lKa (lJl e) hp)
 have tr:∀b u,H b=some u->b≠p:=λb u e z=>by rw[z,hn] at e;cases e
 refine I.step (g':=s.gens) (d':=s.drawn) (ch:=fp) (λb hb=>⟨(hf b hb).2.2.2.1,(hf b hb).2.1,(hf b hb).2.2.2.2.1,(hf b hb).2.2.2.2.2⟩) (λb o _ _ hc e _=>k b o hc e) (λb o _ _ hc e _=>⟨o.slots,k b o hc e⟩) (λb o _ e n=>by rw[jKk (old b o e)];exact n)
  (λb o hc e=>⟨o,k b o hc e⟩) (λb _ e=>by rw[jKk (tr b _ e)];exact e) (λb _ _ e=>by rw[jKk (tr b _ e)];exact e) (λb ps e=>⟨#[],by rw[jKk (tr b _ e),e];simp⟩) (λm hm=> ?_) (λb u e=> ?_) I.bare
 .obtain⟨o,es,ep,ho,r⟩:=hm;exact⟨o,es,ep,k _ o (λz=>(hf _ z).2.1 rfl) ho,r⟩
 .by_cases hb:b=p
  .subst hb;rw[jKv] at e;cases e;exact⟨hz,us,r,ht⟩
  .rw[jKk hb] at e;refine (I.hok b u e).stay (λc v hc q=>k c v ?_ q) (λc q=>by rw[jKk (tr c _ q)];exact q) λc _ q=>by rw[jKk (tr c _ q)];exact q
   rcases hc with z | z
   .rw[z];exact nit b u e
   .exact nit c _ z
end
noncomputable def Ite(K:PySem.W.Frag)(a:Addr):It:=
 ⟨λi H=>∃xs x,SqL K H a xs/\xs[i]? =some x,λi H x H'=>∃p y,H p=none/\x= .ref p/\(∀xs,SqL K H a xs->xs[i]? =some y)/\H'=upd H p (.tup [.int i,y]),λi H=>∃xs,SqL K H a xs/\xs.length<=i⟩
theorem qKz{P:Program}{w:World}{K:PySem.W.Frag}{elts:List Expr}{k:Nat}{pos:Pos}(a e it:Addr)(hei:e≠it):
  Turn P w K (.Tuple elts k pos) (Ite K a) [e,it] e (λi h=>(∃old,IsEnum h e it i old)/\h.IsListIter it a i) where
 mem:=by simp
 obj:=λi h ⟨⟨old,h1⟩,h2⟩ b hb=>by
  have hb':b=e\/b=it:=by simpa using hb
  rcases hb' with z | z
  .subst z;exact⟨_,h1,λv z=>nomatch (show Data.fields _=Data.cell v from z)⟩
  .subst z;obtain⟨o,e2,c,d⟩:=h2;exact⟨o,e2,λv z=>by rw[d] at z;cases z⟩
 keep:=λi h h' ⟨⟨old,h1⟩,h2⟩ kp=>⟨⟨old,kp e (by simp) _ h1⟩,h2.at λo q=>kp it (by simp) o q⟩
 item:=by
  rintro X hP hw hK hc i pins s σ H E I hf ⟨⟨old,he⟩,hit⟩ hg;subst hP hw hK;obtain⟨xs,x,hq,hx⟩:=hg;obtain⟨its,rv,p,hz⟩:=I.list hq;obtain⟨u,hu,ru⟩:=rv.get hx;refine wpAny_pyNext_enum_item he hit p.isList (x:=u) (by simpa using hu) hei λh1 ho hit1 hT hsz hk=> ?_
  refine⟨_,rfl,mJg ho λh2 he2 hs2=> ?_⟩
  have hel:e<s.heap.objs.size:=lJl he
  have hp2:∀b o,b∉[e,it]->s.heap.get? b=some o->h2.get? b=some o:=λb o hb q=>by
   have hb1:b≠e:=λz=>hb (by simp[z])
   have hb2:b≠it:=λz=>hb (by simp[z])
   exact (hs2.2 b hb1).trans (hk b o hb1 hb2 q)
  have hT2:h2.get? s.heap.objs.size=some {cls:= .type "tuple",data:= .seq #[.int i s.toks,u]}:=(hs2.2 _ (lQ5 hel)).trans hT;have I2:=kUq (t':=s.toks+1) (h':=h2) (p:=s.heap.objs.size) (vs:=[.int i,x]) (us:=[.int i s.toks,u]) I hp2 hf (lJh _) ⟨_,hT2,rfl,_,rfl,rfl⟩ (.cons ⟨_,rfl⟩ (.cons ru .nil)) (by show 2<=sizeLine;decide)
  refine⟨.ref s.heap.objs.size,_,I2,rfl,⟨_,x,I.hok.fresh (lJh _),rfl,λys hy=>by rw[I.list_inj hy hq];exact hx,rfl⟩,⟨⟨u,by simpa using he2⟩,hit1.at λo q=>(hs2.2 it hei.symm).trans q⟩,λb hb=> ?_⟩
  have hbs:∃o,s.heap.get? b=some o:=by
   have hb':b=e\/b=it:=by simpa using hb
   rcases hb' with z | z
   .subst z;exact⟨_,he⟩
   .subst z;obtain⟨o,q,_⟩:=hit;exact⟨o,q⟩
  obtain⟨o,q⟩:=hbs;rw[jKk (lJt (lJl q))];exact (hf b hb).1
 done:=by
  rintro X hP hw hK hc i pins s σ H E I hf ⟨⟨old,he⟩,hit⟩ hg;subst hP hw hK;obtain⟨xs,hq,hx⟩:=hg;obtain⟨its,rv,p,hz⟩:=I.list hq;have hl:=rv.length;exact wpAny_pyNext_enum_end (I.ok.hd hc) he hit p.isList (by simp;omega) λh1 hx1=>⟨rfl,qKx (t':=s.toks) I (λb o hb q=>hx1 b o (λz=>hb (by simp[z])) q) hf⟩
 self:=λ_ _ _ _ _ ⟨⟨old,he⟩,_⟩ h=>lYw he h
def numT(xs:List T):List T:=(List.range xs.length).map λ(i:Nat)=>T.tup [.int i,xs.getD i .non]
theorem jUd{xs:List T}{i:Nat}{x:T}(h:xs[i]? =some x):(numT xs)[i]? =some (.tup [.int i,x]):=by
 have hi:i<xs.length:=by
  rcases lQr i xs.length with z | z
  .exact z
  .rw[lJy z] at h;cases h
 have hx:xs[i]=x:=(lJe.mp h).2;simp[numT,hi,List.getD,hx]
theorem jJ2{xs:List T}:(numT xs).length=xs.length:=by simp[numT]
def jQ7(G:Gp):T->Option (List T)
 | .ref p=>asL (G p)
 | .scr xs=>some xs
 | _=>none
theorem jXw{K:PySem.W.Frag}{H:Hp}{G:Gp}{x:T}{a:V}{xs:List T}(hg:GRel K H G)(r:Rep K H x a)(h:jQ7 G x=some xs):∃p vs,a= .ref p/\SqL K H p vs/\Reps K H xs vs:=by
 cases x with
 | scr ys=>cases h;obtain⟨p,vs,e,h1,h2⟩:=(show ∃p vs,a= .ref p/\FrL K H p vs/\Reps K H xs vs from r);exact⟨p,vs,e,h1.sq,h2⟩
 | ref p=>
  obtain⟨vs,h1,h2⟩:=hg.lst (jX5 h);exact⟨p,vs,r,.of h1,h2⟩
 | tup _=>cases h
 | non=>cases h
 | bl _=>cases h
 | int _=>cases h
 | str _=>cases h
 | ty _=>cases h
def jX0(ta:TA3):TI3:=λτ G R=>ta τ G λvs G1=>∃x xs,vs=[x]/\jQ7 G1 x=some xs/\R (numT xs) (λG'=>jQ7 G' x=some xs) G1
theorem kKx{X:Cx}{elts:List Expr}{k:Nat}{tpos pos p:Pos}{a:Expr}{ta:TA3}(hg:Gl X "enumerate")(hm:X.mg "enumerate"=none)(hv:bootBuiltins "enumerate"=some (.type "enumerate"))(ha:PA3 X [a] ta)(hs:starEach [a] X.env=[(false,eval a X.env)]:=by rfl):
  PI3 X (.Tuple elts k tpos) (.Call (.Name "enumerate" p) [a] [] pos) (jX0 ta):=by
 intro pins s τ G H R I h;obtain⟨σ0,I0,hs0,hg0⟩:=id I;refine Call_ (jUe I0 hg hm hv (lQj (thn (ha pos pins s τ G H _ I h) λus s1 w_=>w_.el λxs' G1 H1 e1 i_ r_ q1=>i_.el λσ I1 hs1 hg1=>r_.el λas ras rvs=> ?_) hs rfl))
 obtain⟨x,xs,e,hx,q⟩:=q1;subst e;obtain⟨v,rfl,rv⟩:=jUn ras;obtain⟨u,rfl,ru⟩:=rvs.one;obtain⟨pa,vs,rfl,hq,r⟩:=jXw hg1 rv hx;cases ru;obtain⟨its,rvv,pl,hz⟩:=I1.list hq;refine call_enumerate_list pl.isList λh1 he hit hsz hk=> ?_
 have I2:Inv X pins σ H1 {s1 with heap:=h1}:=I1.kept (t':=s1.toks) hk
 refine lYw (Q:=PIE3 X pins τ H (.Tuple elts k tpos) R) he ?_
 have fr:∀b∈[s1.heap.objs.size+1,s1.heap.objs.size],FpOk X pins H1 b:=λb hb=>by
  have hb':b=s1.heap.objs.size+1\/b=s1.heap.objs.size:=by simpa using hb
  have hle:s1.heap.objs.size<=b:=by omega
  exact I1.fpOk hle (I1.hok.fresh hle)
 refine⟨s1.heap.objs.size+1,[s1.heap.objs.size+1,s1.heap.objs.size],_,_,numT xs,λG'=>jQ7 G' x=some xs,G1,H1,rfl,e1,⟨σ,I2,hs1,hg1⟩,qKz pa _ _ (Nat.succ_ne_self _),⟨⟨.none,he⟩,hit⟩,fr,?_,q⟩
 intro i H2 G2 e2 g2 st;obtain⟨pb,ws,eb,h1,h2⟩:=jXw g2 (Rep.mono e2 _ rv) st;cases eb;have hlen:=h2.length;refine⟨λhi=> ?_,λhi=>⟨ws,h1,by rw[jJ2] at hi;omega⟩,λhi y H' ⟨pp,z,hn,ey,hy,eH⟩=> ?_⟩
 .rw[jJ2] at hi;exact⟨ws,ws[i]'(by omega),h1,by simp[hlen▸hi]⟩
 .subst ey;subst eH;obtain⟨t,ht,rt⟩:=h2.get' (hy ws h1);exact⟨.upd (.none hn),g2.tupNew hn,_,jUd ht,Rep.tupNew ⟨_,_,rfl,rfl,_,_,rfl,rt,rfl⟩ hn⟩
noncomputable def clGo(env:Env):List (Str×NameKind)->List (Str×Addr)->Option (List (Str×Addr))
 | [],cs=>some cs
 | (n,k)::r,cs=>if (k == .free)=true then (match env.cells.lookup n with | some c=>clGo env r ((n,c)::cs) | none=>none) else clGo env r cs
theorem kK4{scope:Scope}{env:Env}{cl:List (Str×Addr)}(h:clGo env scope.names []=some cl):closureFor scope env=pure cl:=by
 unfold closureFor
 have go:∀(names:List (Str×NameKind))(cs:List (Str×Addr)),clGo env names cs=some cl->
   (forIn names cs λ(x:Str×NameKind)(r:List (Str×Addr))=>(match x with | (nm,kd)=>if (kd == .free)=true then cellOf env nm >>= λa=>pure (ForInStep.yield ((nm,a)::r)) else pure (ForInStep.yield r):Sem (ForInStep (List (Str×Addr)))))=pure cl:=by
  intro names
  induction names with
  | nil=>intro cs e;cases e;rfl
  | cons x r ih=>
   obtain⟨n,k⟩:=x;intro cs e;unfold clGo at e;rw[List.forIn_cons]
   by_cases hk:(k == NameKind.free)=true
   .rw[lJc hk] at e;cases hc:env.cells.lookup n with
    | none=>rw[hc] at e;cases e
    | some c=>
     rw[hc] at e;have hco:cellOf env n=pure c:=by unfold cellOf;rw[hc]
     simp only[hk,lK0,hco,pure_bind];exact ih _ e
   .rw[lJb hk] at e;simp only[hk,pure_bind,lJ6,lKi];exact ih _ e
 have:=go scope.names [] h
 simpa using this
theorem jZl{env:Env}{cl:List (Str×Addr)}:∀{names:List (Str×NameKind)}{cs:List (Str×Addr)},clGo env names cs=some cl->(∀n c,cs.lookup n=some c->env.cells.lookup n=some c)->∀n c,cl.lookup n=some c->env.cells.lookup n=some c
 | [],cs,e,h=>by cases e;exact h
 | (n,k)::r,cs,e,h=>by
  unfold clGo at e
  by_cases hk:(k == NameKind.free)=true
  .rw[lJc hk] at e;cases hc:env.cells.lookup n with
   | none=>rw[hc] at e;cases e
   | some c=>
    rw[hc] at e;refine jZl e λm d q=> ?_
    rw[lQa] at q
    by_cases hm:(m == n)=true
    .rw[hm] at q;cases q;rw[eq_of_beq hm];exact hc
    .simp only[hm] at q;exact h m d q
  .rw[lJb hk] at e;exact jZl e h
theorem kJu{env:Env}{cl:List (Str×Addr)}{m:Str}:∀{names:List (Str×NameKind)}{cs:List (Str×Addr)},clGo env names cs=some cl->(∃c,cs.lookup m=some c)->∃c,cl.lookup m=some c
 | [],cs,e,h=>by cases e;exact h
 | (n,k)::r,cs,e,h=>by
  unfold clGo at e
  by_cases hk:(k == NameKind.free)=true
  .rw[lJc hk] at e;cases hc:env.cells.lookup n with
   | none=>rw[hc] at e;cases e
   | some c=>
    rw[hc] at e;refine kJu e ?_;rw[lQa]
    by_cases hm:(m == n)=true
    .rw[hm];exact⟨_,rfl⟩
    .simp only[hm];exact h
  .rw[lJb hk] at e;exact kJu e h
theorem jZm{env:Env}{cl:List (Str×Addr)}{m:Str}:∀{names:List (Str×NameKind)}{cs:List (Str×Addr)},clGo env names cs=some cl->names.lookup m=some .free->∃c,cl.lookup m=some c
 | [],cs,e,h=>by simp at h
 | (n,k)::r,cs,e,h=>by
  unfold clGo at e;rw[lQa] at h
  by_cases hm:(m == n)=true
  .rw[hm] at h;cases h;rw[lJc (show (NameKind.free == NameKind.free)=true from rfl)] at e
   cases hc:env.cells.lookup n with
   | none=>rw[hc] at e;cases e
   | some c=>
    rw[hc] at e;refine kJu e ?_;rw[lQa,hm];exact⟨_,rfl⟩
  .simp only[hm] at h
   by_cases hk:(k == NameKind.free)=true
   .rw[lJc hk] at e;cases hc:env.cells.lookup n with
    | none=>rw[hc] at e;cases e
    | some c=>rw[hc] at e;exact jZm e h
   .rw[lJb hk] at e;exact jZm e h
theorem jUc{env:Env}{x:Str}:∀{names:List (Str×NameKind)},(∀y∈names,y.2≠ .cell)->
  ((names.map λ(n,k)=>if (k == NameKind.free&&env.scope.kind == .function&&env.kindOf n == some .cell) then (n,NameKind.cell) else (n,k)).lookup x=some .cell\/
    (names.map λ(n,k)=>if (k == NameKind.free&&env.scope.kind == .function&&env.kindOf n == some .cell) then (n,NameKind.cell) else (n,k)).lookup x=some .free)->names.lookup x=some .free
 | [],_,h=>by simp at h
 | (n,k)::r,hc,h=>by
  have ih:= @jUc env x r (λy hy=>hc y (lJ5 _ hy))
  have hk:=hc (n,k) lJ2;rw[lJq] at h;rw[lQa]
  by_cases hx:(x == n)=true
  .rw[hx]
   by_cases hf:(k == NameKind.free&&env.scope.kind == .function&&env.kindOf n == some .cell)=true
   .have:(k == NameKind.free)=true:=by
     rw[lKt,lKt] at hf;exact hf.1.1
    rw[eq_of_beq this]
   .simp only[hf,lJ6,lKi,lQa,hx] at h
    rcases h with h | h
    .cases h;exact absurd rfl hk
    .cases h;rfl
  .simp only[hx];refine ih ?_
   by_cases hf:(k == NameKind.free&&env.scope.kind == .function&&env.kindOf n == some .cell)=true
   .simpa only[hf,lK0,lQa,hx] using h
   .simpa only[hf,lJ6,lKi,lQa,hx] using h
theorem jUt{env:Env}{x:Str}:∀{names:List (Str×NameKind)},
  (names.map λ(n,k)=>if (k == NameKind.free&&env.scope.kind == .function&&env.kindOf n == some .cell) then (n,NameKind.cell) else (n,k)).lookup x=some .local->names.lookup x=some .local
 | [],h=>by simp at h
 | (n,k)::r,h=>by
  have ih:= @jUt env x r;rw[lJq] at h;rw[lQa]
  by_cases hx:(x == n)=true
  .rw[hx]
   by_cases hf:(k == NameKind.free&&env.scope.kind == .function&&env.kindOf n == some .cell)=true
   .simp only[hf,lK0,lQa,hx] at h;cases h
   .simp only[hf,lJ6,lKi,lQa,hx] at h;exact h
  .simp only[hx];refine ih ?_
   by_cases hf:(k == NameKind.free&&env.scope.kind == .function&&env.kindOf n == some .cell)=true
   .simpa only[hf,lK0,lQa,hx] using h
   .simpa only[hf,lJ6,lKi,lQa,hx] using h
noncomputable def jUq(X:Cx)(scope:Scope)(cl:List (Str×Addr))(C:Addr)(fp:List Addr)(s:Shared)(H:Hp):Cx:=
 {X with env:=compEnvC scope cl C X.env,s₀:=s,H₀:=H,outer:=X.stack,stack:=X.stack,ex:=fp,fn:=λ_=>false,pn:=[],xe:=λ_ _=>False}
structure CmpOk (X:Cx) (scope:Scope) (cl:List (Str×Addr)) (mask:List Bool):Prop where
 cl:clGo X.env scope.names []=some cl
 kind:scope.kind= .function
 nocell:(scope.names.all λy=>y.2 != .cell)=true
 names:(scope.names.all λy=>y.2 != .local||scope.names.lookup y.1 == some .local)=true
 vis:(scope.names.all λy=>y.2 != .free||X.env.kindOf y.1 == some .cell||X.env.kindOf y.1 == some .free)=true
 len:mask.length=X.N.length
 mask:((X.N.zip mask).all λp=>p.2||scope.names.lookup p.1 != some .local)=true
def msk{α:Type}(mask:List Bool)(τ:List (Option α)):List (Option α):=List.zipWith (λb o=>if b=true then none else o) mask τ
theorem kX1{α:Type}{mask:List Bool}{τ:List (Option α)}{i:Nat}{t:α}(h:(msk mask τ)[i]? =some (some t)):mask[i]? =some false/\τ[i]? =some (some t):=by
 unfold msk at h;rw[lXs] at h;cases hm:mask[i]? with
 | none=>exact absurd (hm▸h) (by simp)
 | some b=>
  cases ht:τ[i]? with
  | none=>rw[hm,ht] at h;cases h
  | some o=>
   rw[hm,ht] at h;cases b with
   | true=>simp at h
   | false=>simp at h;exact⟨rfl,by rw[h]⟩
theorem jYo{α:Type}{mask:List Bool}{τ:List (Option α)}(h:mask.length=τ.length):(msk mask τ).length=τ.length:=by
 unfold msk;rw[List.length_zipWith,h,Nat.min_self]
theorem qUk{K:PySem.W.Frag}{H:Hp}{σ:L2.St}{τ:St3}{mask:List Bool}(h:SRel K H σ τ)(hl:mask.length=τ.length):SRel K H (msk mask σ) (msk mask τ):=by
 refine⟨by rw[jYo hl,jYo (hl.trans h.1.symm),h.1],λi t q=> ?_⟩
 obtain⟨h1,h2⟩:=kX1 q;obtain⟨v,h3,h4⟩:=h.2 i t h2;refine⟨v,?_,h4⟩;unfold msk;rw[lXs,h1,h3];simp
section
variable {X:Cx}{scope:Scope}{cl:List (Str×Addr)}{mask:List Bool}
theorem CmpOk.local(c:CmpOk X scope cl mask){i:Nat}{x:Str}(h1:X.N[i]? =some x)(h2:mask[i]? =some false):scope.names.lookup x≠some .local:=by
 have h:=c.mask;rw[lVh] at h;have hz:(X.N.zip mask)[i]? =some (x,false):=by rw[lXt];exact⟨h1,h2⟩
 have:=h _ (lJk hz)
 simpa using this
theorem CmpOk.free(c:CmpOk X scope cl mask){x:Str}(h:scope.names.lookup x=some .free):X.env.kindOf x=some .cell\/X.env.kindOf x=some .free:=by
 have hv:=c.vis;rw[lVh] at hv;have:=hv (x,.free) (lV3 h)
 simpa using this
theorem CmpOk.nc(c:CmpOk X scope cl mask):∀y∈scope.names,y.2≠ .cell:=by
 have hv:=c.nocell;rw[lVh] at hv;intro y hy
 simpa using hv y hy
theorem CmpOk.nm(c:CmpOk X scope cl mask):∀y∈scope.names,y.2= .local->scope.names.lookup y.1=some .local:=by
 have hv:=c.names;rw[lVh] at hv;intro y hy e;have:=hv y hy;rw[e] at this
 simpa using this
theorem qVt(c:CmpOk X scope cl mask){pins:List (Addr×Obj)}{σ:L2.St}{H:Hp}{s:Shared}{fp:List Addr}{h4:Heap}{tk:Nat}(I:Inv X pins σ H s)(hf:∀b∈fp,FpOk X pins H b)(ho:∀b∈fp,∃o,s.heap.get? b=some o)
  (hns:h4.Ns s.heap.objs.size λ_=>none) (hk:∀b o,s.heap.get? b=some o->h4.get? b=some o):
  Inv (jUq X scope cl s.heap.objs.size fp s H) [] (msk mask σ) H {s with heap:=h4,toks:=tk}:=by
 have sub:=jZl c.cl (by simp)
 have ok:(jUq X scope cl s.heap.objs.size fp s H).Ok:=by
  refine⟨I.ok.mod,c.kind,I.ok.glob,I.ok.blt,lJh _,λx y d h1 h2=>I.ok.inj x y d (sub _ _ h1) (sub _ _ h2),λx hx=>jZm c.cl (jUc (env:=X.env) c.nc hx),λx d hx=>absurd (show false=true from hx) lJo,I.ok.hd,I.ok.gd,I.ok.frames,.inl rfl,
   λb hb=> ?_,I.bs,lKc I.ok.bsz I.sz,λb o e hb=> ?_,λb hb hz=> ?_,I.stack,I.stkFree⟩
  .obtain⟨o,e⟩:=ho b hb;exact⟨lJt (lJl e),λx d hd=>(hf b hb).2.2.2.2.1 x d (sub _ _ hd)⟩
  .rcases (hf b hb).2.2.2.1 with z | z
   .exact I.ok.noex b o e z
   .exact absurd (lKa (lJl e) I.ok.bsz) (Nat.not_lt.mpr z)
  .rcases lJp.mp (I.stkSub b hz) with z | z
   .exact (hf b hb).2.1 z
   .exact (hf b hb).2.2.1 z
 refine⟨ok,rfl,I.bare,Un.kept hk,⟨_,hns,λi x v h1 h2 h3=> ?_⟩,λx d hd=> ?_,I.hok.fresh (lJh _),λx d hd=>I.freeC x d (sub _ _ hd),λp hp=>absurd (show p∈([]:List (Addr×Obj)) from hp) (by simp),I.hok.kept hk,?_⟩
 .obtain⟨m1,m2⟩:=kX1 h2;have nl:=c.local h1 m1
  have fr:scope.names.lookup x=some .free:=by
   rcases h3 with z | z | z
   .exact absurd (jUt (env:=X.env) z) nl
   .exact jUc (env:=X.env) c.nc (.inl z)
   .exact jUc (env:=X.env) c.nc (.inr z)
  have hkk:=c.free fr;obtain⟨m,hn,hl⟩:=I.loc;have vis:Vis X.env.scope x:=by rcases hkk with z | z;exact .inr (.inl z);exact .inr (.inr z)
  obtain⟨u,ru,lk⟩:=hl i x v h1 m2 vis;refine⟨u,ru,?_⟩
  rcases lk with ⟨z,_⟩ | ⟨_,d,hd,cd⟩
  .exfalso;rcases hkk with q | q<;>(rw[z] at q;cases q)
  .obtain⟨d',hd'⟩:=jZm c.cl fr;have:d'=d:=by have:=sub _ _ hd';rw[hd] at this;exact (lJ3 this).symm
   subst this;refine .inr ⟨?_,d',hd',cd.keeps hk⟩
   rcases h3 with z | z | z
   .exact absurd (jUt (env:=X.env) z) nl
   .exact .inl z
   .exact .inr z
 .obtain⟨v,hv⟩:=I.cell x d (sub _ _ hd);exact⟨v,hv.keeps hk⟩
 .exact (jYo (c.len.trans I.len.symm)).trans I.len
theorem uUa{pins:List (Addr×Obj)}{σ σ':L2.St}{H H':Hp}{s s':Shared}{fp:List Addr}{pl:List (Addr×Obj)}{C:Addr}(I:Inv X pins σ H s)(hf:∀b∈fp,FpOk X pins H b)(hC:s.heap.objs.size<=C)
  (J:Inv (jUq X scope cl C fp s H) pl σ' H' s') {h':Heap} (hb:Heap.SameBut C s'.heap h'):Inv X pins σ H' {s' with heap:=h'}:=by
 have ne:∀b o,s.heap.get? b=some o->b≠C:=λb o e=>lJt (lKa (lJl e) hC)
 have u:=J.base;have hfree:H' C=none:=J.free
 have u':Un (frs X.stack) fp H H' s.heap h':=⟨λb o e n hb' hx=>(hb.2 b (ne b o e)).trans (u.keep b o e n hb' hx),λb o e n hb' hx=>let ⟨sl,z⟩:=u.slot b o e n hb' hx;⟨sl,(hb.2 b (ne b o e)).trans z⟩,
  u.free,λb o e hx=>let ⟨o',z⟩:=u.there b o e hx;⟨o',(hb.2 b (ne b o e)).trans z⟩,u.tups,u.frzs,u.tbls⟩
 have hok:HOk X.prog X.w H' h':=λb ob e=>(J.hok b ob e).stay (λc w' hc q=>(hb.2 c (by
  rintro rfl
  rcases hc with rfl | hc
  .rw[hfree] at e;cases e
  .rw[hfree] at hc;cases hc)).trans q) (λ_ q=>q) λ_ _ q=>q
 exact I.call' (s':={s' with heap:=h'}) J.os u' hok J.bare λb hb=>⟨(hf b hb).2.2.2.1,(hf b hb).2.1,(hf b hb).2.2.2.2.1,(hf b hb).2.2.2.2.2⟩
end
abbrev qVq(ifs:List Expr)(env:Env):Sem Bool:=forIn ifs true λc b=>if b=true then isTrue c env (eval c env) >>= λd=>pure (ForInStep.yield d) else pure (ForInStep.yield b)
noncomputable def uJe(M:Model)(A:Around)(elt tg:Expr)(ifs:List Expr)(it acc:Value)(env:Env)(stop more:Shared->Prop):Option Value->Shared->Prop
 | none=>stop
 | some v=>λz=>wpAny M A (letOwnedTupleGo tg it v) (λ_ z1=>wpAny M A (assign tg env v) (λ_ z2=>wpAny M A (qVq ifs env) (λok z3=>if ok=true then wpAny M A (eval elt env) (λx z4=>wpAny M A (call (.builtin "list.append") [acc,x]) (λ_=>more) (λ_ _=>False) z4) (λ_ _=>False) z3 else more z3) (λ_ _=>False) z2) (λ_ _=>False) z1) (λ_ _=>False) z
theorem qVr{P:Program}{w:World}{A:Around}{R:Result->Shared->Prop}{s:Shared}{elt tg iter:Expr}{ifs:List Expr}{scope:Scope}{pos:Pos}{it acc:Value}{env:Env}(I:Nat->Shared->Prop)
  (turn:∀k z,I k z->wpAny (model P w) A (pyNext it) (uJe (model P w) A elt tg ifs it acc env (R (.ok .next)) λz'=>∃m,m<k/\I m z') (λ_ _=>False) z) (n:Nat) (h:I n s):codeAny (model P w) A (.compLoop (.ListComp elt [⟨tg,iter,ifs,0⟩] scope pos) 0 it acc env) R s:=by
 refine codeAny_loop rfl I (λk z hz=>(show wpAny _ A ((compTurn (.ListComp elt [⟨tg,iter,ifs,0⟩] scope pos) 0 it acc env).onRaise _) _ _ z from wpAny_noted ?_)) n h
 rw[compTurn_list];refine lJa (lYv (lJa (lQp (turn k z hz) (λr z1 h1=> ?_) λ_ _ e=>e.elim)))
 cases r with
 | none=>exact lJd h1
 | some v=>
  refine lJa (lQp h1 (λ_ z2 h2=>lJa (lQp h2 (λ_ z3 h3=>lJa (lQp h3 (λok z4 h4=> ?_) λ_ _ e=>e.elim)) λ_ _ e=>e.elim)) λ_ _ e=>e.elim)
  by_cases hok:ok=true
  .subst hok;exact lJa (lJa (lQp h4 (λx z5 h5=>lJa (lQp h5 (λ_ z6 h6=>lJd (lJd ⟨rfl,h6⟩)) λ_ _ e=>e.elim)) λ_ _ e=>e.elim))
  .obtain rfl:ok=false:=by simpa using hok
   exact lJd ⟨rfl,h4⟩
def PIf3(X:Cx)(ifs:List Expr)(t:TT3):Prop:=∀(pins:List (Addr×Obj))(s:Shared)(τ:St3)(G:Gp)(H:Hp)(Q:Bool->Gp->Prop),Inv3 X pins τ G H s->t τ G Q->
 wpAny (model X.prog X.w) X.A (forIn ifs true λc r=>if r=true then do let ok <-isTrue c X.env (eval c X.env);pure (ForInStep.yield ok) else pure (ForInStep.yield r)) (TP3 X pins τ H Q) X.xe s
def jUf:TT3:=λ_ G Q=>Q true G
theorem jQx{X:Cx}:PIf3 X [] jUf:=λ_ _ _ G H _ I q=>wpAny_tests_nil ⟨G,H,.refl H,I,q⟩
theorem kVl{X:Cx}{c:Expr}{t:TT3}(h:PT3 X c t):PIf3 X [c] t:=λpins s τ G H Q I q=>wpAny_tests_one (h pins s τ G H Q I q)
def qKu(mask:List Bool)(g:TG3):Prop:=∀v τ G Q,g v τ G Q->g v τ G λτ2 G2=>Q τ2 G2/\τ2.length=τ.length/\∀i:Nat,mask[i]? ≠some true->τ2[i]? =τ[i]?
def qJh(mask:List Bool)(g:TGs3):Prop:=∀v τ G Q,g v τ G Q->g v τ G λτ2 G2=>Q τ2 G2/\τ2.length=τ.length/\∀i:Nat,mask[i]? ≠some true->τ2[i]? =τ[i]?
theorem jKg{mask:List Bool}{i:Nat}(h:mask[i]? =some true:=by rfl):qKu mask (jJg i):=λv τ G Q q=>
 ⟨q,lVg ..,λj hj=>lKy (by rintro rfl;exact hj h)⟩
theorem qU7{mask:List Bool}:qJh mask gNil:=λv τ G Q ⟨e,q⟩=>⟨e,q,rfl,λ_ _=>rfl⟩
theorem jYt{mask:List Bool}{t:TG3}{u:TGs3}(h1:qKu mask t)(mono:∀v τ G Q Q',(∀a b,Q a b->Q' a b)->t v τ G Q->t v τ G Q')(h2:qJh mask u)(mono2:∀v τ G Q Q',(∀a b,Q a b->Q' a b)->u v τ G Q->u v τ G Q'):qJh mask (jKa t u):=λvs τ G Q ⟨v,r,e,q⟩=>by
 refine⟨v,r,e,mono _ _ _ _ _ (λτ2 G2 ⟨z,l1,k1⟩=> ?_) (h1 _ _ _ _ q)⟩
 exact mono2 _ _ _ _ _ (λτ3 G3 ⟨z3,l3,k3⟩=>⟨z3,l3.trans l1,λi hi=>(k3 i hi).trans (k1 i hi)⟩) (h2 _ _ _ _ z)
theorem jUw{i:Nat}:∀v τ G (Q Q':St3->Gp->Prop),(∀a b,Q a b->Q' a b)->jJg i v τ G Q->jJg i v τ G Q':=λ_ _ _ _ _ h q=>h _ _ q
theorem kKz:∀v τ G (Q Q':St3->Gp->Prop),(∀a b,Q a b->Q' a b)->gNil v τ G Q->gNil v τ G Q':=λ_ _ _ _ _ h q=>⟨q.1,h _ _ q.2⟩
theorem kYe{t:TG3}{u:TGs3}(m1:∀v τ G (Q Q':St3->Gp->Prop),(∀a b,Q a b->Q' a b)->t v τ G Q->t v τ G Q')(m2:∀v τ G (Q Q':St3->Gp->Prop),(∀a b,Q a b->Q' a b)->u v τ G Q->u v τ G Q'):
  ∀v τ G (Q Q':St3->Gp->Prop),(∀a b,Q a b->Q' a b)->jKa t u v τ G Q->jKa t u v τ G Q':=λ_ _ _ _ _ h ⟨v,r,e,q⟩=>⟨v,r,e,m1 _ _ _ _ _ (λ_ _ z=>m2 _ _ _ _ _ h z) q⟩
theorem qU6{mask:List Bool}{n:Nat}{u:TGs3}(h:qJh mask u):qKu mask (gTup n u):=λv τ G Q ⟨xs,e,l,q⟩=>⟨xs,e,l,h _ _ _ _ q⟩
theorem qYp{mask:List Bool}{τ τ2:St3}(hl:mask.length=τ.length)(l:τ2.length=(msk mask τ).length)(h:∀i:Nat,mask[i]? ≠some true->τ2[i]? =(msk mask τ)[i]?):msk mask τ2=msk mask τ:=by
 have ll:=jYo hl;apply lKh;intro i;unfold msk at h ⊢;rw[lXs,lXs];cases hm:mask[i]? with
 | none=>rfl
 | some b=>
  cases b with
  | true=>
   have h1:i<mask.length:=by
    rcases lQr i mask.length with z | z
    .exact z
    .rw[lJy z] at hm;cases hm
   have h2:i<τ2.length:=by omega
   have h3:i<τ.length:=by omega
   rw[lJf h2,lJf h3];simp
  | false=>
   have:=h i (by rw[hm];simp)
   rw[lXs,hm] at this;rw[this];cases τ[i]? with
   | none=>rfl
   | some o=>simp
def kXa(mask:List Bool)(g:TG3)(tif:TT3)(te:TE3)(τ:St3)(xs:List T)(stay:Gp->Prop)(G:Gp)(Q:VK3):Prop:=
 ∀D,G D=none->∃P:Nat->List T->Gp->Prop,P 0 [] (gup G D (.lst []))/\(∀i acc G,i<=xs.length->P i acc G->stay G/\G D=some (.lst acc))/\
  (∀i x acc G,xs[i]? =some x->P i acc G->g x (msk mask τ) G λτ2 G2=>tif τ2 G2 λb G3=>if b=true then te τ2 G3 λy G4=>G4 D=some (.lst acc)/\acc.length<sizeLine/\P (i+1) (acc++[y]) (gup G4 D (.lst (acc++[y]))) else P (i+1) acc G3)/\
  ∀acc G,P xs.length acc G->Q (.ref D) G
def jQb(mask:List Bool)(wi:TI3)(g:TG3)(tif:TT3)(te:TE3):TE3:=λτ G Q=>wi τ G λxs stay G1=>kXa mask g tif te τ xs stay G1 Q
section
variable {X:Cx}{scope:Scope}{cl:List (Str×Addr)}{mask:List Bool}{elt iter tg:Expr}{ifs:List Expr}{pos:Pos}{wi:TI3}{g:TG3}{tif:TT3}{te:TE3}
theorem kK3(hc:X.calm=true)(ok:CmpOk X scope cl mask)
  (hgk:qKu mask g) (hg:∀C fp s H,PG3 (jUq X scope cl C fp s H) tg g) (hif:∀C fp s H,PIf3 (jUq X scope cl C fp s H) ifs tif) (he:∀C fp s H,PE3 (jUq X scope cl C fp s H) elt te)
  {pins:List (Addr×Obj)} {τ:St3} {H:Hp} {Q:VK3} {itv:Value} {s2:Shared} {E:Value->Shared->Prop} {RR:Value->Addr->Result->Shared->Prop}
  (h2:PIE3 X pins τ H tg (λxs stay G=>kXa mask g tif te τ xs stay G Q) itv s2)
  (hRR:∀D C s' m,s'.heap.Ns C m->(∃G1 H1,Ext H H1/\H1 C=none/\Q (.ref D) G1/\∀h',Heap.SameBut C s'.heap h'->Inv3 X pins τ G1 H1 {s' with heap:=h'})->(∃oC,s'.heap.get? C=some oC/\C≠X.env.locals/\C∉X.fs/\∀v,oC.data≠ .cell v)->(∀x c,X.env.cells.lookup x=some c->c≠C)->(∀p∈X.pn++pins,p.1≠C)->X.s₀.heap.objs.size<=C->RR (.ref D) C (.ok .next) s'):
  wpAny (model X.prog X.w) X.A (newList []) (λacc s₃=>wpAny (model X.prog X.w) X.A (newFunctionEnv scope X.env.globals cl [] X.env.qual none .none (some X.env)) (λcenv s₄=>
   codeAny (model X.prog X.w) X.A (.compStart (.ListComp elt [⟨tg,iter,ifs,0⟩] scope pos) 0 itv acc {cenv with scope:=relabel scope X.env}) (RR acc cenv.locals) s₄) E s₃) E s2:=by
 obtain⟨it,fp,tn,J,xs,stay,G2,H2,e,eH,⟨σ,I2,hs2,hg2⟩,T0,st2,f2,IT,hq⟩:=h2;subst e;refine lKl (wpAny_newFunctionEnv ok.nc (by intro y hy;simp at hy) (λh4 hns hsb=> ?_) ok.kind)
 dsimp only at hns hsb ⊢
 have hD:H2 s2.heap.objs.size=none:=I2.hok.fresh (lJh _)
 generalize hs3:({s2 with heap:=s2.heap.push {cls:= .type "list",dict:=none,data:= .seq ([]:List Value).toArray} }:Shared)=s3
 have eh3:s2.heap.push {cls:= .type "list",dict:=none,data:= .seq ([]:List Value).toArray}=s3.heap:=by rw[<-hs3]
 have I3:Inv X pins σ (upd H2 s2.heap.objs.size (.lst [])) s3:=by
  rw[<-hs3];exact I2.laid (t':=s2.toks) (λb u e=>lJm _ e) (lJh _) ⟨lJx _,[],0,.nil,lJz _ rfl⟩
 rw[eh3] at hns hsb ⊢
 generalize hDd:s2.heap.objs.size=D at *
 have e3:Ext H2 (upd H2 D (.lst [])):= .upd (.none hD);have hg3:GRel X.K (upd H2 D (.lst [])) (gup G2 D (.lst [])):=hg2.lstNew (show Reps X.K H2 [] [] from rfl) (.none hD)
 have obj2:∀b∈fp,∃o,s2.heap.get? b=some o:=λb hb=>let ⟨o,e,_⟩:=T0.obj 0 _ st2 b hb;⟨o,e⟩
 have fD:∀b∈fp,b≠D:=λb hb=>by obtain⟨o,e⟩:=obj2 b hb;rw[<-hDd];exact lJt (lJl e)
 have f3:∀b∈fp,FpOk X pins (upd H2 D (.lst [])) b:=λb hb=>⟨by rw[jKk (fD b hb)];exact (f2 b hb).1,(f2 b hb).2⟩
 have k3:∀b o,s2.heap.get? b=some o->s3.heap.get? b=some o:=λb o e=>by rw[<-eh3];exact lJm _ e
 have obj3:∀b∈fp,∃o,s3.heap.get? b=some o:=λb hb=>let ⟨o,e⟩:=obj2 b hb;⟨o,k3 b o e⟩
 have k4:∀b o,s3.heap.get? b=some o->h4.get? b=some o:=λb o e=>hsb.extBut b o (lJt (lJl e)) (lJm _ e)
 have Ic:Inv (jUq X scope cl s3.heap.objs.size fp s3 (upd H2 D (.lst []))) [] (msk mask σ) (upd H2 D (.lst [])) {s3 with heap:=h4,toks:=s3.toks+([]:List (Str×Value)).length}:=qVt ok I3 f3 obj3 hns k4
 have st4:tn 0 h4:=T0.keep _ _ _ st2 λb _ o e=>k4 b o (k3 b o e)
 have hl3:mask.length=τ.length:=ok.len.trans (I3.len.symm.trans hs2.1);obtain⟨P,p0,hst,turn,fin⟩:=hq D (hg2.fresh hD)
 have fpc:∀{H':Hp}{pl:List (Addr×Obj)},(∀b∈fp,H' b=none)->(∀p∈pl,p.1∉fp)->∀b∈fp,FpOk (jUq X scope cl s3.heap.objs.size fp s3 (upd H2 D (.lst []))) pl H' b:=λ{H' pl} hn hp b hb=>by
  obtain⟨o,e⟩:=obj3 b hb;refine⟨hn b hb,lJt (lJl e),?_,.inl hb,λx d hd=>(f3 b hb).2.2.2.2.1 x d (jZl ok.cl (by simp) _ _ hd),λp hpp z=> ?_⟩
  .intro z
   rcases lJp.mp (I3.stkSub b z) with q | q
   .exact (f3 b hb).2.1 q
   .exact (f3 b hb).2.2.1 q
  .have hpp':p∈pl:=by simpa[jUq] using hpp
   exact hp p hpp' (z▸hb)
 have loop:∀s4:Shared,s4={s3 with heap:=h4,toks:=s3.toks+([]:List (Str×Value)).length}->
   codeAny (model X.prog X.w) X.A (.compLoop (.ListComp elt [⟨tg,iter,ifs,0⟩] scope pos) 0 (.ref it) (.ref D) (compEnvC scope cl s3.heap.objs.size X.env)) (RR (.ref D) s3.heap.objs.size) s4:=by
  rintro s4 rfl
  refine qVr (λn s'=>∃i acc G' H',n=xs.length-i/\i<=xs.length/\Ext H2 H'/\Inv3 (jUq X scope cl s3.heap.objs.size fp s3 (upd H2 D (.lst []))) [] (msk mask τ) G' H' s'/\tn i s'.heap/\(∀b∈fp,H' b=none)/\P i acc G') ?_ xs.length
   ⟨0,[],_,_,rfl,lJx _,e3,⟨_,Ic,qUk (hs2.mono e3) hl3,hg3⟩,st4,λb hb=>(f3 b hb).1,p0⟩
  rintro n s5 ⟨i,acc,G5,H5,en,hi5,e5,⟨σ5,I5,hs5,hg5⟩,st5,fr5,p5⟩;obtain⟨hstay,hacc⟩:=hst i acc G5 hi5 p5;obtain⟨go,stop,yl⟩:=IT i H5 G5 e5 hg5 hstay
  by_cases hlt:i<xs.length
  .refine thn (T0.item (jUq X scope cl s3.heap.objs.size fp s3 (upd H2 D (.lst []))) rfl rfl rfl hc i [] s5 σ5 H5 (λ_ _=>False) I5 (fpc fr5 (by simp)) st5 (go hlt)) λr s6 ⟨u,hr,h6⟩=> ?_
   subst hr;refine thn h6 λ_ s7 ⟨x,H7,I7,r7,y7,st7,fr7⟩=> ?_
   obtain⟨e7,g7,t,ht,rt⟩:=yl hlt x H7 y7;have I7':=I7.pinned (fpc fr7 (by simp)) (T0.obj _ _ st7)
   refine thn (hg _ _ _ _ ([]++jVz fp s7.heap) s7 (msk mask τ) G5 H7 t u _ ⟨σ5,I7',hs5.mono e7,g7⟩ ⟨x,rt,r7⟩ (hgk _ _ _ _ (turn i t acc G5 ht p5))) λ_ s8 ⟨τ8,G8,H8,e8,I8,q8,ql8,qk8⟩=> ?_
   refine thn (hif _ _ _ _ ([]++jVz fp s7.heap) s8 τ8 G8 H8 _ I8 q8) λb s9 ⟨G9,H9,e9,I9,q9⟩=> ?_
   have back:∀{Ga:Gp}{Ha:Hp}{sa:Shared}{acc':List T},Ext H7 Ha->Inv3 (jUq X scope cl s3.heap.objs.size fp s3 (upd H2 D (.lst []))) ([]++jVz fp s7.heap) τ8 Ga Ha sa->P (i+1) acc' Ga->
     ∃m,m<n/\∃i acc G' H',m=xs.length-i/\i<=xs.length/\Ext H2 H'/\Inv3 (jUq X scope cl s3.heap.objs.size fp s3 (upd H2 D (.lst []))) [] (msk mask τ) G' H' sa/\tn i sa.heap/\(∀b∈fp,H' b=none)/\P i acc G':=by
    rintro Ga Ha sa acc' ea ⟨σa,Ia,hsa,hga⟩ pa;have e2a:Ext H5 Ha:=e7.trans ea;have hla:mask.length=τ8.length:=by rw[ql8,jYo hl3];exact hl3
    have hsm:=qUk (mask:=mask) hsa hla;rw[qYp hl3 ql8 qk8] at hsm;refine⟨xs.length-(i+1),by omega,i+1,acc',Ga,Ha,rfl,hlt,e5.trans e2a,⟨msk mask σa,(Ia.weak (jYo (hla.trans hsa.1.symm)) λj v hv=>(kX1 hv).2).pins_of (λp hp=>absurd hp (by simp)),hsm,hga⟩,?_,λb hb=> ?_,pa⟩
    .exact T0.keep _ _ _ st7 λb hb o e=>(Ia.pin (b,o) (lKs _ (lKs _ (jVp hb e)))).1
    .obtain⟨o,e,d⟩:=T0.obj _ _ st7 b hb;exact (Ia.pin (b,o) (lKs _ (lKs _ (jVp hb e)))).2.1
   cases b with
   | false=>
    rw[lJb lJo] at q9 ⊢;exact back (e8.trans e9) I9 q9
   | true=>
    rw[lJc rfl] at q9 ⊢;refine thn (he _ _ _ _ ([]++jVz fp s7.heap) s9 τ8 G9 H9 _ I9 q9) λy s10 w_=>w_.el λty G10 H10 e10 I10 r10 ⟨hD10,hz10,q10⟩=> ?_
    obtain⟨vy,rvy,ruy⟩:=r10;refine thn (jKe ([]++jVz fp s7.heap) s10 τ8 G10 H10 (.ref D) [ty] (.ref D) [y] (λ_ G'=>P (i+1) (acc++[ty]) G') I10 ⟨.ref D,rfl,rfl⟩ ⟨[vy],.one rvy,.cons ruy .nil⟩ ⟨D,acc,ty,rfl,rfl,hD10,hz10,q10⟩) λ_ s11 w_=>w_.el λ_ G11 H11 e11 I11 _ q11=> ?_
    exact back (((e8.trans e9).trans e10).trans e11) I11 q11
  .have ei:i=xs.length:=by omega
   refine thn (T0.done (jUq X scope cl s3.heap.objs.size fp s3 (upd H2 D (.lst []))) rfl rfl rfl hc i [] s5 σ5 H5 (λ_ _=>False) I5 (fpc fr5 (by simp)) st5 (stop (by omega))) λr s6 ⟨hr,I6⟩=> ?_
   subst hr;subst ei;obtain⟨m,hn,_⟩:=I6.loc;obtain⟨oC,es,ep,hoC,hdC,_⟩:=id hn
   refine hRR D s3.heap.objs.size s6 m hn ⟨G5,H5,eH.trans e5,I6.free,fin acc G5 p5,λh' hb=>⟨σ,uUa I3 f3 (lJh _) I6 hb,hs2.mono e5,hg5⟩⟩
    ⟨oC,hoC,lQ5 I3.lt,I3.nofs (lJh _),λv z=>by rw[hdC] at z;cases z⟩ (λx d hd=> ?_) (λp hp=> ?_) I3.sz
   .obtain⟨v,q⟩:=I3.cell x d hd;exact lJt q.lt
   .exact lJt (lJl (I3.pin p hp).1)
 exact codeAny_compStart_list (loop _ (by rw[<-hs3])) (T0.self _ 0 _ _ _ st4 (loop _ (by rw[<-hs3])))
theorem jQy(hc:X.calm=true)(ok:CmpOk X scope cl mask)(hi:PI3 X tg iter wi)(hgk:qKu mask g)(hg:∀C fp s H,PG3 (jUq X scope cl C fp s H) tg g)(hif:∀C fp s H,PIf3 (jUq X scope cl C fp s H) ifs tif)(he:∀C fp s H,PE3 (jUq X scope cl C fp s H) elt te)
  (hs:∀x,foldedSetIterable iter X.env x=pure x:=by intro _;rfl):PE3 X (.ListComp elt [⟨tg,iter,ifs,0⟩] scope pos) (jQb mask wi g tif te):=by
 intro pins s τ G H Q I h;rw[eval_ListComp];refine wpAny_comprehension_free (use:=none) rfl hs (kK4 ok.cl) ok.kind ok.nm (thn (hi pins s τ G H _ I h) λxv s1 h1=>thn h1 λitv s2 h2=> ?_)
 refine kK3 (RR:=λacc C=>compPost (model X.prog X.w) X.A X.xe none (EP3 X pins τ H Q) acc C) hc ok hgk hg hif he h2 ?_
 rintro D C s' m hn ⟨G1,H1,e1,_,q1,hI⟩ _ _ _ _;exact⟨m,hn,λh' hb=>⟨.ref D,G1,H1,e1,hI h' hb,⟨.ref D,rfl,rfl⟩,q1⟩⟩
theorem kUv{i:Nat}{y:Str}{py spos:Pos}(hc:X.calm=true)(hN:X.N.Nodup)(ok:CmpOk X scope cl mask)(hi:PI3 X tg iter wi)(hgk:qKu mask g)(hg:∀C fp s H,PG3 (jUq X scope cl C fp s H) tg g)(hif:∀C fp s H,PIf3 (jUq X scope cl C fp s H) ifs tif)(he:∀C fp s H,PE3 (jUq X scope cl C fp s H) elt te)
  (hy:X.N[i]? =some y:=by rfl) (hx:X.env.scope.names.lookup y=some .local:=by rfl)
  (hsw:swapsWith (.ListComp elt [⟨tg,iter,ifs,0⟩] scope pos) (some (.Name y py)) spos.line X.env=pure true:=by rfl)
  (hs:∀x,foldedSetIterable iter X.env x=pure x:=by intro _;rfl):PS3 X (.Assign [.Name y py] (.ListComp elt [⟨tg,iter,ifs,0⟩] scope pos) spos) (tAsg (jQb mask wi g tif te) (jJg i)):=by
 intro pins s τ G H D I h;rw[exec_Assign_Name_used _ _ _ _ hsw];refine lJa (lYv (lJa ?_));show wpAny _ X.A (do let _ <-comprehension (.ListComp elt [⟨tg,iter,ifs,0⟩] scope pos) scope X.env _ (newList []) false (eval iter X.env) (some (assign (.Name y py) X.env))) _ _ s
 refine lJa (lQp (wpAny_comprehension_free (use:=some (assign (.Name y py) X.env)) (Q:=λ_ s'=>SP3 X pins H D .next s') rfl hs (kK4 ok.cl) ok.kind ok.nm
  (thn (hi pins s τ G H _ I h) λxv s1 h1=>thn h1 λitv s2 h2=> ?_)) (λ_ s' hq=>lJd (lJd hq)) λ_ _ e=>e)
 refine kK3 (RR:=λacc C=>compPost (model X.prog X.w) X.A X.xe (some (assign (.Name y py) X.env)) (λ_ s'=>SP3 X pins H D .next s') acc C) hc ok hgk hg hif he h2 ?_
 rintro Dd C s' m hn ⟨G1,H1,e1,hH1C,q1,hI⟩ ⟨oC,hoC,c1,c2,c3⟩ c4 c5 c6;show wpAny _ X.A (assign (.Name y py) X.env (.ref Dd)) _ _ _
 obtain⟨σ1,I1,hs1,hg1⟩:=hI s'.heap (.refl ..)
 have I1':Inv X (pins++[(C,oC)]) σ1 H1 s':=I1.pins_of λp hp=>(lKb.mp hp).elim (λz=>I1.pin p (lKs _ z)) λz=>by
  obtain rfl:p=(C,oC):=by simpa using z
  exact⟨hoC,hH1C,c1,c2,c3⟩
 refine wpAny_assign_Name (jXi I1' hN hy (.inl hx) (v:= .ref Dd) rfl (λs2 I2=> ?_) (.inr hx))
 have hC2:s2.heap.get? C=some oC:=(I2.pin (C,oC) (lKs _ (lKs _ (by simp)))).1
 obtain⟨oC',es,ep,hoC',r⟩:=hn;have eo:oC'=oC:=by rw[hoC] at hoC';exact (lJ3 hoC').symm
 subst eo;refine⟨m,⟨oC',es,ep,hC2,r⟩,λh' hb=>⟨_,G1,H1,e1,⟨_,?_,hs1.set i (show Rep X.K H1 (.ref Dd) (.ref Dd) from rfl),hg1⟩,q1⟩⟩
 exact I2.unpinned.turned (t':=s2.toks) (λb o hb' e=>(hb.2 b hb').trans e) hH1C c1 (.inr c6) c4 c5
end
end L3
namespace HT
open PySem PyProof.Rows
def lexLe:(xs ys:List Int)->Bool
 | [],_=>true
 | _::_,[]=>false
 | x::xs,y::ys=>if x=y then lexLe xs ys else decide (x<=y)
theorem lexLe_cons(x y:Int)(xs ys:List Int):lexLe (x::xs) (y::ys)=if x=y then lexLe xs ys else decide (x<=y):=rfl
theorem lexLe_nil(ys:List Int):lexLe [] ys=true:=by cases ys<;>rfl
theorem kKf(x:Int)(xs:List Int):lexLe (x::xs) []=false:=rfl
theorem qX0(A:Around)(s:Shared)(a:Int)(t:Tok)(c:Int)(u:Tok)(prog:Program)(w:World)(E:Value->Shared->Prop)(Q:Value->Shared->Prop)(h:Q (.bool (decide (a<=c))) s):
  wpAny (model prog w) A (richCompare .LtE (.int a t) (.int c u)) Q E s:=
 (PyProof.Rows.le_int h:wpAny (model prog w) A (compareOp .LtE (.int a t) (.int c u)) Q E s)
section
open PySem.SeqAt
open PySem.AutoSeq1 (wpAny_loadPart')
open PySem.MeetsSeq PySem.MeetsSeq2 PySem.MeetsSeq3
theorem kK8(l b:Addr)(items items2:Array Value)(n n2:Nat)(dd dd2:Option Addr)(sl sl2:Array (Option Value))(ns ms:List Int)(hi:IntsAre items.toList ns)(hj:IntsAre items2.toList ms):
  Meets (Builtin.«tuple.__le__» ⟨[.ref l,.ref b],[]⟩)
   (λ_ R s=>s.heap.get? l=some {cls:= .type "tuple",dict:=dd,data:= .seq items n,slots:=sl}/\s.heap.get? b=some {cls:= .type "tuple",dict:=dd2,data:= .seq items2 n2,slots:=sl2}/\
    R (.ok (.ret (.bool (lexLe ns ms)))) s):=
 .of_wp λprog w A R s h=>by
  obtain⟨hp,g,d,tk,os⟩:=s;obtain⟨hl,hb,h⟩:=h;have f2:=AutoSeq1.sub_tuple_tuple;have z1:items.size=ns.length:=by rw[<-hi.length];simp
  have z2:items2.size=ms.length:=by rw[<-hj.length];simp
  wp_walk using wpAny_loadPart' hl,wpAny_loadPart' hb,wpAny_forIn_list _ (λrest b s'=>b.1=none/\s'=⟨hp,g,d,tk,os⟩/\∃(vs ws:List Value)(ns' ms':List Int),rest=vs.zip ws/\
   IntsAre vs ns'/\IntsAre ws ms'/\ns'.length+items2.size=ms'.length+items.size/\R (.ok (.ret (.bool (lexLe ns' ms')))) ⟨hp,g,d,tk,os⟩) _
  case turn=>
   rintro⟨y,x⟩ rest b s' ⟨hb',rfl,vs,ws,ns',ms',hz,hvi,hwi,hlen,hR⟩;cases hvi with
   | nil=>rw[List.zip_nil_left] at hz;cases hz
   | cons a t hvi'=>
    cases hwi with
    | nil=>rw[List.zip_nil_right] at hz;cases hz
    | cons c u hwi'=>
     rw[lV6] at hz;injection hz with hyx hrest
     injection hyx with hy hx
     subst hy hx;rw[lexLe_cons] at hR;simp only[lJ7] at hlen;obtain⟨e,he,hiff⟩:=qZn A.in1 ⟨hp,g,d,tk,os⟩ a t c u;refine lJa (he prog w _ _ ?_);cases e with
     | true=>
      rw[lJc (hiff.mp rfl)] at hR
      wp_walk
      exact⟨rfl,rfl,_,_,_,_,hrest,hvi',hwi',by omega,hR⟩
     | false=>
      rw[lJb (λq=>absurd (hiff.mpr q) lJo)] at hR
      have hri:=qX0 A.in1 ⟨hp,g,d,tk,os⟩ a t c u prog w
      wp_walk using hri
      exact⟨_,rfl,by simpa using hR⟩
  case fin=>
   rintro⟨b1,b2⟩ s' ⟨hb',rfl,vs,ws,ns',ms',hz,hvi,hwi,hlen,hR⟩;simp only at hb';subst hb'
   have hv:lexLe ns' ms'=decide (items.size<=items2.size):=by
    cases hvi with
    | nil=>
     simp only[lQd] at hlen;rw[lexLe_nil];exact (lKf (by omega)).symm
    | cons a t hv=>
     cases hwi with
     | nil=>
      simp only[lQd,lJ7] at hlen;rw[kKf];exact (lJ4 (by omega)).symm
     | cons c u hw=>
      rw[lV6] at hz;cases hz
   rw[hv] at hR
   wp_walk
   exact⟨_,rfl,by simpa[Builtin.Tuple.tupleCompareSizes] using hR⟩
  case h=>
   exact⟨rfl,rfl,items.toList,items2.toList,ns,ms,rfl,hi,hj,by omega,h⟩
end
theorem le_tupInts{prog:Program}{w:World}{A:Around}{E:Value->Shared->Prop}{s:Shared}{l b:Addr}{items items2:Array Value}{ns ms:List Int}{Q:Value->Shared->Prop}(hl:IsTup s.heap l items)(hb:IsTup s.heap b items2)(hi:IntsAre items.toList ns)(hj:IntsAre items2.toList ms)
  (hu:A.units<cLine) (h:Q (.bool (lexLe ns ms)) s):wpAny (model prog w) A (compareOp .LtE (.ref l) (.ref b)) Q E s:=by
 obtain⟨⟨cls,dd,data,sl⟩,ho,hc,n,hd⟩:=id hl;obtain⟨⟨cls2,dd2,data2,sl2⟩,ho2,hc2,n2,hd2⟩:=id hb;simp only at hc hd hc2 hd2;subst hc hd hc2 hd2
 exact richCompare_meets_room (op:= .LtE) ⟨_,ho,rfl⟩ ⟨_,ho2,rfl⟩ PySem.F.slot_tuple_le PySem.F.entry_tuple_le (PySem.F.args_tuple_le_2 _ _) (kK8 l b items items2 n n2 dd dd2 sl sl2 ns ms hi hj)
  ⟨ho,ho2,show Value.bool (lexLe ns ms)≠Value.notImplemented/\Q (.bool (lexLe ns ms)) s from⟨(λx=>nomatch x),h⟩⟩ hu
end HT
namespace L3
open PySem PySem.Spec PyProof.Rows L2
section
variable {X:Cx}
theorem jQm{K:PySem.W.Frag}{H:Hp}:∀{ns:List Int}{vs:List V},Reps K H (ns.map T.int) vs->vs=ns.map V.int
 | [],_,h=>h
 | n::ns,_,⟨v,ws,e,r,rs⟩=>by
  subst e;cases (show v= .int n from r)
  rw[jQm rs];rfl
def rLeT:R3:=λx y G Q=>∃ns ms,x= .tup (ns.map T.int)/\y= .tup (ms.map T.int)/\Q (.bl (HT.lexLe ns ms)) G
theorem uYp(hu:X.A.units<cLine):Op3 X (compareOp .LtE) rLeT:=by
 rintro pins s τ G H x y v u Q ⟨σ,I,hs,hg⟩ ⟨a,ra,rv⟩ ⟨b,rb,ru⟩ ⟨ns,ms,ex,ey,q⟩;subst ex;subst ey;obtain⟨p,vs,e1,h1,h2⟩:=(show ∃p vs,a= .ref p/\H p=some (.tup vs)/\Reps X.K H (ns.map T.int) vs from ra)
 obtain⟨p',ws,e2,h3,h4⟩:=(show ∃p vs,b= .ref p/\H p=some (.tup vs)/\Reps X.K H (ms.map T.int) vs from rb)
 subst e1;subst e2;cases rv;cases ru;rw[jQm h2] at h1;rw[jQm h4] at h3;obtain⟨its,r1,p1,_⟩:=I.tuple (.of h1);obtain⟨its2,r2,p2,_⟩:=I.tuple (.of h3);exact HT.le_tupInts p1 p2 (show IntsAre its.toArray.toList ns from kKw r1) (show IntsAre its2.toArray.toList ms from kKw r2) hu ⟨.bl _,G,H,.refl H,⟨σ,I,hs,hg⟩,⟨.bl _,rfl,rfl⟩,q⟩
def rLeI:R3:=rI0 λi j=> .bl (decide (i<=j))
def rLeA:R3:=λx y G Q=>rLeI x y G Q\/rLeT x y G Q
theorem uYq(hu:X.A.units+20<cLine):Op3 X (compareOp .LtE) rLeA:=o_le.or (uYp (by omega))
theorem qVg{G:Gp}{x y:T}{b:Bool}(h:eqG G x y=some b):
  (∃p q xs ys,x= .ref p/\y= .ref q/\G p=some (.lst xs)/\G q=some (.lst ys)/\jYu xs=true/\jYu ys=true/\b=eqTs xs ys)\/(eqOk x=true/\eqOk y=true/\b=eqT x y):=by
 by_cases hr:∃p q,x= .ref p/\y= .ref q
 .obtain⟨p,q,ex,ey⟩:=hr;subst ex;subst ey;refine .inl ?_;simp only[eqG] at h;split at h
  .rename_i xs ys h1 h2
   split at h
   .rename_i hc
    cases h;exact⟨p,q,xs,ys,rfl,rfl,h1,h2,hc.1,hc.2,rfl⟩
   .cases h
  .cases h
 .refine .inr ?_
  have e:eqG G x y=if eqOk x=true/\eqOk y=true then some (eqT x y) else none:=by
   cases x with
   | ref p=>cases y with
    | ref q=>exact absurd ⟨p,q,rfl,rfl⟩ hr
    | _=>rfl
   | _=>rfl
  rw[e] at h;split at h
  .rename_i hc
   cases h;exact⟨hc.1,hc.2,rfl⟩
  .cases h
mutual
theorem kQn{X:Cx}{pins:List (Addr×Obj)}{σ:L2.St}{H:Hp}{s:Shared}(I:Inv X pins σ H s):∀(x:T){a:V}{u:Value},tree x=true->Rep X.K H x a->RelV a u->∃as,Reads s.heap u (td x) as
 | .non,a,u,_,r,q=>by cases (show a= .non from r);cases q;exact⟨_,.none⟩
 | .bl b,a,u,_,r,q=>by cases (show a= .bl b from r);cases q;exact⟨_,.bool b⟩
 | .int b,a,u,_,r,q=>by cases (show a= .int b from r);obtain⟨t,rfl⟩:=q;exact⟨_,.int b t⟩
 | .str b,a,u,_,r,q=>by cases (show a= .str b from r);obtain⟨t,rfl⟩:=q;exact⟨_,.str b t⟩
 | .tup xs,a,u,ht,r,q=>by
  obtain⟨p,vs,e1,h1,h2⟩:=(show ∃p vs,a= .ref p/\H p=some (.tup vs)/\Reps X.K H xs vs from r)
  subst e1;cases q;obtain⟨its,rv,⟨o,ho,hc,n,hd⟩,_⟩:=I.tuple (.of h1);obtain⟨as,ra⟩:=jXo I xs (show jQd xs=true from ht) h2 rv
  exact⟨_,.tuple ho hc hd (by simpa using ra)⟩
 | .ref _,_,_,ht,_,_=>absurd (show false=true from ht) lJo
 | .scr _,_,_,ht,_,_=>absurd (show false=true from ht) lJo
 | .ty _,_,_,ht,_,_=>absurd (show false=true from ht) lJo
theorem jXo{X:Cx}{pins:List (Addr×Obj)}{σ:L2.St}{H:Hp}{s:Shared}(I:Inv X pins σ H s):∀(xs:List T){vs:List V}{us:List Value},jQd xs=true->Reps X.K H xs vs->Vals vs us->∃as,ReadsAll s.heap us (tds xs) as
 | [],_,_,_,r,q=>by cases r;cases q;exact⟨_,.nil⟩
 | x::xs,_,_,ht,⟨v,ws,e,r1,r2⟩,q=>by
  subst e;cases q with
  | cons q1 q2=>
   have hx:tree x=true/\jQd xs=true:=by simpa[jQd] using ht
   obtain⟨as,ra⟩:=kQn I x hx.1 r1 q1;obtain⟨bs,rb⟩:=jXo I xs hx.2 r2 q2;exact⟨_,.cons ra rb⟩
end
mutual
theorem uXk:∀(x y:T),tree x=true->tree y=true->PyData.eqv (td x) (td y)=eqT x y
 | .non,y,_,hy=>by cases y<;>first | rfl | exact absurd (show false=true from hy) lJo
 | .bl b,y,_,hy=>by cases y<;>first | rfl | exact absurd (show false=true from hy) lJo
 | .int b,y,_,hy=>by cases y<;>first | rfl | exact absurd (show false=true from hy) lJo
 | .str b,y,_,hy=>by cases y<;>first | rfl | exact absurd (show false=true from hy) lJo
 | .tup xs,y,hx,hy=>by
  cases y with
  | tup ys=>exact qVd xs ys (show jQd xs=true from hx) (show jQd ys=true from hy)
  | _=>first | rfl | exact absurd (show false=true from hy) lJo
 | .ref _,_,ht,_=>absurd (show false=true from ht) lJo
 | .scr _,_,ht,_=>absurd (show false=true from ht) lJo
 | .ty _,_,ht,_=>absurd (show false=true from ht) lJo
theorem qVd:∀(xs ys:List T),jQd xs=true->jQd ys=true->PyData.eqvAll (tds xs) (tds ys)=eqTs xs ys
 | [],[],_,_=>rfl
 | [],_::_,_,_=>rfl
 | _::_,[],_,_=>rfl
 | x::xs,y::ys,hx,hy=>by
  have hx':tree x=true/\jQd xs=true:=by simpa[jQd] using hx
  have hy':tree y=true/\jQd ys=true:=by simpa[jQd] using hy
  show (PyData.eqv (td x) (td y)&&PyData.eqvAll (tds xs) (tds ys))=(eqT x y&&eqTs xs ys)
  rw[uXk x y hx'.1 hy'.1,qVd xs ys hx'.2 hy'.2]
end
theorem kZ1{pins:List (Addr×Obj)}{σ:L2.St}{H:Hp}{s:Shared}{G:Gp}{x y:T}{a b:V}{u v:Value}{k:Bool}(I:Inv X pins σ H s)(hg:GRel X.K H G)(ra:Rep X.K H x a)(rb:Rep X.K H y b)(ru:RelV a u)(rv:RelV b v)(h:eqG G x y=some k):
  ∃da db as bs,Reads s.heap u da as/\Reads s.heap v db bs/\da.canLay0=true/\db.canLay0=true/\da.depth<=50/\PyData.eqv da db=k:=by
 rcases qVg h with ⟨p,q,xs,ys,ex,ey,hp,hq,ox,oy,e⟩ | ⟨ox,oy,e⟩
 .subst ex;subst ey;cases (show a= .ref p from ra);cases (show b= .ref q from rb)
  cases ru;cases rv;obtain⟨vs,h1,h2⟩:=hg.lst hp;obtain⟨ws,h3,h4⟩:=hg.lst hq;obtain⟨its,r1,⟨o,n,ho,hc,_,hd⟩,_⟩:=I.list (.of h1);obtain⟨its',r2,⟨o',n',ho',hc',_,hd'⟩,_⟩:=I.list (.of h3);simp only[jYu,lKt,lK7] at ox oy;obtain⟨as,r3⟩:=jXo I xs ox.1.1 h2 r1;obtain⟨bs,r4⟩:=jXo I ys oy.1.1 h4 r2;exact⟨.list (tds xs),.list (tds ys),_,_,.list ho hc hd (by simpa using r3),.list ho' hc' hd' (by simpa using r4),ox.1.2,oy.1.2,ox.2,by rw[e];exact qVd xs ys ox.1.1 oy.1.1⟩
 .simp only[eqOk,lKt,lK7] at ox oy;obtain⟨as,r3⟩:=kQn I x ox.1.1 ra ru;obtain⟨bs,r4⟩:=kQn I y oy.1.1 rb rv;exact⟨td x,td y,_,_,r3,r4,ox.1.2,oy.1.2,ox.2,by rw[e];exact uXk x y ox.1.1 oy.1.1⟩
theorem jVj(hu:X.A.units+64<cLine):Op3 X (compareOp .Eq) rEqA:=by
 rintro pins s τ G H x y v u Q ⟨σ,I,hs,hg⟩ ⟨a,ra,rv⟩ ⟨b,rb,ru⟩ ⟨k,hk,q⟩;obtain⟨da,db,as,bs,r1,r2,c1,c2,d,e⟩:=kZ1 I hg ra rb rv ru hk;exact SeqAt.compareEq_reads r1 r2 c1 c2 (by omega) ⟨.bl k,G,H,.refl H,⟨σ,I,hs,hg⟩,⟨.bl k,rfl,by rw[e];rfl⟩,q⟩
theorem kX0(hu:X.A.units+64<cLine):Op3 X (compareOp .NotEq) rNeA:=by
 rintro pins s τ G H x y v u Q ⟨σ,I,hs,hg⟩ ⟨a,ra,rv⟩ ⟨b,rb,ru⟩ ⟨k,hk,q⟩;obtain⟨da,db,as,bs,r1,r2,c1,c2,d,e⟩:=kZ1 I hg ra rb rv ru hk;exact SeqAt.compareNe_reads r1 r2 c1 c2 (by omega) ⟨.bl (!k),G,H,.refl H,⟨σ,I,hs,hg⟩,⟨.bl (!k),rfl,by rw[e];rfl⟩,q⟩
end
section
variable {X:Cx}
def jU5:T->Bool
 | .non=>true
 | .bl _=>true
 | .int _=>true
 | .str _=>true
 | _=>false
theorem jVr{K:PySem.W.Frag}{H:Hp}{x:T}{a:V}(r:Rep K H x a)(f:jU5 x=true):kKh a=true:=by
 cases x with
 | non=>cases (show a= .non from r);rfl
 | bl _=>cases (show a= .bl _ from r);rfl
 | int _=>cases (show a= .int _ from r);rfl
 | str _=>cases (show a= .str _ from r);rfl
 | _=>exact absurd (show false=true from f) lJo
theorem kYg{K:PySem.W.Frag}{H:Hp}{x y:T}{a b:V}(r:Rep K H x a)(q:Rep K H y b)(f:jU5 x=true)(g:jU5 y=true):eqV a b=eqT x y:=by
 cases x with
 | non=>cases (show a= .non from r);cases y with
  | non=>cases (show b= .non from q);rfl
  | bl _=>cases (show b= .bl _ from q);rfl
  | int _=>cases (show b= .int _ from q);rfl
  | str _=>cases (show b= .str _ from q);rfl
  | _=>exact absurd (show false=true from g) lJo
 | bl _=>cases (show a= .bl _ from r);cases y with
  | non=>cases (show b= .non from q);rfl
  | bl _=>cases (show b= .bl _ from q);rfl
  | int _=>cases (show b= .int _ from q);rfl
  | str _=>cases (show b= .str _ from q);rfl
  | _=>exact absurd (show false=true from g) lJo
 | int _=>cases (show a= .int _ from r);cases y with
  | non=>cases (show b= .non from q);rfl
  | bl _=>cases (show b= .bl _ from q);rfl
  | int _=>cases (show b= .int _ from q);rfl
  | str _=>cases (show b= .str _ from q);rfl
  | _=>exact absurd (show false=true from g) lJo
 | str _=>cases (show a= .str _ from r);cases y with
  | non=>cases (show b= .non from q);rfl
  | bl _=>cases (show b= .bl _ from q);rfl
  | int _=>cases (show b= .int _ from q);rfl
  | str _=>cases (show b= .str _ from q);rfl
  | _=>exact absurd (show false=true from g) lJo
 | _=>exact absurd (show false=true from f) lJo
def inT(x:T)(xs:List T):Bool:=xs.any λy=>eqT y x
theorem jZk{K:PySem.W.Frag}{H:Hp}{x:T}{a:V}(r:Rep K H x a)(f:jU5 x=true):∀{xs:List T}{vs:List V},Reps K H xs vs->xs.all jU5=true->vs.all kKh=true/\inV a vs=inT x xs
 | [],_,h,_=>by cases h;exact⟨rfl,rfl⟩
 | y::ys,_,⟨v,ws,e,r1,r2⟩,g=>by
  subst e;rw[lQt,lKt] at g;obtain⟨h1,h2⟩:=jZk r f r2 g.2;refine⟨by rw[lQt,jVr r1 g.1,h1];rfl,?_⟩
  unfold inV inT at h2 ⊢;rw[lQu,lQu,kYg r1 r g.1 f,h2]
def rInF(neg:Bool):R3:=λx y G Q=>∃xs,seqT G y=some xs/\jU5 x=true/\xs.all jU5=true/\Q (.bl (if neg then !inT x xs else inT x xs)) G
theorem uQs{neg:Bool}{op:CmpOp}(h:OpR X (compareOp op) (L2.rIn X.K neg)):Op3 X (compareOp op) (rInF neg):=
 Op3.of h λH G x y a b Q hg ra rb ⟨xs,hx,fx,fs,q⟩=>by
  obtain⟨p,vs,e,hq,r⟩:=jUm hg rb hx;obtain⟨h1,h2⟩:=jZk ra fx r fs;exact⟨p,vs,e,hq,jVr ra fx,h1,.bl _,G,.refl H,hg,by rw[h2];rfl,q⟩
theorem o_notInF:Op3 X (compareOp .NotIn) (rInF true):=uQs kU9
def jQ6:T->Option Key
 | .int i=>some (.inl i)
 | .str x=>some (.inr x)
 | _=>none
def allK{K:Type}(f:T->Option K):List T->Option (List K)
 | []=>some []
 | x::xs=>match f x,allK f xs with
  | some k,some ks=>some (k::ks)
  | _,_=>none
def key1:T->Option K1
 | .tup ts=>(allK jQ6 ts).map .inr
 | x=>(jQ6 x).map .inl
def key2:T->Option K2
 | .tup ts=>(allK key1 ts).map .inr
 | x=>(jQ6 x).map .inl
def jKx:List T->Option TKey:=allK key2
theorem jXy{K:PySem.W.Frag}{H:Hp}{x:T}{a:V}{k:Key}(h:jQ6 x=some k)(r:Rep K H x a):a=kV k:=by
 cases x with
 | int i=>cases h;exact r
 | str i=>cases h;exact r
 | non=>cases h
 | bl _=>cases h
 | tup _=>cases h
 | scr _=>cases h
 | ref _=>cases h
 | ty _=>cases h
theorem jZo{K:PySem.W.Frag}{H:Hp}{κ:Type}{f:T->Option κ}{R:κ->V->Prop}(hf:∀x k a,f x=some k->Rep K H x a->R k a):∀{xs:List T}{vs:List V}{ks:List κ},allK f xs=some ks->Reps K H xs vs->Paired R ks vs
 | [],_,_,h,r=>by cases h;cases (show _=[] from r);exact .nil
 | x::xs,_,ks,h,⟨v,ws,e,r1,r2⟩=>by
  subst e;unfold allK at h;cases e1:f x with
  | none=>rw[e1] at h;cases h
  | some k=>
   cases e2:allK f xs with
   | none=>rw[e1,e2] at h;cases h
   | some ks'=>
    rw[e1,e2] at h;cases h;exact .cons (hf _ _ _ e1 r1) (jZo hf e2 r2)
theorem qY1{K:PySem.W.Frag}{H:Hp}(x:T)(k:K1)(a:V)(h:key1 x=some k)(r:Rep K H x a):Rk1 H k a:=by
 cases x with
 | tup ts=>
  obtain⟨ks,h1,rfl⟩:=lK3.mp (show (allK jQ6 ts).map Sum.inr=some k from h)
  obtain⟨p,vs,e,h3,h4⟩:=(show ∃p vs,a= .ref p/\H p=some (.tup vs)/\Reps K H ts vs from r)
  exact⟨p,vs,e,h3,jZo (λx k a h r=>jXy h r) h1 h4⟩
 | int i=>cases h;exact r
 | str i=>cases h;exact r
 | non=>cases h
 | bl _=>cases h
 | scr _=>cases h
 | ref _=>cases h
 | ty _=>cases h
theorem qYz{K:PySem.W.Frag}{H:Hp}(x:T)(k:K2)(a:V)(h:key2 x=some k)(r:Rep K H x a):Rk2 H k a:=by
 cases x with
 | tup ts=>
  obtain⟨ks,h1,rfl⟩:=lK3.mp (show (allK key1 ts).map Sum.inr=some k from h)
  obtain⟨p,vs,e,h3,h4⟩:=(show ∃p vs,a= .ref p/\H p=some (.tup vs)/\Reps K H ts vs from r)
  exact⟨p,vs,e,h3,jZo qY1 h1 h4⟩
 | int i=>cases h;exact r
 | str i=>cases h;exact r
 | non=>cases h
 | bl _=>cases h
 | scr _=>cases h
 | ref _=>cases h
 | ty _=>cases h
theorem jQj{K:PySem.W.Frag}{H:Hp}{xs:List T}{vs:List V}{ks:TKey}{p:Addr}(h:jKx xs=some ks)(e:H p=some (.tup vs))(r:Reps K H xs vs):TKeyAt H ks p:=⟨vs,e,jZo qYz h r⟩
def valT{κ:Type}[DecidableEq κ](kvs:List (κ×T))(k:κ):Option T:=(kvs.find? λkv=>decide (kv.1=k)).map (·.2)
noncomputable def putT{κ:Type}[DecidableEq κ](kvs:List (κ×T))(k:κ)(v:T):List (κ×T):=
 if (kvs.any λkv=>decide (kv.1=k))=true then kvs.map (λkv=>if kv.1=k then (kv.1,v) else kv) else kvs++[(k,v)]
theorem PKV.val{κ:Type}[DecidableEq κ]{K:PySem.W.Frag}{H:Hp}{kvs:List (κ×T)}{ws:List (κ×V)}(r:PKV K H kvs ws)(k:κ):(∀t,valT kvs k=some t->∃v,valV ws k=some v/\Rep K H t v)/\(valT kvs k).isSome=(valV ws k).isSome:=by
 unfold PKV at r
 induction r with
 | nil=>exact⟨λt h=>by simp[valT] at h,rfl⟩
 | @cons p q ps qs h t ih=>
  by_cases e:p.1=k
  .have e':q.1=k:=h.1.symm.trans e;have b:valT (p::ps) k=some p.2:=by simp[valT,lQf,e]
   rw[b,jZe e'];exact⟨λt ht=>by cases ht;exact⟨q.2,rfl,h.2⟩,rfl⟩
  .have e':¬ q.1=k:=λz=>e (h.1.trans z)
   have b:valT (p::ps) k=valT ps k:=by simp[valT,lQf,e]
   rw[b,jZf e'];exact ih
theorem PKV.any{κ:Type}[DecidableEq κ]{K:PySem.W.Frag}{H:Hp}{kvs:List (κ×T)}{ws:List (κ×V)}(r:PKV K H kvs ws)(k:κ):(kvs.any λkv=>decide (kv.1=k))=ws.any λkv=>decide (kv.1=k):=by
 unfold PKV at r
 induction r with
 | nil=>rfl
 | cons h t ih=>rw[lQu,lQu,ih,h.1]
theorem PKV.put{κ:Type}[DecidableEq κ]{K:PySem.W.Frag}{H:Hp}{kvs:List (κ×T)}{ws:List (κ×V)}(r:PKV K H kvs ws)(k:κ){t:T}{v:V}(rt:Rep K H t v):PKV K H (putT kvs k t) (putK ws k v):=by
 unfold putT putK;rw[r.any k]
 by_cases e:(ws.any λkv=>decide (kv.1=k))=true
 .rw[lJc e,lJc e];unfold PKV at r ⊢;clear e
  induction r with
  | nil=>exact .nil
  | @cons p q ps qs h t' ih=>
   rw[lJq,lJq];refine .cons ?_ ih;obtain⟨h1,h2⟩:=h
   by_cases e:p.1=k
   .rw[lJc e,lJc (h1.symm.trans e)];exact⟨h1,rt⟩
   .rw[lJb e,lJb (λz=>e (h1.trans z))];exact⟨h1,h2⟩
 .rw[lJb e,lJb e];exact Paired.snoc r ⟨rfl,rt⟩
theorem PKV.length{κ:Type}{K:PySem.W.Frag}{H:Hp}{kvs:List (κ×T)}{ws:List (κ×V)}(r:PKV K H kvs ws):kvs.length=ws.length:=lVf r
noncomputable def dAt(G:Gp)(x y:T):Option (Option T):=match x with
 | .ref p=>match G p with
  | some (.dct kvs)=>match y with
   | .tup ys=>match jKx ys with
    | some ks=>some (valT kvs ks)
    | none=>none
   | _=>none
  | some (.dck kvs)=>match jQ6 y with
   | some k=>some (valT kvs k)
   | none=>none
  | some (.fdc kvs)=>match y with
   | .tup ys=>match jKx ys with
    | some ks=>some (valT kvs ks)
    | none=>none
   | _=>none
  | _=>none
 | _=>none
theorem qVp{K:PySem.W.Frag}{H:Hp}{G:Gp}{x y:T}{a b:V}{o:Option T}(hg:GRel K H G)(ra:Rep K H x a)(rb:Rep K H y b)(h:dAt G x y=some o):
  ∃p ov,a= .ref p/\DGet H p b ov/\o.isSome=ov.isSome/\∀t,o=some t->∃v,ov=some v/\Rep K H t v:=by
 unfold dAt at h;split at h
 .rename_i p
  cases (show a= .ref p from ra)
  split at h
  .rename_i kvs hG
   split at h
   .rename_i ys
    split at h
    .rename_i ks hk
     cases h;obtain⟨ws,h1,h2⟩:=hg p _ hG;obtain⟨q,vs,e,h3,h4⟩:=(show ∃q vs,b= .ref q/\H q=some (.tup vs)/\Reps K H ys vs from rb)
     subst e;exact⟨p,_,rfl,DGet.t h1 (jQj hk h3 h4),(h2.val ks).2,(h2.val ks).1⟩
    .cases h
   .cases h
  .rename_i kvs hG
   split at h
   .rename_i k hk
    cases h;obtain⟨ws,h1,h2⟩:=hg p _ hG;rw[jXy hk rb];exact⟨p,_,rfl,DGet.k h1,(h2.val k).2,(h2.val k).1⟩
   .cases h
  .rename_i kvs hG
   split at h
   .rename_i ys
    split at h
    .rename_i ks hk
     cases h;obtain⟨ob,ws,h1,h2⟩:=(show ∃ob ws,H p=some (.frz ob (.dT ws))/\PKV K H kvs ws from hg p _ hG)
     obtain⟨q,vs,e,h3,h4⟩:=(show ∃q vs,b= .ref q/\H q=some (.tup vs)/\Reps K H ys vs from rb)
     subst e;exact⟨p,_,rfl,.inr ⟨ws,ks,q,.inr ⟨ob,h1⟩,rfl,jQj hk h3 h4,rfl⟩,(h2.val ks).2,(h2.val ks).1⟩
    .cases h
   .cases h
  .cases h
 .cases h
def uVd:R3:=λx y G Q=>∃t,dAt G x y=some (some t)/\Q t G
theorem uQm(hu:X.A.units+20<cLine):Ix3 X uVd:=by
 rintro value slice pins s τ G H x y v u Q ⟨σ,I,hs,hg⟩ ⟨a,ra,rv⟩ ⟨b,rb,ru⟩ ⟨t,hd,q⟩ hsl;obtain⟨p,ov,e,g,_,hh⟩:=qVp hg ra rb hd;obtain⟨w,ew,rw'⟩:=hh t rfl;subst e;subst ew;cases rv;have hT:s.TypeIs (.ref p) "dict":=kYn I g;unfold subscriptTail;refine lJa ?_;rw[getitemInPython_of_ne hT.not_modules];refine lJa (lXj hT PySem.F.slot_dict_getitem.lookup ?_)
 have fin:wpAny (model X.prog X.w) X.A (subscripted slice false (.ref p) u) (λr s₃=>wpAny (model X.prog X.w) X.A (letTemporaryGo value (.ref p) r >>= λ_=>pure r) (EP3 X pins τ H Q) X.xe s₃) X.xe s:=by
  rw[hsl];exact wpAny_operating (qVo hu I g ru λw' s' I' r'=>lJa (wpAny_letTemporaryGo (lJd ⟨t,G,H,.refl H,⟨σ,I',hs,hg⟩,⟨w,rw',r'⟩,q⟩)))
 first
  | exact lJd (lJa fin)
  | exact lJa (lJd (lJa fin))
  | exact lJa fin
theorem Ix3.or{r r':R3}(h:Ix3 X r)(h':Ix3 X r'):Ix3 X (λx y G Q=>r x y G Q\/r' x y G Q):=by
 intro value slice pins s τ G H x y v u Q I rx ry q hs
 rcases q with q | q
 .exact h value slice pins s τ G H x y v u Q I rx ry q hs
 .exact h' value slice pins s τ G H x y v u Q I rx ry q hs
def rIxA:R3:=λx y G Q=>rIx x y G Q\/uVd x y G Q
theorem uQn(hu:X.A.units+20<cLine):Ix3 X rIxA:=ix_any.or (uQm hu)
def qQs:R3:=λx y G Q=>∃o,dAt G y x=some o/\Q (.bl (!o.isSome)) G
theorem qYi(hu:X.A.units+20<cLine):Op3 X (compareOp .NotIn) qQs:=by
 rintro pins s τ G H x y v u Q ⟨σ,I,hs,hg⟩ ⟨a,ra,rv⟩ ⟨b,rb,ru⟩ ⟨o,hd,q⟩;obtain⟨p,ov,e,g,e2,_⟩:=qVp hg rb ra hd;subst e;cases ru;exact uQ8 hu I g rv λs' I'=>⟨.bl _,G,H,.refl H,⟨σ,I',hs,hg⟩,⟨.bl _,rfl,by rw[<-e2];rfl⟩,q⟩
def qQp:R3:=λx y G Q=>rInF true x y G Q\/qQs x y G Q
theorem uK8(hu:X.A.units+20<cLine):Op3 X (compareOp .NotIn) qQp:=o_notInF.or (qYi hu)
def jX8:TE3:=λ_ G Q=>(∀p,G p=none->Q (.ref p) (gup G p (.dct [])))\/∀p,G p=none->Q (.ref p) (gup G p (.dck []))
theorem uXq{pos:Pos}:PE3 X (.Dict [] [] pos) jX8:=by
 rintro pins s τ G H Q ⟨σ,I,hs,hg⟩ h
 rcases h with h | h
 .exact thn (qYa pins s σ H (up X.K H Q) I λp hp=>⟨.ref p,_,.upd (.none hp),hg.upd (.none hp) (go:= .dct []) ⟨[],jKv,.nil⟩,rfl,h p (hg.fresh hp)⟩) λu s' z=>jVh hs z
 .exact thn (qYb pins s σ H (up X.K H Q) I λp hp=>⟨.ref p,_,.upd (.none hp),hg.upd (.none hp) (go:= .dck []) ⟨[],jKv,.nil⟩,rfl,h p (hg.fresh hp)⟩) λu s' z=>jVh hs z
noncomputable def uJs:T->T->T->Gp->(Gp->Prop)->Prop:=λo i v G Q=>∃p ys ks kvs,o= .ref p/\i= .tup ys/\jKx ys=some ks/\G p=some (.dct kvs)/\kvs.length<sizeLine/\Q (gup G p (.dct (putT kvs ks v)))
def uJt:T->T->T->Gp->(Gp->Prop)->Prop:=λo i v G Q=>∃p k kvs,o= .ref p/\jQ6 i=some k/\G p=some (.dck kvs)/\kvs.length<sizeLine/\Q (gup G p (.dck (putT kvs k v)))
theorem uKs(hu:X.A.units+20<cLine):Set3 X uJs:=by
 rintro pins s τ G H o i v ov iv u Q ⟨σ,I,hs,hg⟩ ⟨a,ra,rv⟩ ⟨b,rb,ru⟩ ⟨c,rc,rw'⟩ ⟨p,ys,ks,kvs,eo,ei,hk,hG,hz,q⟩;subst eo;subst ei;cases (show a= .ref p from ra);cases rv
 obtain⟨ws,h1,h2⟩:=hg p _ hG;obtain⟨b',vs,e,h3,h4⟩:=(show ∃q vs,b= .ref q/\H q=some (.tup vs)/\Reps X.K H ys vs from rb)
 subst e;have h3:=jQj hk h3 h4;have e:Ext H (upd H p (.dT (putK ws ks c))):= .upd (.dT h1);exact kVq hu I (DPut.t h1 h3 (by rw[<-h2.length];exact hz)) ru rw' λs' I'=>⟨_,_,e,⟨σ,I',hs.mono e,hg.upd (.dT h1) (go:= .dct (putT kvs ks v)) ⟨_,jKv,(h2.put ks rc).mono e⟩⟩,q⟩
theorem uKt(hu:X.A.units+20<cLine):Set3 X uJt:=by
 rintro pins s τ G H o i v ov iv u Q ⟨σ,I,hs,hg⟩ ⟨a,ra,rv⟩ ⟨b,rb,ru⟩ ⟨c,rc,rw'⟩ ⟨p,k,kvs,eo,hk,hG,hz,q⟩;subst eo;cases (show a= .ref p from ra);cases rv
 obtain⟨ws,h1,h2⟩:=hg p _ hG;have eb:=jXy hk rb;subst eb;have e:Ext H (upd H p (.dK (putK ws k c))):= .upd (.dK h1);exact kVq hu I (DPut.k h1 (by rw[<-h2.length];exact hz)) ru rw' λs' I'=>⟨_,_,e,⟨σ,I',hs.mono e,hg.upd (.dK h1) (go:= .dck (putT kvs k v)) ⟨_,jKv,(h2.put k rc).mono e⟩⟩,q⟩
theorem Set3.or{r r':T->T->T->Gp->(Gp->Prop)->Prop}(h:Set3 X r)(h':Set3 X r'):Set3 X (λo i v G Q=>r o i v G Q\/r' o i v G Q):=by
 intro pins s τ G H o i v ov iv u Q I ro ri rv q
 rcases q with q | q
 .exact h pins s τ G H o i v ov iv u Q I ro ri rv q
 .exact h' pins s τ G H o i v ov iv u Q I ro ri rv q
def uVa:T->T->T->Gp->(Gp->Prop)->Prop:=λo i v G Q=>qX2 o i v G Q\/uJs o i v G Q\/uJt o i v G Q
theorem uYb(hu:X.A.units+20<cLine):Set3 X uVa:=s_list.or ((uKs hu).or (uKt hu))
end
noncomputable def kV5(G:Gp):T->Option String
 | .non=>some "NoneType"
 | .bl _=>some "bool"
 | .int _=>some "int"
 | .str _=>some "str"
 | .tup _=>some "tuple"
 | .scr _=>some "list"
 | .ref p=>match G p with
  | some (.lst _)=>some "list"
  | some (.dct _)=>some "dict"
  | some (.dck _)=>some "dict"
  | some (.fdc _)=>none
  | some (.ins _ _)=>none
  | none=>none
 | .ty _=>none
def subT(t n:String):Option Bool:=
 if n="bool"\/n="int"\/n="str"\/n="list"\/n="tuple" then some (t == n||(t == "bool"&&n == "int")) else none
theorem qYw(K:PySem.W.Frag){n:String}{b:Bool}(h:subT "bool" n=some b):PySem.W.kitOne K (.type "bool") (.type n)=some b:=by
 unfold subT at h;split at h
 .rename_i hn
  rcases hn with rfl | rfl | rfl | rfl | rfl<;>(cases h;kernel_rfl)
 .cases h
theorem qYv(K:PySem.W.Frag){n:String}{b:Bool}(h:subT "NoneType" n=some b):PySem.W.kitOne K (.type "NoneType") (.type n)=some b:=by
 unfold subT at h;split at h
 .rename_i hn
  rcases hn with rfl | rfl | rfl | rfl | rfl<;>(cases h;kernel_rfl)
 .cases h
theorem uQk(K:PySem.W.Frag){n:String}{b:Bool}(h:subT "int" n=some b):PySem.W.kitOne K (.type "int") (.type n)=some b:=by
 unfold subT at h;split at h
 .rename_i hn
  rcases hn with rfl | rfl | rfl | rfl | rfl<;>(cases h;kernel_rfl)
 .cases h
theorem uQj(K:PySem.W.Frag){n:String}{b:Bool}(h:subT "str" n=some b):PySem.W.kitOne K (.type "str") (.type n)=some b:=by
 unfold subT at h;split at h
 .rename_i hn
  rcases hn with rfl | rfl | rfl | rfl | rfl<;>(cases h;kernel_rfl)
 .cases h
theorem qUr(K:PySem.W.Frag){n:String}{b:Bool}(h:subT "tuple" n=some b):PySem.W.kitOne K (.type "tuple") (.type n)=some b:=by
 unfold subT at h;split at h
 .rename_i hn
  rcases hn with rfl | rfl | rfl | rfl | rfl<;>(cases h;kernel_rfl)
 .cases h
theorem kZp(K:PySem.W.Frag){n:String}{b:Bool}(h:subT "list" n=some b):PySem.W.kitOne K (.type "list") (.type n)=some b:=by
 unfold subT at h;split at h
 .rename_i hn
  rcases hn with rfl | rfl | rfl | rfl | rfl<;>(cases h;kernel_rfl)
 .cases h
theorem kZq(K:PySem.W.Frag){n:String}{b:Bool}(h:subT "dict" n=some b):PySem.W.kitOne K (.type "dict") (.type n)=some b:=by
 unfold subT at h;split at h
 .rename_i hn
  rcases hn with rfl | rfl | rfl | rfl | rfl<;>(cases h;kernel_rfl)
 .cases h
section
variable {X:Cx}
theorem e_ty{x:Str}{n:String}{pos:Pos}(hg:Gl X x)(hm:X.mg x=none)(hv:bootBuiltins x=some (.type n))(hn:x≠"__name__":=by decide)(hd:(x == ("__debug__":Str))=false:=by decide):PE3 X (.Name x pos) (tC (.ty n)):=
 λpins s τ G H Q ⟨σ,I,hs,hg'⟩ q=>thn (uK0 (v:= .ty n) hg hm hv rfl hn hd pins s σ H (up X.K H Q) I ⟨.ty n,G,.refl H,hg',rfl,q⟩) λu s' h=>jVh hs h
def kitT(t:String):List T->Option Bool
 | []=>some false
 | .ty n::r=>match subT t n with
  | some true=>some true
  | some false=>kitT t r
  | none=>none
 | _::_=>none
def isiC:Option String->T->Option Bool
 | some t,.ty n=>subT t n
 | some t,.tup cs=>kitT t cs
 | _,_=>none
def isiT(G:Gp)(x c:T):Option Bool:=isiC (kV5 G x) c
def rIsi:List T->Gp->VK3->Prop:=λxs G Q=>∃x c b,xs=[x,c]/\isiT G x c=some b/\Q (.bl b) G
theorem qUs{K:PySem.W.Frag}{H:Hp}{t:String}(ok:∀n b,subT t n=some b->PySem.W.kitOne K (.type t) (.type n)=some b):∀{cs:List T}{vs:List V}{us:List Value}{b:Bool},Reps K H cs vs->Vals vs us->kitT t cs=some b->PySem.W.kitAny K (.type t) us=some b
 | [],_,_,_,r,q,h=>by cases r;cases q;exact h
 | c::cs,_,_,b,⟨v,ws,e,r1,r2⟩,q,h=>by
  subst e;cases q with
  | cons q1 q2=>
   cases c with
   | ty n=>
    cases (show v= .ty n from r1)
    cases q1;unfold kitT at h;unfold PySem.W.kitAny;cases e:subT t n with
    | none=>rw[e] at h;cases h
    | some k=>
     rw[e] at h;rw[ok n k e];cases k with
     | true=>exact h
     | false=>exact qUs ok r2 q2 h
   | _=>cases h
theorem jQ0{pins:List (Addr×Obj)}{τ:St3}{G:Gp}{H:Hp}{s:Shared}{σ:L2.St}{c:T}{cv:V}{u cu:Value}{t:String}{b:Bool}{Q:VK3}{Hh:Heap->Prop}(I:Inv X pins σ H s)(hs:SRel X.K H σ τ)(hg:GRel X.K H G)
  (Z:PySem.W.KitX X.K u (.type t) Hh) (p:Hh s.heap) (hx:u≠ .builtin "__main__.__loader__#opaque") (ok:∀n b,subT t n=some b->PySem.W.kitOne X.K (.type t) (.type n)=some b)
  (rc:Rep X.K H c cv) (ru:RelV cv cu) (h:isiC (some t) c=some b) (q:Q (.bl b) G):
  wpAny (model X.prog X.w) X.A (call (.builtin "isinstance") [u,cu]) (EP3 X pins τ H Q) X.xe s:=by
 have fin:∀tk,EP3 X pins τ H Q (.bool b) {s with toks:=tk}:=λtk=>⟨.bl b,G,H,.refl H,⟨σ,I.tok tk,hs,hg⟩,⟨.bl b,rfl,rfl⟩,q⟩
 cases c with
 | ty n=>
  cases (show cv= .ty n from rc);cases ru
  exact PySem.W.kia_one Z I.kIn p (ok n b h) hx fin
 | tup cs=>
  obtain⟨pp,vs,e,h1,h2⟩:=(show ∃p vs,cv= .ref p/\H p=some (.tup vs)/\Reps X.K H cs vs from rc)
  subst e;cases ru;obtain⟨its,rv,⟨⟨cls,dd,data,sl⟩,ho,hc,n,hd⟩,_⟩:=I.tuple (.of h1);simp only at hc hd;subst hc hd;exact PySem.W.kia_tup Z I.kIn p ho (qUs ok h2 rv h) hx fin
 | _=>cases h
theorem uXy:Call3 X (.builtin "isinstance") rIsi:=by
 rintro pins s τ G H xs us Q ⟨σ,I,hs,hg⟩ ⟨as,ras,rvs⟩ ⟨x,c,b,e,h,q⟩;subst e;obtain⟨a,cv,rfl,ra,rc⟩:=kXf ras;obtain⟨u,cu,rfl,ru,rcu⟩:=rvs.two;unfold isiT at h;cases x with
 | non=>cases (show a= .non from ra);cases ru;exact jQ0 I hs hg PySem.W.kitx_none True.intro (λz=>nomatch z) (λn b=>qYv _) rc rcu h q
 | bl k=>cases (show a= .bl k from ra);cases ru;exact jQ0 I hs hg PySem.W.kitx_bool True.intro (λz=>nomatch z) (λn b=>qYw _) rc rcu h q
 | int k=>cases (show a= .int k from ra);obtain⟨t,rfl⟩:=ru;exact jQ0 I hs hg PySem.W.kitx_int True.intro (λz=>nomatch z) (λn b=>uQk _) rc rcu h q
 | str k=>cases (show a= .str k from ra);obtain⟨t,rfl⟩:=ru;exact jQ0 I hs hg PySem.W.kitx_str True.intro (λz=>nomatch z) (λn b=>uQj _) rc rcu h q
 | tup ys=>
  obtain⟨p,vs,e,h1,h2⟩:=(show ∃p vs,a= .ref p/\H p=some (.tup vs)/\Reps X.K H ys vs from ra)
  subst e;cases ru;obtain⟨its,rv,⟨o,ho,hc,_⟩,_⟩:=I.tuple (.of h1);exact jQ0 I hs hg PySem.W.kitx_tuple ⟨o,ho,hc⟩ (λz=>nomatch z) (λn b=>qUr _) rc rcu h q
 | scr ys=>
  obtain⟨p,vs,e,h1,h2⟩:=(show ∃p vs,a= .ref p/\FrL X.K H p vs/\Reps X.K H ys vs from ra)
  subst e;cases ru;obtain⟨its,rv,⟨o,n,ho,hc,_⟩,_⟩:=I.list h1.sq;exact jQ0 I hs hg PySem.W.kitx_list ⟨o,ho,hc⟩ (λz=>nomatch z) (λn b=>kZp _) rc rcu h q
 | ref p=>
  cases (show a= .ref p from ra);cases ru
  cases hG:G p with
  | none=>simp only[kV5,hG] at h;cases h
  | some g=>
   cases g with
   | lst ys=>
    simp only[kV5,hG] at h;obtain⟨vs,h1,h2⟩:=hg.lst hG;obtain⟨its,rv,⟨o,n,ho,hc,_⟩,_⟩:=I.list (.of h1);exact jQ0 I hs hg PySem.W.kitx_list ⟨o,ho,hc⟩ (λz=>nomatch z) (λn b=>kZp _) rc rcu h q
   | fdc kvs=>simp only[kV5,hG] at h;cases h
   | ins _ _=>simp only[kV5,hG] at h;cases h
   | dct kvs=>
    simp only[kV5,hG] at h;obtain⟨ws,h1,_⟩:=hg p _ hG;obtain⟨_,_,xs,_,o,es,ep,h3,h4,_⟩:=(show ObjOk X.prog X.w H s.heap p (.dT ws) from I.hok p _ h1)
    exact jQ0 I hs hg PySem.W.kitx_dict ⟨o,h3,h4.1⟩ (λz=>nomatch z) (λn b=>kZq _) rc rcu h q
   | dck kvs=>
    simp only[kV5,hG] at h;obtain⟨ws,h1,_⟩:=hg p _ hG;obtain⟨_,_,vs,_,pp⟩:=(show ObjOk X.prog X.w H s.heap p (.dK ws) from I.hok p _ h1)
    obtain⟨o,es,ep,h3,h4,_⟩:=pp;exact jQ0 I hs hg PySem.W.kitx_dict ⟨o,h3,h4.1⟩ (λz=>nomatch z) (λn b=>kZq _) rc rcu h q
 | ty _=>cases h
abbrev TO3:=St3->Gp->(Option Int->Gp->Prop)->Prop
def PO3(X:Cx)(e:Option Expr)(t:TO3):Prop:=
 ∀(pins:List (Addr×Obj))(s:Shared)(τ:St3)(G:Gp)(H:Hp)(Q:Option Int->Gp->Prop),Inv3 X pins τ G H s->t τ G Q->
  wpAny (model X.prog X.w) X.A (evalPart e X.env) (λu s'=>∃o G' H',Ext H H'/\Inv3 X pins τ G' H' s'/\IsPart u o/\Q o G') X.xe s
def jZr:TO3:=λ_ G Q=>Q none G
def kV8(t:TE3):TO3:=λτ G Q=>t τ G λx G1=>∃i,x= .int i/\Q (some i) G1
theorem uJw:PO3 X none jZr:=by
 intro pins s τ G H Q I h;rw[evalPart_none];exact lJd ⟨none,G,H,.refl H,I,.none,h⟩
theorem kZf{e:Expr}{te:TE3}(h:PE3 X e te):PO3 X (some e) (kV8 te):=by
 intro pins s τ G H Q I hw;rw[evalPart_some];refine thn (h pins s τ G H _ I hw) λu s1 w_=>w_.el λx G1 H1 e1 I1 r_ ⟨i,ex,q⟩=>r_.el λv rv ru=> ?_
 subst ex;cases (show v= .int i from rv)
 obtain⟨t,rfl⟩:=ru;exact⟨some i,G1,H1,e1,I1,.int i t,q⟩
def Sl3(X:Cx)(r:T->Option Int->Option Int->Gp->VK3->Prop):Prop:=
 ∀(pins:List (Addr×Obj))(s:Shared)(τ:St3)(G:Gp)(H:Hp)(x:T)(v vl vu:Value)(lo hi:Option Int)(sl:Addr)(Q:VK3),Inv3 X pins τ G H s->RU X.K H x v->s.heap.IsSliceOf sl vl vu .none->IsPart vl lo->IsPart vu hi->r x lo hi G Q->
  ∃T id,typeLookup (.type T) "__getitem__"=pure (some (.builtin id))/\s.TypeIs v T/\wpAny (model X.prog X.w) X.A (getItem v (.ref sl)) (EP3 X pins τ H Q) X.xe s
def tSl(r:T->Option Int->Option Int->Gp->VK3->Prop)(te:TE3)(tl th:TO3):TE3:=λτ G Q=>te τ G λx G1=>tl τ G1 λl G2=>th τ G2 λu G3=>r x l u G3 Q
theorem kYj{r:T->Option Int->Option Int->Gp->VK3->Prop}{e:Expr}{te:TE3}{lo hi:Option Expr}{tl th:TO3}{pos p2:Pos}(hr:Sl3 X r)(he:PE3 X e te)(hl:PO3 X lo tl)(hu:PO3 X hi th):PE3 X (.Subscript e (.Slice lo hi none p2) pos) (tSl r te tl th):=by
 intro pins s τ G H Q I h;refine Subscript_ (thn (he pins s τ G H _ I h) λv s1 w_=>w_.el λx G1 H1 e1 I1 r1 q1=> ?_)
 refine wpAny_Slice (thn (hl pins s1 τ G1 H1 _ I1 q1) λvl s2 ⟨l,G2,H2,e2,I2,pl,q2⟩=>thn (hu pins s2 τ G2 H2 _ I2 q2) λvu s3 ⟨u,G3,H3,e3,⟨σ,I3,hs3,hg3⟩,pu,q3⟩=> ?_)
 rw[evalPart_none];refine lJd ?_;have I4:Inv X pins σ H3 {s3 with heap:=s3.heap.push {cls:= .type "slice",data:= .fields #[vl,vu,.none]} }:=I3.kept (t':=s3.toks) λb ob q=>lJm _ q
 obtain⟨T0,id,hT,ht,hg⟩:=hr pins {s3 with heap:=s3.heap.push {cls:= .type "slice",data:= .fields #[vl,vu,.none]} } τ G3 H3 x v vl vu l u s3.heap.objs.size Q ⟨σ,I4,hs3,hg3⟩ ((r1.mono e2).mono e3) (Heap.IsSliceOf.new ..) pl pu q3
 show wpAny (model X.prog X.w) X.A (subscriptTail e (.Slice lo hi none p2) v (.ref s3.heap.objs.size)) (EP3 X pins τ H Q) X.xe {s3 with heap:=s3.heap.push {cls:= .type "slice",data:= .fields #[vl,vu,.none]} }
 exact thn (tail_any (ops:=[.ref s3.heap.objs.size,v]) ht hT hg (by with_unfolding_all rfl)) λ_ _ z=>z.ext ((e1.trans e2).trans e3)
def cutT(xs:List T)(lo hi:Option Int):List T:=(xs.drop (HT.sIx xs.length 0 lo)).take (HT.sIx xs.length xs.length hi-HT.sIx xs.length 0 lo)
noncomputable def rSlA:T->Option Int->Option Int->Gp->VK3->Prop:=λx lo hi G Q=>
 (∃xs,jQ7 G x=some xs/\∀p,G p=none->Q (.ref p) (gup G p (.lst (cutT xs lo hi))))\/∃xs,x= .tup xs/\Q (.tup (cutT xs lo hi)) G
end
end L3
namespace HT
open PySem PyProof.Rows
theorem getItem_tuple_whole{prog:Program}{w:World}{A:Around}{E:Value->Shared->Prop}{s:Shared}{t sl:Addr}{items:Array Value}{vl vu:Value}{lo hi:Option Int}{Q:Value->Shared->Prop}(ht:IsTup s.heap t items)(hs:s.heap.IsSliceOf sl vl vu .none)(pl:IsPart vl lo)(pu:IsPart vu hi)
  (hw:sIx items.size 0 lo=0/\sIx items.size items.size hi=items.size) (h:Q (.ref t) s):wpAny (model prog w) A (getItem (.ref t) (.ref sl)) Q E s:=by
 obtain⟨os,hos,hcs,hds⟩:=id hs;have hTs:s.TypeIs (.ref sl) "slice":=⟨os,hos,hcs⟩;unfold getItem
 try with_reducible refine lKw ?_
 first | refine lJa (lJd ?_) | skip
 refine lJa (wpAny_sequenceKey ht.typeIs (by decide) ?_)
 refine lJa (lVc (name:=Str.ofString "__getitem__") ht.typeIs lV4
  (lK6 lV4 ht.typeIs entry_tuple_getitem ?_ (args_tuple_getitem _ _)))
 show wpAny _ _ (Builtin.Tuple.tupleItemsOf (.ref t) >>= _) _ _ s
 refine lJa (tupleItemsOf_ ht ?_);refine lJa (lVp hTs ?_);rw[lJc (by decide)]
 refine lJa (jU0 hs pl pu ?_)
 have hyes:(((sIx items.size 0 lo:Nat):Int) == 0&&(1:Int) == 1&&(sIx items.size items.size hi-sIx items.size 0 lo) == items.size)=true:=by
  rw[hw.1,hw.2];simp
 show wpAny _ _ (if (((sIx items.size 0 lo:Nat):Int) == 0&&(1:Int) == 1&&(sIx items.size items.size hi-sIx items.size 0 lo) == items.size)=true then _ else _) _ _ s
 rw[lJc hyes];refine lJa ?_;unfold Builtin.Tuple.tupleIsExact;refine lJa (lVp ht.typeIs (lJd ?_));rw[lJc (by decide)]
 exact lJa (wpAny_rule (lJd ⟨_,rfl,lJd h⟩))
end HT
namespace L3
open PySem PySem.Spec PyProof.Rows L2
section
variable {X:Cx}
theorem Reps.cut{K:PySem.W.Frag}{H:Hp}{xs:List T}{vs:List V}(r:Reps K H xs vs)(lo hi:Option Int):Reps K H (cutT xs lo hi) (cutV vs lo hi):=by
 unfold cutT cutV;rw[<-r.length];exact (r.drop _).take _
theorem qKl{xs:List T}{lo hi:Option Int}(h:HT.sIx xs.length 0 lo=0/\HT.sIx xs.length xs.length hi=xs.length):cutT xs lo hi=xs:=by
 unfold cutT;rw[h.1,h.2];simp
theorem sl_any:Sl3 X rSlA:=by
 rintro pins s τ G H x v vl vu lo hi sl Q ⟨σ,I,hs,hg⟩ ⟨a,ra,rv⟩ hsl pl pu h
 rcases h with ⟨xs,hx,q⟩ | ⟨xs,ex,q⟩
 .obtain⟨p,vs,e,hq,r⟩:=jXw hg ra hx;subst e;obtain⟨T0,id,h1,h2,h3⟩:=uKr pins s σ H (.ref p) v vl vu lo hi sl (up X.K H Q) I rv hsl pl pu ⟨p,vs,rfl,hq,λl hl=>⟨.ref l,_,.upd (.none hl),hg.lstNew (r.cut lo hi) (.none hl),rfl,q l (hg.fresh hl)⟩⟩
  exact⟨T0,id,h1,h2,thn h3 λ_ _ z=>jVh hs z⟩
 .subst ex;obtain⟨p,vs,e,h1,h2⟩:=(show ∃p vs,a= .ref p/\H p=some (.tup vs)/\Reps X.K H xs vs from ra)
  subst e
  by_cases hw:HT.sIx xs.length 0 lo=0/\HT.sIx xs.length xs.length hi=xs.length
  .cases rv;obtain⟨its,rv',ht,hz⟩:=I.tuple (.of h1);have hlen:its.toArray.size=xs.length:=by rw[lJu,<-rv'.length,h2.length]
   refine⟨"tuple",_,lV4.lookup,ht.typeIs,HT.getItem_tuple_whole ht hsl pl pu (by rw[hlen];exact hw) ?_⟩
   rw[qKl hw] at q;exact⟨.tup xs,G,H,.refl H,⟨σ,I,hs,hg⟩,⟨.ref p,ra,rfl⟩,q⟩
  .obtain⟨T0,id,h3,h4,h5⟩:=uUz pins s σ H (.ref p) v vl vu lo hi sl (up X.K H Q) I rv hsl pl pu ⟨p,vs,rfl,.of h1,by rw[<-h2.length];exact hw,λl hl=>⟨.tup (cutT xs lo hi),G,.upd (.none hl),hg.tupNew hl,Rep.tupNew (h2.cut lo hi) hl,q⟩⟩
   exact⟨T0,id,h3,h4,thn h5 λ_ _ z=>jVh hs z⟩
def jVl(ta:TA3):TE3:=λτ G Q=>ta τ G λvs G1=>∃j:Int,vs=[.int j]/\ -(2^62)<=j/\j<=2^20/\∀p,G1 p=none->Q (.ref p) (gup G1 p (.lst (rngT 0 j.toNat)))
theorem qXu{K:PySem.W.Frag}{H:Hp}{n:Nat}{vs:List V}(hl:vs.length=n)(h:∀(i:Nat) v,vs[i]? =some v->v= .int (0+i)):Reps K H (rngT 0 n) vs:=by
 have e:vs=(List.range n).map λ(k:Nat)=>V.int (0+k):=by
  apply lKh;intro i;cases hv:vs[i]? with
  | none=>
   have:n<=i:=by rw[<-hl];exact List.getElem?_eq_none_iff.mp hv
   simp[this]
  | some v=>
   have hi:i<n:=by rw[<-hl];exact (lJe.mp hv).1
   rw[h i v hv];simp[hi]
 rw[e];unfold rngT
 generalize List.range n=l
 induction l with
 | nil=>rfl
 | cons k ks ih=>exact⟨_,_,rfl,rfl,ih⟩
end
section
variable {X:Cx}
theorem kYk{a:Expr}{ta:TA3}{pos p p2 p3:Pos}(hgl:Gl X "list")(hml:X.mg "list"=none)(hgr:Gl X "range")(hmr:X.mg "range"=none)(hc:X.calm=true)(ha:PA3 X [a] ta)(hs:starEach [a] X.env=[(false,eval a X.env)]:=by rfl)
  (ho:starEach [Expr.Call (.Name "range" p2) [a] [] p3] X.env=[(false,eval (.Call (.Name "range" p2) [a] [] p3) X.env)]:=by rfl):
  PE3 X (.Call (.Name "list" p) [.Call (.Name "range" p2) [a] [] p3] [] pos) (jVl ta):=by
 intro pins s τ G H Q I h;obtain⟨σ0,I0,hs0,hg0⟩:=id I;refine lYt (jUe I0 hgl hml (u:= .type "list") (by rfl) ?_)
 refine lQj (T:="list") ?_ ho rfl;rw[ho];show wpAny _ _ (spliced ((false,eval (.Call (.Name "range" p2) [a] [] p3) X.env)::backTo pos [])) _ _ s
 refine Calls.spliced_cons ?_;refine Call_ (jUe I0 hgr hmr boot_range (lQj (thn (ha p3 pins s τ G H _ I h) λus s1 w_=>w_.el λxs G1 H1 e1 i_ r_ ⟨j,e,q1,q2,q⟩=>i_.el λσ I1 hs1 hg1=>r_.el λas ras rvs=> ?_) hs rfl))
 subst e;obtain⟨v,rfl,rv⟩:=jUn ras;cases (show v= .int j from rv)
 obtain⟨u,rfl,ru⟩:=rvs.one;obtain⟨t,rfl⟩:=ru;refine call_range_1 ?_;refine Calls.spliced_nil ?_;have I2:Inv X pins σ H1 {s1 with heap:=s1.heap.push {cls:= .type "range",data:= .fields #[.int 0 s1.toks,.int j t,.int 1 (s1.toks+1)]},toks:=s1.toks+1+1}:=I1.kept λb o e=>lJm _ e
 refine call_list_range (n:=j.toNat) (I1.ok.hd hc) (IsRange.new ..) (small_one (by omega) (by omega) q1 (by omega)) (by rw[rangeSize_one];split<;>omega) (by omega) λh' tk acc' c' hk hobj hit=> ?_
 have hf:H1 (s1.heap.push {cls:= .type "range",data:= .fields #[.int 0 s1.toks,.int j t,.int 1 (s1.toks+1)]}).objs.size=none:=I2.hok.fresh (lJh _);have hz:acc'.size<=sizeLine:=by rw[hit.1,lKg];omega
 obtain⟨vs,hvs,rr⟩:∃vs:List V,Vals vs acc'.toList/\Reps X.K H1 (rngT 0 j.toNat) vs:=by
  refine⟨(List.range j.toNat).map λ(k:Nat)=>V.int (0+k),?_,qXu (by simp) (λi v hv=> ?_)⟩
  .have all:∀(l:List Value)(n0:Nat),(∀(i:Nat) v,l[i]? =some v->∃t,v= .int ((0:Int)+((n0+i:Nat):Int)*1) t)->Vals ((List.range' n0 l.length).map λ(k:Nat)=>V.int (0+k)) l:=by
    intro l
    induction l with
    | nil=>intro n0 _;exact .nil
    | cons v l ih=>
     intro n0 hh;obtain⟨t,ht⟩:=hh 0 v rfl;rw[lJ7,List.range'_succ,lJq];refine .cons ⟨t,by rw[ht];simp⟩ (ih (n0+1) λi w hw=> ?_)
     obtain⟨t',ht'⟩:=hh (i+1) w (by simpa using hw)
     exact⟨t',by rw[ht'];congr 1;omega⟩
   have:=all acc'.toList 0 (λi v hv=>by
    obtain⟨t,ht⟩:=hit.2 i v (by simpa using hv)
    exact⟨t,by rw[ht];simp⟩)
   rw[List.range_eq_range'];rw[show acc'.toList.length=j.toNat by simpa using hit.1] at this
   exact this
  .rw[lJj] at hv;cases e:(List.range j.toNat)[i]? with
   | none=>rw[e] at hv;cases hv
   | some k=>
    rw[e] at hv;cases hv;have:=lJe.mp e;obtain⟨h1,h2⟩:=this;simp at h2;rw[<-h2]
 refine⟨.ref _,_,_,e1.trans (.upd (.none hf)),⟨σ,I2.laid (t':=tk) (o:= .lst vs) hk (lJh _) ⟨by rw[hvs.length];simpa using hz,acc'.toList,c',hvs,by simpa using hobj⟩,hs1.mono (.upd (.none hf)),hg1.lstNew rr (.none hf)⟩,⟨.ref _,rfl,rfl⟩,q _ (hg1.fresh hf)⟩
def insT(xs:List T)(k:Nat)(y:T):List T:=xs.take k++y::xs.drop k
noncomputable def jZ8:T->List T->Gp->VK3->Prop:=λx as G Q=>∃p xs k y,x= .ref p/\as=[.int k,y]/\G p=some (.lst xs)/\0<=k/\k<=xs.length/\xs.length<sizeLine/\Q .non (gup G p (.lst (insT xs k.toNat y)))
theorem kZl:Mt3 X "list.insert" jZ8:=by
 rintro pins s τ G H x as v us Q ⟨σ,I,hs,hg⟩ ⟨a,ra,rv⟩ ⟨bs,rbs,rus⟩ ⟨p,xs,k,y,ex,ea,hp,k0,k1,hz,q⟩;subst ex;subst ea;cases (show a= .ref p from ra);cases rv
 obtain⟨b1,b2,rfl,r1,r2⟩:=kXf rbs;cases (show b1= .int k from r1)
 obtain⟨u1,u2,rfl,ru1,ru2⟩:=rus.two;obtain⟨t,rfl⟩:=ru1;obtain⟨vs,h1,h2⟩:=hg.lst hp;obtain⟨z,its,n,r,hl,e⟩:=I.lstM h1;have hlen:=h2.length
 have hfit:¬ (!Builtin.List.listFitsIndex k)=true:=by
  have h63:=jYz;rw[fitsIndex_both (by omega) (by omega)]
  exact lJo
 refine lQ1 F.slot_list_insert ⟨_,e,rfl⟩ F.entry_list_insert (F.args_list_insert_3 _ _ _) (AutoSeq1.list_insert_list_int_val_1 p its.toArray n k t u2 hfit (by rw[lJu];omega)) ⟨e,?_⟩
 have e2:Ext H (upd H p (.lst (vs.take k.toNat++b2::vs.drop k.toNat))):= .upd (.lst h1);refine⟨.non,_,_,e2,⟨σ,I.lset (its':=its.take k.toNat++u2::its.drop k.toNat) h1 e ?_ ((r.take _).append (.cons ru2 (r.drop _))) ?_,hs.mono e2,hg.lstNew (xs:=insT xs k.toNat y) ((h2.take _).append ⟨b2,_,rfl,r2,h2.drop _⟩) (.lst h1)⟩,⟨.non,rfl,rfl⟩,q⟩
 .have hk:¬ k<0:=by omega
  have hm:min k.toNat its.toArray.size=k.toNat:=by rw[lJu];omega
  simp only[hk,lJ6,hm];apply Array.ext';simp[Array.toList_extract];rw[lZb (lXr (by simp))]
 .simp only[lJv,lJ7,lQ6,lYd];omega
def qQt:T->List T->Gp->VK3->Prop:=λx as G Q=>∃p xs y,x= .ref p/\as=[y]/\G p=some (.lst xs)/\jU5 y=true/\xs.all jU5=true/\Q (.int (xs.countP λz=>eqT z y)) G
theorem kVr{K:PySem.W.Frag}{H:Hp}{y:T}{b:V}(ry:Rep K H y b)(fy:jU5 y=true):∀{xs:List T}{vs:List V}{us:List Value},Reps K H xs vs->Vals vs us->xs.all jU5=true->us.countP (eqU b)=xs.countP λz=>eqT z y
 | [],_,_,r,q,_=>by cases r;cases q;rfl
 | x::xs,_,_,⟨v,ws,e,r1,r2⟩,q,f=>by
  subst e;cases q with
  | cons q1 q2=>
   rw[lQt,lKt] at f;rw[List.countP_cons,List.countP_cons,kVr ry fy r2 q2 f.2,kZ2 q1 (jVr r1 f.1),kYg r1 ry f.1 fy]
theorem uQc:Mt3 X "list.count" qQt:=by
 rintro pins s τ G H x as v us Q ⟨σ,I,hs,hg⟩ ⟨a,ra,rv⟩ ⟨bs,rbs,rus⟩ ⟨p,xs,y,ex,ea,hp,fy,fs,q⟩;subst ex;subst ea;cases (show a= .ref p from ra);cases rv
 obtain⟨b,rfl,rb⟩:=jUn rbs;obtain⟨u,rfl,ru⟩:=rus.one;obtain⟨vs,h1,h2⟩:=hg.lst hp;obtain⟨z,its,n,r,hl,e⟩:=I.lstM h1;have fl:=(jZk rb fy h2 fs).1;refine lQ1 F.slot_list_count ⟨_,e,rfl⟩ F.entry_list_count (F.args_list_count_2 _ _) (SeqAt.list_countAt p its.toArray n none #[] u (eqU b)) ⟨e,λw hw=>jXu ru (jVr rb fy) r fl w (by simpa using hw),?_⟩
 refine⟨.int _,G,H,.refl H,⟨σ,I.tok _,hs,hg⟩,⟨.int _,rfl,s.toks,?_⟩,q⟩;rw[<-kVr rb fy h2 r fs]
def kYu:List T->Option Bool
 | []=>some true
 | .bl b::r=>match kYu r with
  | some c=>some (b&&c)
  | none=>none
 | _::_=>none
def rAll:List T->Gp->VK3->Prop:=λas G Q=>∃p xs b,as=[.ref p]/\G p=some (.lst xs)/\kYu xs=some b/\Q (.bl b) G
theorem kV1:∀{xs:List T}{b:Bool},kYu xs=some b->∃bs:List Bool,xs=bs.map T.bl/\b=bs.all (λx=>x)
 | [],b,h=>by cases h;exact⟨[],rfl,rfl⟩
 | .bl c::r,b,h=>by
  unfold kYu at h;cases e:kYu r with
  | none=>rw[e] at h;cases h
  | some d=>
   rw[e] at h;cases h;obtain⟨bs,h1,h2⟩:=kV1 e;exact⟨c::bs,by rw[h1];rfl,by rw[h2];rfl⟩
 | .non::_,_,h=>by cases h
 | .int _::_,_,h=>by cases h
 | .str _::_,_,h=>by cases h
 | .tup _::_,_,h=>by cases h
 | .scr _::_,_,h=>by cases h
 | .ref _::_,_,h=>by cases h
 | .ty _::_,_,h=>by cases h
theorem kZb{K:PySem.W.Frag}{H:Hp}:∀{bs:List Bool}{vs:List V}{us:List Value},Reps K H (bs.map T.bl) vs->Vals vs us->us=bs.map Value.bool
 | [],_,_,h,q=>by cases h;cases q;rfl
 | n::ns,_,_,⟨v,ws,e,r,rs⟩,q=>by
  subst e;cases (show v= .bl n from r)
  cases q with
  | cons q1 q2=>cases q1;rw[kZb rs q2];rfl
theorem kV0:∀(bs:List Bool),bs.all (λx=>x)=(List.range bs.length).all λi=>bs.getD i true
 | []=>rfl
 | b::bs=>by
  rw[lQt,kV0 bs,lJ7,List.range_succ_eq_map,lQt,List.all_map];simp[Function.comp_def,List.getD]
theorem uY2(hc:X.calm=true):Call3 X (.builtin "all") rAll:=by
 rintro pins s τ G H as us Q ⟨σ,I,hs,hg⟩ ⟨bs',rbs,rus⟩ ⟨p,xs,b,e,hp,hb,q⟩;subst e;obtain⟨a,rfl,ra⟩:=jUn rbs;cases (show a= .ref p from ra)
 obtain⟨u,rfl,ru⟩:=rus.one;cases ru;obtain⟨vs,h1,h2⟩:=hg.lst hp;obtain⟨bs,ex,eb⟩:=kV1 hb;subst ex;obtain⟨its,rv,pl,hz⟩:=I.list (.of h1);have eit:=kZb h2 rv;subst eit;refine call_all_walk (lZv pl.isList ?_);have hne:p≠s.heap.objs.size:=by obtain⟨o,n,ho,_⟩:=pl;exact lJt (lJl ho)
 refine⟨s.heap.objs.size,[s.heap.objs.size,p],[s.heap.objs.size],(bs.map Value.bool).toArray.size,_,_,λi=>bs.getD i true,rfl,Walks.list (A:=X.A.in1) (show X.A.in1.handled=none from I.ok.hd hc) s.heap.objs.size p hne (bs.map Value.bool).toArray,⟨⟨_,lJz _ rfl,rfl,rfl⟩,pl.isList.push _⟩,?_,?_⟩
 .intro i v s' Q' E' hP hQ;have hP':(bs.map Value.bool)[i]? =some v:=by simpa using hP
  rw[lJj] at hP';cases e:bs[i]? with
  | none=>rw[e] at hP';cases hP'
  | some c=>
   rw[e] at hP';cases hP';have:bs.getD i true=c:=by simp[List.getD,e]
   have hQ':Q' (bs.getD i true) s':=hQ;rw[this] at hQ';exact lVo hQ'
 .intro h' tk hk;have hk2:∀b o,s.heap.get? b=some o->h'.get? b=some o:=λb o e=>hk b o (by simpa using lJt (lJl e)) (lJm _ e)
  refine⟨.bl b,G,H,.refl H,⟨σ,I.kept hk2,hs,hg⟩,⟨.bl b,rfl,?_⟩,q⟩;rw[eb,kV0];simp;rfl
end
structure Cal (P:Program) (w:World) (K:PySem.W.Frag) (mg:Str->Option Value) (base:Heap) (k:Nat) (x:Str) (ps:List Str) (sp:Sp3):Prop where
 ex:∃f fd,Fn3 P w K mg base k f fd ps sp/\mg x=some (.ref f)/\PySem.W.keepIn K (.ref f)=true/\Binds K fd ps []
 mono:Mono sp
 len:∀xs G Q,sp xs G Q->xs.length=ps.length
theorem uYz{X:Cx}{k:Nat}{ps:List Str}{sp:Sp3}{x:Str}{p pos:Pos}{e:Expr}{es:List Expr}{t:TA3}(C:Cal X.prog X.w X.K X.mg X.base k x ps sp)(hr:Room k X.A)(ha:PA3 X (e::es) t)(hg:Gl X x:=by rfl)
  (hdb:(x == ("__debug__":Str))=false:=by decide) (he:starEach (e::es) X.env=(false,eval e X.env)::starEach es X.env:=by rfl) (hpl:(backTo pos (starEach es X.env)).any (·.1)=false:=by rfl):
  PE3 X (.Call (.Name x p) (e::es) [] pos) (jJs sp t):=by
 intro pins s τ G H Q I h;obtain⟨f,fd,F,hm,hk,hb⟩:=C.ex;obtain⟨σ0,I0,hs0,hg0⟩:=id I;refine lYt (uQh I0 hg hm ?_ hdb);refine PySem.W.callWith_K (h₀:=X.base) I0.ok.mod.kin hk (thn (ha pos pins s τ G H _ I h) λus s1 w_=>w_.el λxs G1 H1 e1 i_ r_ q=>i_.el λσ I1 hs1 hg1=>r_.el λas ras rvs=>⟨I1.kIn,?_⟩) he hpl
 refine thn (uU3 (dvs:=[]) (ds:=[]) (E:=E0) (Q:=up X.K H1 Q) F hr hb .nil uYi I1 rvs ?_) λu s' z=>(jVh hs1 z).ext e1
 rw[lQ2];exact⟨by rw[<-ras.length];exact C.len _ _ _ q,xs,G1,ras,hg1,C.mono _ _ _ _ (λt G' hq v H' e g r=>⟨t,G',e,g,r,hq⟩) q⟩
def qQr:=kXs
theorem uUc{X:Cx}:Call3 X (.type "list") qQr:=uXv
end L3
namespace L3
open PySem PySem.Spec PyProof.Rows
inductive Res where
 | val (t:T) | newL (xs:List T)
def fin3:Res->Gp->VK3->Prop
 | .val t,G,Q=>Q t G
 | .newL xs,G,Q=>∀p,G p=none->Q (.ref p) (gup G p (.lst xs))
theorem Op3.imp{X:L2.Cx}{f:Value->Value->Sem Value}{r r':R3}(h:Op3 X f r)(i:∀x y G Q,r' x y G Q->r x y G Q):Op3 X f r':=λpins s τ G H x y v u Q I rx ry q=>h pins s τ G H x y v u Q I rx ry (i x y G Q q)
theorem Ix3.imp{X:L2.Cx}{r r':R3}(h:Ix3 X r)(i:∀x y G Q,r' x y G Q->r x y G Q):Ix3 X r':=λa b pins s τ G H x y v u Q I rx ry q hs=>h a b pins s τ G H x y v u Q I rx ry (i x y G Q q) hs
theorem Set3.imp{X:L2.Cx}{r r':T->T->T->Gp->(Gp->Prop)->Prop}(h:Set3 X r)(i:∀o j v G Q,r' o j v G Q->r o j v G Q):Set3 X r':=λpins s τ G H o j v a b c Q I ro rj rv q=>h pins s τ G H o j v a b c Q I ro rj rv (i o j v G Q q)
theorem Sl3.imp{X:L2.Cx}{r r':T->Option Int->Option Int->Gp->VK3->Prop}(h:Sl3 X r)(i:∀x l u G Q,r' x l u G Q->r x l u G Q):Sl3 X r':=λpins s τ G H x v vl vu lo hi sl Q I rx hs pl pu q=>h pins s τ G H x v vl vu lo hi sl Q I rx hs pl pu (i x lo hi G Q q)
noncomputable def addR(G:Gp):T->T->Option Res
 | .int i,.int j=>some (.val (.int (i+j)))
 | .ref p,.ref q=>match G p,G q with
  | some (.lst xs),some (.lst ys)=>if xs.length+ys.length<=sizeLine then some (.newL (xs++ys)) else none
  | _,_=>none
 | .tup xs,.tup ys=>if xs.length≠0/\xs.length+ys.length<=sizeLine then some (.val (.tup (xs++ys))) else none
 | _,_=>none
def jJ7:R3:=λx y G Q=>∃r,addR G x y=some r/\fin3 r G Q
theorem uY5{x y:T}{G:Gp}{Q:VK3}(h:jJ7 x y G Q):uVf x y G Q:=by
 obtain⟨r,hr,q⟩:=h;unfold addR at hr;split at hr
 .cases hr;exact .inl ⟨_,_,rfl,rfl,q⟩
 .rename_i p q'
  split at hr
  .rename_i xs ys h1 h2
   split at hr
   .rename_i hz;cases hr;exact .inr (.inl ⟨p,q',xs,ys,rfl,rfl,h1,h2,hz,q⟩)
   .cases hr
  .cases hr
 .rename_i xs ys
  split at hr
  .rename_i hz;cases hr;exact .inr (.inr ⟨xs,ys,rfl,rfl,λz=>hz.1 (by rw[z];rfl),hz.2,q⟩)
  .cases hr
 .cases hr
theorem o_addF{X:L2.Cx}:Op3 X (binaryOp .Add) jJ7:=o_addA.imp λ_ _ _ _=>uY5
noncomputable def mulR(G:Gp):T->T->Option Res
 | .int i,.int j=>some (.val (.int (i*j)))
 | .ref p,.int n=>match G p with
  | some (.lst xs)=>if n.toNat * xs.length<=sizeLine/\n<2^62/\ -(2^62)<n then some (.newL (List.replicate n.toNat xs).flatten) else none
  | _=>none
 | _,_=>none
def mulC:T->T->Prop
 | .int i,.int j=>L2.CMul i j
 | _,_=>True
def jQv:R3:=λx y G Q=>∃r,mulR G x y=some r/\mulC x y/\fin3 r G Q
theorem uYr{x y:T}{G:Gp}{Q:VK3}(h:jQv x y G Q):uVb x y G Q:=by
 obtain⟨r,hr,c,q⟩:=h;unfold mulR at hr;split at hr
 .cases hr;exact .inl ⟨_,_,rfl,rfl,c,q⟩
 .rename_i p n
  split at hr
  .rename_i xs h1
   split at hr
   .rename_i hz;cases hr;exact .inr ⟨p,xs,n,rfl,rfl,h1,hz.1,hz.2.1,hz.2.2,q⟩
   .cases hr
  .cases hr
 .cases hr
theorem o_mulF{X:L2.Cx}:Op3 X (binaryOp .Mult) jQv:=o_mulA.imp λ_ _ _ _=>uYr
def ixR(G:Gp)(x y:T):Option T:=match seqT G x with
 | some xs=>match y with
  | .int i=>L2.atI xs i
  | _=>none
 | none=>match dAt G x y with
  | some o=>o
  | none=>none
def rIxF:R3:=λx y G Q=>∃t,ixR G x y=some t/\Q t G
theorem uYt{x y:T}{G:Gp}{Q:VK3}(h:rIxF x y G Q):rIxA x y G Q:=by
 obtain⟨t,ht,q⟩:=h;unfold ixR at ht;split at ht
 .rename_i xs hx
  split at ht
  .rename_i i;exact .inl ⟨xs,i,t,hx,rfl,ht,q⟩
  .cases ht
 .split at ht
  .rename_i o ho;subst ht;exact .inr ⟨t,ho,q⟩
  .cases ht
theorem ix_F{X:L2.Cx}(hu:X.A.units+20<cLine):Ix3 X rIxF:=(uQn hu).imp λ_ _ _ _=>uYt
noncomputable def setR(G:Gp)(o i v:T):Option Gp:=match o with
 | .ref p=>match G p with
  | some (.lst xs)=>match i with
   | .int k=>match L2.ixN xs.length k with
    | some j=>some (gup G p (.lst (xs.set j v)))
    | none=>none
   | _=>none
  | some (.dct kvs)=>match i with
   | .tup ys=>match jKx ys with
    | some ks=>if kvs.length<sizeLine then some (gup G p (.dct (putT kvs ks v))) else none
    | none=>none
   | _=>none
  | some (.dck kvs)=>match jQ6 i with
   | some k=>if kvs.length<sizeLine then some (gup G p (.dck (putT kvs k v))) else none
   | none=>none
  | some (.fdc _)=>none
  | some (.ins _ _)=>none
  | none=>none
 | _=>none
def jQh:T->T->T->Gp->(Gp->Prop)->Prop:=λo i v G Q=>∃G',setR G o i v=some G'/\Q G'
theorem uU0{o i v:T}{G:Gp}{Q:Gp->Prop}(h:jQh o i v G Q):uVa o i v G Q:=by
 obtain⟨G',hr,q⟩:=h;unfold setR at hr;split at hr
 .rename_i p
  split at hr
  .rename_i xs h1
   split at hr
   .rename_i k
    split at hr
    .rename_i j hj;cases hr;exact .inl ⟨p,xs,k,j,rfl,rfl,h1,hj,q⟩
    .cases hr
   .cases hr
  .rename_i kvs h1
   split at hr
   .rename_i ys
    split at hr
    .rename_i ks hk
     split at hr
     .rename_i hz;cases hr;exact .inr (.inl ⟨p,ys,ks,kvs,rfl,rfl,hk,h1,hz,q⟩)
     .cases hr
    .cases hr
   .cases hr
  .rename_i kvs h1
   split at hr
   .rename_i k hk
    split at hr
    .rename_i hz;cases hr;exact .inr (.inr ⟨p,k,kvs,rfl,hk,h1,hz,q⟩)
    .cases hr
   .cases hr
  .cases hr
  .cases hr
  .cases hr
 .cases hr
theorem s_F{X:L2.Cx}(hu:X.A.units+20<cLine):Set3 X jQh:=(uYb hu).imp λ_ _ _ _ _=>uU0
noncomputable def rLeF:R3:=λx y G Q=>∃b,(match x,y with
 | .int i,.int j=>some (decide (i<=j))
 | .tup [.int a,.int b],.tup [.int c,.int d]=>some (HT.lexLe [a,b] [c,d])
 | _,_=>none)=some b/\Q (.bl b) G
theorem uYs{x y:T}{G:Gp}{Q:VK3}(h:rLeF x y G Q):rLeA x y G Q:=by
 obtain⟨b,hb,q⟩:=h;split at hb
 .cases hb;exact .inl ⟨_,_,rfl,rfl,q⟩
 .cases hb;exact .inr ⟨_,_,rfl,rfl,q⟩
 .cases hb
theorem qYg{X:L2.Cx}(hu:X.A.units+20<cLine):Op3 X (compareOp .LtE) rLeF:=(uYq hu).imp λ_ _ _ _=>uYs
noncomputable def inR(G:Gp)(x y:T):Option Bool:=match seqT G y with
 | some xs=>if jU5 x=true/\xs.all jU5=true then some (inT x xs) else none
 | none=>match dAt G y x with
  | some o=>some o.isSome
  | none=>none
def jK4:R3:=λx y G Q=>∃b,inR G x y=some b/\Q (.bl (!b)) G
theorem qYl{x y:T}{G:Gp}{Q:VK3}(h:jK4 x y G Q):qQp x y G Q:=by
 obtain⟨b,hb,q⟩:=h;unfold inR at hb;split at hb
 .rename_i xs hx
  split at hb
  .rename_i hc;cases hb;exact .inl ⟨xs,hx,hc.1,hc.2,q⟩
  .cases hb
 .split at hb
  .rename_i o ho;cases hb;exact .inr ⟨o,ho,q⟩
  .cases hb
theorem jVi{X:L2.Cx}(hu:X.A.units+20<cLine):Op3 X (compareOp .NotIn) jK4:=(uK8 hu).imp λ_ _ _ _=>qYl
noncomputable def slR(G:Gp)(x:T)(lo hi:Option Int):Option Res:=match x with
 | .tup xs=>some (.val (.tup (cutT xs lo hi)))
 | .scr xs=>some (.newL (cutT xs lo hi))
 | .ref p=>match G p with
  | some (.lst xs)=>some (.newL (cutT xs lo hi))
  | _=>none
 | _=>none
def rSlF:T->Option Int->Option Int->Gp->VK3->Prop:=λx lo hi G Q=>∃r,slR G x lo hi=some r/\fin3 r G Q
theorem uYa{x:T}{lo hi:Option Int}{G:Gp}{Q:VK3}(h:rSlF x lo hi G Q):rSlA x lo hi G Q:=by
 obtain⟨r,hr,q⟩:=h;unfold slR at hr;split at hr
 .cases hr;exact .inr ⟨_,rfl,q⟩
 .cases hr;exact .inl ⟨_,rfl,q⟩
 .split at hr
  .rename_i xs h1;cases hr;exact .inl ⟨xs,by simp only[jQ7,h1,asL],q⟩
  .cases hr
 .cases hr
theorem sl_F{X:L2.Cx}:Sl3 X rSlF:=sl_any.imp λ_ _ _ _ _=>uYa
end L3
namespace L2
open PySem PySem.Spec PyProof.Rows
def Its(lo c:Int)(n:Nat):It:=⟨λi _=>i<n,λi H x H'=>H'=H/\x= .int (lo+i*c),λi _=>n<=i⟩
theorem kV6{P:Program}{w:World}{K:PySem.W.Frag}{tg:Expr}(it:Addr)(lo c:Int)(n:Nat):Turn P w K tg (Its lo c n) [it] it (λi h=>IsRangeIter h it (lo+(i:Nat)*c) ((n:Int)-(i:Nat)) c) where
 mem:=by simp
 obj:=λi h st b hb=>by
  have e:b=it:=by simpa using hb
  subst e
  exact⟨_,st,λv z=>by
   have z':Data.fields _=Data.cell v:=z;cases z'⟩
 keep:=λi h h' st k=>k it (by simp) _ st
 item:=by
  intro X hP hw hK hc i pins s σ H E I hf st hg;subst hP hw hK;obtain⟨f0,f1,f2,f3,f4,f5⟩:=hf it (by simp)
  have W:=Walks.range (prog:=X.prog) (w:=X.w) (I.ok.hd hc) it lo c n;refine W.item i s _ _ hg st λv h' tk hv st' kk=> ?_
  obtain⟨t,rfl⟩:=hv;have I1:Inv X pins σ H {s with heap:=h',toks:=tk}:=I.turned (λb o hb e=>kk b o (by simpa using hb) e) f0 f1 f3 f4 f5
  exact⟨_,rfl,qZh (s:={s with heap:=h',toks:=tk}) (n:="range_iterator") st' rfl rfl (by decide) ⟨.int (lo+i*c),H,I1,⟨t,rfl⟩,⟨rfl,rfl⟩,st',λb hb=>(hf b hb).1⟩⟩
 done:=by
  intro X hP hw hK hc i pins s σ H E I hf st hg;subst hP hw hK;obtain⟨f0,f1,f2,f3,f4,f5⟩:=hf it (by simp)
  exact wpAny_pyNext_range_end (I.ok.hd hc) st (by have:n<=i:=hg;omega) λh' eb=>⟨rfl,I.turned (t':=s.toks) (λb o hb e=>eb b o hb e) f0 f1 f3 f4 f5⟩
 self:=λ_ _ _ _ _ st h=>wpAny_pyIter_rangeiter st h
section
variable {X:Cx}{tg:Expr}
theorem qQn{pins:List (Addr×Obj)}{σ:St}{H:Hp}{s:Shared}{R:It->Hp->Prop}{E:Value->Shared->Prop}{lo hi c:Int}{t u v:Tok}{tk:Nat}(I:Inv X pins σ H s)(hsm:Builtin.Range.small lo hi c=true)
  (q:R (Its lo c (Builtin.Range.rangeSize lo hi c).toNat) H):wpAny (model X.prog X.w) X.A (pyIter (.ref s.heap.objs.size)) (PIE X pins σ tg R) E {s with heap:=s.heap.push {cls:= .type "range",data:= .fields #[.int lo t,.int hi u,.int c v]},toks:=tk}:=by
 refine wpAny_pyIter_range (IsRange.new ..) hsm ?_;have I1:Inv X pins σ H {s with heap:=s.heap.push {cls:= .type "range",data:= .fields #[.int lo t,.int hi u,.int c v]},toks:=tk}:=I.kept λb o e=>lJm _ e
 refine⟨(s.heap.push {cls:= .type "range",data:= .fields #[.int lo t,.int hi u,.int c v]}).objs.size,[(s.heap.push {cls:= .type "range",data:= .fields #[.int lo t,.int hi u,.int c v]}).objs.size],_,_,H,rfl,
  I1.kept (t':=tk) λb o e=>lJm _ e,kV6 _ lo c (Builtin.Range.rangeSize lo hi c).toNat,?_,λb hb=> ?_,q⟩
 .show IsRangeIter _ _ (lo+((0:Nat):Int)*c) ((((Builtin.Range.rangeSize lo hi c).toNat:Nat):Int)-((0:Nat):Int)) c
  rw[<-rangeSize_toNat,show lo+((0:Nat):Int)*c=lo by simp,show Builtin.Range.rangeSize lo hi c-((0:Nat):Int)=Builtin.Range.rangeSize lo hi c by simp]
  exact lJz _ rfl
 .have e:b=(s.heap.push {cls:= .type "range",data:= .fields #[.int lo t,.int hi u,.int c v]}).objs.size:=by simpa using hb
  subst e;exact I1.fpOk (lJh _) (I1.hok.fresh (lJh _))
end
end L2
namespace L3
open PySem PySem.Spec PyProof.Rows L2
def rngS(lo c:Int)(n:Nat):List T:=(List.range n).map λ(k:Nat)=>T.int (lo+k*c)
noncomputable def qY8(ta:TA3):TI3:=λτ G R=>ta τ G λvs G1=>∃i j c:Int,vs=[.int i,.int j,.int c]/\(c≠0/\c.natAbs<1073741824/\Builtin.Range.small i j c=true)/\R (rngS i c (Builtin.Range.rangeSize i j c).toNat) (λ_=>True) G1
theorem qKg{K:PySem.W.Frag}{H:Hp}(lo c:Int)(n:Nat):uUj K H (Its lo c n) (rngS lo c n) λ_=>True:=by
 intro i H' G e g _;have hl:(rngS lo c n).length=n:=by simp[rngS]
 refine⟨λh=>by rw[hl] at h;exact h,λh=>by rw[hl] at h;exact h,λhi x H2 ⟨eH,ex⟩=> ?_⟩
 rw[hl] at hi;subst eH;subst ex;exact⟨.refl _,g,.int (lo+i*c),by simp[rngS,hi],rfl⟩
theorem qY7{X:Cx}{tg:Expr}{pos:Pos}{a b c:Expr}{ta:TA3}{p:Pos}(hg:Gl X "range")(hm:X.mg "range"=none)(ha:PA3 X [a,b,c] ta)(hs:starEach [a,b,c] X.env=[(false,eval a X.env),(false,eval b X.env),(false,eval c X.env)]:=by rfl)(hs2:starEach [b,c] X.env=[(false,eval b X.env),(false,eval c X.env)]:=by rfl):
  PI3 X tg (.Call (.Name "range" p) [a,b,c] [] pos) (qY8 ta):=by
 intro pins s τ G H R I h;obtain⟨σ,I0,hs0,hg0⟩:=id I;refine Call_ (jUe I0 hg hm boot_range (lQj (thn (ha pos pins s τ G H _ I h) λus s1 w_=>w_.el λxs G1 H1 e1 i_ r_ q1=>i_.el λσ I1 hs1 hg1=>r_.el λas ras rvs=> ?_) (by rw[hs,hs2]) (by rw[hs2];rfl)))
 obtain⟨i,j,k,e,⟨q1,q2,q3⟩,q⟩:=q1;subst e;obtain⟨v,as1,rfl,rv,ras1⟩:=ras;obtain⟨w,z,rfl,rw',rz⟩:=kXf ras1;cases (show v= .int i from rv);cases (show w= .int j from rw');cases (show z= .int k from rz)
 cases rvs with
 | cons ru rvs=>
  obtain⟨u',u'',rfl,ru',ru''⟩:=Vals.two rvs;obtain⟨t,rfl⟩:=ru;obtain⟨t',rfl⟩:=ru';obtain⟨t'',rfl⟩:=ru'';refine call_range_3 q1 (thn (qQn (tg:=tg) (R:=λJ H'=>J=Its i k (Builtin.Range.rangeSize i j k).toNat/\H'=H1) I1 q3 ⟨rfl,rfl⟩) λitv s2 z=> ?_) (Or.inl (lY5 q2))
  obtain⟨it,fp,tn,J,H',ei,I2,T0,st,fk,eJ,eH⟩:=z;subst eJ;subst eH;exact⟨it,fp,tn,_,rngS i k (Builtin.Range.rangeSize i j k).toNat,λ_=>True,G1,H',ei,e1,⟨σ,I2,hs1,hg1⟩,T0,st,fk,qKg i k _,q⟩
def Draw(P:Program)(w:World)(A:Around)(i:Addr)(r:Option Value)(S S':Heap->Prop):Prop:=
 ∀(s:Shared)(Q E:Value->Shared->Prop),S s.heap->
  (∀x g,r=some x->S' g->Heap.SameBut i s.heap g->Q x {s with heap:=g})->
  (∀g e o,r=none->Heap.ExtBut i s.heap g->g.get? e=some o->o.cls= .type "StopIteration"->E (.ref e) {s with heap:=g})->
  wpAny (model P w) A (Builtin.SmallTypes.nextOf (.ref i)) Q E s
def qKo(i t:Addr)(k:Nat)(xs:Array Value)(h:Heap):Prop:=h.IsTupleIter i t k/\h.IsTuple t xs
theorem kK9{P:Program}{w:World}{A:Around}{i t:Addr}{k:Nat}{xs:Array Value}(hh:A.handled=none)(ne:t≠i):Draw P w A i xs[k]? (qKo i t k xs) (qKo i t (k+1) xs):=by
 rintro s Q E ⟨⟨o,ho,hc,hd⟩,q,hq,hqc,n,hn⟩ item stop;have ty:s.TypeIs (.ref i) "tuple_iterator":=⟨o,ho,hc⟩;refine lJa (lVc (name:=Str.ofString "__next__") ty lZ8 (lK6 lZ8 ty F.entry_tuple_iterator_next ?_ (F.args_tuple_iterator_next_1 _)));refine (show wpAny _ _ (field (.ref i) 0 >>= _) _ _ s from lJa (lXl ho hd (x:= .ref t) rfl ?_))
 refine (show wpAny _ _ (if (Value.ref t == Value.none)=true then _ else field (.ref i) 1 >>= _) _ _ s from ?_)
 rw[lJb (by exact lJo)]
 refine lJa (lXl ho hd (x:= .int k 0) rfl (show wpAny _ _ (seqItems? (.ref t) >>= _) _ _ s from lJa (lYs hq hn ?_)))
 cases hx:xs[k]? with
 | some x=>
  simp only[hx,lV7]
  have up:qKo i t (k+1) xs (s.heap.update i (Obj.mapFields (·.setIfInBounds 1 (rawInt ((k:Int)+1))))):=by
   refine⟨⟨_,lV5 _ ho (Obj.isFreed_of_fields (Obj.data_mapFields hd _)),(Obj.cls_mapFields ..).trans hc,?_⟩,q,(lVt ..).extBut t q ne hq,hqc,n,hn⟩;rw[Obj.data_mapFields hd];simp[rawInt]
  exact lJa (lYx ho hd (by simp) (lJd ⟨x,rfl,lJd (item x _ hx up (lVt ..))⟩))
 | none=>
  simp only[hx,lV7];refine lJa (wpAny_rule (lJa (lYx ho hd (by simp) (show wpAny _ _ (newExc (.type "StopIteration") [] >>= _) _ _ _ from lJa ?_))))
  simp only[newExc,newTuple,raiseNew];refine lJa (lKl (lJa (m:=firstArgMember _ _) (lX8 (a:=Value.none) (by first | rfl | (simp only[firstArgMember];rfl)) (lKl ?_ (by size_fits)))) (by size_fits))
  refine lJa (wpAny_handled ?_);rw[show A.in1.handled=none from hh]
  exact lJa (lJd (wpAny_throw (stop _ _ _ hx (((lVt ..).extBut.push _).push _) (lJz _ rfl) rfl)))
def itOf(t:Addr):Obj:={cls:= .type "tuple_iterator",data:= .fields #[.ref t,.int 0 0]}
end L3
namespace L3
open PySem
theorem atN{α:Type}{xs:List α}{n:Nat}:L2.atI xs (n:Int)=xs[n]? :=by
 unfold L2.atI L2.ixN
 by_cases h:n<xs.length
 .simp[h]
 .simp[h]
theorem at0{α:Type}{x:α}{xs:List α}:L2.atI (x::xs) 0=some x:=(atN (n:=0)).trans rfl
theorem at1{α:Type}{x y:α}{xs:List α}:L2.atI (x::y::xs) 1=some y:=(atN (n:=1)).trans rfl
theorem at2{α:Type}{x y z:α}{xs:List α}:L2.atI (x::y::z::xs) 2=some z:=(atN (n:=2)).trans rfl
theorem atZ{α:Type}{xs:List α}{i:Int}(h:0<=i):L2.atI xs i=xs[i.toNat]? :=by
 obtain⟨n,rfl⟩:=lKo h
 simpa using atN
theorem kYs{α:Type}{xs:List α}{y:α}:L2.atI (xs++[y]) (-1)=some y:=by
 unfold L2.atI L2.ixN;have:¬ (0:Int)<= -1:=by decide
 simp only[this,lJ6];rw[lJc (by simp;omega)]
 have e:(-1+((xs++[y]).length:Int)).toNat=xs.length:=by simp;omega
 rw[e];simp
theorem kJi{n k:Nat}(h:k<n):L2.ixN n (k:Int)=some k:=by simp[L2.ixN,h]
theorem ix0{n:Nat}:L2.ixN (n+1) 0=some 0:=kJi (k:=0) (by omega)
theorem ix1{n:Nat}:L2.ixN (n+2) 1=some 1:=kJi (k:=1) (by omega)
theorem ix2{n:Nat}:L2.ixN (n+3) 2=some 2:=kJi (k:=2) (by omega)
theorem ix30:L2.ixN 3 0=some 0:=ix0
theorem ix31:L2.ixN 3 1=some 1:=ix1
theorem ix32:L2.ixN 3 2=some 2:=ix2
theorem ixZ{n:Nat}{k:Int}(h0:0<=k)(h:k<n):L2.ixN n k=some k.toNat:=by simp[L2.ixN,h0,h]
theorem qZ2{G:Gp}{i j:Int}:addR G (.int i) (.int j)=some (.val (.int (i+j))):=rfl
theorem qJg{G:Gp}{p q:Addr}{xs ys:List T}(h1:G p=some (.lst xs))(h2:G q=some (.lst ys))(hz:xs.length+ys.length<=sizeLine):addR G (.ref p) (.ref q)=some (.newL (xs++ys)):=by simp only[addR,h1,h2,hz,lK0]
theorem kZj{G:Gp}{i j:Int}:mulR G (.int i) (.int j)=some (.val (.int (i*j))):=rfl
theorem qYo{i j:Int}:mulC (.int i) (.int j)=L2.CMul i j:=rfl
theorem qYn{p:Addr}{j:Int}:mulC (.ref p) (.int j)=True:=rfl
theorem uQz{t:T}{G:Gp}{Q:VK3}:fin3 (.val t) G Q=Q t G:=rfl
theorem qVc{xs:List T}{G:Gp}{Q:VK3}:fin3 (.newL xs) G Q=∀p,G p=none->Q (.ref p) (gup G p (.lst xs)):=rfl
theorem uQo{G:Gp}{xs:List T}{i:Int}:ixR G (.tup xs) (.int i)=L2.atI xs i:=rfl
theorem uQp{G:Gp}{xs:List T}{i:Int}:ixR G (.scr xs) (.int i)=L2.atI xs i:=rfl
theorem jJy{G:Gp}{p:Addr}{xs:List T}{i:Int}(h:G p=some (.lst xs)):ixR G (.ref p) (.int i)=L2.atI xs i:=by simp only[ixR,seqT,h,asL]
theorem jUa{G:Gp}{p:Addr}{xs:List T}{k:Int}{j:Nat}{v:T}(h:G p=some (.lst xs))(hj:L2.ixN xs.length k=some j):setR G (.ref p) (.int k) v=some (gup G p (.lst (xs.set j v))):=by simp only[setR,h,hj]
theorem qXq{G:Gp}{xs:List T}:seqT G (.tup xs)=some xs:=rfl
theorem jJn{G:Gp}{p:Addr}{xs:List T}(h:G p=some (.lst xs)):seqT G (.ref p)=some xs:=by simp only[seqT,h,asL]
theorem uJk{G:Gp}{p:Addr}{xs:List T}{k:Int}{v:T}(h:G p=some (.lst xs)):setR G (.ref p) (.int k) v=(L2.ixN xs.length k).map λj=>gup G p (.lst (xs.set j v)):=by
 cases e:L2.ixN xs.length k with
 | none=>simp only[setR,h,e,Option.map_none]
 | some j=>simp only[setR,h,e,lK4]
theorem qXp{G:Gp}{p:Addr}{xs:List T}{k:Int}{v:T}:setR (gup G p (.lst xs)) (.ref p) (.int k) v=(L2.ixN xs.length k).map λj=>gup G p (.lst (xs.set j v)):=by
 rw[uJk jJh];simp only[qU4]
theorem uQq{G:Gp}{p:Addr}{xs:List T}{i:Int}:ixR (gup G p (.lst xs)) (.ref p) (.int i)=L2.atI xs i:=jJy jJh
theorem qXr{G:Gp}{p:Addr}{xs:List T}:seqT (gup G p (.lst xs)) (.ref p)=some xs:=jJn jJh
def uJd(g:TG3)(tb:TS3)(D:Ends3)(τ:St3)(xs:List T)(stay:Gp->Prop)(G:Gp):Prop:=∃P:Nat->St3->Gp->Prop,P 0 τ G/\(∀i τ G,i<=xs.length->P i τ G->stay G)/\
 (∀i x τ G,xs[i]? =some x->P i τ G->g x τ G λτ2 G2=>tb {D with nx:=P (i+1),ct:=P (i+1),bk:=D.nx} τ2 G2)/\∀ τ G,P xs.length τ G->D.nx τ G
theorem jJt{wi:TI3}{g:TG3}{tb:TS3}{D:Ends3}{τ:St3}{G:Gp}:tFor wi g tb D τ G=wi τ G λxs stay G1=>uJd g tb D τ xs stay G1:=rfl
def qJi(mask:List Bool)(g:TG3)(tif:TT3)(te:TE3)(τ:St3)(xs:List T)(stay:Gp->Prop)(G:Gp)(Q:VK3):Prop:=kXa mask g tif te τ xs stay G Q
theorem qXk{mask:List Bool}{wi:TI3}{g:TG3}{tif:TT3}{te:TE3}{τ:St3}{G:Gp}{Q:VK3}:jQb mask wi g tif te τ G Q=wi τ G λxs stay G1=>qJi mask g tif te τ xs stay G1 Q:=rfl
def Sub(G G':Gp):Prop:=∀c o,G c=some o->G' c=some o
theorem Sub.refl(G:Gp):Sub G G:=λ_ _ h=>h
theorem Sub.trans{G G1 G2:Gp}(h:Sub G G1)(h':Sub G1 G2):Sub G G2:=λc o e=>h' c o (h c o e)
theorem Sub.new{p:Addr}{G:Gp}{o:GO}(hp:G p=none):Sub G (gup G p o):=λc u e=>by rw[jJm];exact e;rintro rfl;rw[hp] at e;cases e
theorem Sub.over{p:Addr}{G G':Gp}{o:GO}(h:Sub G G')(hp:G p=none):Sub G (gup G' p o):=λc u e=>by rw[jJm];exact h c u e;rintro rfl;rw[hp] at e;cases e
theorem Sub.none{G G':Gp}{p:Addr}(h:Sub G G')(hp:G' p=none):G p=none:=by
 cases e:G p with
 | none=>rfl
 | some o=>rw[h p o e] at hp;cases hp
theorem jKf{G:Gp}{a p:Addr}{o:GO}(h:gup G a o p=none):p≠a/\G p=none:=by
 by_cases e:p=a
 .subst e;rw[jJh] at h;cases h
 .rw[jJm e] at h;exact⟨e,h⟩
theorem jJf{G:Gp}{a p:Addr}{o:GO}(h:G a=some o)(hp:G p=none):a≠p:=by rintro rfl;rw[h] at hp;cases hp
theorem jKd{α β:Type}{enc:α->β}{es:List α}{i:Nat}{x:β}(h:(es.map enc)[i]? =some x):∃e,es[i]? =some e/\x=enc e:=by
 rw[lJj] at h;cases e1:es[i]? with
 | none=>rw[e1] at h;cases h
 | some e=>rw[e1] at h;exact⟨e,rfl,(lJ3 h).symm⟩
theorem jVt{α:Type}{mask:List Bool}{g:TG3}{tif:TT3}{te:TE3}{τ:St3}{es:List α}{enc:α->T}{stay:Gp->Prop}{G:Gp}{Q:VK3}(f:α->Option T)(hz:es.length<=sizeLine)(hst:∀G',Sub G G'->stay G')
  (h:∀(i:Nat) e,es[i]? =some e->∀G' (K:T->Gp->Prop) (K0:Gp->Prop),Sub G G'->(∀y G4,f e=some y->Sub G' G4->K y G4)->(f e=none->∀G4,Sub G' G4->K0 G4)->g (enc e) (msk mask τ) G' λτ2 G2=>tif τ2 G2 λb G3=>if b=true then te τ2 G3 K else K0 G3)
  (hq:∀D G',G D=none->G' D=some (.lst (es.filterMap f))->Sub G G'->Q (.ref D) G'):qJi mask g tif te τ (es.map enc) stay G Q:=by
 intro D hD;refine⟨λi acc G'=>acc=(es.take i).filterMap f/\G' D=some (.lst acc)/\Sub G G',⟨by simp,jJh,.new hD⟩,?_,?_,?_⟩
 .rintro i acc G' hi ⟨ea,eg,hs⟩;exact⟨hst G' hs,eg⟩
 .rintro i x acc G' hx0 ⟨ea,eg,hs⟩;obtain⟨e,hx,rfl⟩:=jKd hx0;have hi:i<es.length:=(lJe.mp hx).1;have tk:es.take (i+1)=es.take i++[e]:=by rw[lQh,hx];rfl
  have hlen:acc.length<sizeLine:=by
   have h1:acc.length<=(es.take i).length:=by rw[ea];exact List.length_filterMap_le _ _
   rw[lQ6] at h1;omega
  refine h i e hx G' _ _ hs (λy G4 hy h4=>⟨h4 D _ eg,hlen,?_,jJh,(hs.trans h4).over hD⟩) λhn G4 h4=>⟨?_,h4 D _ eg,hs.trans h4⟩
  .rw[tk,lV8,<-ea];simp[hy]
  .rw[tk,lV8,<-ea];simp[hn]
 .rintro acc G' ⟨ea,eg,hs⟩;rw[lJg,lQz] at ea;rw[ea] at eg;exact hq D G' hD eg hs
theorem jKw{α:Type}{mask:List Bool}{g:TG3}{tif:TT3}{te:TE3}{τ:St3}{es:List α}{enc:α->T}{stay:Gp->Prop}{G:Gp}{Q:VK3}(f:α->T)(hz:es.length<=sizeLine)(hst:∀G',Sub G G'->stay G')
  (h:∀(i:Nat) e,es[i]? =some e->∀G' (K:T->Gp->Prop) (K0:Gp->Prop),Sub G G'->(∀G4,Sub G' G4->K (f e) G4)->g (enc e) (msk mask τ) G' λτ2 G2=>tif τ2 G2 λb G3=>if b=true then te τ2 G3 K else K0 G3)
  (hq:∀D G',G D=none->G' D=some (.lst (es.map f))->Sub G G'->Q (.ref D) G'):qJi mask g tif te τ (es.map enc) stay G Q:=by
 refine jVt (λe=>some (f e)) hz hst (λi e he G' K K0 hs hk _=>h i e he G' K K0 hs λG4 h4=>hk _ G4 rfl h4) λD G' hD h1 h2=>hq D G' hD ?_ h2
 rw[h1];congr 2;induction es with
 | nil=>rfl
 | cons a as ih=>simp
theorem jJ4{G:Gp}{p:Addr}{xs:List T}(h:G p=some (.lst xs)):tyT G "list" (.ref p)=True:=by simp[tyT,h]
theorem uKi{G:Gp}{p:Addr}{xs:List T}:tyT (gup G p (.lst xs)) "list" (.ref p)=True:=jJ4 jJh
theorem kK2{α:Type}{mask:List Bool}{g:TG3}{tif:TT3}{te:TE3}{τ:St3}{es:List α}{enc:α->T}{stay:Gp->Prop}{G:Gp}{Q:VK3}(f:α->List T)(hz:es.length<=sizeLine)(hst:∀G',Sub G G'->stay G')
  (h:∀(i:Nat) e,es[i]? =some e->∀G' (K:T->Gp->Prop) (K0:Gp->Prop),Sub G G'->(∀p G4,G' p=none->G4 p=some (.lst (f e))->Sub G' G4->K (.ref p) G4)->g (enc e) (msk mask τ) G' λτ2 G2=>tif τ2 G2 λb G3=>if b=true then te τ2 G3 K else K0 G3)
  (hq:∀D rs G',G D=none->G' D=some (.lst (rs.map T.ref))->Sub G G'->rs.length=es.length->(D::rs).Nodup->(∀(i:Nat)(r:Addr)(e:α),rs[i]? =some r->es[i]? =some e->G r=none/\G' r=some (.lst (f e)))->Q (.ref D) G'):qJi mask g tif te τ (es.map enc) stay G Q:=by
 intro D hD;refine⟨λi acc G'=>∃rs:List Addr,acc=rs.map T.ref/\rs.length=i/\G' D=some (.lst acc)/\Sub G G'/\(D::rs).Nodup/\(∀(i:Nat)(r:Addr)(e:α),rs[i]? =some r->es[i]? =some e->G r=none/\G' r=some (.lst (f e))),⟨[],rfl,rfl,jJh,.new hD,by simp,by simp⟩,?_,?_,?_⟩
 .rintro i acc G' hi ⟨rs,ea,hl,eg,hs,hn,hr⟩;exact⟨hst G' hs,eg⟩
 .rintro i x acc G' hx0 ⟨rs,ea,hl,eg,hs,hn,hr⟩;obtain⟨e,hx,rfl⟩:=jKd hx0;have hi:i<es.length:=(lJe.mp hx).1;have hlen:acc.length<sizeLine:=by rw[ea,lJg];omega
  refine h i e hx G' _ _ hs λp G4 hp h4 s4=>⟨s4 D _ eg,hlen,rs++[p],by simp[ea],by simp[hl],jJh,(hs.trans s4).over hD,?_,?_⟩
  .have hDp:D≠p:=jJf eg hp
   have hpr:p∉rs:=by
    intro hm;obtain⟨j,hj⟩:∃j:Nat,_:=lJ1 hm
    have hjl:j<rs.length:=(lJe.mp hj).1;have:=(hr j p es[j] hj (lJf (by omega))).2
    rw[hp] at this;cases this
   rw[lKn] at hn;simp only[lKn,lKb,lJ0,not_or,lQ8,lKp,not_false_eq_true,lVs,lXm];exact⟨⟨hn.1,hDp⟩,hn.2,trivial,λa ha b hb=>by subst hb;rintro rfl;exact hpr ha⟩
  .intro j r e' hj he';have hjl:j<rs.length+1:=by have:=(lJe.mp hj).1;simpa using this
   by_cases hjr:j<rs.length
   .rw[lJ9 hjr] at hj;obtain⟨q1,q2⟩:=hr j r e' hj he';have:r≠D:=by rintro rfl;exact (lKn.mp hn).1 (lJk hj)
    exact⟨q1,by rw[jJm this];exact s4 _ _ q2⟩
   .have hj2:j=rs.length:=by omega
    subst hj2;rw[lQe (lJh _)] at hj;simp at hj;subst hj;rw[hl,hx] at he';cases he';exact⟨hs.none hp,by rw[jJm (jJf eg hp).symm];exact h4⟩
 .rintro acc G' ⟨rs,ea,hl,eg,hs,hn,hr⟩;rw[ea] at eg;exact hq D rs G' hD eg hs (by simpa using hl) hn hr
end L3
namespace L3
open PySem PySem.Spec PyProof.Rows L2
section
variable {X:Cx}
def uVe:R3:=λx y G Q=>∃ys,x= .tup []/\y= .tup ys/\Q (.tup ys) G
theorem uVx:Op3 X (binaryOp .Add) uVe:=by
 rintro pins s τ G H x y v u Q ⟨σ,I,hs,hg⟩ ⟨a,ra,rv⟩ ⟨b,rb,ru⟩ ⟨ys,ex,ey,q⟩;subst ex;subst ey;obtain⟨pa,vs,rfl,h1,r1⟩:=(show ∃p vs,a= .ref p/\H p=some (.tup vs)/\Reps X.K H [] vs from ra)
 obtain⟨pb,ws,rfl,h2,r2⟩:=(show ∃p vs,b= .ref p/\H p=some (.tup vs)/\Reps X.K H ys vs from rb)
 cases rv;cases ru;obtain⟨its,q1,p1,_⟩:=I.tuple (.of h1);obtain⟨its2,q2,p2,_⟩:=I.tuple (.of h2)
 have e0:its.toArray.isEmpty=true:=by
  have e1:=r1.length;have e2:=q1.length;have:its=[]:=lZc (by simp at e1;omega)
  rw[this];rfl
 obtain⟨⟨cls,dd,data,sl⟩,ho,hc,n,hd⟩:=id p1;obtain⟨⟨cls2,dd2,data2,sl2⟩,ho2,hc2,n2,hd2⟩:=id p2;simp only at hc hd hc2 hd2;subst hc hd hc2 hd2
 exact concat_meets ⟨_,ho,rfl⟩ ⟨_,ho2,rfl⟩ lZt seq_tuple_add lY8 lY9 (lZa _ _) (tuple_addW0 pa pb its.toArray its2.toArray n n2 dd dd2 sl sl2 e0)
  ⟨ho,ho2,.tup ys,G,H,.refl H,⟨σ,I,hs,hg⟩,⟨.ref pb,⟨pb,ws,rfl,h2,r2⟩,rfl⟩,q⟩
def qJ0:R3:=λx y G Q=>jJ7 x y G Q\/uVe x y G Q
theorem qUh:Op3 X (binaryOp .Add) qJ0:=o_addF.or uVx
end
theorem qVl{P:Program}{w:World}{A:Around}(hh:A.handled=none)(it t:Addr)(ne:t≠it)(xs:Array Value):Draws P w A it [it,t] xs.size (λi v=>xs[i]? =some v) (λi h=>qKo it t i xs h) where
 live:=λ_ _ ⟨⟨o,ho,_⟩,_⟩=>⟨o,ho⟩
 frame:=λ_ _ _ ⟨⟨o,ho,r⟩,⟨q,hq,r'⟩⟩ k=>⟨⟨o,k it (by simp) o ho,r⟩,⟨q,k t (by simp) q hq,r'⟩⟩
 item:=λi s Q E hi st hQ=>kK9 hh ne s Q E st (λx g e s' b=>hQ x g s.toks e s' b) λ_ _ _ e=>by rw[lKu hi] at e;cases e
 done:=λs Q E st hE=>kK9 hh ne s Q E st (λx _ e=>by rw[lQk (lJh _)] at e;cases e) λg e o _ b he hc=>hE g e b ⟨o,he,hc⟩
def kZ4(i:Addr):Obj:={cls:= .type "enumerate",data:= .fields #[.none,.bool false,.ref i,rawInt 0,.none,.none]}
theorem qZo(t:Addr)(xs:Array Value):
  Meets (Builtin.«enumerate.__new__» ⟨[.type "enumerate",.ref t],[]⟩) λ_ R s=>s.heap.IsTuple t xs/\R (.ok (.ret (.ref (s.heap.push (itOf t)).objs.size))) {s with heap:=(s.heap.push (itOf t)).push (kZ4 s.heap.objs.size)}:=by
 refine .of_wp λP w A R s ⟨ht,h⟩=> ?_
 obtain⟨g,a1,a2,a3,a4⟩:=s;have sb:=sub_enumerate;have m1:Heap.IsTuple (Shared.heap ⟨g,a1,a2,a3,a4⟩) t xs:=ht;obtain⟨⟨c,dct,dt,sl⟩,hl,hc,n,hd⟩:=id ht
 replace hc:c= .type "tuple":=hc
 replace hd:dt= .seq xs n:=hd
 subst hc hd
 wp_walk using AutoSeq1.wpAny_loadPart' hl
 refine wpAny_stack_any (λstk=>lJd ?_)
 split
 .rename_i k _ _ _ _ _
  cases (k == Value.type "enumerate")<;>(wp_walk using AutoSeq1.wpAny_loadPart' hl,wpAny_pyIter_tuple m1;exact⟨_,rfl,h⟩)
 .wp_walk using AutoSeq1.wpAny_loadPart' hl,wpAny_pyIter_tuple m1;exact⟨_,rfl,h⟩
theorem qVh{P:Program}{w:World}{A:Around}{s:Shared}{t:Addr}{xs:Array Value}{Q E:Value->Shared->Prop}(ht:s.heap.IsTuple t xs)
  (h:∀g n,n=s.heap.objs.size->IsEnum g (n+1) n 0 .none->qKo n t 0 xs g->(∀c o,s.heap.get? c=some o->g.get? c=some o)->Q (.ref (n+1)) {s with heap:=g}):wpAny (model P w) A (call (.type "enumerate") [.ref t]) Q E s:=by
 refine callType_new F.called_enumerate (by decide) (F.typeCall_enumerate_1 _) (F.newCall_enumerate_1 _) (λobj=>F.args_object_init_2 obj _) F.entry_enumerate_new (qZo t xs) ⟨ht,?_⟩
 have hn:∀(g:Heap)(o:Obj),(g.push o).objs.size=g.objs.size+1:=λ_ _=>lXu ..
 have up:∀{g:Heap}{o q:Obj}{c:Addr},g.get? c=some q->(g.push o).get? c=some q:=λe=>lJm _ e
 obtain⟨q,hq,hr⟩:=ht;have c0:((s.heap.push (itOf t)).push (kZ4 s.heap.objs.size)).get? s.heap.objs.size=some (itOf t):=up (lJz _ rfl);have c1:((s.heap.push (itOf t)).push (kZ4 s.heap.objs.size)).get? (s.heap.push (itOf t)).objs.size=some (kZ4 s.heap.objs.size):=lJz _ rfl;show _/\_
 simp only[hn] at c1 ⊢;exact⟨⟨_,c1,rfl⟩,h _ _ rfl c1 ⟨⟨_,c0,rfl,rfl⟩,q,up (up hq),hr⟩ λc o e=>up (up e)⟩
theorem jUr{P:Program}{w:World}{A:Around}{s:Shared}{e it t:Addr}{i:Int}{k:Nat}{old:Value}{xs:Array Value}{Q:Option Value->Shared->Prop}{E:Value->Shared->Prop}(hh:A.handled=none)(ne:t≠it)(he:IsEnum s.heap e it i old)(st:qKo it t k xs s.heap)(hk:xs.size<=k)
  (hQ:∀g,Heap.ExtBut it s.heap g->Q none {s with heap:=g}):wpAny (model P w) A (pyNext (.ref e)) Q E s:=by
 have ty:s.TypeIs (.ref e) "enumerate":=⟨_,he,rfl⟩;refine lJa (lX9 (lVc (name:=Str.ofString "__next__") ty F.slot_enumerate_next (lK6 F.slot_enumerate_next ty F.entry_enumerate_next ?_ (F.args_enumerate_next_1 _))));refine (show wpAny _ _ (field (.ref e) 2 >>= _) _ _ _ from lJa (lXl he rfl (x:= .ref it) rfl (lJa ?_)))
 refine kK9 (A:=A.in1) hh ne s _ _ st (λx _ e=>by rw[lQk hk] at e;cases e) λg x o _ b hx hc=> ?_
 exact lJa (lXk (T:="StopIteration") (b:=true) ⟨o,hx,hc⟩ isSubtype_stop (lJd (hQ g b)))
noncomputable def Itn(K:PySem.W.Frag)(a:Addr):It:=
 ⟨λi H=>∃xs x,SqT K H a xs/\xs[i]? =some x,λi H x H'=>∃p y,H p=none/\x= .ref p/\(∀xs,SqT K H a xs->xs[i]? =some y)/\H'=upd H p (.tup [.int i,y]),λi H=>∃xs,SqT K H a xs/\xs.length<=i⟩
theorem kZ3{h:Heap}{a e it:Addr}{i:Int}{old:Value}{k:Nat}{xs:Array Value}(he:IsEnum h e it i old)(hi:h.IsTupleIter it a k)(ht:h.IsTuple a xs):a≠it/\e∉[it,a]:=by
 obtain⟨o,ho,hc,_⟩:=hi;obtain⟨q,hq,hqc,_⟩:=ht;refine⟨λz=> ?_,λm=> ?_⟩
 .subst z;rw[ho] at hq;cases hq;rw[hc] at hqc;simp at hqc
 .simp only[lJp,lKp,lVd] at m
  rcases m with rfl | rfl
  .rw[he] at ho;cases ho;simp at hc
  .rw[he] at hq;cases hq;simp at hqc
theorem qJm{P:Program}{w:World}{K:PySem.W.Frag}{elts:List Expr}{k:Nat}{pos:Pos}(a e it:Addr)(hei:e≠it):
  Turn P w K (.Tuple elts k pos) (Itn K a) [e,it] e (λi h=>(∃old,IsEnum h e it i old)/\h.IsTupleIter it a i) where
 mem:=lJ2 ..
 obj:=λi h ⟨⟨old,h1⟩,h2⟩ b hb=>by
  simp only[lKp,lJp,lVd] at hb
  rcases hb with rfl | rfl
  .exact⟨_,h1,λv z=>nomatch (show Data.fields _=Data.cell v from z)⟩
  .obtain⟨o,e2,c,d⟩:=h2;exact⟨o,e2,λv z=>by rw[d] at z;cases z⟩
 keep:=λi h h' ⟨⟨old,h1⟩,h2⟩ kp=>⟨⟨old,kp e (by simp) _ h1⟩,h2.at λo q=>kp it (by simp) o q⟩
 item:=by
  rintro X hP hw hK hc i pins s σ H E I hf ⟨⟨old,he⟩,hit⟩ ⟨xs,x,hq,hx⟩;subst hP hw hK;obtain⟨its,rv,p,hz⟩:=I.tuple hq;obtain⟨u,hu,ru⟩:=rv.get hx;have p':s.heap.IsTuple a its.toArray:=p;obtain⟨nei,hef⟩:=kZ3 he hit p';have hlt:i<its.toArray.size:=by simpa using (lJe.mp hu).1
  refine wpAny_pyNext_enum_itemD (qVl (A:=X.A.in1) (I.ok.hd hc) it a nei its.toArray) he ⟨hit,p'⟩ hlt hei hef λx' h1 tk hx' ho hit1 hT hsz hk=> ?_
  obtain rfl:u=x':=by simpa[hu] using hx'
  refine⟨_,rfl,mJg ho λh2 he2 hs2=> ?_⟩
  have hel:e<s.heap.objs.size:=lJl he
  have hp2:∀b o,b∉[e,it]->s.heap.get? b=some o->h2.get? b=some o:=λb o hb q=>by
   simp only[lJp,lKp,lVd,not_or] at hb;exact (hs2.2 b hb.1).trans (hk b o hb.1 hb.2 q)
  have hT2:h2.get? s.heap.objs.size=some {cls:= .type "tuple",data:= .seq #[.int i tk,u]}:=(hs2.2 _ (lQ5 hel)).trans hT;have I2:=kUq (t':=tk+1) (h':=h2) (p:=s.heap.objs.size) (vs:=[.int i,x]) (us:=[.int i tk,u]) I hp2 hf (lJh _) ⟨_,hT2,rfl,_,rfl,rfl⟩ (.cons ⟨_,rfl⟩ (.cons ru .nil)) (by show 2<=sizeLine;decide)
  refine⟨.ref s.heap.objs.size,_,I2,rfl,⟨_,x,I.hok.fresh (lJh _),rfl,λys hy=>by rw[I.tuple_inj hy hq];exact hx,rfl⟩,⟨⟨u,by simpa using he2⟩,hit1.1.at λo q=>(hs2.2 it hei.symm).trans q⟩,λb hb=> ?_⟩
  have hbs:∃o,s.heap.get? b=some o:=by
   have hb':=hb;simp only[lKp,lJp,lVd] at hb'
   rcases hb' with rfl | rfl
   .exact⟨_,he⟩
   .obtain⟨o,q,_⟩:=hit;exact⟨o,q⟩
  obtain⟨o,q⟩:=hbs;rw[jKk (lJt (lJl q))];exact (hf b hb).1
 done:=by
  rintro X hP hw hK hc i pins s σ H E I hf ⟨⟨old,he⟩,hit⟩ ⟨xs,hq,hx⟩;subst hP hw hK;obtain⟨its,rv,p,hz⟩:=I.tuple hq;have p':s.heap.IsTuple a its.toArray:=p;obtain⟨nei,hef⟩:=kZ3 he hit p';have hl:=rv.length;refine jUr (I.ok.hd hc) nei he ⟨hit,p'⟩ (by simp;omega) λh1 hx1=>⟨rfl,qKx (t':=s.toks) I (λb o hb q=>hx1 b o (λz=>hb (by simp[z])) q) hf⟩
 self:=λ_ _ _ _ _ ⟨⟨old,he⟩,_⟩ h=>lYw he h
def iEnT(ta:TA3):TI3:=λτ G R=>ta τ G λvs G1=>∃xs,vs=[.tup xs]/\R (numT xs) (λ_=>True) G1
theorem uQu{X:Cx}{elts:List Expr}{k:Nat}{tpos pos p:Pos}{a:Expr}{ta:TA3}(hg:Gl X "enumerate")(hm:X.mg "enumerate"=none)(hv:bootBuiltins "enumerate"=some (.type "enumerate"))(ha:PA3 X [a] ta)(hs:starEach [a] X.env=[(false,eval a X.env)]:=by rfl):
  PI3 X (.Tuple elts k tpos) (.Call (.Name "enumerate" p) [a] [] pos) (iEnT ta):=by
 intro pins s τ G H R I h;obtain⟨σ0,I0,_,_⟩:=id I;refine Call_ (jUe I0 hg hm hv (lQj (thn (ha pos pins s τ G H _ I h) λus s1 w_=>w_.el λxs' G1 H1 e1 i_ r_ q1=>i_.el λσ I1 hs1 hg1=>r_.el λas ras rvs=> ?_) hs rfl))
 obtain⟨xs,e,q⟩:=q1;subst e;obtain⟨v,rfl,rv⟩:=jUn ras;obtain⟨u,rfl,ru⟩:=rvs.one;obtain⟨pa,vs,rfl,hq,r⟩:=(show ∃p vs,v= .ref p/\H1 p=some (.tup vs)/\Reps X.K H1 xs vs from rv)
 cases ru;obtain⟨its,rvv,pl,hz⟩:=I1.tuple (.of hq);refine qVh (show s1.heap.IsTuple pa its.toArray from pl) λh1 n hn he hit hk=> ?_
 subst hn;have I2:Inv X pins σ H1 {s1 with heap:=h1}:=I1.kept (t':=s1.toks) hk
 refine lYw (Q:=PIE3 X pins τ H (.Tuple elts k tpos) R) he ?_
 have fr:∀b∈[s1.heap.objs.size+1,s1.heap.objs.size],FpOk X pins H1 b:=λb hb=>by
  simp only[lKp,lJp,lVd] at hb;have hle:s1.heap.objs.size<=b:=by omega
  exact I1.fpOk hle (I1.hok.fresh hle)
 refine⟨s1.heap.objs.size+1,[s1.heap.objs.size+1,s1.heap.objs.size],_,_,numT xs,λ_=>True,G1,H1,rfl,e1,⟨σ,I2,hs1,hg1⟩,qJm pa _ _ (Nat.succ_ne_self _),⟨⟨.none,he⟩,hit.1⟩,fr,?_,q⟩
 intro i H2 G2 e2 g2 _;obtain⟨pb,ws,eb,h1',h2⟩:=(show ∃p vs,V.ref pa= .ref p/\H2 p=some (.tup vs)/\Reps X.K H2 xs vs from Rep.mono e2 _ rv)
 cases eb;have hlen:=h2.length;refine⟨λhi=> ?_,λhi=>⟨ws,.of h1',by rw[jJ2] at hi;omega⟩,λhi y H' ⟨pp,z,hn,ey,hy,eH⟩=> ?_⟩
 .rw[jJ2] at hi;exact⟨ws,ws[i]'(by omega),.of h1',by simp[hlen▸hi]⟩
 .subst ey;subst eH;obtain⟨t,ht,rt⟩:=h2.get' (hy ws (.of h1'));exact⟨.upd (.none hn),g2.tupNew hn,_,jUd ht,Rep.tupNew ⟨_,_,rfl,rfl,_,_,rfl,rt,rfl⟩ hn⟩
section
variable {X:Cx}
theorem qV2{K:PySem.W.Frag}{H:Hp}{y:T}{b:V}(ry:Rep K H y b)(fy:jU5 y=true):∀{xs:List T}{vs:List V}{us:List Value},Reps K H xs vs->Vals vs us->xs.all jU5=true->∀(m:Nat)(x:T)(u:Value),xs[m]? =some x->us[m]? =some u->eqU b u=eqT x y
 | [],_,_,_,_,_=>λm x u h=>by simp at h
 | x::xs,_,_,⟨v,ws,e,r1,r2⟩,q,f=>by
  subst e;cases q with
  | cons q1 q2=>
   rw[lQt,lKt] at f;intro m z u hz hu;cases m with
   | zero=>cases hz;cases hu;rw[kZ2 q1 (jVr r1 f.1),kYg r1 ry f.1 fy]
   | succ m=>exact qV2 ry fy r2 q2 f.2 m z u hz hu
noncomputable def kKq:T->List T->Gp->VK3->Prop:=λx as G Q=>∃(p:Addr)(xs:List T)(y z:T)(j:Nat),x= .ref p/\as=[y]/\G p=some (.lst xs)/\jU5 y=true/\xs.all jU5=true/\xs[j]? =some z/\eqT z y=true/\(∀(m:Nat)(t:T),m<j->xs[m]? =some t->eqT t y=false)/\Q (.int j) G
theorem qUn:Mt3 X "list.index" kKq:=by
 rintro pins s τ G H x as v us Q ⟨σ,I,hs,hg⟩ ⟨a,ra,rv⟩ ⟨bs,rbs,rus⟩ ⟨p,xs,y,z,j,ex,ea,hp,fy,fs,hj,hit,hno,q⟩;subst ex;subst ea;cases (show a= .ref p from ra);cases rv
 obtain⟨b,rfl,rb⟩:=jUn rbs;obtain⟨u,rfl,ru⟩:=rus.one;obtain⟨vs,h1,h2⟩:=hg.lst hp;obtain⟨hz,its,n,r,hl,e⟩:=I.lstM h1;have fl:=(jZk rb fy h2 fs).1;have hlen:its.length=xs.length:=by have:=r.length;have:=h2.length;omega
 have hjl:j<xs.length:=(lJe.mp hj).1;have hsl:=jYz;refine lQ1 F.slot_list_index ⟨_,e,rfl⟩ F.entry_list_index (F.args_list_index_2 _ _) (SeqAt.list_indexAt p its.toArray n none #[] u (eqU b) j (by simp;omega) (by omega) ?_ ?_) ⟨e,λw hw=>jXu ru (jVr rb fy) r fl w (by simpa using hw),?_⟩
 .rw[qV2 rb fy h2 r fs j z _ hj (by simp)];exact hit
 .intro m hm hmj;have hx:xs[m]? =some xs[m]:=lJf (by omega)
  rw[qV2 rb fy h2 r fs m xs[m] _ hx (by simp)];exact hno m _ hmj hx
 .exact⟨.int _,G,H,.refl H,⟨σ,I.tok _,hs,hg⟩,⟨.int _,rfl,s.toks,rfl⟩,q⟩
noncomputable def qK2(tk tv:TE3):TE3:=λτ G Q=>∀p,G p=none->tk τ (gup G p (.dck [])) λx G1=>tv τ G1 λy G2=>∃k,jQ6 x=some k/\G2 p=some (.dck [])/\Q (.ref p) (gup G2 p (.dck [(k,y)]))
theorem uQ2{pos:Pos}{k v:Expr}{tk tv:TE3}(hk:PE3 X k tk)(hv:PE3 X v tv):PE3 X (.Dict [some k] [v] pos) (qK2 tk tv):=by
 rintro pins s τ G H Q ⟨σ,I,hs,hg⟩ h;have hn:=I.hok.fresh (lJh s.heap.objs.size);have I1:=I.laid (a:=s.heap.objs.size) (o:= .dK []) (h':=s.heap.push {cls:= .type "dict",data:= .dict #[]}) (t':=s.toks) (λ_ _ q=>lJm _ q) (lJh _) (qJa s.heap I.big)
 have I3:Inv3 X pins τ (gup G s.heap.objs.size (.dck [])) (upd H s.heap.objs.size (.dK [])) {s with heap:=s.heap.push {cls:= .type "dict",data:= .dict #[]},toks:=s.toks}:=
  ⟨σ,I1,hs.mono (.upd (.none hn)),hg.upd (.none hn) (go:= .dck []) ⟨[],jKv,.nil⟩⟩
 refine wpAny_Dict_walk (knd:=jKy X.prog X.w) rfl rfl (by simp) (by simp) (pairTrees_cons_walk (thn (hk pins _ τ _ _ _ I3 (h _ (hg.fresh hn))) λu s1 w_=>w_.el λx G1 H1 e1 J1 ru q1=>thn (hv pins s1 τ G1 H1 _ J1 q1) λu2 s2 w_=>w_.el λy G2 H2 e2 i_ ru2 ⟨key,hkey,hd,q2⟩=>i_.el λσ2 J2 hs2 hg2=>pairTrees_nil_walk ?_))
 obtain⟨ws,hH2,pk⟩:=(show ∃ws,H2 s.heap.objs.size=some (.dK ws)/\PKV X.K H2 [] ws from hg2 _ _ hd)
 cases pk;obtain⟨a,ra,rva⟩:=ru.mono e2;obtain⟨c,rc,rvc⟩:=ru2;obtain rfl:=jXy hkey ra;obtain⟨rs,cr,rk⟩:=kK6 (P:=X.prog) (w:=X.w) (kvs:=[(key,c)]) (ws:=[(u,u2)]) (.cons ⟨rva,rvc⟩ .nil);obtain⟨z,hdd,vs0,r0,dd⟩:=uXs J2.hok hH2;cases r0;refine⟨rs,cr,dd,λh' dd' hsb=> ?_⟩
 have he:∃q,h'.get? s.heap.objs.size=some q:=let ⟨q,_,_,hq,_⟩:=dd';⟨q,hq⟩
 have JJ:=kUj (t':=s2.toks+[(u,u2)].length) J2 (by rw[hH2];exact True.intro) hsb he (uKc (kvs:=[(key,c)]) (by rw[lKg];exact Nat.succ_le_of_lt (lVi _)) hdd (rk.merge .nil) dd')
 have ext:Ext H2 (upd H2 s.heap.objs.size (.dK [(key,c)])):= .upd (.dK hH2);exact⟨.ref s.heap.objs.size,_,_,(((Ext.upd (.none hn)).trans e1).trans e2).trans ext,⟨σ2,JJ,hs2.mono ext,hg2.upd (.dK hH2) (go:= .dck [(key,y)]) ⟨_,jKv,PKV.put (kvs:=[]) .nil key (Rep.mono ext _ rc)⟩⟩,⟨.ref _,rfl,rfl⟩,q2⟩
end
section
variable {X:Cx}
end
end L3
namespace L3
open PySem PySem.Spec PyProof.Rows L2 MeetsSeq
section
variable {X:Cx}
end
end L3
namespace L3
open PySem PySem.Spec PyProof.Rows L2
section
variable {X:Cx}
end
theorem qKb:typeLookup (.type "list_reverseiterator") "__len__"=pure none:=by rw[lYy,lYz];kernel_rfl
theorem kX5:typeLookup (.type "list_reverseiterator") "__length_hint__"=pure (some (.builtin "list_reverseiterator.__length_hint__")):=by rw[lYy,lYz];kernel_rfl
theorem qZb{P:Program}{w:World}{A:Around}{E:Value->Shared->Prop}{s:Shared}{it:Addr}{Q:Bool->Shared->Prop}(ty:s.TypeIs (.ref it) "list_reverseiterator")(h:Q false s):wpAny (model P w) A (Builtin.List.listLengthHint (.ref it)) Q E s:=by
 (unfold Builtin.List.listLengthHint)
 refine lJa (lXj ty qKb ?_);refine (show wpAny _ A (specialOf (Value.ref it) (Str.ofString "__length_hint__") >>= _) _ _ _ from lJa (lXj ty kX5 ?_))
 generalize hn:("list_reverseiterator.__length_hint__":String)=nm
 wp_delta
 rw[show splitId nm=some ("list_reverseiterator","__length_hint__") by subst hn;decide +kernel];subst hn
 refine lJa (lXk (T:="list_reverseiterator") (b:=true) ty (by rw[lY0];kernel_rfl) (lV2 (λz=>absurd z (by decide)) λ_=> ?_))
 exact lV2 (λ_=>lV2 (λz=>absurd z (by decide +kernel)) λ_=>lJd h) λz=>absurd (by decide +kernel) z
theorem qKk{P:Program}{w:World}{A:Around}{s:Shared}{R:Result->Shared->Prop}{it l S:Addr}{xs:Array Value}(hh:A.handled=none)(hi:s.heap.IsRevIter it l ((xs.size:Int)-1))(hl:s.heap.IsList l xs)(hz:xs.size<=sizeLine)(res:Value)(c0:Nat)
  (hS:s.heap.get? S=some {cls:= .type "list",data:= .seq #[] c0}) (hSl:S≠l)
  (hR:∀(g:Heap)(tk:Nat)(acc:Array Value)(c':Nat),(∀d o,d≠S->d≠it->s.heap.get? d=some o->g.get? d=some o)->g.get? S=some {cls:= .type "list",dict:=none,data:= .seq acc c',slots:= #[]}->ItemsOf (λi v=>xs[xs.size-1-i]? =some v) acc xs.size->R (.ok (.ret res)) {s with heap:=g,toks:=tk}):
  wpAny (model P w) A.in1 (Builtin.List.listExtendWith (.ref S) (.ref it) res) (λfin z=>match fin with | .done f=>R (.ok f) z | .again c'=>c'.quiet=true/\codeAny (model P w) A c' R z) (λe z=>R (.error e) z) s:=by
 have hSi:S≠it:=by
  rintro rfl;obtain⟨o,ho,hc,_⟩:=hi;rw[hS] at ho;cases ho;exact absurd hc (show ¬ Value.type "list"=Value.type "list_reverseiterator" by decide)
 have ne:l≠it:=by
  rintro rfl;obtain⟨o,ho,hc,_⟩:=hi;obtain⟨o',ho',hc',_⟩:=hl;rw[ho] at ho';cases ho';rw[hc] at hc';exact absurd hc' (by decide)
 have Wk:=(Walks.listRev (prog:=P) (w:=w) (A:=A.in1) hh it l ne xs).toS;have hSf:S∉[it,l]:=by simp[hSi,hSl]
 (unfold Builtin.List.listExtendWith)
 refine lJa (lVp hi.typeIs ?_);have z1:Builtin.List.listSameRef (.ref S) (.ref it)=false:=by simp[Builtin.List.listSameRef,hSi]
 have z2:(Value.type "list_reverseiterator" == Value.type "list")=false:=by decide
 have z3:(Value.type "list_reverseiterator" == Value.type "tuple")=false:=by decide
 simp only[z1,z2,z3,Bool.or_false,lKi,lJ6];refine lJa (wpAny_pyIter_revIter hi (lJa (lKw (qZb hi.typeIs ?_))));refine lV2 (λz=>absurd z (by decide +kernel)) λ_=>lJd ⟨lVe F.plain_extend_loop _,?_⟩
 refine codeAny_extend_loopS Wk hz S hSf res xs.size 0 _ #[] c0 rfl (lJx _) ⟨lJx _,by simpa using hi,hl⟩ hS (ItemsOf.nil _) λz acc c' hm hS' hacc=> ?_
 rw[Moved.eq_with hm];exact hR z.heap z.toks acc c' (λb o h1 h2 e=>hm.heap b o (by simp[h1,h2]) e) hS' hacc
theorem kYq{P:Program}{w:World}{A:Around}{E:Value->Shared->Prop}{s:Shared}{it l:Addr}{xs:Array Value}{Q:List Value->Shared->Prop}(hh:A.handled=none)(hi:s.heap.IsRevIter it l ((xs.size:Int)-1))(hl:s.heap.IsList l xs)(hz:xs.size<=sizeLine)
  (hQ:∀(g:Heap)(tk:Nat)(acc:Array Value),(∀d o,d≠it->s.heap.get? d=some o->g.get? d=some o)->s.heap.objs.size<g.objs.size->ItemsOf (λi v=>xs[xs.size-1-i]? =some v) acc xs.size->Q acc.toList {s with heap:=g,toks:=tk}):wpAny (model P w) A (collect (.ref it)) Q E s:=by
 have key:∀R:Result->Shared->Prop,(∀(g:Heap)(tk:Nat)(acc:Array Value)(c':Nat),(∀d o,d≠it->s.heap.get? d=some o->g.get? d=some o)->g.get? s.heap.objs.size=some {cls:= .type "list",dict:=none,data:= .seq acc c',slots:= #[]}->ItemsOf (λi v=>xs[xs.size-1-i]? =some v) acc xs.size->R (.ok (.ret (.ref s.heap.objs.size))) {s with heap:=g,toks:=tk})->
   codeAny (model P w) A (.builtin "proto.collect" ⟨[.ref it],[]⟩) R s:=by
  intro R hR;refine lQq lZd ?_;rw[lQ0 lZe _];refine (show wpAny _ A.in1 (newList [] >>= λl=>again (.builtin "list.__iadd__" ⟨[l,.ref it],[]⟩)) _ _ s from lJa (lKl (lJd ⟨lVe lV9 _,lQq lZf ?_⟩)))
  rw[lQ0 lV9 _];have hS:(s.heap.push {cls:= .type "list",data:= .seq ([]:List Value).toArray}).get? s.heap.objs.size=some {cls:= .type "list",data:= .seq ([]:List Value).toArray}:=lJz _ rfl;obtain⟨ol,hol,hcl⟩:=id hl;exact qKk (A:=A) (R:=R) hh (hi.at λo e=>lJm _ e) ⟨ol,lJm _ hol,hcl⟩ hz (.ref s.heap.objs.size) _ hS (lQ5 (lJl hol)) λg tk acc c' kp hS' itm=>hR g tk acc c' (λd o h1 e=>kp d o (lJt (lJl e)) h1 (lJm _ e)) hS' itm
 unfold collect;exact lJa (lY1 (key _ λg tk acc c' kp hS' itm=>(show wpAny _ A (load s.heap.objs.size >>= _) _ _ _ from lJa (wpAny_load hS' (lJd (hQ g tk acc kp (lJl hS') itm))))))
theorem qK0{P:Program}{w:World}{A:Around}{E:Value->Shared->Prop}{s:Shared}{it l:Addr}{xs:Array Value}{Q:Value->Shared->Prop}(hh:A.handled=none)(hi:s.heap.IsRevIter it l ((xs.size:Int)-1))(hl:s.heap.IsList l xs)(hz:xs.size<=sizeLine)
  (hQ:∀(g:Heap)(tk:Nat)(acc:Array Value),(∀d o,d≠it->s.heap.get? d=some o->g.get? d=some o)->s.heap.objs.size<g.objs.size->ItemsOf (λi v=>xs[xs.size-1-i]? =some v) acc xs.size->Q (.ref g.objs.size) {s with heap:=g.push {cls:= .type "tuple",data:= .seq acc},toks:=tk}):
  wpAny (model P w) A (call (.type "tuple") [.ref it]) Q E s:=by
 refine callType_codes (Q₁:=λobj z=>z.TypeIs obj "tuple"/\Q obj z) F.called_tuple (F.typeCall_tuple_1 _) F.entry_object_init (lZx ?_) λobj z hz=>⟨hz.1,F.args_object_init_2 obj _,object_init_meets F.called_tuple.init.lookup F.called_tuple.made (by decide) P w A.in1 _ z ⟨hz.1,rfl,hz.2⟩⟩
 refine (show wpAny _ A.in1.in1 (do checkBuiltinCall "tuple.__new__" ⟨[.type "tuple",.ref it],[]⟩;again (.builtin "tuple.__new__" ⟨[.type "tuple",.ref it],[]⟩)) _ _ s from lJa (lX8 (F.newCall_tuple_1 _) (lJd ⟨lVe F.plain_tuple_new _,lQq F.entry_tuple_new ?_⟩)))
 rw[lQ0 F.plain_tuple_new _];have h1:=sub_tuple_self;have h2:=init_tuple_lookup;have h3:=madeHere_tuple;have ty:=hi.typeIs
 wp_walk using wpAny_typeOf ty,kYq (A:=A.in1.in1) hh hi hl hz
 intro g tk acc kp big itm;refine (show wpAny _ _ (Builtin.Tuple.tupleExact acc.toList.toArray >>= λx=>ret x) _ _ _ from ?_)
 unfold Builtin.Tuple.tupleExact;refine lJa (lKl (lJd ?_) (by show acc.toList.toArray.size<=sizeLine;simp only[Array.toArray_toList];rw[itm.1];exact hz))
 rw[show acc.toList.toArray=acc by simp]
 exact⟨⟨_,lJz _ rfl,rfl⟩,hQ g tk acc kp big itm⟩
section
variable {X:Cx}
def uKk(ta:TA3):TE3:=λτ G Q=>ta τ G λvs G1=>∃x xs,vs=[x]/\jQ7 G1 x=some xs/\Q (.tup xs.reverse) G1
theorem uXo{pos pos' p p':Pos}{a:Expr}{ta:TA3}(hc:X.calm=true)(hl:Gl X "tuple")(hlm:X.mg "tuple"=none)(hg:Gl X "reversed")(hm:X.mg "reversed"=none)(hv:bootBuiltins "reversed"=some (.type "reversed"))(ha:PA3 X [a] ta)(hs:starEach [a] X.env=[(false,eval a X.env)]:=by rfl)
  (hs':starEach [Expr.Call (.Name "reversed" p) [a] [] pos] X.env=[(false,eval (.Call (.Name "reversed" p) [a] [] pos) X.env)]:=by rfl):
  PE3 X (.Call (.Name "tuple" p') [.Call (.Name "reversed" p) [a] [] pos] [] pos') (uKk ta):=by
 intro pins s τ G H Q I h;obtain⟨σ,I0,_,_⟩:=id I;refine Call_ (jUe I0 hl hlm rfl (lQj ?_ hs' rfl));rw[hs'];refine Calls.spliced_cons (Call_ (jUe I0 hg hm hv (lQj (thn (ha pos pins s τ G H _ I h) λus s1 w_=>w_.el λys G1 H1 e1 i_ r_ q1=>i_.el λσ1 I1 hs1 hg1=>r_.el λas ras rvs=> ?_) hs rfl)))
 obtain⟨x,xs,e,hx,q⟩:=q1;subst e;obtain⟨v,rfl,rv⟩:=jUn ras;obtain⟨u,rfl,ru⟩:=rvs.one;obtain⟨pa,vs,rfl,hq,r⟩:=jXw hg1 rv hx;cases ru;obtain⟨its,rvv,pl,hz⟩:=I1.list hq;have hlen:its.length=xs.length:=by have:=rvv.length;have:=r.length;omega
 refine call_reversed_list pl.isList (Calls.spliced_nil ?_);obtain⟨ol,hol,hcl⟩:=id pl.isList;refine qK0 (l:=pa) (xs:=its.toArray) (I1.ok.hd hc) ⟨_,lJz _ rfl,rfl,rfl⟩ ⟨ol,lJm _ hol,hcl⟩ (by have:=rvv.length;simp;omega) λg tk acc kp big itm=> ?_
 have hacc:acc.toList=its.reverse:=by
  apply lKh;intro i
  by_cases hi:i<its.length
  .have hia:i<acc.size:=by rw[itm.1];simpa using hi
   have e1:acc.toList[i]? =some acc[i]:=by simp[hia]
   have e2:=itm.2 i acc[i] (by simp[hia])
   rw[e1,List.getElem?_reverse hi]
   simpa using e2.symm
  .rw[lJy (by have:=itm.1;simp at this ⊢; omega),lJy (by simp;omega)]
 have hge:s1.heap.objs.size<=g.objs.size:=by rw[lXu] at big;omega
 have fr:=I1.hok.fresh hge;have hvl:=rvv.length;have I3:=I1.laid (a:=g.objs.size) (o:= .tup vs.reverse) (h':=g.push {cls:= .type "tuple",data:= .seq acc}) (t':=tk) (λb o e=>lJm _ (kp b o (lJt (lJl e)) (lJm _ e))) hge ⟨by simp;omega,acc.toList,by rw[hacc];exact rvv.reverse,by simpa using TupD.new g acc⟩
 have ext:Ext H1 (upd H1 g.objs.size (.tup vs.reverse)):= .upd (.none fr);exact⟨.tup xs.reverse,G1,_,e1.trans ext,⟨σ1,I3,hs1.mono ext,hg1.tupNew fr⟩,⟨.ref g.objs.size,Rep.tupNew r.reverse fr,rfl⟩,q⟩
end
section
variable {P:Program}{w:World}{A:Around}{E:Value->Shared->Prop}{s:Shared}{d:Addr}
theorem jY0{o:Obj}{es:Array DictEntry}{ep:Nat}{Q:Value->Shared->Prop}(hd:(d == sysModules)=false)(ho:s.heap.get? d=some o)(hc:o.ExactDict)(hx:o.data= .dict es ep)(hz:es.size<=sizeLine)
  (h:Q (.int es.size (s.toks+1)) {s with toks:=s.toks+1+1}):wpAny (model P w) A (call (.builtin "len") [.ref d]) Q E s:=by
 have hsl:=lKg;have ty:s.TypeIs (.ref d) "dict":=⟨o,ho,hc.1⟩;refine Calls.call_function_entry kind_len plain_len entry_len (args_len1 _) ?_;unfold Builtin.«len»; refine lJa (m:=oneArg "len" _) (lJd ?_)
 have M:MeetsIn P w (Builtin.«dict.__len__» ⟨[.ref d],[]⟩) (λ_ R z=>(∃o es ep,z.heap.get? d=some o/\o.data= .dict es ep/\R (.ok (.ret (.int es.size z.toks))) {z with toks:=z.toks+1})):=
  .of_wp λA R z ⟨o,es,ep,ho,hx,h⟩=>by
   refine (show wpAny _ _ (dictSize d >>= _) _ _ z from ?_)
   unfold dictSize;refine lJa (lJa (lY2 ho hx (lJd ?_)));refine (show wpAny _ _ (Builtin.Dict.pendingCount d >>= _) _ _ z from lJa (wpAny_pendingCount_other hd (wpAny_ret_mkInt ?_)))
   rw[Nat.add_zero];exact h
 refine lJa (m:=callSpecial? (.ref d) (Str.ofString "__len__")) (lVc (name:=Str.ofString "__len__") ty F.slot_dict_len (call_meetsIn F.slot_dict_len ty F.entry_dict_len (F.args_dict_len_1 _) M ⟨o,es,ep,ho,hx,?_⟩));refine (show wpAny _ _ _ _ _ {s with toks:=s.toks+1} from lJa (lKw (lJd (lJa (wpAny_letGo ?_)))))
 refine (show wpAny _ _ (if ((es.size:Nat):Int)<0 then _ else _) _ _ _ from ?_);rw[lJb (by omega)]
 refine (show wpAny _ _ (if ((es.size:Nat):Int)>=2^63 then _ else _) _ _ _ from ?_);rw[lJb (by omega)]
 exact (lJa (wpAny_mkInt (lJd ⟨_,rfl,h⟩)))
end
section
variable {X:Cx}
noncomputable def lenG(G:Gp):T->Option Nat
 | .ref p=>match G p with
  | some (.lst xs)=>some xs.length
  | some (.dct kvs)=>some kvs.length
  | some (.dck kvs)=>some kvs.length
  | some (.fdc _)=>none
  | some (.ins _ _)=>none
  | none=>none
 | .tup xs=>some xs.length
 | .scr xs=>some xs.length
 | _=>none
def qX5:List T->Gp->VK3->Prop:=λxs G Q=>∃x n,xs=[x]/\lenG G x=some n/\Q (.int (n:Nat)) G
theorem uXw:Call3 X (.builtin "len") qX5:=by
 rintro pins s τ G H xs us Q I rs ⟨x,n,ex,hx,q⟩
 by_cases hd:∃p,x= .ref p/\((∃kvs,G p=some (.dct kvs))\/∃kvs,G p=some (.dck kvs))
 .subst ex;obtain⟨p,rfl,hk⟩:=hd;obtain⟨σ,I,hs,hg⟩:=I;obtain⟨as,ras,rvs⟩:=rs;obtain⟨v,rfl,rv⟩:=jUn ras;obtain⟨u,rfl,ru⟩:=rvs.one;cases (show v= .ref p from rv);cases ru
  rcases hk with ⟨kvs,hG⟩ | ⟨kvs,hG⟩
  .simp only[lenG,hG] at hx;cases hx;obtain⟨ws,h1,h2⟩:=hg p _ hG;obtain⟨z,y,xs,r,o,es,ep,e1,e2,e3,e4,e5⟩:=(show ObjOk X.prog X.w H s.heap p (.dT ws) from I.hok p _ h1)
   have l1:es.size=kvs.length:=by
    have a1:=lJs List.length e4;have a2:=lVf r;have a3:=h2.length;simp at a1;omega
   refine jY0 y e1 e2 e3 (by have:=h2.length;omega) ?_
   rw[l1];exact⟨.int (kvs.length:Nat),G,H,.refl H,⟨σ,I.tok _,hs,hg⟩,⟨.int _,rfl,_,rfl⟩,q⟩
  .simp only[lenG,hG] at hx;cases hx;obtain⟨ws,h1,h2⟩:=hg p _ hG;obtain⟨z,y,vs,rel,o,es,ep,e1,e2,e3,e4,e5,e6⟩:=(show ObjOk X.prog X.w H s.heap p (.dK ws) from I.hok p _ h1)
   have l1:es.size=kvs.length:=by
    have a1:=e5.length;have a2:=rel.length;have a3:=h2.length;simp at a1;omega
   refine jY0 y e1 e2 e3 (by have:=h2.length;omega) ?_
   rw[l1];exact⟨.int (kvs.length:Nat),G,H,.refl H,⟨σ,I.tok _,hs,hg⟩,⟨.int _,rfl,_,rfl⟩,q⟩
 .refine uXx pins s τ G H xs us Q I rs ?_;cases x with
  | ref p=>
   cases hG:G p with
   | none=>simp only[lenG,hG] at hx;cases hx
   | some g=>
    cases g with
    | lst ys=>simp only[lenG,hG] at hx;cases hx;exact⟨_,ys,ex,by simp only[seqT,hG,asL],q⟩
    | dct kvs=>exact absurd ⟨p,rfl,.inl ⟨kvs,hG⟩⟩ hd
    | fdc kvs=>simp only[lenG,hG] at hx;cases hx
    | ins _ _=>simp only[lenG,hG] at hx;cases hx
    | dck kvs=>exact absurd ⟨p,rfl,.inr ⟨kvs,hG⟩⟩ hd
  | tup ys=>cases hx;exact⟨_,ys,ex,rfl,q⟩
  | scr ys=>cases hx;exact⟨_,ys,ex,rfl,q⟩
  | non=>cases hx
  | bl _=>cases hx
  | int _=>cases hx
  | str _=>cases hx
  | ty _=>cases hx
end
section
variable {X:Cx}
theorem jUj:∀{is:List Int}{us:List Value},Vals (is.map V.int) us->∃ps:List (Int×Tok),us=ps.map (λp=> .int p.1 p.2)/\ps.map (·.1)=is
 | [],_,.nil=>⟨[],rfl,rfl⟩
 | i::is,_,.cons ⟨t,e⟩ r=>by
  obtain⟨ps,e1,e2⟩:=jUj r;subst e1;subst e2;subst e;exact⟨(i,t)::ps,rfl,rfl⟩
end
section
variable {X:Cx}
end
section
variable {X:Cx}
noncomputable def kV9(tk tv:TE3):TE3:=λτ G Q=>∀p,G p=none->tk τ (gup G p (.dct [])) λx G1=>tv τ G1 λy G2=>∃ys ks,x= .tup ys/\jKx ys=some ks/\G2 p=some (.dct [])/\Q (.ref p) (gup G2 p (.dct [(ks,y)]))
theorem qZr(hu:X.A.units+20<cLine){pos:Pos}{k v:Expr}{tk tv:TE3}(hk:PE3 X k tk)(hv:PE3 X v tv):PE3 X (.Dict [some k] [v] pos) (kV9 tk tv):=by
 rintro pins s τ G H Q ⟨σ,I,hs,hg⟩ h;have hn:=I.hok.fresh (lJh s.heap.objs.size);have I1:=I.laid (a:=s.heap.objs.size) (o:= .dT []) (h':=s.heap.push {cls:= .type "dict",data:= .dict #[]}) (t':=s.toks) (λ_ _ q=>lJm _ q) (lJh _) (kZ6 s.heap I.big)
 have I3:Inv3 X pins τ (gup G s.heap.objs.size (.dct [])) (upd H s.heap.objs.size (.dT [])) {s with heap:=s.heap.push {cls:= .type "dict",data:= .dict #[]},toks:=s.toks}:=
  ⟨σ,I1,hs.mono (.upd (.none hn)),hg.upd (.none hn) (go:= .dct []) ⟨[],jKv,.nil⟩⟩
 refine wpAny_Dict_any rfl rfl (by simp) (by simp) (pairTrees_cons_walk (thn (hk pins _ τ _ _ _ I3 (h _ (hg.fresh hn))) λu s1 w_=>w_.el λx G1 H1 e1 J1 ru q1=>thn (hv pins s1 τ G1 H1 _ J1 q1) λu2 s2 w_=>w_.el λy G2 H2 e2 i_ ru2 ⟨ys,ks,ex,hkey,hd,q2⟩=>i_.el λσ2 J2 hs2 hg2=>pairTrees_nil_walk ?_))
 subst ex;obtain⟨ws,hH2,pk⟩:=(show ∃ws,H2 s.heap.objs.size=some (.dT ws)/\PKV X.K H2 [] ws from hg2 _ _ hd)
 cases pk;obtain⟨a,ra,rva⟩:=ru.mono e2;obtain⟨c,rc,rvc⟩:=ru2;obtain⟨q',vs,e,h3,h4⟩:=(show ∃q vs,a= .ref q/\H2 q=some (.tup vs)/\Reps X.K H2 ys vs from ra)
 subst e;cases (show u=Value.ref q' from rva)
 have eb:=jQj hkey h3 h4;obtain⟨z,hdd,xs,rel,dd⟩:=uXr J2.hok hH2;have hl:xs.length<=sizeLine:=by rw[<-lVf rel];exact z
 unfold storeAll;rw[List.forIn_cons];refine lJa (lJa (wpAny_dictSet_heap (hsz:=hl) (knd:=jJi X.prog X.w) (show X.A.units+6<cLine by omega) (jXx J2.hok eb) dd λh' dd' hsb=>lJd ?_))
 dsimp only
 rw[List.forIn_nil];obtain⟨qo,es,ep,hq,k2,k3,k4,_,k5⟩:=dd';have JJ:=kUj (t':=s2.toks+(jJi X.prog X.w).draws ks) J2 (by rw[hH2];exact True.intro) hsb ⟨qo,hq⟩ (ob:= .dT (putK [] ks c)) ⟨by rw[lKg];exact Nat.succ_le_of_lt (lVi _),hdd,_,(rel.put ks eb rvc).keeps (λb' ys' ec=>by rw[jKk (uV1 ec hH2 (λz=>nomatch z))];exact ec),qo,es,ep,hq,k2,k3,k4,k5⟩
 have ext:Ext H2 (upd H2 s.heap.objs.size (.dT (putK [] ks c))):= .upd (.dT hH2);exact lJd ⟨.ref s.heap.objs.size,_,_,(((Ext.upd (.none hn)).trans e1).trans e2).trans ext,⟨σ2,JJ,hs2.mono ext,hg2.upd (.dT hH2) (go:= .dct [(ks,y)]) ⟨_,jKv,PKV.put (kvs:=[]) .nil ks (Rep.mono ext _ rc)⟩⟩,⟨.ref _,rfl,rfl⟩,q2⟩
end
section
variable {X:Cx}{pos:Pos}
end
theorem szle{n:Nat}(h:Nat.ble n 16777216=true):n<=sizeLine:=by rw[lZg];exact Nat.le_of_ble_eq_true h
end L3
namespace L3
theorem xe1{A0:Type}{σ:Type}{f:A0->σ}{p:A0->Prop}{τ:σ}{C:σ->Prop}(h:∃a0,τ=f a0/\p a0)(k:∀a0,p a0->C (f a0)):C τ:=by
 obtain⟨a0,e,h⟩:=h;rw[e];exact k _ h
theorem xi1{A0:Type}{σ:Type}{f:A0->σ}{p:A0->Prop}{τ:σ}(a0:A0)(e:τ=f a0)(h:p a0):∃a0,τ=f a0/\p a0:=⟨a0,e,h⟩
theorem xe2{A0 A1:Type}{σ:Type}{f:A0->A1->σ}{p:A0->A1->Prop}{τ:σ}{C:σ->Prop}(h:∃a0 a1,τ=f a0 a1/\p a0 a1)(k:∀a0 a1,p a0 a1->C (f a0 a1)):C τ:=by
 obtain⟨a0,a1,e,h⟩:=h;rw[e];exact k _ _ h
theorem xi2{A0 A1:Type}{σ:Type}{f:A0->A1->σ}{p:A0->A1->Prop}{τ:σ}(a0:A0)(a1:A1)(e:τ=f a0 a1)(h:p a0 a1):∃a0 a1,τ=f a0 a1/\p a0 a1:=⟨a0,a1,e,h⟩
theorem xe3{A0 A1 A2:Type}{σ:Type}{f:A0->A1->A2->σ}{p:A0->A1->A2->Prop}{τ:σ}{C:σ->Prop}(h:∃a0 a1 a2,τ=f a0 a1 a2/\p a0 a1 a2)(k:∀a0 a1 a2,p a0 a1 a2->C (f a0 a1 a2)):C τ:=by
 obtain⟨a0,a1,a2,e,h⟩:=h;rw[e];exact k _ _ _ h
theorem xi3{A0 A1 A2:Type}{σ:Type}{f:A0->A1->A2->σ}{p:A0->A1->A2->Prop}{τ:σ}(a0:A0)(a1:A1)(a2:A2)(e:τ=f a0 a1 a2)(h:p a0 a1 a2):∃a0 a1 a2,τ=f a0 a1 a2/\p a0 a1 a2:=⟨a0,a1,a2,e,h⟩
theorem xe4{A0 A1 A2 A3:Type}{σ:Type}{f:A0->A1->A2->A3->σ}{p:A0->A1->A2->A3->Prop}{τ:σ}{C:σ->Prop}(h:∃a0 a1 a2 a3,τ=f a0 a1 a2 a3/\p a0 a1 a2 a3)(k:∀a0 a1 a2 a3,p a0 a1 a2 a3->C (f a0 a1 a2 a3)):C τ:=by
 obtain⟨a0,a1,a2,a3,e,h⟩:=h;rw[e];exact k _ _ _ _ h
theorem xi4{A0 A1 A2 A3:Type}{σ:Type}{f:A0->A1->A2->A3->σ}{p:A0->A1->A2->A3->Prop}{τ:σ}(a0:A0)(a1:A1)(a2:A2)(a3:A3)(e:τ=f a0 a1 a2 a3)(h:p a0 a1 a2 a3):∃a0 a1 a2 a3,τ=f a0 a1 a2 a3/\p a0 a1 a2 a3:=⟨a0,a1,a2,a3,e,h⟩
theorem xe5{A0 A1 A2 A3 A4:Type}{σ:Type}{f:A0->A1->A2->A3->A4->σ}{p:A0->A1->A2->A3->A4->Prop}{τ:σ}{C:σ->Prop}(h:∃a0 a1 a2 a3 a4,τ=f a0 a1 a2 a3 a4/\p a0 a1 a2 a3 a4)(k:∀a0 a1 a2 a3 a4,p a0 a1 a2 a3 a4->C (f a0 a1 a2 a3 a4)):C τ:=by
 obtain⟨a0,a1,a2,a3,a4,e,h⟩:=h;rw[e];exact k _ _ _ _ _ h
theorem xi5{A0 A1 A2 A3 A4:Type}{σ:Type}{f:A0->A1->A2->A3->A4->σ}{p:A0->A1->A2->A3->A4->Prop}{τ:σ}(a0:A0)(a1:A1)(a2:A2)(a3:A3)(a4:A4)(e:τ=f a0 a1 a2 a3 a4)(h:p a0 a1 a2 a3 a4):∃a0 a1 a2 a3 a4,τ=f a0 a1 a2 a3 a4/\p a0 a1 a2 a3 a4:=⟨a0,a1,a2,a3,a4,e,h⟩
theorem xe6{A0 A1 A2 A3 A4 A5:Type}{σ:Type}{f:A0->A1->A2->A3->A4->A5->σ}{p:A0->A1->A2->A3->A4->A5->Prop}{τ:σ}{C:σ->Prop}(h:∃a0 a1 a2 a3 a4 a5,τ=f a0 a1 a2 a3 a4 a5/\p a0 a1 a2 a3 a4 a5)(k:∀a0 a1 a2 a3 a4 a5,p a0 a1 a2 a3 a4 a5->C (f a0 a1 a2 a3 a4 a5)):C τ:=by
 obtain⟨a0,a1,a2,a3,a4,a5,e,h⟩:=h;rw[e];exact k _ _ _ _ _ _ h
theorem xi6{A0 A1 A2 A3 A4 A5:Type}{σ:Type}{f:A0->A1->A2->A3->A4->A5->σ}{p:A0->A1->A2->A3->A4->A5->Prop}{τ:σ}(a0:A0)(a1:A1)(a2:A2)(a3:A3)(a4:A4)(a5:A5)(e:τ=f a0 a1 a2 a3 a4 a5)(h:p a0 a1 a2 a3 a4 a5):∃a0 a1 a2 a3 a4 a5,τ=f a0 a1 a2 a3 a4 a5/\p a0 a1 a2 a3 a4 a5:=⟨a0,a1,a2,a3,a4,a5,e,h⟩
theorem xe7{A0 A1 A2 A3 A4 A5 A6:Type}{σ:Type}{f:A0->A1->A2->A3->A4->A5->A6->σ}{p:A0->A1->A2->A3->A4->A5->A6->Prop}{τ:σ}{C:σ->Prop}(h:∃a0 a1 a2 a3 a4 a5 a6,τ=f a0 a1 a2 a3 a4 a5 a6/\p a0 a1 a2 a3 a4 a5 a6)(k:∀a0 a1 a2 a3 a4 a5 a6,p a0 a1 a2 a3 a4 a5 a6->C (f a0 a1 a2 a3 a4 a5 a6)):C τ:=by
 obtain⟨a0,a1,a2,a3,a4,a5,a6,e,h⟩:=h;rw[e];exact k _ _ _ _ _ _ _ h
theorem xi7{A0 A1 A2 A3 A4 A5 A6:Type}{σ:Type}{f:A0->A1->A2->A3->A4->A5->A6->σ}{p:A0->A1->A2->A3->A4->A5->A6->Prop}{τ:σ}(a0:A0)(a1:A1)(a2:A2)(a3:A3)(a4:A4)(a5:A5)(a6:A6)(e:τ=f a0 a1 a2 a3 a4 a5 a6)(h:p a0 a1 a2 a3 a4 a5 a6):∃a0 a1 a2 a3 a4 a5 a6,τ=f a0 a1 a2 a3 a4 a5 a6/\p a0 a1 a2 a3 a4 a5 a6:=⟨a0,a1,a2,a3,a4,a5,a6,e,h⟩
theorem xe8{A0 A1 A2 A3 A4 A5 A6 A7:Type}{σ:Type}{f:A0->A1->A2->A3->A4->A5->A6->A7->σ}{p:A0->A1->A2->A3->A4->A5->A6->A7->Prop}{τ:σ}{C:σ->Prop}(h:∃a0 a1 a2 a3 a4 a5 a6 a7,τ=f a0 a1 a2 a3 a4 a5 a6 a7/\p a0 a1 a2 a3 a4 a5 a6 a7)(k:∀a0 a1 a2 a3 a4 a5 a6 a7,p a0 a1 a2 a3 a4 a5 a6 a7->C (f a0 a1 a2 a3 a4 a5 a6 a7)):C τ:=by
 obtain⟨a0,a1,a2,a3,a4,a5,a6,a7,e,h⟩:=h;rw[e];exact k _ _ _ _ _ _ _ _ h
theorem xe9{A0 A1 A2 A3 A4 A5 A6 A7 A8:Type}{σ:Type}{f:A0->A1->A2->A3->A4->A5->A6->A7->A8->σ}{p:A0->A1->A2->A3->A4->A5->A6->A7->A8->Prop}{τ:σ}{C:σ->Prop}(h:∃a0 a1 a2 a3 a4 a5 a6 a7 a8,τ=f a0 a1 a2 a3 a4 a5 a6 a7 a8/\p a0 a1 a2 a3 a4 a5 a6 a7 a8)(k:∀a0 a1 a2 a3 a4 a5 a6 a7 a8,p a0 a1 a2 a3 a4 a5 a6 a7 a8->C (f a0 a1 a2 a3 a4 a5 a6 a7 a8)):C τ:=by
 obtain⟨a0,a1,a2,a3,a4,a5,a6,a7,a8,e,h⟩:=h;rw[e];exact k _ _ _ _ _ _ _ _ _ h
theorem xi9{A0 A1 A2 A3 A4 A5 A6 A7 A8:Type}{σ:Type}{f:A0->A1->A2->A3->A4->A5->A6->A7->A8->σ}{p:A0->A1->A2->A3->A4->A5->A6->A7->A8->Prop}{τ:σ}(a0:A0)(a1:A1)(a2:A2)(a3:A3)(a4:A4)(a5:A5)(a6:A6)(a7:A7)(a8:A8)(e:τ=f a0 a1 a2 a3 a4 a5 a6 a7 a8)(h:p a0 a1 a2 a3 a4 a5 a6 a7 a8):∃a0 a1 a2 a3 a4 a5 a6 a7 a8,τ=f a0 a1 a2 a3 a4 a5 a6 a7 a8/\p a0 a1 a2 a3 a4 a5 a6 a7 a8:=⟨a0,a1,a2,a3,a4,a5,a6,a7,a8,e,h⟩
theorem xe10{A0 A1 A2 A3 A4 A5 A6 A7 A8 A9:Type}{σ:Type}{f:A0->A1->A2->A3->A4->A5->A6->A7->A8->A9->σ}{p:A0->A1->A2->A3->A4->A5->A6->A7->A8->A9->Prop}{τ:σ}{C:σ->Prop}(h:∃a0 a1 a2 a3 a4 a5 a6 a7 a8 a9,τ=f a0 a1 a2 a3 a4 a5 a6 a7 a8 a9/\p a0 a1 a2 a3 a4 a5 a6 a7 a8 a9)(k:∀a0 a1 a2 a3 a4 a5 a6 a7 a8 a9,p a0 a1 a2 a3 a4 a5 a6 a7 a8 a9->C (f a0 a1 a2 a3 a4 a5 a6 a7 a8 a9)):C τ:=by
 obtain⟨a0,a1,a2,a3,a4,a5,a6,a7,a8,a9,e,h⟩:=h;rw[e];exact k _ _ _ _ _ _ _ _ _ _ h
theorem xi10{A0 A1 A2 A3 A4 A5 A6 A7 A8 A9:Type}{σ:Type}{f:A0->A1->A2->A3->A4->A5->A6->A7->A8->A9->σ}{p:A0->A1->A2->A3->A4->A5->A6->A7->A8->A9->Prop}{τ:σ}(a0:A0)(a1:A1)(a2:A2)(a3:A3)(a4:A4)(a5:A5)(a6:A6)(a7:A7)(a8:A8)(a9:A9)(e:τ=f a0 a1 a2 a3 a4 a5 a6 a7 a8 a9)(h:p a0 a1 a2 a3 a4 a5 a6 a7 a8 a9):∃a0 a1 a2 a3 a4 a5 a6 a7 a8 a9,τ=f a0 a1 a2 a3 a4 a5 a6 a7 a8 a9/\p a0 a1 a2 a3 a4 a5 a6 a7 a8 a9:=⟨a0,a1,a2,a3,a4,a5,a6,a7,a8,a9,e,h⟩
theorem ae2{a0 a1 C:Prop}(k:a0->a1->C)(h:a0/\a1):C:=k h.1 h.2
theorem ae3{a0 a1 a2 C:Prop}(k:a0->a1->a2->C)(h:a0/\a1/\a2):C:=k h.1 h.2.1 h.2.2
theorem ae4{a0 a1 a2 a3 C:Prop}(k:a0->a1->a2->a3->C)(h:a0/\a1/\a2/\a3):C:=k h.1 h.2.1 h.2.2.1 h.2.2.2
theorem ae5{a0 a1 a2 a3 a4 C:Prop}(k:a0->a1->a2->a3->a4->C)(h:a0/\a1/\a2/\a3/\a4):C:=k h.1 h.2.1 h.2.2.1 h.2.2.2.1 h.2.2.2.2
theorem ae6{a0 a1 a2 a3 a4 a5 C:Prop}(k:a0->a1->a2->a3->a4->a5->C)(h:a0/\a1/\a2/\a3/\a4/\a5):C:=k h.1 h.2.1 h.2.2.1 h.2.2.2.1 h.2.2.2.2.1 h.2.2.2.2.2
theorem ae7{a0 a1 a2 a3 a4 a5 a6 C:Prop}(k:a0->a1->a2->a3->a4->a5->a6->C)(h:a0/\a1/\a2/\a3/\a4/\a5/\a6):C:=k h.1 h.2.1 h.2.2.1 h.2.2.2.1 h.2.2.2.2.1 h.2.2.2.2.2.1 h.2.2.2.2.2.2
theorem ae8{a0 a1 a2 a3 a4 a5 a6 a7 C:Prop}(k:a0->a1->a2->a3->a4->a5->a6->a7->C)(h:a0/\a1/\a2/\a3/\a4/\a5/\a6/\a7):C:=k h.1 h.2.1 h.2.2.1 h.2.2.2.1 h.2.2.2.2.1 h.2.2.2.2.2.1 h.2.2.2.2.2.2.1 h.2.2.2.2.2.2.2
theorem ae9{a0 a1 a2 a3 a4 a5 a6 a7 a8 C:Prop}(k:a0->a1->a2->a3->a4->a5->a6->a7->a8->C)(h:a0/\a1/\a2/\a3/\a4/\a5/\a6/\a7/\a8):C:=k h.1 h.2.1 h.2.2.1 h.2.2.2.1 h.2.2.2.2.1 h.2.2.2.2.2.1 h.2.2.2.2.2.2.1 h.2.2.2.2.2.2.2.1 h.2.2.2.2.2.2.2.2
theorem ae10{a0 a1 a2 a3 a4 a5 a6 a7 a8 a9 C:Prop}(k:a0->a1->a2->a3->a4->a5->a6->a7->a8->a9->C)(h:a0/\a1/\a2/\a3/\a4/\a5/\a6/\a7/\a8/\a9):C:=k h.1 h.2.1 h.2.2.1 h.2.2.2.1 h.2.2.2.2.1 h.2.2.2.2.2.1 h.2.2.2.2.2.2.1 h.2.2.2.2.2.2.2.1 h.2.2.2.2.2.2.2.2.1 h.2.2.2.2.2.2.2.2.2
theorem ae11{a0 a1 a2 a3 a4 a5 a6 a7 a8 a9 a10 C:Prop}(k:a0->a1->a2->a3->a4->a5->a6->a7->a8->a9->a10->C)(h:a0/\a1/\a2/\a3/\a4/\a5/\a6/\a7/\a8/\a9/\a10):C:=k h.1 h.2.1 h.2.2.1 h.2.2.2.1 h.2.2.2.2.1 h.2.2.2.2.2.1 h.2.2.2.2.2.2.1 h.2.2.2.2.2.2.2.1 h.2.2.2.2.2.2.2.2.1 h.2.2.2.2.2.2.2.2.2.1 h.2.2.2.2.2.2.2.2.2.2
end L3
namespace L3
open PySem PySem.Spec PyProof.Rows L2
section
variable {X:Cx}
end
theorem jZa:fillsNumberSlot (.type "tuple") "mul"=pure false:=
 PySem.fillsNumberSlot_seq (id:="tuple.__mul__") (r:=some (.builtin "tuple.__rmul__")) lYj.lookup (by decide +kernel) PySem.F.slot_tuple_rmul.lookup (by decide +kernel)
theorem kUw:seqRepeat? (.type "tuple")=pure (some (.builtin "tuple.__mul__")):=by
 unfold seqRepeat?;rw[PySem.seqSlot_of (T:="tuple") (name:="__mul__") (id:="tuple.__mul__") lYj.lookup (by decide +kernel),PySem.seqSlot_of (T:="tuple") (name:="__rmul__") (id:="tuple.__rmul__") PySem.F.slot_tuple_rmul.lookup (by decide +kernel)]
 rfl
theorem kJ5(a:Int)(t:Tok)(l:Addr)(items:Array Value)(n:Nat)(dd:Option Addr)(sl:Array (Option Value)):
  Meets (Builtin.«int.__rmul__» ⟨[.int a t,.ref l],[]⟩) (λ_ R s=>s.heap.get? l=some {cls:= .type "tuple",dict:=dd,data:= .seq items n,slots:=sl}/\R (.ok (.ret Value.notImplemented)) s):=
 .of_wp λprog w A R s h=>by obtain⟨hp,g,d,tk,os⟩:=(s);obtain⟨hl,h⟩:=h;wp_walk;exact⟨_,rfl,h⟩
theorem kQ8(t:Tok)(l:Addr)(items:Array Value)(n:Nat)(dd:Option Addr)(sl:Array (Option Value)):
  Meets (Builtin.«tuple.__mul__» ⟨[.ref l,.int 1 t],[]⟩) (λ_ R s=>s.heap.get? l=some {cls:= .type "tuple",dict:=dd,data:= .seq items n,slots:=sl}/\R (.ok (.ret (.ref l))) s):=
 .of_wp λprog w A R s h=>by
  obtain⟨hp,g,d,tk,os⟩:=(s);obtain⟨hl,h⟩:=h
  wp_walk
  exact⟨_,rfl,h⟩
theorem kKd(k:Int)(t:Tok)(l:Addr)(items:Array Value)(n:Nat)(dd:Option Addr)(sl:Array (Option Value))(h1:¬ (k< -(2^63)||k>=2^63)=true)(h2:¬ (items.isEmpty||k == 1)=true)(h3:¬ (decide (k<=0)||items.isEmpty)=true)(h4:¬ items.size*k>(2^63-1) / 8)(h5:¬ Builtin.Tuple.tupleTooMany (items.size*k)=true)(h6:¬ ((List.replicate k.toNat items).foldl (· ++ ·) #[]).size>sizeLine):
  Meets (Builtin.«tuple.__mul__» ⟨[.ref l,.int k t],[]⟩) (λ_ R s=>s.heap.get? l=some {cls:= .type "tuple",dict:=dd,data:= .seq items n,slots:=sl}/\R (.ok (.ret (.ref s.heap.objs.size))) {s with heap:=s.heap.push {cls:= .type "tuple",data:= .seq ((List.replicate k.toNat items).foldl (· ++ ·) #[])} }):=
 .of_wp λprog w A R s h=>by
  obtain⟨hp,g,d,tk,os⟩:=(s);obtain⟨hl,h⟩:=h
  wp_walk
  rw[if_neg h1];wp_walk;rw[if_neg h4];wp_walk;exact⟨_,rfl,h⟩
section
variable {X:Cx}
def qX3:R3:=λx y G Q=>∃xs k,x= .tup xs/\y= .int k/\xs≠[]/\1<=k/\k<2^40/\k.toNat * xs.length<=sizeLine/\Q (.tup (List.replicate k.toNat xs).flatten) G
theorem uVu:Op3 X (binaryOp .Mult) qX3:=by
 rintro pins s τ G H x y v u Q ⟨σ,I,hs,hg⟩ ⟨a,ra,rv⟩ ⟨b,rb,ru⟩ ⟨xs,k,ex,ey,hne,hk1,hk2,hz,q⟩;subst ex;subst ey;obtain⟨pa,vs,rfl,h1,r1⟩:=(show ∃p vs,a= .ref p/\H p=some (.tup vs)/\Reps X.K H xs vs from ra)
 cases (show b= .int k from rb)
 cases rv;obtain⟨t,rfl⟩:=ru;obtain⟨its,q1,p1,_⟩:=I.tuple (.of h1);have l1:=r1.length;have l2:=q1.length;obtain⟨m,hm⟩:=lKo (show 0<=k by omega)
 have em:k.toNat=m:=by omega
 rw[em] at hz q;have hsl:(sizeLine:Nat)=16777216:=lZg;have hzi:(its.toArray.size:Int)*k=((m*xs.length:Nat):Int):=by rw[hm,lJu,<-l2,<-l1,<-Int.natCast_mul,lQy]
 obtain⟨⟨cls,dd,data,sl⟩,ho,hc,n,hd⟩:=id p1;simp only at hc hd;subst hc hd
 have hxl:0<its.length:=by
  rcases lXv its.length with z | z
  .exact absurd (lQg.mp (by omega)) hne
  .exact z
 refine wpAny_binaryOp_repeat_ref (T:="tuple") (U:="int") (by decide) ⟨_,ho,rfl⟩ (λs'=>lX7 s' k t) jZa PySem.F.fills_int_mul PySem.F.slot_int_rmul kUw PySem.F.slot_int_index.lookup
  (lQ1 PySem.F.slot_int_rmul (lX7 s k t) PySem.F.entry_int_rmul (PySem.F.args_int_rmul_2 _ _) (kJ5 k t pa its.toArray n dd sl) ⟨ho,rfl,⟨_,ho,rfl⟩,?_⟩)
 by_cases e1:k=1
 .subst e1;refine lQ1 lYj ⟨_,ho,rfl⟩ PySem.F.entry_tuple_mul (PySem.F.args_tuple_mul_2 _ _) (kQ8 t pa its.toArray n dd sl) ⟨ho,?_⟩;exact⟨_,G,H,.refl H,⟨σ,I,hs,hg⟩,⟨.ref pa,ra,rfl⟩,by rw[show m=1 by omega] at q;simpa using q⟩
 .have f0:List.foldl (λx1 x2=>x1++x2) #[] (List.replicate k.toNat its.toArray)=(List.replicate k.toNat its).flatten.toArray:=by
   have:=kJm its k.toNat [];rw[List.nil_append] at this;exact this
  refine lQ1 lYj ⟨_,ho,rfl⟩ PySem.F.entry_tuple_mul (PySem.F.args_tuple_mul_2 _ _) (kKd k t pa its.toArray n dd sl ?_ ?_ ?_ ?_ ?_ ?_) ⟨ho,?_⟩
  .rw[lYk];rintro (h | h)<;>(have:=lZy h;omega)
  .rw[lYk];rintro (h | h)
   .have:its=[]:=by simpa using h
    rw[this] at hxl;exact absurd hxl (lKx _)
   .exact e1 (by simpa using h)
  .rw[lYk];rintro (h | h)
   .have:=lZy h;omega
   .have:its=[]:=by simpa using h
    rw[this] at hxl;exact absurd hxl (lKx _)
  .rw[hzi];omega
  .rw[hzi];simp[Builtin.Tuple.tupleTooMany];omega
  .rw[em] at f0 ⊢;rw[f0,lJu,kYa,<-l2,<-l1];omega
  .rw[f0,em];have hz2:(List.replicate m vs).flatten.length<=sizeLine:=by rw[kYa,<-l1];exact hz
   have Il:=I.laid (t':=s.toks) (o:= .tup (List.replicate m vs).flatten) (λb ob q=>lJm _ q) (lJh _) ⟨hz2,_,q1.rep m,TupD.new _ _⟩
   refine jVh hs ⟨.ref _,_,Il,rfl,?_⟩;have hfr:=I.hok.fresh (lJh s.heap.objs.size);exact⟨.tup (List.replicate m xs).flatten,G,.upd (.none hfr),hg.tupNew hfr,Rep.tupNew (r1.rep m) hfr,q⟩
def qQq:R3:=λx y G Q=>jQv x y G Q\/qX3 x y G Q
theorem uJ0:Op3 X (binaryOp .Mult) qQq:=o_mulF.or uVu
end
section
variable {X:Cx}
end
section
variable {X:Cx}
end
section
variable {P:Program}{w:World}{A:Around}{E:Value->Shared->Prop}{s:Shared}{d it:Addr}{o:Obj}{es:Array DictEntry}{ep i:Nat}
theorem qKf{Q:Value->Shared->Prop}(hd:(d == sysModules)=false)(ho:s.heap.get? d=some o)(hc:o.ExactDict)(hx:o.data= .dict es ep)
  (hQ:Q (.ref s.heap.objs.size) {s with heap:=s.heap.push {cls:= .type "dict_keyiterator",data:= .fields #[.ref d,.int 0 0,.int es.size 0,.int ep 0]} }):wpAny (model P w) A (pyIter (.ref d)) Q E s:=by
 have hT:s.TypeIs (.ref d) "dict":=⟨o,ho,hc.1⟩;refine lZz hT PySem.F.slot_dict_iter (lK6 PySem.F.slot_dict_iter hT PySem.F.entry_dict_iter ?_ (PySem.F.args_dict_iter_1 _));unfold Builtin.«dict.__iter__»;refine lJa ?_;unfold Builtin.Dict.dictSlotNone;refine lJa (wpAny_notOrdered_dict hT ?_);refine (show wpAny _ _ (pure (Value.ref d)) _ _ s from lJd ?_);refine (show wpAny _ _ (Builtin.Dict.showsAll d >>= _) _ _ s from ?_)
 unfold Builtin.Dict.showsAll;rw[lJb (by rw[hd];exact lJo)];refine lJa (lJd (lJa (lY2 ho hx (lJa (lZ0 ho hx ?_)))))
 exact lJa (lKl (lJd ⟨_,rfl,"dict_keyiterator",_,⟨_,lJz _ rfl,rfl⟩,lXw.lookup,by simpa[rawInt] using hQ⟩))
theorem qJ7{e:DictEntry}{Q:Option Value->Shared->Prop}(hit:s.heap.IsKeyIter it d i es.size ep)(ho:s.heap.get? d=some o)(hx:o.data= .dict es ep)(hi:es[i]? =some e)
  (hQ:∀h',h'.IsKeyIter it d (i+1) es.size ep->Heap.SameBut it s.heap h'->Q (some e.key) {s with heap:=h'}):wpAny (model P w) A (pyNext (.ref it)) Q E s:=by
 obtain⟨oi,hoi,hci,hdi⟩:=id hit;unfold pyNext;refine lJa (lX9 (lVc (name:=Str.ofString "__next__") hit.typeIs lXw (lK6 lXw hit.typeIs lZ9 ?_ (mJa _))));refine lJa (lJd (lJa (lJa ?_)))
 first | refine lJa (lY3 hit.typeIs (lJd (lJa (lXn hoi hdi ?_)))) | refine lJa (lY4 hit.typeIs (lJd (lJa (lXn hoi hdi ?_))))
 simp only[show Builtin.Dict_items.ownsTuple "dict_keyiterator"=false by decide,lKi,lJ6]
 refine (show wpAny _ _ (if (Value.ref d == Value.none)=true then _ else _) _ _ s from ?_);rw[lJb (show ¬ ((Value.ref d == Value.none)=true) from lJo)]
 refine lJa (lJd (lJa (lY2 ho hx ?_)));rw[lJb (by simp)];refine lJa (lJd (lJa (lZ0 ho hx ?_)));rw[lJb (by simp)];refine lJd ?_
 simp only[show ¬ ((i:Int)<0) from by omega,lJ6,lV7,hi];refine lJa ?_
 first | refine lJa (lY3 hit.typeIs (lJd (lJa (lZ1 hit.typeIs ?_)))) | refine lJa (lY4 hit.typeIs (lJd (lJa (lZ1 hit.typeIs ?_))))
 refine (show wpAny _ _ (setField (.ref it) 1 (rawInt ((i:Int)+1)) >>= _) _ _ s from lJa (lYx hoi hdi (by simp) ?_))
 have hit':(s.heap.update it (Obj.mapFields (·.setIfInBounds 1 (rawInt ((i:Int)+1))))).IsKeyIter it d (i+1) es.size ep:=⟨_,lV5 _ hoi (Obj.isFreed_of_fields (Obj.data_mapFields hdi _)),(Obj.cls_mapFields ..).trans hci,by rw[Obj.data_mapFields hdi];simp[rawInt]⟩
 refine lJa (lKw (lJa (lZ1 (s:={s with heap:=s.heap.update it (Obj.mapFields (·.setIfInBounds 1 (rawInt ((i:Int)+1))))}) hit'.typeIs ?_)))
 exact (show wpAny _ _ (pure e.key) _ _ _ from lJd (lJd ⟨_,rfl,lJd (hQ _ hit' (lVt ..))⟩))
theorem qVi{Q:Option Value->Shared->Prop}(hh:A.handled=none)(hit:s.heap.IsKeyIter it d i es.size ep)(ho:s.heap.get? d=some o)(hx:o.data= .dict es ep)(hi:es.size<=i)
  (hQ:∀h',Heap.ExtBut it s.heap h'->Q none {s with heap:=h'}):wpAny (model P w) A (pyNext (.ref it)) Q E s:=by
 obtain⟨oi,hoi,hci,hdi⟩:=id hit;unfold pyNext;refine lJa (lX9 (lVc (name:=Str.ofString "__next__") hit.typeIs lXw (lK6 lXw hit.typeIs lZ9 ?_ (mJa _))));refine lJa (lJd (lJa (lJa ?_)))
 first | refine lJa (lY3 hit.typeIs (lJd (lJa (lXn hoi hdi ?_)))) | refine lJa (lY4 hit.typeIs (lJd (lJa (lXn hoi hdi ?_))))
 simp only[show Builtin.Dict_items.ownsTuple "dict_keyiterator"=false by decide,lKi,lJ6]
 refine (show wpAny _ _ (if (Value.ref d == Value.none)=true then _ else _) _ _ s from ?_);rw[lJb (show ¬ ((Value.ref d == Value.none)=true) from lJo)]
 refine lJa (lJd (lJa (lY2 ho hx ?_)));rw[lJb (by simp)];refine lJa (lJd (lJa (lZ0 ho hx ?_)));rw[lJb (by simp)];refine lJd ?_
 simp only[show ¬ ((i:Int)<0) from by omega,lJ6,lV7,lQk hi];refine lJa ?_
 first | refine (lJa (lY3 hit.typeIs (lJd ?_))) | refine lJa (lY4 hit.typeIs (lJd ?_))
 refine (show wpAny _ _ (setField (.ref it) 0 .none >>= _) _ _ s from lJa (lYx hoi hdi (by simp) ?_));refine (show wpAny _ _ (newExc (.type "StopIteration") [] >>= _) _ _ _ from lJa ?_)
 simp only[newExc,newTuple];refine lJa (lKl ?_ (by size_fits));refine lJa (m:=firstArgMember _ _) (lX8 (a:=Value.none) (by first | rfl | (simp only[firstArgMember];rfl)) (lKl ?_ (by size_fits)))
 simp only[raiseNew];refine lJa (wpAny_handled ?_);rw[show A.in1.handled=none from hh];refine lJa (lJd (wpAny_throw ?_))
 exact lJa (lXk (T:="StopIteration") (b:=true) ⟨_,lJz _ rfl,rfl⟩ isSubtype_stop (lJd (hQ _ (((lVt ..).extBut.push _).push _))))
end
section
variable {X:Cx}
theorem qKd{K:PySem.W.Frag}{H:Hp}{x:T}{a:V}{k:Key}(h:jQ6 x=some k)(r:a=kV k):Rep K H x a:=by
 subst r;cases x with
 | int i=>cases h;exact rfl
 | str i=>cases h;exact rfl
 | _=>cases h
theorem jX6{K:PySem.W.Frag}{H:Hp}{κ:Type}{f:T->Option κ}{R:κ->V->Prop}(hf:∀x k a,f x=some k->R k a->Rep K H x a):∀(xs:List T){vs:List V}{ks:List κ},allK f xs=some ks->Paired R ks vs->Reps K H xs vs
 | [],_,_,h,r=>by cases h;cases r;exact rfl
 | x::xs,_,ks,h,r=>by
  unfold allK at h;cases e1:f x with
  | none=>rw[e1] at h;cases h
  | some k=>
   cases e2:allK f xs with
   | none=>rw[e1,e2] at h;cases h
   | some ks'=>
    rw[e1,e2] at h;cases h;cases r with
    | cons r1 r2=>exact⟨_,_,rfl,hf _ _ _ e1 r1,jX6 hf xs e2 r2⟩
theorem qUw{K:PySem.W.Frag}{H:Hp}(x:T)(k:K1)(a:V)(h:key1 x=some k)(r:Rk1 H k a):Rep K H x a:=by
 cases x with
 | tup ts=>
  obtain⟨ks,h1,rfl⟩:=lK3.mp (show (allK jQ6 ts).map Sum.inr=some k from h)
  obtain⟨p,vs,e,h3,h4⟩:=(show ∃p vs,a= .ref p/\H p=some (.tup vs)/\Paired (λk v=>v=kV k) ks vs from r)
  exact⟨p,vs,e,h3,jX6 (λx k a h r=>qKd h r) _ h1 h4⟩
 | int i=>cases h;exact r
 | str i=>cases h;exact r
 | _=>cases h
theorem qUv{K:PySem.W.Frag}{H:Hp}(x:T)(k:K2)(a:V)(h:key2 x=some k)(r:Rk2 H k a):Rep K H x a:=by
 cases x with
 | tup ts=>
  obtain⟨ks,h1,rfl⟩:=lK3.mp (show (allK key1 ts).map Sum.inr=some k from h)
  obtain⟨p,vs,e,h3,h4⟩:=(show ∃p vs,a= .ref p/\H p=some (.tup vs)/\Paired (Rk1 H) ks vs from r)
  exact⟨p,vs,e,h3,jX6 qUw _ h1 h4⟩
 | int i=>cases h;exact r
 | str i=>cases h;exact r
 | _=>cases h
theorem jYl{α β:Type}{F:α->β->Prop}:∀{l:List α}{m:List β}{i:Nat}{x:α},Paired F l m->l[i]? =some x->∃y,m[i]? =some y/\F x y
 | _,_,_,_,.nil,h=>by simp at h
 | _,_,0,_,.cons r t,h=>by cases h;exact⟨_,rfl,r⟩
 | _,_,i+1,_,.cons r t,h=>jYl (i:=i) t h
end
end L3
namespace L3
open PySem
def itr{α:Type}(f:α->α):Nat->α->α
 | 0,a=>a
 | n+1,a=>itr f n (f a)
theorem jKz{α:Type}(f:α->α):∀(m n:Nat)(a:α),itr f (m+n) a=itr f n (itr f m a)
 | 0,n,a=>by rw[lXa];rfl
 | m+1,n,a=>by rw[Nat.add_right_comm];exact jKz f m n (f a)
theorem jXz{α:Type}(f:α->α)(n:Nat)(a:α):itr f (n+1) a=f (itr f n a):=jKz f n 1 a
namespace St
open SetTable
theorem getD_at{xs:Array Nat}{k d:Nat}(h:k<xs.size):xs.getD k d=xs[k]:=by simp[Array.getD,h]
theorem uQw(xs:Array Nat)(j:Nat)(hs:∀a b:Nat,a<b->∀(hb:b<xs.size),xs.getD a 0<xs[b]):∀(fuel lo hi:Nat),hi<=xs.size->lo<=hi->hi-lo<=fuel->(∀k,k<lo->xs.getD k 0<j)->(∀k (h:k<xs.size),hi<=k->j<=xs[k])->
  (below.go xs j fuel lo hi)<=xs.size/\(∀k,k<below.go xs j fuel lo hi->xs.getD k 0<j)/\(∀k (h:k<xs.size),below.go xs j fuel lo hi<=k->j<=xs[k])
 | 0,lo,hi,h1,h2,h3,h4,h5=>by
  have e:hi=lo:=by omega
  subst e;exact⟨h1,h4,h5⟩
 | fuel+1,lo,hi,h1,h2,h3,h4,h5=>by
  unfold below.go
  by_cases c:lo<hi
  .rw[lJc c];have hm:(lo+hi) / 2<xs.size:=by omega
   by_cases d:xs.getD ((lo+hi) / 2) j<j
   .simp only[d,lK0];refine uQw xs j hs fuel _ hi h1 (by omega) (by omega) (λk hk=> ?_) h5
    rw[getD_at hm] at d
    by_cases e:k=(lo+hi) / 2
    .subst e;rw[getD_at hm];exact d
    .exact lXq (hs k _ (by omega) hm) d
   .simp only[d,lJ6];refine uQw xs j hs fuel lo _ (by omega) (by omega) (by omega) h4 λk h hk=> ?_
    rw[getD_at hm] at d
    by_cases e:k=(lo+hi) / 2
    .subst e;omega
    .have:=hs ((lo+hi) / 2) k (by omega) h
     rw[getD_at hm] at this;omega
  .rw[lJb c];have e:hi=lo:=by omega
   subst e;exact⟨h1,h4,h5⟩
def Ris(xs:Array Nat):Prop:=xs.toList.Pairwise (· < ·)
theorem Ris.lt{xs:Array Nat}(h:Ris xs)(a b:Nat)(hab:a<b)(hb:b<xs.size):xs.getD a 0<xs[b]:=by
 rw[getD_at (by omega)]
 have:=lZh.mp h a b (by simpa using (by omega:a<xs.size)) (by simpa using hb) hab
 simpa using this
theorem jZn{xs:Array Nat}(h:Ris xs)(j:Nat):below xs j<=xs.size/\(∀k,k<below xs j->xs.getD k 0<j)/\(∀k (h:k<xs.size),below xs j<=k->j<=xs[k]):=
 uQw xs j h.lt xs.size 0 xs.size (lJh _) (lJx _) (lJh _) (λk hk=>absurd hk (lKd _)) λk h1 h2=>absurd h1 (by omega)
theorem qJf{xs:Array Nat}(h:Ris xs){i:Nat}(hi:i<xs.size):below xs xs[i]=i:=by
 obtain⟨h1,h2,h3⟩:=jZn h xs[i]
 rcases lQl (below xs xs[i]) i with c | c | c
 .have a:=h3 (below xs xs[i]) (by omega) (lJh _)
  have b:=h.lt _ i c hi;rw[getD_at (by omega)] at b
  omega
 .exact c
 .have:=h2 i c;rw[getD_at hi] at this;omega
theorem below_next{xs:Array Nat}(h:Ris xs){i:Nat}(hi:i<xs.size):below xs (xs[i]+1)=i+1:=by
 obtain⟨h1,h2,h3⟩:=jZn h (xs[i]+1)
 rcases lQl (below xs (xs[i]+1)) (i+1) with c | c | c
 .have:=h3 i hi (by omega)
  omega
 .exact c
 .have a:=h2 (i+1) c;have hi1:i+1<xs.size:=by omega
  rw[getD_at hi1] at a;have b:=h.lt i (i+1) (by omega) hi1
  rw[getD_at hi] at b;omega
theorem below_zero{xs:Array Nat}(h:Ris xs):below xs 0=0:=by
 obtain⟨h1,h2,h3⟩:=jZn h 0
 rcases lXv (below xs 0) with c | c
 .exact c
 .exact absurd (h2 0 c) (lKd _)
theorem insertAt_ris{xs:Array Nat}(h:Ris xs){j:Nat}(hj:j∉xs.toList):Ris (insertAt xs (below xs j) j):=by
 obtain⟨h1,h2,h3⟩:=jZn h j;unfold Ris;rw[SetTable.toList_insertAt,List.pairwise_append,List.pairwise_cons]
 have up:∀b,b∈xs.toList.drop (below xs j)->j<b:=by
  intro b hb;obtain⟨k,hk,e⟩:=lVj hb;rw[lYd] at hk;rw[List.getElem_drop] at e;have hk':below xs j+k<xs.size:=by simp at hk;omega
  have:=h3 _ hk' (by omega)
  have e':xs[below xs j+k]=b:=by simpa using e
  have ne:b≠j:=λz=>hj (z▸List.mem_of_mem_drop hb)
  omega
 have dn:∀a,a∈xs.toList.take (below xs j)->a<j:=by
  intro a ha;obtain⟨k,hk,e⟩:=lVj ha;rw[lQ6] at hk;rw[List.getElem_take] at e;have:=h2 k (by omega)
  rw[getD_at (by simp at hk;omega)] at this
  have e':xs[k]'(by simp at hk;omega)=a:=by simpa using e
  omega
 refine⟨List.Pairwise.sublist (lY7 _ _) h,⟨up,List.Pairwise.sublist (List.drop_sublist _ _) h⟩,?_⟩;intro a ha b hb
 (rcases lJp.mp hb with rfl | hb)
 .exact dn a ha
 .exact lXq (dn a ha) (up b hb)
theorem has_nil(j:Nat):has #[] j=false:=rfl
theorem slot_cases{t:SetTable}(hd:t.dummies= #[])(j:Nat):(t.slot j= .empty/\(Ris t.place->j∉t.place.toList))\/∃i,t.slot j= .live i/\∃h:i<t.place.size,t.place[i]=j/\i=below t.place j:=by
 unfold SetTable.slot
 by_cases c:(t.place[below t.place j]? == some j)=true
 .right
  refine⟨below t.place j,?_,?_⟩
  .simp only[c,lK0]
  .have c':=eq_of_beq c;obtain⟨h,e⟩:=mJb.mp c';exact⟨h,e,rfl⟩
 .left
  refine⟨?_,λhr hm=> ?_⟩
  .rw[hd];simp only[c,has_nil,lKi,lJ6]
  .obtain⟨k,hk,e⟩:=lVj hm;have hk':k<t.place.size:=by simpa using hk
   have e':t.place[k]=j:=by simpa using e
   apply c;rw[<-e',qJf hr hk',lKu hk'];exact lZ2 _
theorem slot_empty{t:SetTable}(hd:t.dummies= #[]){j:Nat}(h:j∉t.place.toList):t.slot j= .empty:=by
 rcases slot_cases hd j with c | ⟨i,_,hi,e,_⟩
 .exact c.1
 .exact absurd (by rw[<-e];simp) h
theorem slot_live{t:SetTable}(hr:Ris t.place){i:Nat}(hi:i<t.place.size):t.slot t.place[i]= .live i:=by
 unfold SetTable.slot;rw[qJf hr hi];simp[hi]
theorem qQb(mask i:Nat):runEnd mask i-i<=9:=by unfold runEnd;split<;>omega
def kK7(t:SetTable)(p:Probe):Prop:=p.j=p.i/\p.more=runEnd t.mask p.i-p.i
theorem jZq(t:SetTable):∀(m:Nat)(p:Probe),m<=p.more->itr t.advance m p={p with j:=p.j+m,more:=p.more-m}
 | 0,p,_=>by cases p;rfl
 | m+1,p,h=>by
  show itr t.advance m (t.advance p)=_
  have e:t.advance p={p with j:=p.j+1,more:=p.more-1}:=by unfold SetTable.advance;rw[lJc (by omega)]
  rw[e,jZq t m _ (by show m<=p.more-1;omega)]
  simp only[Probe.mk.injEq,lXm,true_and];omega
theorem qZ1(t:SetTable)(p:Probe):∃m,m<=p.more+1/\kK7 t (itr t.advance m p)/\(itr t.advance m p).i=(leap t.mask p.i p.perturb).1/\(itr t.advance m p).perturb=p.perturb / 32:=by
 refine⟨p.more+1,lJh _,?_⟩;rw[jXz,jZq t p.more p (lJh _)];unfold SetTable.advance;rw[lJb (by show ¬ p.more-p.more>0;omega)]
 exact⟨⟨rfl,rfl⟩,rfl,rfl⟩
def lp(mask:Nat)(x:Nat×Nat):Nat×Nat:=leap mask x.1 x.2
theorem kJy(t:SetTable):∀(k:Nat)(p:Probe),kK7 t p->∃m,m<=10*k/\kK7 t (itr t.advance m p)/\((itr t.advance m p).i,(itr t.advance m p).perturb)=itr (lp t.mask) k (p.i,p.perturb)
 | 0,p,h=>⟨0,lJh _,h,rfl⟩
 | k+1,p,h=>by
  obtain⟨m,h1,h2,h3,h4⟩:=qZ1 t p;obtain⟨m',h1',h2',h3'⟩:=kJy t k _ h2;have hm:p.more<=9:=by rw[h.2];exact qQb _ _
  refine⟨m+m',by omega,?_,?_⟩
  .rw[jKz];exact h2'
  .rw[jKz,h3',h3,h4];rfl
theorem kX6(mask:Nat):∀(k:Nat)(x:Nat×Nat),(itr (lp mask) k x).2=x.2 / 32^k
 | 0,x=>by simp[itr]
 | k+1,x=>by
  show (itr (lp mask) k (lp mask x)).2=_
  rw[kX6 mask k];show x.2 / 32 / 32^k=_
  rw[Nat.div_div_eq_div_mul,Nat.pow_succ,lQy]
def five(mask i:Nat):Nat:=(i*5+1)%(mask+1)
theorem kX7(mask:Nat):∀(k i:Nat),itr (lp mask) k (i,0)=(itr (five mask) k i,0)
 | 0,i=>rfl
 | k+1,i=>by
  show itr (lp mask) k (lp mask (i,0))=_
  have e:lp mask (i,0)=(five mask i,0):=by simp[lp,leap,five]
  rw[e];exact kX7 mask k _
def orb(mask:Nat):Nat->Nat->List Nat
 | 0,_=>[]
 | n+1,i=>i::orb mask n (five mask i)
theorem qQ6(mask:Nat):∀(n i k:Nat),k<n->(orb mask n i)[k]? =some (itr (five mask) k i)
 | n+1,i,0,_=>rfl
 | n+1,i,k+1,h=>by
  show (orb mask n (five mask i))[k]? =_
  exact qQ6 mask n _ k (by omega)
theorem kXv(mask:Nat):∀(n i:Nat),(orb mask n i).length=n
 | 0,_=>rfl
 | n+1,i=>by simp[orb,kXv mask n]
theorem uK1{mask n i j:Nat}(h:j∈orb mask n i):∃k,k<n/\itr (five mask) k i=j:=by
 obtain⟨k,hk,e⟩:=lVj h;rw[kXv] at hk;refine⟨k,hk,?_⟩;have:=qQ6 mask n i k hk;rw[lJf (by rw[kXv];exact hk),e] at this
 (exact (lJ3 this).symm)
def Full(mask:Nat):Prop:=(∀j,j<=mask->∃k,k<=mask/\itr (five mask) k 0=j)/\itr (five mask) (mask+1) 0=0
theorem kYf{mask:Nat}(h:(List.range (mask+1)).all (λj=>(orb mask (mask+1) 0).contains j)=true)(h0:itr (five mask) (mask+1) 0=0):Full mask:=by
 refine⟨λj hj=> ?_,h0⟩
 rw[lVh] at h;have:=h j (lJw.mpr (by omega))
 obtain⟨k,hk,e⟩:=uK1 (List.contains_iff_mem.mp this);exact⟨k,by omega,e⟩
theorem full7:Full 7:=kYf (by decide +kernel) (by decide +kernel)
theorem full31:Full 31:=kYf (by decide +kernel) (by decide +kernel)
theorem full127:Full 127:=kYf (by decide +kernel) (by decide +kernel)
theorem Full.all{mask:Nat}(h:Full mask){i j:Nat}(hi:i<=mask)(hj:j<=mask):∃k,k<=mask/\itr (five mask) k i=j:=by
 obtain⟨a,ha,ea⟩:=h.1 i hi;obtain⟨b,hb,eb⟩:=h.1 j hj
 by_cases c:a<=b
 .refine⟨b-a,by omega,?_⟩
  rw[<-ea,<-jKz,show a+(b-a)=b by omega,eb]
 .refine⟨mask+1-a+b,by omega,?_⟩
  rw[<-ea,<-jKz,show a+(mask+1-a+b)=mask+1+b by omega,jKz,h.2,eb]
theorem qV0(h:Int):bits h<2^64:=by
 unfold bits;have h1:=lVu h (show (2^64:Int)≠0 by decide)
 have h2:=lVv h (show (0:Int)<2^64 by decide)
 omega
theorem kKm(t:SetTable)(h:Int):kK7 t (t.probeStart h):=⟨rfl,rfl⟩
theorem met{t:SetTable}(hf:Full t.mask)(h:Int){j:Nat}(hj:j<=t.mask):∃n,n<=10*(t.mask+14)/\(itr t.advance n (t.probeStart h)).j=j:=by
 obtain⟨m,h1,h2,h3⟩:=kJy t 13 _ (kKm t h)
 have hp:(itr t.advance m (t.probeStart h)).perturb=0:=by
  have e:=lJs Prod.snd h3;rw[kX6] at e;refine e.trans (lXx (lKa (qV0 h) (by decide)))
 have hi:(itr t.advance m (t.probeStart h)).i<=t.mask:=by
  have e:=lJs Prod.fst h3;rw[jXz] at e
  have:(lp t.mask (itr (lp t.mask) 12 ((t.probeStart h).i,(t.probeStart h).perturb))).1<=t.mask:=by
   unfold lp leap;exact lQb (lQm _ (lVi _))
  rw[<-e] at this;exact this
 obtain⟨k,hk,ek⟩:=hf.all hi hj;obtain⟨m',h1',h2',h3'⟩:=kJy t k _ h2;refine⟨m+m',by omega,?_⟩
 rw[jKz,h2'.1];rw[hp,kX7] at h3';exact (lJs Prod.fst h3').trans ek
theorem adv_dummy(t:SetTable)(p:Probe):(t.advance p).dummy=p.dummy:=by unfold SetTable.advance;split<;>rfl
def Miss(t:SetTable)(hashAt:Nat->Int)(h:Int)(j:Nat):Prop:=∃i,t.slot j= .live i/\hashAt i≠h
theorem pgo_ok{t:SetTable}(hd:t.dummies= #[])(hashAt:Nat->Int)(h:Int):∀(n fuel:Nat)(p:Probe),t.slot (itr t.advance n p).j= .empty->n<fuel->p.dummy=none->
  (∃m,m<=n/\t.slot (itr t.advance m p).j= .empty/\(∀k,k<m->Miss t hashAt h (itr t.advance k p).j)/\probe.go t hashAt h fuel p=some (.empty (itr t.advance m p).j none))\/
  (∃m i,m<n/\t.slot (itr t.advance m p).j= .live i/\hashAt i=h/\(∀k,k<m->Miss t hashAt h (itr t.advance k p).j)/\probe.go t hashAt h fuel p=some (.candidate (itr t.advance m p).j i (itr t.advance (m+1) p)))
 | n,0,p,_,hn,_=>absurd hn (lKd _)
 | n,fuel+1,p,he,hn,hp=>by
  rcases slot_cases hd p.j with ⟨c,_⟩ | ⟨i,c,_⟩
  .left
   refine⟨0,lJx _,c,λk hk=>absurd hk (lKd _),?_⟩
   unfold probe.go;rw[c,hp];rfl
  .by_cases q:hashAt i=h
   .right
    have n0:n≠0:=by rintro rfl;rw[show itr t.advance 0 p=p from rfl,c] at he;cases he
    refine⟨0,i,by omega,c,q,λk hk=>absurd hk (lKd _),?_⟩
    unfold probe.go;simp only[c,q,lZ2,lK0];rfl
   .have n0:n≠0:=by rintro rfl;rw[show itr t.advance 0 p=p from rfl,c] at he;cases he
    obtain⟨n',rfl⟩:∃n',n=n'+1:=⟨n-1,by omega⟩
    have e:probe.go t hashAt h (fuel+1) p=probe.go t hashAt h fuel (t.advance p):=by
     conv=>lhs;unfold probe.go
     have q':(hashAt i == h)=false:=by simpa using q
     simp only[c,q',lKi,lJ6]
    have ih:=pgo_ok hd hashAt h n' fuel (t.advance p) he (by omega) (by rw[adv_dummy];exact hp)
    rw[e]
    rcases ih with ⟨m,h1,h2,h3,h4⟩ | ⟨m,i',h1,h2,h3,h4,h5⟩
    .left
     refine⟨m+1,by omega,h2,λk hk=> ?_,h4⟩
     cases k with
     | zero=>exact⟨i,c,q⟩
     | succ k=>exact h3 k (by omega)
    .right
     refine⟨m+1,i',by omega,h2,h3,λk hk=> ?_,h5⟩
     cases k with
     | zero=>exact⟨i,c,q⟩
     | succ k=>exact h4 k (by omega)
end St
end L3
namespace L3
open PySem
namespace St
open SetTable
theorem fm_congr{α β:Type}{f g:α->Option β}:∀{l:List α},(∀x,x∈l->f x=g x)->l.filterMap f=l.filterMap g
 | [],_=>rfl
 | a::l,h=>by rw[lQ4,lQ4,h a (lJ2 ..),fm_congr λx hx=>h x (lJ5 _ hx)]
theorem jX3{g f:Nat->Option Nat}{j k:Nat}(hf:f j=none)(hg:g j=some k)(he:∀i,i≠j->g i=f i):∀{l:List Nat},l.Nodup->j∈l->(l.filterMap g).Perm (k::l.filterMap f)
 | [],_,h=>absurd h (lKp)
 | a::l,hn,h=>by
  rw[lKn] at hn
  by_cases e:a=j
  .subst e;rw[lXb hg,lZi hf];refine List.Perm.cons _ (List.Perm.of_eq (fm_congr λx hx=>he x ?_))
   rintro rfl;exact hn.1 hx
  .have ih:=jX3 hf hg he hn.2 ((lJp.mp h).resolve_left (λz=>e z.symm))
   cases q:f a with
   | none=>rw[lZi (by rw[he a e];exact q),lZi q];exact ih
   | some b=>
    rw[lXb (by rw[he a e];exact q),lXb q]
    exact (List.Perm.cons b ih).trans (List.Perm.swap _ _ _)
def jQc(owner:Array (Option Nat))(j:Nat):Option Nat:=owner.getD j none
def uX7(t:SetTable)(owner:Array (Option Nat))(h:Int)(j:Nat):Prop:=∃n,(itr t.advance n (t.probeStart h)).j=j/\∀k,k<n->jQc owner (itr t.advance k (t.probeStart h)).j≠none
structure Own (t:SetTable) (hashes:List Int) (owner:Array (Option Nat)) (n:Nat):Prop where
 size:owner.size=t.mask+1
 perm:((List.range (t.mask+1)).filterMap (jQc owner)).Perm (List.range n)
 chain:∀j i,jQc owner j=some i->∃h,hashes[i]? =some h/\uX7 t owner h j
theorem uQd{mask:Nat}{x:Nat×Nat}(hx:x.1<=mask):∀(k:Nat),(itr (lp mask) k x).1<=mask
 | 0=>hx
 | k+1=>by
  rw[jXz];unfold lp leap;exact lQb (lQm _ (lVi _))
theorem kXd{mask i:Nat}(h:i<=mask):runEnd mask i<=mask:=by unfold runEnd;split<;>omega
theorem qQc(mask i:Nat):i<=runEnd mask i:=by unfold runEnd;split<;>omega
theorem qU9{t:SetTable}{owner:Array (Option Nat)}(hz:owner.size=t.mask+1):∀(fuel:Nat)(p:Probe),kK7 t p->p.i<=t.mask->∀K,K<fuel->jQc owner (itr (lp t.mask) K (p.i,p.perturb)).1=none->
  ∃n j,layClean.free t.mask owner fuel p.i p.perturb=some j/\(itr t.advance n p).j=j/\j<=t.mask/\jQc owner j=none/\∀k,k<n->jQc owner (itr t.advance k p).j≠none
 | 0,p,_,_,K,hK,_=>absurd hK (lKd _)
 | fuel+1,p,hl,hi,K,hK,he=>by
  have hr:=kXd hi;have hg:=qQc t.mask p.i
  have sl:∀k,k<runEnd t.mask p.i+1-p.i->((owner.getD (p.i+k) (some 0)).isNone=true↔jQc owner (p.i+k)=none):=by
   intro k hk;unfold jQc;have:p.i+k<owner.size:=by omega
   simp[Array.getD,this]
  have pj:∀k,k<runEnd t.mask p.i+1-p.i->(itr t.advance k p).j=p.i+k:=by
   intro k hk;rw[jZq t k p (by rw[hl.2];omega)]
   show p.j+k=_
   rw[hl.1]
  unfold layClean.free;cases q:(List.range (runEnd t.mask p.i+1-p.i)).find? (λk=>(owner.getD (p.i+k) (some 0)).isNone) with
  | some k=>
   obtain⟨h1,as,bs,h2,h3⟩:=List.find?_eq_some_iff_append.mp q
   have hk:k<runEnd t.mask p.i+1-p.i:=by
    have:k∈List.range (runEnd t.mask p.i+1-p.i):=by rw[h2];simp
    exact lJw.mp this
   have ha:∀x,x<k->x∈as:=by
    intro x hx
    have e:as.length=k:=by
     have e1:(List.range (runEnd t.mask p.i+1-p.i))[as.length]? =some k:=by rw[h2];simp
     rw[lQn (by have:=lJs List.length h2;simp at this;omega)] at e1
     exact lJ3 e1
    have e2:(List.range (runEnd t.mask p.i+1-p.i))[x]? =as[x]? :=by rw[h2,lJ9 (by omega)]
    rw[lQn (by omega)] at e2
    exact lJk e2.symm
   refine⟨k,p.i+k,rfl,pj k hk,by omega,(sl k hk).mp h1,λx hx=> ?_⟩
   rw[pj x (by omega)]
   intro z;have:=h3 x (ha x hx);rw[(sl x (by omega)).mpr z] at this
   exact absurd this (by decide)
  | none=>
   have none_:∀k,k<runEnd t.mask p.i+1-p.i->jQc owner (p.i+k)≠none:=by
    intro k hk z;have:=lXy.mp q k (lJw.mpr hk);exact this ((sl k hk).mpr z)
   have K0:K≠0:=by
    rintro rfl;exact none_ 0 (by omega) he
   obtain⟨K',rfl⟩:∃K',K=K'+1:=⟨K-1,by omega⟩
   have hm:p.more=runEnd t.mask p.i-p.i:=hl.2
   have e1:itr t.advance (p.more+1) p={p with j:=(leap t.mask p.i p.perturb).1,more:=runEnd t.mask (leap t.mask p.i p.perturb).1-(leap t.mask p.i p.perturb).1,i:=(leap t.mask p.i p.perturb).1,perturb:=(leap t.mask p.i p.perturb).2}:=by
    rw[jXz,jZq t p.more p (lJh _)];unfold SetTable.advance;rw[lJb (by show ¬ p.more-p.more>0;omega)]
   have hl2:kK7 t (itr t.advance (p.more+1) p):=by rw[e1];exact⟨rfl,rfl⟩
   have hi2:(itr t.advance (p.more+1) p).i<=t.mask:=by
    rw[e1];exact lQb (lQm _ (lVi _))
   obtain⟨n,j,g1,g2,g3,g4,g5⟩:=qU9 hz fuel _ hl2 hi2 K' (by omega) (by rw[e1];exact he)
   refine⟨p.more+1+n,j,?_,?_,g3,g4,λk hk=> ?_⟩
   .rw[e1] at g1;exact g1
   .rw[jKz];exact g2
   .by_cases c:k<p.more+1
    .rw[pj k (by omega)];exact none_ k (by omega)
    .have:=g5 (k-(p.more+1)) (by omega)
     rw[<-jKz,show p.more+1+(k-(p.more+1))=k by omega] at this
     exact this
theorem jXm{owner:Array (Option Nat)}{j k:Nat}(hj:j<owner.size)(i:Nat):jQc (owner.setIfInBounds j (some k)) i=if i=j then some k else jQc owner i:=by
 unfold jQc;rw[lVw,lVw,Array.getElem?_setIfInBounds]
 by_cases e:j=i
 .subst e;simp[hj]
 .rw[lJb e,lJb (λz=>e z.symm)]
theorem qU8{t:SetTable}(hf:Full t.mask){owner:Array (Option Nat)}{hashes:List Int}{n:Nat}(o:Own t hashes owner n)(hn:n<=t.mask)(h:Int):∃K,K<turns t.mask/\jQc owner (itr (lp t.mask) K ((t.probeStart h).i,(t.probeStart h).perturb)).1=none:=by
 have hex:∃j,j<=t.mask/\jQc owner j=none:=by
  apply lQc;intro q
  have all:∀j,j∈List.range (t.mask+1)->(jQc owner j).isSome=true:=by
   intro j hj;cases e:jQc owner j with
   | none=>exact absurd ⟨j,by have:=lJw.mp hj;omega,e⟩ q
   | some _=>rfl
  have len:∀l:List Nat,(∀j,j∈l->(jQc owner j).isSome=true)->(l.filterMap (jQc owner)).length=l.length:=by
   intro l hl
   induction l with
   | nil=>rfl
   | cons a l ih=>
    obtain⟨b,hb⟩:=lYc.mp (hl a (lJ2 ..));rw[lXb hb,lJ7,lJ7,ih λj hj=>hl j (lJ5 _ hj)]
  have:=o.perm.length_eq;rw[len _ all,lKq,lKq] at this;omega
 obtain⟨j,hj,e⟩:=hex;have hs:(t.probeStart h).i<=t.mask:=lQb (lQm _ (lVi _));have h13:=kX6 t.mask 13 ((t.probeStart h).i,(t.probeStart h).perturb);have z:(t.probeStart h).perturb / 32^13=0:=lXx (lKa (qV0 h) (by decide))
 obtain⟨k,hk,ek⟩:=hf.all (uQd (x:=((t.probeStart h).i,(t.probeStart h).perturb)) hs 13) hj;refine⟨13+k,by unfold turns;omega,?_⟩
 rw[jKz]
 generalize hy:itr (lp t.mask) 13 ((t.probeStart h).i,(t.probeStart h).perturb)=y at h13 ek
 obtain⟨y1,y2⟩:=y;have y0:y2=0:=h13.trans z;subst y0;rw[kX7,ek];exact e
theorem qYc{t:SetTable}(hf:Full t.mask){owner:Array (Option Nat)}{hashes:List Int}{n:Nat}{h:Int}(o:Own t hashes owner n)(hn:n<t.mask+1)(hh:hashes[n]? =some h)(hn':n<=t.mask):
  ∃j,layClean.free t.mask owner (turns t.mask) (bits h%(t.mask+1)) (bits h)=some j/\Own t hashes (owner.setIfInBounds j (some n)) (n+1):=by
 obtain⟨K,hK,eK⟩:=qU8 hf o hn' h;have hs:(t.probeStart h).i<=t.mask:=lQb (lQm _ (lVi _));obtain⟨m,j,g1,g2,g3,g4,g5⟩:=qU9 o.size (turns t.mask) (t.probeStart h) (kKm t h) hs K hK eK;have hj:j<owner.size:=by rw[o.size];omega
 have grow:∀i,jQc owner i≠none->jQc (owner.setIfInBounds j (some n)) i≠none:=by
  intro i hi;rw[jXm hj];split
  .simp
  .exact hi
 refine⟨j,g1,by rw[Array.size_setIfInBounds];exact o.size,?_,?_⟩
 .refine (jX3 (f:=jQc owner) (j:=j) (k:=n) g4 (by rw[jXm hj,lJc rfl]) (λi hi=>by rw[jXm hj,lJb hi]) (lXc) (lJw.mpr (by omega))).trans ?_
  rw[lKr (n:=n)];exact (List.Perm.cons n o.perm).trans (List.perm_append_singleton n _).symm
 .intro i x hx;rw[jXm hj] at hx
  by_cases e:i=j
  .subst e;rw[lJc rfl] at hx;cases hx;exact⟨h,hh,m,g2,λk hk=>grow _ (g5 k hk)⟩
  .rw[lJb e] at hx;obtain⟨h',e1,n',e2,e3⟩:=o.chain i x hx;exact⟨h',e1,n',e2,λk hk=>grow _ (e3 k hk)⟩
theorem qQ5(t:SetTable)(hashes:List Int):Own t hashes (Array.replicate (t.mask+1) none) 0:=by
 have z:∀j,jQc (Array.replicate (t.mask+1) none) j=none:=by
  intro j;unfold jQc;rw[lVw,Array.getElem?_replicate];split<;>rfl
 refine⟨by simp,?_,λj i h=>by rw[z] at h;cases h⟩
 have:(List.range (t.mask+1)).filterMap (jQc (Array.replicate (t.mask+1) none))=[]:=by
  rw[List.filterMap_eq_nil_iff];intro j _;exact z j
 rw[this];exact List.Perm.nil
theorem qVa{t:SetTable}(hf:Full t.mask)(all:List Int)(hn:all.length<=t.mask):∀(l:List Int)(done:List Int)(owner:Array (Option Nat)),all=done++l->Own t all owner done.length->
  ∃owner',l.foldl (λ(acc:Option (Array (Option Nat)×Nat)) h=>do
   let (owner,k) <-acc
   let j <-layClean.free t.mask owner (turns t.mask) (bits h%(t.mask+1)) (bits h)
   pure (owner.setIfInBounds j (some k),k+1)) (some (owner,done.length))=some (owner',all.length)/\Own t all owner' all.length
 | [],done,owner,e,o=>by
  rw[lQ2] at e;subst e;exact⟨owner,rfl,o⟩
 | h::l,done,owner,e,o=>by
  have hlt:done.length<all.length:=by rw[e];simp
  obtain⟨j,h1,o'⟩:=qYc (h:=h) hf o (by omega) (by rw[e];simp) (by omega)
  have e':all=(done++[h])++l:=by rw[e];simp
  obtain⟨owner',h2,h3⟩:=qVa hf all hn l (done++[h]) _ e' (by simpa using o')
  refine⟨owner',?_,h3⟩;rw[lVr]
  have:(do
   let (owner,k) <-some (owner,done.length)
   let j <-layClean.free t.mask owner (turns t.mask) (bits h%(t.mask+1)) (bits h)
   pure (owner.setIfInBounds j (some k),k+1))=some (owner.setIfInBounds j (some done.length),done.length+1):=by
   show (layClean.free t.mask owner (turns t.mask) (bits h%(t.mask+1)) (bits h)).bind _=_
   rw[h1];rfl
  rw[this]
  simpa using h2
theorem kYb{t:SetTable}(hf:Full t.mask)(hashes:Array Int)(hn:hashes.size<=t.mask):∃owner,layClean t.mask hashes=some owner/\Own t hashes.toList owner hashes.size:=by
 obtain⟨owner,h1,h2⟩:=qVa hf hashes.toList (by simpa using hn) hashes.toList [] _ rfl (qQ5 t _)
 refine⟨owner,?_,by simpa using h2⟩
 unfold layClean;rw[<-Array.foldl_toList];have h1':=h1;simp only[lQd] at h1';rw[h1'];rfl
def Chain(t:SetTable)(h:Int)(j:Nat):Prop:=∃n,(itr t.advance n (t.probeStart h)).j=j/\∀k,k<n->(itr t.advance k (t.probeStart h)).j∈t.place.toList
structure Good (t:SetTable) (hs:List Int):Prop where
 len:t.place.size=hs.length
 ris:Ris t.place
 dum:t.dummies= #[]
 chain:∀x,x∈t.place.toList.zip hs->Chain t x.2 x.1
theorem laid_ok{mask:Nat}(hf:Full mask)(finger moves:Nat)(led plain:Bool)(hashes:Array Int)(hn:hashes.size<=mask):
  ∃t order,laid mask finger moves led plain hashes=some (t,order)/\t.mask=mask/\t.led=led/\t.plain=plain/\order.toList.Perm (List.range hashes.size)/\Good t (order.toList.filterMap (hashes[·]?)):=by
 let t0:SetTable:={mask:=mask,place:= #[],dummies:= #[],finger:=finger,led:=led,moves:=moves,plain:=plain}
 obtain⟨owner,h1,o⟩:=kYb (t:=t0) hf hashes hn;have hl:layClean mask hashes=some owner:=h1
 let live:=(List.range (mask+1)).filterMap λj=>((owner.getD j none).map (j,·))
 refine⟨{mask:=mask,place:=(live.map (·.1)).toArray,dummies:= #[],finger:=finger,led:=led,moves:=moves,plain:=plain},(live.map (·.2)).toArray,?_,rfl,rfl,rfl,?_,?_⟩
 .unfold laid;rw[hl];rfl
 .have e:live.map (·.2)=(List.range (mask+1)).filterMap (jQc owner):=by
   show ((List.range (mask+1)).filterMap λj=>(owner.getD j none).map (j,·)).map (·.2)=_
   rw[List.map_filterMap];refine fm_congr λj _=> ?_
   unfold jQc;cases owner.getD j none<;>rfl
  show (live.map (·.2)).Perm _
  rw[e];exact o.perm
 .have live_mem:∀j k,(j,k)∈live->jQc owner j=some k/\j<=mask:=by
   intro j k hm;obtain⟨j',hj',e⟩:=lVq.mp hm;obtain⟨k',e1,e2⟩:=lK3.mp e;cases e2;exact⟨e1,by have:=lJw.mp hj';omega⟩
  have mem_place:∀j,j∈live.map (·.1)↔jQc owner j≠none/\j<=mask:=by
   intro j
   constructor
   .intro hm;obtain⟨⟨j',k⟩,h2,rfl⟩:=lJi.mp hm;obtain⟨h3,h4⟩:=live_mem _ _ h2;exact⟨by rw[h3];simp,h4⟩
   .rintro⟨h2,h3⟩;obtain⟨k,hk⟩:=Option.ne_none_iff_exists'.mp h2;refine lJi.mpr ⟨(j,k),lVq.mpr ⟨j,lJw.mpr (by omega),?_⟩,rfl⟩
    show (jQc owner j).map _=_
    rw[hk];rfl
  have hin:∀k,k∈live.map (·.2)->k<hashes.size:=by
   intro k hk;obtain⟨⟨j,k'⟩,h2,rfl⟩:=lJi.mp hk;obtain⟨h',e1,_⟩:=o.chain j k' (live_mem _ _ h2).1;have:=(lJe.mp e1).1
   simpa using this
  have fm:∀l:List Nat,(∀k,k∈l->k<hashes.size)->∀i:Nat,(l.filterMap (hashes[·]?)).length=l.length/\(l.filterMap (hashes[·]?))[i]? =(l[i]?).bind (hashes[·]?):=by
   intro l
   induction l with
   | nil=>intro _ i;exact⟨rfl,by simp⟩
   | cons a l ih=>
    intro hl i;have ha:=hl a (lJ2 ..);have e:hashes[a]? =some hashes[a]:=lKu ha;have ih':=ih (λk hk=>hl k (lJ5 _ hk))
    rw[lXb e];refine⟨by rw[lJ7,lJ7,(ih' 0).1],?_⟩
    cases i with
    | zero=>simp[e]
    | succ i=>simpa using (ih' i).2
  refine⟨?_,?_,rfl,?_⟩
  .show (live.map (·.1)).toArray.size=_
   rw[lJu,lJg];have:=(fm (live.map (·.2)) hin 0).1
   rw[lJg] at this;exact this.symm
  .show (live.map (·.1)).Pairwise (· < ·)
   rw[lVk]
   have:live.Pairwise λa b=>a.1<b.1:=by
    show ((List.range (mask+1)).filterMap λj=>(owner.getD j none).map (j,·)).Pairwise _
    rw[lZj];refine (List.pairwise_lt_range).imp λ{a b} hab x hx y hy=> ?_
    obtain⟨k,_,e⟩:=lK3.mp hx;obtain⟨k',_,e'⟩:=lK3.mp hy;rw[<-e,<-e'];exact hab
   exact this
  .intro x hx;obtain⟨i,hi,hxe⟩:=lVj hx;rw[List.getElem_zip] at hxe;obtain⟨xj,h⟩:=x;obtain⟨pe,he⟩:=Prod.mk.inj hxe;have hi':i<live.length:=by rw[List.length_zip] at hi;have:=lKa hi (Nat.min_le_left _ _);simpa using this
   have hh:((live.map (·.2)).filterMap (hashes[·]?))[i]? =some h:=by rw[<-he];exact lJf _
   have pl:live[i].1=xj:=by rw[<-pe];simp
   show Chain _ h xj
   rw[<-pl];have e2:=(fm (live.map (·.2)) hin i).2
   have hh':((live.map (·.2)).filterMap (hashes[·]?))[i]? =some h:=hh
   rw[hh',lJj,lJf hi'] at e2;have e3:hashes[live[i].2]? =some h:=e2.symm;obtain⟨h3,h4⟩:=live_mem live[i].1 live[i].2 (lVl hi');obtain⟨h',e4,n,e5,e6⟩:=o.chain _ _ h3
   have:h'=h:=by
    have:hashes.toList[live[i].2]? =some h:=by simpa using e3
    rw[this] at e4;exact (lJ3 e4).symm
   subst this;refine⟨n,e5,λk hk=> ?_⟩
   show (itr t0.advance k (t0.probeStart h')).j∈live.map (·.1)
   refine (mem_place _).mpr ⟨e6 k hk,?_⟩;apply lQc;intro z;refine e6 k hk ?_;unfold jQc;rw[lVw,lQk (by rw[o.size];show mask+1<=_;omega)]
   rfl
end St
end L3
namespace L3
open PySem PySem.Spec PyProof.Rows L2
def TupKept(h h':Heap):Prop:=∀b o,h.get? b=some o->o.cls= .type "tuple"->h'.get? b=some o
section
variable {prog:Program}{w:World}{K:Type}[DecidableEq K]{c:Nat}
def Stab(V:KeyV prog w K c):Prop:=∀{h h':Heap}{k:K}{v:Value},TupKept h h'->V.is h k v->V.is h' k v
theorem qJp{V:KeyV prog w K c}(hV:Stab V){h h':Heap}(kp:TupKept h h'){ks:List K}{vs:List Value}(hi:ItemsV V h ks vs):ItemsV V h' ks vs:=by
 induction hi with
 | nil=>exact .nil
 | cons a _ ih=>exact .cons (hV kp a) ih
theorem kY4{V:KeyV prog w K c}(hV:Stab V):Stab (jUk V):=by
 rintro h h' k v kp ⟨a,o,items,n,rfl,ho,hc,hd,hi⟩;exact⟨a,o,items,n,rfl,kp a o ho hc,hc,hd,qJp hV kp hi⟩
theorem kY5{V:KeyV prog w K c}(hV:Stab V):Stab (qJo V):=by
 rintro h h' (k | k) v kp hx
 .exact hx
 .exact kY4 hV kp hx
theorem qK5:Stab (jY2 prog w):=λ_ hx=>hx
theorem jK1{h h':Heap}{k:TKey}{a:Addr}(kp:TupKept h h')(hx:(jJi prog w).is h k a):(jJi prog w).is h' k a:=kY4 (kY5 (kY5 qK5)) kp hx
theorem TupKept.same{h h':Heap}{a:Addr}{o:Obj}(ho:h.get? a=some o)(hc:o.cls= .type "set")(hs:Heap.SameBut a h h'):TupKept h h':=by
 intro b ob hb hcb
 have ne:b≠a:=by
  rintro rfl;rw[ho] at hb;cases hb;rw[hc] at hcb;exact absurd hcb (by decide)
 exact (hs.2 b ne).trans hb
def HbV(V:KeyV prog w K c)(f:K->Bool):Prop:=∀{A:Around}{E:Value->Shared->Prop}{s:Shared}{k:K}{v:Value}{Q:Bool->Shared->Prop}(n:Nat),c<=n->f k=true->V.is s.heap k v->Q true s->wpAny (model prog w) A (hashByValue n v) Q E s
def intK:Key->Bool
 | .inl _=>true
 | .inr _=>false
def intS{α:Type}(f:α->Bool):Key ⊕ List α->Bool
 | .inl k=>intK k
 | .inr ks=>ks.all f
def intT:TKey->Bool:=λks=>ks.all (intS (intS intK))
theorem qU3:HbV (jY2 prog w) intK:=by
 intro A E s k v Q n _ hk hv h
 rcases jJv (show jXe k v=true from hv) with ⟨i,t,_,rfl⟩ | ⟨i,t,rfl,rfl⟩
 .cases n<;>exact lJd h
 .cases hk
theorem uJ6{V:KeyV prog w K c}{f:K->Bool}(hV:HbV V f):HbV (jUk V) (λks=>ks.all f):=by
 rintro A E s ks v Q n hn hf ⟨a,o,items,m,rfl,ho,hc,hd,hi⟩ h;obtain⟨n,rfl⟩:∃nn,n=nn+1:=⟨n-1,by omega⟩
 have hT:s.TypeIs (.ref a) "tuple":=⟨o,ho,hc⟩;unfold hashByValue
 (refine lJa (lXj hT F.slot_tuple_hash.lookup ?_))
 refine (show wpAny _ _ (seqItems? (.ref a) >>= _) _ _ s from ?_)
 refine lJa (lYs ho hd (lJa ?_));refine (show wpAny _ _ (forIn items _ _) _ _ s from ?_)
 rw[<-lYb];refine lVz _ (λrest r z=>r.1=none/\z=s/\∃left,left.all f=true/\ItemsV V s.heap left rest) _ ?_ ?_ _ _ ⟨rfl,rfl,ks,hf,hi⟩
 .rintro x rest r z ⟨hr,rfl,left,hfl,hl⟩;cases hl with
  | cons h1 hl'=>
   rw[lQt,lKt] at hfl;refine lJa (hV n (by omega) hfl.1 h1 ?_)
   simp only[lJ6,lXo,lKi];exact lJd ⟨rfl,rfl,_,hfl.2,hl'⟩
 .rintro⟨r1,r2⟩ z ⟨hr,rfl,_⟩;simp only at hr;subst hr;exact lJd h
theorem uJ7{V:KeyV prog w K c}{f:K->Bool}(hV:HbV V f):HbV (qJo V) (intS f):=by
 rintro A E s (k | k) v Q n hn hf hx h
 .exact qU3 n (lJx _) hf hx h
 .exact uJ6 hV n hn hf hx h
theorem uQv{A:Around}{E:Value->Shared->Prop}{s:Shared}{k:TKey}{a:Addr}{Q:Bool->Shared->Prop}(hf:intT k=true)(hx:(jJi prog w).is s.heap k a)(h:Q true s):wpAny (model prog w) A (hashByValue 8 (.ref a)) Q E s:=
 uJ6 (uJ7 (uJ7 qU3)) 8 (by decide) hf hx h
def OcV(V:KeyV prog w K c):Prop:=∀{A:Around}{E:Value->Shared->Prop}{s:Shared}{k:K}{v:Value}{Q:Bool->Shared->Prop}(n:Nat),c<=n->V.is s.heap k v->Q false s->wpAny (model prog w) A (ofAClassStatement n v) Q E s
theorem qUg:OcV (jY2 prog w):=by
 intro A E s k v Q n _ hv h
 rcases jJv (show jXe k v=true from hv) with ⟨i,t,_,rfl⟩ | ⟨i,t,rfl,rfl⟩<;>(cases n<;>exact lJd h)
theorem uJy{V:KeyV prog w K c}(hV:OcV V):OcV (jUk V):=by
 rintro A E s ks v Q n hn ⟨a,o,items,m,rfl,ho,hc,hd,hi⟩ h;obtain⟨n,rfl⟩:∃nn,n=nn+1:=⟨n-1,by omega⟩
 have hT:s.TypeIs (.ref a) "tuple":=⟨o,ho,hc⟩;unfold ofAClassStatement
 (refine lJa (lVp hT ?_))
 dsimp only
 rw[lJc (by decide)]
 refine lJa (lJd ?_);rw[lJb (by decide)]
 refine lJa (lYs ho hd (lJa ?_));rw[<-lYb];refine lVz _ (λrest r z=>r.1=none/\z=s/\∃left,ItemsV V s.heap left rest) _ ?_ ?_ _ _ ⟨rfl,rfl,ks,hi⟩
 .rintro x rest r z ⟨hr,rfl,left,hl⟩;cases hl with
  | cons h1 hl'=>
   refine lJa (hV n (by omega) h1 ?_)
   rw[lJb (by decide)]
   exact lJd ⟨rfl,rfl,_,hl'⟩
 .rintro⟨r1,r2⟩ z ⟨hr,rfl,_⟩;simp only at hr;subst hr;exact lJd h
theorem uJz{V:KeyV prog w K c}(hV:OcV V):OcV (qJo V):=by
 rintro A E s (k | k) v Q n hn hx h
 .exact qUg n (lJx _) hx h
 .exact uJy hV n hn hx h
theorem qUf{A:Around}{E:Value->Shared->Prop}{s:Shared}{k:TKey}{a:Addr}{Q:Bool->Shared->Prop}(hx:(jJi prog w).is s.heap k a)(h:Q false s):wpAny (model prog w) A (ofAClassStatement 8 (.ref a)) Q E s:=
 uJy (uJz (uJz qUg)) 8 (by decide) hx h
theorem uUp{A:Around}{E:Value->Shared->Prop}{s:Shared}{k:TKey}{a:Addr}{Q:Bool->Shared->Prop}(hx:(jJi prog w).is s.heap k a){ys:List Value}(hy:∀y,y∈ys->∃k' b,y= .ref b/\(jJi prog w).is s.heap k' b)(h:Q false s):wpAny (model prog w) A (searchCouldBeSeen (.ref a) ys) Q E s:=by
 unfold searchCouldBeSeen;refine lJa ?_;refine lVz _ (λrest r z=>r.1=none/\z=s/\∀y,y∈rest->∃k' b,y= .ref b/\(jJi prog w).is s.heap k' b) _ ?_ ?_ _ _ ⟨rfl,rfl,hy⟩
 .rintro x rest r z ⟨hr,rfl,hl⟩;obtain⟨k',b,rfl,hb⟩:=hl x (lJ2 ..);have hl':=λy hy=>hl y (lJ5 _ hy)
  dsimp only
  split
  .exact lJd ⟨rfl,rfl,hl'⟩
  .refine lJa ((jJi prog w).quiet hx ?_);rw[lJb (by decide)]
   refine lJa ((jJi prog w).quiet hb ?_);rw[lJb (by decide)]
   refine lJa (qUf hx ?_);rw[lJb (by decide)]
   refine lJa (qUf hb ?_);rw[lJb (by decide)]
   exact lJd ⟨rfl,rfl,hl'⟩
 .rintro⟨r1,r2⟩ z ⟨hr,rfl,_⟩;simp only at hr;subst hr;exact lJd h
end
section
variable {prog:Program}{w:World}{A:Around}{E:Value->Shared->Prop}{s:Shared}
def entS(prog:Program)(w:World)(e:TKey×Addr):Int×Value:=((jJi prog w).hash e.1,.ref e.2)
def hashes(prog:Program)(w:World)(es:List (TKey×Addr)):List Int:=es.map λe=>(jJi prog w).hash e.1
def MaskOk(mask n:Nat):Prop:=(mask=7/\n<=4)\/(mask=31/\n<=18)\/(mask=127/\n<=76)
theorem MaskOk.full{mask n:Nat}(h:MaskOk mask n):St.Full mask/\n<=mask/\mask%2=1:=by
 rcases h with ⟨rfl,h⟩ | ⟨rfl,h⟩ | ⟨rfl,h⟩
 .exact⟨St.full7,by omega,rfl⟩
 .exact⟨St.full31,by omega,rfl⟩
 .exact⟨St.full127,by omega,rfl⟩
theorem qJ1{t:SetTable}{f g:Nat->Int}{h:Int}{p:SetTable.Probe}(e:∀i,f i=g i):t.probe f h p=t.probe g h p:=by rw[funext e]
structure SetD (prog:Program) (w:World) (h:Heap) (a:Addr) (o:Obj) (arr:Array (Int×Value)) (ep:Nat) (t:SetTable) (es:List (TKey×Addr)):Prop where
 get:h.get? a=some o
 exact_:o.ExactSet
 data:o.data= .set arr ep t
 arr_:arr.toList=es.map (entS prog w)
 are:∀e,e∈es->(jJi prog w).is h e.1 e.2
 good:St.Good t (hashes prog w es)
 mask:MaskOk t.mask es.length
 plain:t.plain=true
theorem SetD.size{h:Heap}{a:Addr}{o:Obj}{arr:Array (Int×Value)}{ep:Nat}{t:SetTable}{es:List (TKey×Addr)}(d:SetD prog w h a o arr ep t es):arr.size=es.length:=by
 rw[<-lKm,d.arr_,lJg]
theorem SetD.fits{h:Heap}{a:Addr}{o:Obj}{arr:Array (Int×Value)}{ep:Nat}{t:SetTable}{es:List (TKey×Addr)}(d:SetD prog w h a o arr ep t es):t.fits arr.size=true:=by
 have l:=d.good.len;unfold hashes at l;rw[lJg] at l;obtain⟨_,hm,_⟩:=d.mask.full;simp only[SetTable.fits,SetTable.fill,d.good.dum,l,d.size,lKt,beq_iff_eq,lK7];exact⟨trivial,by simpa using hm⟩
theorem SetD.state{a:Addr}{o:Obj}{arr:Array (Int×Value)}{ep:Nat}{t:SetTable}{es:List (TKey×Addr)}(d:SetD prog w s.heap a o arr ep t es){Q:(Array (Int×Value)×Nat×SetTable)->Shared->Prop}(h:Q (arr,ep,t) s):wpAny (model prog w) A (setState a) Q E s:=
 lZ3 d.get d.data d.fits h
theorem SetD.at{h:Heap}{a:Addr}{o:Obj}{arr:Array (Int×Value)}{ep:Nat}{t:SetTable}{es:List (TKey×Addr)}(d:SetD prog w h a o arr ep t es){i:Nat}(hi:i<t.place.size):∃e,es[i]? =some e/\arr[i]? =some (entS prog w e):=by
 have l:=d.good.len;unfold hashes at l;rw[lJg] at l;have hi':i<es.length:=by omega
 refine⟨es[i],lJf hi',?_⟩;rw[<-lK5,d.arr_,lJj,lJf hi'];rfl
def uX8(t:SetTable)(es:List (TKey×Addr))(k:TKey)(p:SetTable.Probe):Prop:=∃n i b,t.slot (itr t.advance n p).j= .live i/\es[i]? =some (k,b)/\∀m,m<n->t.slot (itr t.advance m p).j≠ .empty
theorem qK9{a:Addr}{o:Obj}{arr:Array (Int×Value)}{ep:Nat}{t:SetTable}{es:List (TKey×Addr)}(d:SetD prog w s.heap a o arr ep t es){k:TKey}{b:Addr}(hk:(jJi prog w).is s.heap k b)(hu:(jJi prog w).room A){Q:SetFound->Shared->Prop}
  (h1:∀j,t.slot j= .empty->k∉es.map (·.1)->St.Chain t ((jJi prog w).hash k) j->Q (.free j false) s) (h2:k∈es.map (·.1)->Q (.there none) s):∀(n fuel:Nat)(stand:Option SetTable.Probe)(p:SetTable.Probe),stand.getD (t.probeStart ((jJi prog w).hash k))=p->p.dummy=none->t.slot (itr t.advance n p).j= .empty->n<10*SetTable.turns t.mask->n<fuel->
  (k∈es.map (·.1)->uX8 t es k p)->(∃n0,p=itr t.advance n0 (t.probeStart ((jJi prog w).hash k))/\∀m,m<n0->(itr t.advance m (t.probeStart ((jJi prog w).hash k))).j∈t.place.toList)->
  wpAny (model prog w) A (setSearchFrom a (.ref b) ((jJi prog w).hash k) true fuel stand) Q E s:=by
 intro n
 induction n using Nat.strongRecOn with
 | ind n ih=>
 intro fuel stand p hp hdm he hn hfu hA hC;obtain⟨fuel,rfl⟩:∃f,fuel=f+1:=⟨fuel-1,by omega⟩
 unfold setSearchFrom;refine lJa (d.state ?_)
 dsimp only
 have gw:t.gaveWay=false:=by
  unfold SetTable.gaveWay;rw[d.mask.full.2.2];rfl
 rw[gw,lJb (by decide),hp]
 rw[qJ1 (g:=λi=>((arr[i]?).map (·.1)).getD 0) ?hsw]
 case hsw=>exact λi=>rfl
 have hash_at:∀(i:Nat)(k':TKey)(b':Addr),es[i]? =some (k',b')->((arr[i]?).map (·.1)).getD 0=(jJi prog w).hash k':=by
  intro i k' b' e;have:arr[i]? =some (entS prog w (k',b')):=by rw[<-lK5,d.arr_,lJj,e];rfl
  rw[this];rfl
 have onway:∀m,(∀q,q<m->St.Miss t (λi=>((arr[i]?).map (·.1)).getD 0) ((jJi prog w).hash k) (itr t.advance q p).j)->∀q,q<m->(itr t.advance q p).j∈t.place.toList:=by
  intro m hm q hq;obtain⟨i,hi,_⟩:=hm q hq
  rcases St.slot_cases d.good.dum (itr t.advance q p).j with c | ⟨i',c,hi',e,_⟩
  .rw[c.1] at hi;cases hi
  .rw[<-e];simp
 have way:∀m,(∀q,q<m->(itr t.advance q p).j∈t.place.toList)->∃n0,itr t.advance m p=itr t.advance n0 (t.probeStart ((jJi prog w).hash k))/\∀q,q<n0->(itr t.advance q (t.probeStart ((jJi prog w).hash k))).j∈t.place.toList:=by
  intro m hm;obtain⟨n0,e0,c0⟩:=hC;refine⟨n0+m,by rw[jKz,e0],λq hq=> ?_⟩
  by_cases c:q<n0
  .exact c0 q c
  .have:=hm (q-n0) (by omega)
   rw[e0,<-jKz,show n0+(q-n0)=q by omega] at this
   exact this
 have ahead:∀m,(∀q,q<m->St.Miss t (λi=>((arr[i]?).map (·.1)).getD 0) ((jJi prog w).hash k) (itr t.advance q p).j)->∀{n' i:Nat}{b':Addr},t.slot (itr t.advance n' p).j= .live i->es[i]? =some (k,b')->m<=n':=by
  intro m hm n' i b' hs hi;apply lQc;intro z;obtain⟨i',q1,q2⟩:=hm n' (by omega)
  rw[hs] at q1;cases q1;exact q2 (hash_at _ _ _ hi)
 rcases St.pgo_ok d.good.dum (λi=>((arr[i]?).map (·.1)).getD 0) ((jJi prog w).hash k) n (10*SetTable.turns t.mask) p he hn hdm with ⟨m,hm,e1,e2,e3⟩ | ⟨m,i,hm,e1,e2,e3,e4⟩
 .rw[show t.probe (λi=>((arr[i]?).map (·.1)).getD 0) ((jJi prog w).hash k) p=_ from e3]
  dsimp only
  refine lJd (h1 _ e1 (λz=> ?_) ?_)
  .obtain⟨n',i,b',q1,q2,q3⟩:=hA z;have:=ahead m e2 q1 q2
   by_cases c:m=n'
   .subst c;rw[e1] at q1;cases q1
   .exact q3 m (by omega) e1
  .obtain⟨n0,w1,w2⟩:=way m (onway m e2);exact⟨n0,by rw[w1],w2⟩
 .rw[show t.probe (λi=>((arr[i]?).map (·.1)).getD 0) ((jJi prog w).hash k) p=_ from e4]
  dsimp only
  have hi:i<t.place.size/\t.place.toList[i]? =some (itr t.advance m p).j:=by
   rcases St.slot_cases d.good.dum (itr t.advance m p).j with c | ⟨i',c,hi',e,_⟩
   .rw[c.1] at e1;cases e1
   .rw[c] at e1;cases e1;exact⟨hi',by simp[hi',e]⟩
  obtain⟨⟨k',b'⟩,ee,ea⟩:=d.at hi.1;have hk':(jJi prog w).is s.heap k' b':=d.are _ (lJk ee);have rest:∀(R:Unit->Shared->Prop),R () s->True:=λ_ _=>trivial
  have go:wpAny (model prog w) A (do
    let some (_,y):=arr[i]? | unsupported "internal:set-entry"
    let equal <-holding [y] (eqBool y (.ref b))
    let (es',_,t') <-setState a
    if true&&equal then return .there none
    let some same:=(t'.sameMemory t.moves t.mask) | unsupported "set.changed-during-lookup:is-the-new-block-at-the-old-address"
    let still <-match (if same then t'.slot (itr t.advance m p).j else .empty) with
     | .live i'=>match (es'[i']?) with
      | some (_,y')=>do pure (if (<-isSame y' y) then some i' else none)
      | none=>pure none
     | _=>pure none
    match still with
    | none=>rule "set.search.anew"; setSearchFrom a (.ref b) ((jJi prog w).hash k) true fuel none
    | some i'=>if equal then return .there (some i') else setSearchFrom a (.ref b) ((jJi prog w).hash k) true fuel (some (itr t.advance (m+1) p))) Q E s:=by
   rw[ea]
   dsimp only[entS]
   refine lJa (lKw ((jJi prog w).eqBool hu hk' hk ?_));refine lJa (d.state ?_)
   dsimp only
   by_cases eq:k'=k
   .subst eq;rw[lJc (by simp)]
    exact lJd (h2 (lJi.mpr ⟨_,lJk ee,rfl⟩))
   .rw[lJb (by simp[eq])]
    rw[show t.sameMemory t.moves t.mask=some true by simp[SetTable.sameMemory]]
    dsimp only
    rw[lJc rfl,e1]
    dsimp only
    rw[ea]
    dsimp only[entS]
    refine lJa (wpAny_isSame_ref_self (lJa (lJd ?_)));rw[lJc rfl]
    dsimp only
    rw[lJb (by simp[eq])]
    have ne:∀ {n' i' b''},t.slot (itr t.advance n' p).j= .live i'->es[i']? =some (k,b'')->m+1<=n':=by
     intro n' i' b'' q1 q2;have:=ahead m e3 q1 q2
     by_cases c:m=n'
     .subst c;rw[e1] at q1;cases q1;rw[ee] at q2;exact absurd (Prod.mk.inj (lJ3 q2)).1 eq
     .omega
    refine ih (n-(m+1)) (by omega) fuel (some (itr t.advance (m+1) p)) (itr t.advance (m+1) p) rfl ?_ ?_ (by omega) (by omega) ?_ ?_
    .have dm:∀q,(itr t.advance q p).dummy=none:=by
      intro q
      induction q with
      | zero=>exact hdm
      | succ q ihq=>rw[jXz,St.adv_dummy];exact ihq
     exact dm _
    .rw[<-jKz,show m+1+(n-(m+1))=n by omega];exact he
    .intro z;obtain⟨n',i',b'',q1,q2,q3⟩:=hA z;have:=ne q1 q2;refine⟨n'-(m+1),i',b'',?_,q2,λq hq=> ?_⟩
     .rw[<-jKz,show m+1+(n'-(m+1))=n' by omega];exact q1
     .rw[<-jKz];exact q3 _ (by omega)
    .refine way (m+1) λq hq=> ?_
     by_cases c:q<m
     .exact onway m e3 q c
     .have:q=m:=by omega
      subst this;exact lJk hi.2
  split
  .refine lJa (uUp hk ?_ ?_)
   .intro y hy;obtain⟨x,hx,rfl⟩:=lJi.mp hy
    have hx':x∈arr.toList:=by
     have:=(Array.mem_filter.mp (Array.mem_toList_iff.mp hx)).1;exact Array.mem_toList_iff.mpr this
    rw[d.arr_] at hx';obtain⟨e,he',rfl⟩:=lJi.mp hx';exact⟨e.1,e.2,rfl,d.are e he'⟩
   .rw[lJb (by decide)]
    exact go
  .exact go
theorem SetD.chain{h:Heap}{a:Addr}{o:Obj}{arr:Array (Int×Value)}{ep:Nat}{t:SetTable}{es:List (TKey×Addr)}(d:SetD prog w h a o arr ep t es){k:TKey}(hk:k∈es.map (·.1)):uX8 t es k (t.probeStart ((jJi prog w).hash k)):=by
 obtain⟨⟨k',b⟩,he,e⟩:=lJi.mp hk;cases (show k'=k from e)
 obtain⟨i,hi,ei⟩:=lVj he;have l:=d.good.len;unfold hashes at l;rw[lJg] at l;have hp:i<t.place.size:=by omega
 have hz:(t.place[i],(jJi prog w).hash k)∈t.place.toList.zip (hashes prog w es):=by
  refine lJk (i:=i) ?_;unfold hashes;simp[lXt,hp,hi,ei]
 obtain⟨n,h1,h2⟩:=d.good.chain _ hz;refine⟨n,i,b,?_,by rw[lJf hi,ei],λm hm=> ?_⟩
 .rw[h1];exact St.slot_live d.good.ris hp
 .obtain⟨q,hq,e⟩:=lVj (h2 m hm);have hq':q<t.place.size:=by simpa using hq
  have e':t.place[q]=(itr t.advance m (t.probeStart ((jJi prog w).hash k))).j:=by simpa using e
  rw[<-e',St.slot_live d.good.ris hq'];simp
theorem uXj{t:SetTable}(hd:t.dummies= #[])(hn:t.place.size<=t.mask):∃j,j<=t.mask/\t.slot j= .empty:=by
 have:∃j,j<=t.mask/\j∉t.place.toList:=by
  apply lQc;intro q
  have sub:(List.range (t.mask+1)) ⊆ t.place.toList:=by
   intro j hj;apply lQc;intro z;exact q ⟨j,by have:=lJw.mp hj;omega,z⟩
  have:=lXc.length_le_of_subset sub;simp at this;omega
 obtain⟨j,h1,h2⟩:=this;exact⟨j,h1,St.slot_empty hd h2⟩
theorem qJt{a:Addr}{o:Obj}{arr:Array (Int×Value)}{ep:Nat}{t:SetTable}{es:List (TKey×Addr)}(d:SetD prog w s.heap a o arr ep t es){k:TKey}{b:Addr}(hk:(jJi prog w).is s.heap k b)(hu:(jJi prog w).room A){Q:SetFound->Shared->Prop}
  (h1:∀j,t.slot j= .empty->k∉es.map (·.1)->St.Chain t ((jJi prog w).hash k) j->Q (.free j false) s) (h2:k∈es.map (·.1)->Q (.there none) s):wpAny (model prog w) A (setSearch a (.ref b) ((jJi prog w).hash k) true) Q E s:=by
 have l:=d.good.len;unfold hashes at l;rw[lJg] at l;obtain⟨hf,hm,_⟩:=d.mask.full;obtain⟨j,hj,ej⟩:=uXj (t:=t) d.good.dum (by omega)
 obtain⟨n,hn,en⟩:=St.met hf ((jJi prog w).hash k) hj;have hm127:t.mask<=127:=by rcases d.mask with ⟨e,_⟩ | ⟨e,_⟩ | ⟨e,_⟩<;>omega
 unfold setSearch;refine qK9 d hk hu h1 h2 n 100000 none (t.probeStart ((jJi prog w).hash k)) rfl rfl (by rw[en];exact ej) (by unfold SetTable.turns;omega) (by omega) d.chain ⟨0,rfl,λm hm=>absurd hm (lKd _)⟩
end
section
variable {prog:Program}{w:World}{A:Around}{E:Value->Shared->Prop}{s:Shared}
theorem kK5{t t':SetTable}(hm:t'.mask=t.mask)(hp:∀j,j∈t.place.toList->j∈t'.place.toList){h:Int}{j:Nat}(c:St.Chain t h j):St.Chain t' h j:=by
 obtain⟨n,h1,h2⟩:=c;have ea:t'.advance=t.advance:=by funext p;unfold SetTable.advance;rw[hm]
 have eb:t'.probeStart h=t.probeStart h:=by unfold SetTable.probeStart;rw[hm]
 refine⟨n,by rw[ea,eb];exact h1,λk hk=> ?_⟩
 rw[ea,eb];exact hp _ (h2 k hk)
theorem zipE{α β:Type}{xs:List α}{ys:List β}(hl:xs.length=ys.length)(p:Nat){x:α}{y:β}{z:α×β}(h:z∈(xs.take p++x::xs.drop p).zip (ys.take p++y::ys.drop p)):z∈xs.zip ys\/z=(x,y):=by
 rw[List.zip_append (by simp[hl]),lV6] at h
 have e1:(xs.take p).zip (ys.take p)=(xs.zip ys).take p:=by rw[lYl,lYl,List.take_zipWith]
 have e2:(xs.drop p).zip (ys.drop p)=(xs.zip ys).drop p:=by rw[lYl,lYl,List.drop_zipWith]
 rw[e1,e2] at h
 (rcases lKb.mp h with h | h)
 .exact .inl (lZk h)
 .rcases (lJp.mp h) with h | h
  .exact .inr h
  .exact .inl (List.mem_of_mem_drop h)
theorem qZg{t:SetTable}{hs:List Int}(g:St.Good t hs){j:Nat}{h:Int}(he:t.slot j= .empty)(hc:St.Chain t h j):St.Good (t.put j).1 (hs.take (t.put j).2++h::hs.drop (t.put j).2):=by
 have hj:j∉t.place.toList:=by
  rcases St.slot_cases g.dum j with c | ⟨i,c,_⟩
  .exact c.2 g.ris
  .rw[c] at he;cases he
 have ep:(t.put j).1.place=SetTable.insertAt t.place (SetTable.below t.place j) j:=rfl
 have mem:∀q,q∈t.place.toList->q∈(t.put j).1.place.toList:=by
  intro q hq;rw[ep,SetTable.toList_insertAt];rw[<-lYm (SetTable.below t.place j) t.place.toList] at hq
  rcases (lKb.mp hq) with z | z
  ·(exact lK1 _ z)
  .exact lKs _ (lJ5 _ z)
 have hl:=g.len;refine⟨?_,?_,?_,?_⟩
 .rw[ep,<-lKm,SetTable.toList_insertAt];show _=(hs.take (SetTable.below t.place j)++h::hs.drop (SetTable.below t.place j)).length
  simp[hl]
 .rw[ep];exact St.insertAt_ris g.ris hj
 .show (if SetTable.has t.dummies j=true then _ else t.dummies)= #[]
  rw[g.dum,St.has_nil];rfl
 .intro x hx;rw[ep,SetTable.toList_insertAt] at hx
  rcases zipE (by simpa using hl) _ hx with z | rfl
  .exact kK5 (t:=t) (t':=(t.put j).1) rfl mem (g.chain x z)
  .exact kK5 (t:=t) (t':=(t.put j).1) rfl mem hc
def putE(p:Nat)(e:TKey×Addr)(es:List (TKey×Addr)):List (TKey×Addr):=es.take p++e::es.drop p
theorem jXs(p:Nat)(e:TKey×Addr)(es:List (TKey×Addr)):(putE p e es).Perm (e::es):=by
 unfold putE;refine List.perm_middle.trans ?_;rw[lYm]
theorem qQv{h:Heap}{a:Addr}{o:Obj}{arr:Array (Int×Value)}{ep:Nat}{t:SetTable}(ho:h.get? a=some o)(hd:o.data= .set arr ep t)(arr':Array (Int×Value))(t':SetTable):
  (h.update a (Obj.putSet arr' t')).get? a=some {o with data:= .set arr' (ep+1) t'}:=by
 have:=lV5 (Obj.putSet arr' t') ho (by rw[putSet_of arr' t' hd];rfl)
 rw[putSet_of arr' t' hd] at this;exact this
theorem kKr{α:Type}{l:List Nat}{xs:List α}(hp:l.Perm (List.range xs.length)):(l.filterMap (xs[·]?)).Perm xs:=by
 have:=hp.filterMap (λi=>xs[i]?)
 rw[List.filterMap_getElem?_range_length] at this;exact this
theorem jXv{α β:Type}(f:α->β)(xs:List α):∀l:List Nat,(l.filterMap (xs[·]?)).map f=l.filterMap ((xs.map f)[·]?)
 | []=>rfl
 | a::l=>by
  rw[lQ4,lQ4,lJj];cases xs[a]? with
  | none=>exact jXv f xs l
  | some x=>rw[lJq,jXv f xs l];rfl
theorem qXx{a:Addr}{o:Obj}{arr:Array (Int×Value)}{ep:Nat}{t:SetTable}{es:List (TKey×Addr)}(ho:s.heap.get? a=some o)(hex:o.ExactSet)(hd:o.data= .set arr ep t)(harr:arr.toList=es.map (entS prog w))(are:∀e,e∈es->(jJi prog w).is s.heap e.1 e.2)(hf:t.fits arr.size=true)(hpl:t.plain=true){wanted mask:Nat}(hw:SetTable.sizeAbove wanted-1=mask)(hl:SetTable.sizeAbove wanted<=sizeLine)(hM:MaskOk mask es.length){Q:Unit->Shared->Prop}
  (h:∀h' o' arr' ep' t' es',Heap.SameBut a s.heap h'->es'.Perm es->t'.led=t.led->SetD prog w h' a o' arr' ep' t' es'->Q () {s with heap:=h'}):wpAny (model prog w) A (setRelay a wanted) Q E s:=by
 have hsz:arr.size=es.length:=by rw[<-lKm,harr,lJg]
 obtain⟨hfull,hle,_⟩:=hM.full;obtain⟨t',order,e1,e2,e3,e4,e5,e6⟩:=St.laid_ok hfull t.finger (t.movedTo mask) t.led t.plain (arr.map (·.1)) (by rw[Array.size_map,hsz];exact hle)
 have e1':t.relaid (arr.map (·.1)) wanted=some (t',order):=by unfold SetTable.relaid;rw[hw];exact e1
 have hash_:(arr.map (·.1)).toList=hashes prog w es:=by
  rw[Array.toList_map,harr,lJr];rfl
 have po:order.toList.Perm (List.range es.length):=by
  have:=e5;rw[Array.size_map,hsz] at this;exact this
 have em:(order.filterMap (arr[·]?)).toList=(order.toList.filterMap (es[·]?)).map (entS prog w):=by
  rw[Array.toList_filterMap,jXv,<-harr];exact St.fm_congr λx _=>by rw[lK5]
 have pe:(order.toList.filterMap (es[·]?)).Perm es:=kKr po
 have sz2:(order.filterMap (arr[·]?)).size=es.length:=by rw[<-lKm,em,lJg,pe.length_eq]
 unfold setRelay
 (refine lJa (lZ3 ho hd hf ?_))
 dsimp only
 rw[lJb (Nat.not_lt.mpr hl)];refine lJa ?_
 refine (show wpAny (model prog w) A (do
  let some (t,order):=t.relaid (arr.map (·.1)) wanted | unsupported "internal:set-table-without-room"
  let es':=order.filterMap (arr[·]?)
  if es'.size != arr.size then unsupported "internal:set-table-lost-an-element"
  pure (es',t)) _ _ _ from ?_)
 rw[e1']
 dsimp only
 rw[lJb (by rw[sz2,hsz];simp)]
 refine lJd ?_
 dsimp only
 refine wpAny_storeSet_of ho hd ?_ (by rw[sz2,<-hsz,lKg];have:=hM;rcases hM with ⟨_,z⟩ | ⟨_,z⟩ | ⟨_,z⟩<;>omega)
 have sb:=lVt s.heap a (Obj.putSet (order.filterMap (arr[·]?)) t')
 have kp:TupKept s.heap _:=TupKept.same ho hex.1 sb;refine h _ _ _ _ t' (order.toList.filterMap (es[·]?)) sb pe e3 ⟨qQv ho hd _ _,hex,rfl,em,λe he=>jK1 kp (are e (pe.mem_iff.mp he)),?_,?_,e4.trans hpl⟩
 .have:=e6
  have e7:order.toList.filterMap ((arr.map (·.1))[·]?)=hashes prog w (order.toList.filterMap (es[·]?)):=by
   unfold hashes;rw[jXv];refine St.fm_congr λx _=> ?_
   rw[<-lK5,hash_];rfl
  rw[e7] at this;exact this
 .rw[pe.length_eq,e2];exact hM
theorem uX3{a:Addr}{o:Obj}{arr:Array (Int×Value)}{ep:Nat}{t:SetTable}{es:List (TKey×Addr)}(d:SetD prog w s.heap a o arr ep t es){k:TKey}{b:Addr}(hk:(jJi prog w).is s.heap k b)(hi:intT k=true)(hu:(jJi prog w).room A)(hn:es.length<76){Q:Bool->Shared->Prop}
  (h1:k∈es.map (·.1)->Q false s)
  (h2:k∉es.map (·.1)->∀h' o' arr' ep' t' es',Heap.SameBut a s.heap h'->es'.Perm ((k,b)::es)->t'.led=t.led->SetD prog w h' a o' arr' ep' t' es'->Q true {s with heap:=h'}):
  wpAny (model prog w) A (setAddHashed a (.ref b) ((jJi prog w).hash k)) Q E s:=by
 unfold setAddHashed;refine lKw ?_;unfold setAddHashedIn;refine lJa (d.state ?_)
 dsimp only
 rw[show byScan (.ref b) arr=false from rfl,lJb (by decide)]
 refine lJa (qJt d hk hu (λj hj hnk hc=> ?_) λz=>lJd (h1 z))
 dsimp only
 refine lJa (d.state ?_)
 dsimp only
 have hpl:(t.put j).1.plain=true:=d.plain;rw[lJc hpl];refine lJa (uQv hi hk ?_);simp only[↓reduceIte];have hsz:=d.size;have hlen:t.place.size=es.length:=by have l:=d.good.len;unfold hashes at l;rw[lJg] at l;exact l
 have g1:St.Good (t.put j).1 (hashes prog w (putE (t.put j).2 (k,b) es)):=by
  have:=qZg d.good hj hc;unfold hashes putE;rw[lKe,lJq,lXd,lXz];exact this
 have ae:(SetTable.insertAt arr (t.put j).2 ((jJi prog w).hash k,Value.ref b)).toList=(putE (t.put j).2 (k,b) es).map (entS prog w):=by
  rw[SetTable.toList_insertAt,d.arr_];unfold putE;rw[lKe,lJq,lXd,lXz];rfl
 have pl:=(jXs (t.put j).2 (k,b) es).length_eq;rw[lJ7] at pl
 have asz:(SetTable.insertAt arr (t.put j).2 ((jJi prog w).hash k,Value.ref b)).size=es.length+1:=by
  rw[<-lKm,ae,lJg,pl]
 refine lJa (wpAny_storeSet_of d.get d.data ?_ (by rw[asz,lKg];omega))
 have sb1:=lVt s.heap a (Obj.putSet (SetTable.insertAt arr (t.put j).2 ((jJi prog w).hash k,Value.ref b)) (t.put j).1);have kp1:TupKept s.heap _:=TupKept.same d.get d.exact_.1 sb1;have ob1:=qQv d.get d.data (SetTable.insertAt arr (t.put j).2 ((jJi prog w).hash k,Value.ref b)) (t.put j).1
 have are1:∀e,e∈putE (t.put j).2 (k,b) es->(jJi prog w).is (s.heap.update a (Obj.putSet (SetTable.insertAt arr (t.put j).2 ((jJi prog w).hash k,Value.ref b)) (t.put j).1)) e.1 e.2:=by
  intro e he
  rcases lJp.mp ((jXs _ _ _).mem_iff.mp he) with rfl | he
  .exact jK1 kp1 hk
  .exact jK1 kp1 (d.are e he)
 have fl:(t.put j).1.fill=es.length+1:=by
  have l:=g1.len;unfold hashes at l;rw[lJg,pl] at l;unfold SetTable.fill;rw[g1.dum,l];rfl
 have mk:(t.put j).1.mask=t.mask:=rfl
 by_cases full:(t.put j).1.tooFull=true
 .rw[full];simp only[Bool.not_false,Bool.and_self,↓reduceIte]
  have full':(es.length+1)*5>=t.mask*3:=by
   unfold SetTable.tooFull at full;rw[fl,mk] at full;exact lZy full
  have w1:SetTable.sizeAbove (SetTable.grown (arr.size+1))<=sizeLine/\MaskOk (SetTable.sizeAbove (SetTable.grown (arr.size+1))-1) (putE (t.put j).2 (k,b) es).length:=by
   rw[pl,hsz]
   rcases d.mask with ⟨e,z⟩ | ⟨e,z⟩ | ⟨e,z⟩
   .have:es.length=4:=by omega
    rw[this];exact⟨by rw[lKg];decide,.inr (.inl ⟨by decide,by omega⟩)⟩
   .have:es.length=18:=by omega
    rw[this];exact⟨by rw[lKg];decide,.inr (.inr ⟨by decide,by omega⟩)⟩
   .omega
  have ft:(t.put j).1.fits (SetTable.insertAt arr (t.put j).2 ((jJi prog w).hash k,Value.ref b)).size=true:=by
   have l:=g1.len;unfold hashes at l;rw[lJg,pl] at l;simp only[SetTable.fits,lKt,beq_iff_eq,lK7];refine⟨by rw[asz];exact l,?_⟩
   rw[fl,mk]
   rcases d.mask with ⟨e,z⟩ | ⟨e,z⟩ | ⟨e,z⟩<;>omega
  refine lJa (qXx (s:={s with heap:=s.heap.update a (Obj.putSet (SetTable.insertAt arr (t.put j).2 ((jJi prog w).hash k,Value.ref b)) (t.put j).1)}) ob1 d.exact_ rfl ae are1 ft hpl rfl w1.1 w1.2 λh' o' arr' ep' t' es' sb2 pe el d'=> ?_)
  exact lJd (h2 hnk h' o' arr' ep' t' es' (sb1.trans sb2) (pe.trans (jXs _ _ _)) el d')
 .rw[show (t.put j).1.tooFull=false from by simpa using full]
  simp only[Bool.and_false,lKi,↓reduceIte]
  have full':(es.length+1)*5<t.mask*3:=by
   unfold SetTable.tooFull at full;rw[fl,mk] at full
   simpa using full
  refine lJd (h2 hnk _ _ _ _ (t.put j).1 _ sb1 (jXs _ _ _) rfl ⟨ob1,d.exact_,rfl,ae,are1,g1,?_,hpl⟩);rw[pl,mk]
  rcases d.mask with ⟨e,_⟩ | ⟨e,_⟩ | ⟨e,_⟩
  .exact .inl ⟨e,by omega⟩
  .exact .inr (.inl ⟨e,by omega⟩)
  .exact .inr (.inr ⟨e,by omega⟩)
end
section
variable {w:World}{prog:Program}
def bt(w:World):Bool:=w.params.followText "set-order"
structure Put (es kb:List (TKey×Addr)):Prop where
 sub:∀e,e∈es->e∈kb
 all:∀e,e∈kb->e.1∈es.map (·.1)
 nod:(es.map (·.1)).Nodup
theorem Put.old{es kb:List (TKey×Addr)}(p:Put es kb){e:TKey×Addr}(h:e.1∈es.map (·.1)):Put es (kb++[e]):=by
 refine⟨λx hx=>lK1 _ (p.sub x hx),λx hx=> ?_,p.nod⟩
 rcases (lKb.mp hx) with z | z
 .exact p.all x z
 .rw[lJ0.mp z];exact h
theorem Put.new{es es' kb:List (TKey×Addr)}(p:Put es kb){e:TKey×Addr}(h:e.1∉es.map (·.1))(hp:es'.Perm (e::es)):Put es' (kb++[e]):=by
 have hm:(es'.map (·.1)).Perm (e.1::es.map (·.1)):=hp.map _
 refine⟨λx hx=> ?_,λx hx=> ?_,?_⟩
 .rcases lJp.mp (hp.mem_iff.mp hx) with rfl | z
  .exact lKs _ (lJ0.mpr rfl)
  .exact lK1 _ (p.sub x z)
 .refine hm.mem_iff.mpr ?_
  rcases (lKb.mp hx) with z | z
  .exact lJ5 _ (p.all x z)
  .rw[lJ0.mp z];exact lJ2 ..
 .exact hm.nodup_iff.mpr (lKn.mpr ⟨h,p.nod⟩)
theorem Put.few{es kb:List (TKey×Addr)}(p:Put es kb){us:List TKey}(h:∀e,e∈kb->e.1∈us):es.length<=us.length:=by
 have h1:(es.map (·.1)) ⊆ us:=by
  intro k hk;obtain⟨e,he,rfl⟩:=lJi.mp hk;exact h e (p.sub e he)
 have:=p.nod.length_le_of_subset h1
 simpa using this
theorem SetD.move{h h':Heap}{a:Addr}{o:Obj}{arr:Array (Int×Value)}{ep:Nat}{t:SetTable}{es:List (TKey×Addr)}(d:SetD prog w h a o arr ep t es)(hg:h'.get? a=some o)(kp:TupKept h h'):SetD prog w h' a o arr ep t es:=
 ⟨hg,d.exact_,d.data,d.arr_,λe he=>jK1 kp (d.are e he),d.good,d.mask,d.plain⟩
def SetIs(prog:Program)(w:World)(h:Heap)(a:Addr)(kb:List (TKey×Addr)):Prop:=∃o arr ep t es,SetD prog w h a o arr ep t es/\Put es kb/\t.led= !bt w
theorem SetIs.move{h h':Heap}{a:Addr}{kb:List (TKey×Addr)}(d:SetIs prog w h a kb)(hg:∀o,h.get? a=some o->h'.get? a=some o)(kp:TupKept h h'):SetIs prog w h' a kb:=by
 obtain⟨o,arr,ep,t,es,d,p,l⟩:=d;exact⟨o,arr,ep,t,es,d.move (hg o d.get) kp,p,l⟩
section
variable {A:Around}{R:Result->Shared->Prop}{I:Addr}{fp:List Addr}{G:Array GenState->Array GenState->Prop}{n:Nat}{P:Nat->Value->Prop}{St:Nat->Shared->Prop}
theorem kY3{wr:List Addr}{s s':Shared}(hm:Moved wr G s s')(hw:∀b o,b∈wr->s.heap.get? b=some o->o.cls≠ .type "tuple"):TupKept s.heap s'.heap:=by
 intro b o hb hc;exact hm.heap b o (λz=>hw b o z hb hc) hb
theorem qXo(W:WalksS prog w A.in1 I fp [I] G n P St)(S:Addr)(hSf:S∉fp)(hIt:∀i s o,St i s->s.heap.get? I=some o->o.cls≠ .type "tuple")(kb:List (TKey×Addr))(hu:(jJi prog w).room A.in1)(hk:∀e,e∈kb->intT e.1=true)
  (hval:∀i v,P i v->∃e,kb[i]? =some e/\v= .ref e.2) (hn:n=kb.length) {us:List TKey} (hus:us.length<76) (hkus:∀e,e∈kb->e.1∈us):
  ∀(q i:Nat)(s:Shared),n-i=q->i<=n->St i s->(∀e,e∈kb->(jJi prog w).is s.heap e.1 e.2)->SetIs prog w s.heap S (kb.take i)->
   (∀s',Moved (S::[I]) G s s'->SetIs prog w s'.heap S kb->R (.ok (.ret .none)) s')->codeAny (model prog w) A (.builtin "set.update.loop" ⟨[.ref S,.ref I],[]⟩) R s:=by
 have hSw:S∉[I]:=λh=>hSf (W.sub _ h)
 have hsub:∀b∈[I],b∈S::[I]:=λb hb=>lJ5 _ hb
 intro q
 induction q with
 | zero=>
  intro i s hq hi hst hks hS hR;have hin:i=n:=by omega
  subst hin;refine lQq mJc ?_;rw[lQ0 lYn _];refine (show wpAny _ A.in1 (pyNext (.ref I) >>= _) _ _ s from ?_)
  (refine lJa (W.done s _ _ hst λs' hm=> ?_))
  refine (show wpAny _ A.in1 (ret Value.none) _ _ s' from ?_)
  refine lJd (hR s' (hm.mono hsub) ?_);rw[hn,lQz] at hS;exact hS.move (λo e=>hm.heap S o hSw e) (kY3 hm λb o hb e=>by rw[lJ0.mp hb] at e;exact hIt _ _ _ hst e)
 | succ q ih=>
  intro i s hq hi hst hks hS hR;have hlt:i<n:=by omega
  refine lQq mJc ?_;rw[lQ0 lYn _];refine (show wpAny _ A.in1 (pyNext (.ref I) >>= _) _ _ s from ?_)
  (refine lJa (W.item i s _ _ hlt hst λv s' hP hst' hm=> ?_))
  obtain⟨⟨k,b⟩,he,rfl⟩:=hval i v hP;have hmem:(k,b)∈kb:=lJk he;have tk:=kY3 hm λb o hb e=>by rw[lJ0.mp hb] at e;exact hIt _ _ _ hst e
  have hS':=hS.move (h':=s'.heap) (λo e=>hm.heap S o hSw e) tk
  have hks':∀e,e∈kb->(jJi prog w).is s'.heap e.1 e.2:=λe he=>jK1 tk (hks e he)
  refine (show wpAny _ A.in1 (holding [Value.ref b] (setAdd S (.ref b)) >>= _) _ _ s' from ?_)
  (refine lJa (lKw ?_))
  unfold setAdd;refine lKw ?_;refine lJa ((jJi prog w).pyHash hu (hks' _ hmem) ?_);obtain⟨o,arr,ep,t,es,d,p,l⟩:=hS';have hl:=p.few λe he=>hkus e (lZk he)
  have tk1:kb.take (i+1)=kb.take i++[(k,b)]:=by
   rw[lQh,he];rfl
  refine uX3 (s:={s' with toks:=s'.toks+(jJi prog w).draws k}) d (hks' _ hmem) (hk _ hmem) hu (by omega) (λz=> ?_) (λz h' o' arr' ep' t' es' sb pe el d'=> ?_)
  .refine lJd ⟨lVe lYn _,ih (i+1) _ (by omega) hlt (W.frame _ s' _ _ hst' (lX0 _ _) λb hb o e=>e) hks' ?_ λs'' hm'' hS''=> ?_⟩
   .rw[tk1];exact⟨o,arr,ep,t,es,d,p.old z,l⟩
   .exact hR s'' (Moved.trans W.gtrans ((hm.mono hsub).then_heap (lX0 _ _) λb o hb e=>e) hm'') hS''
  .have tk2:TupKept s'.heap h':=TupKept.same d.get d.exact_.1 sb;refine lJd ⟨lVe lYn _,ih (i+1) _ (by omega) hlt (W.frame _ s' _ _ hst' (lX0 _ _) λb hb o e=> ?_) (λe he=>jK1 tk2 (hks' e he)) ?_ λs'' hm'' hS''=> ?_⟩
   .exact (sb.2 b (λz=>hSf (z▸hb))).trans e
   .rw[tk1];exact⟨o',arr',ep',t',es',d',p.new z pe,el.trans l⟩
   .refine hR s'' (Moved.trans W.gtrans ((hm.mono hsub).then_heap (lX0 _ _) λb o hb e=> ?_) hm'') hS''
    exact (sb.2 b (λz=>hb (by rw[z];exact lJ2 ..))).trans e
end
section
variable {E:Value->Shared->Prop}{s:Shared}{A:Around}
theorem qK8{led:Bool}(hl:led= !bt w){h:Heap}:SetIs prog w (h.push {cls:= .type "set",dict:=none,data:= .set #[] 0 (.fresh 0 0 led)}) h.objs.size []:=by
 refine⟨_,#[],0,_,[],⟨lJz _ rfl,⟨rfl,rfl,rfl⟩,rfl,rfl,λe he=>absurd he (lKp),⟨rfl,List.Pairwise.nil,rfl,λx hx=> ?_⟩,.inl ⟨rfl,lJx _⟩,rfl⟩,⟨λ_ h=>h,λe he=>absurd he (lKp),lVs⟩,hl⟩
 exact absurd hx (by simp[hashes])
theorem qXn(a:Value){Q₁:Value->Shared->Prop}
  (h:Q₁ (.ref s.heap.objs.size) {s with heap:=s.heap.push {cls:= .type "set",dict:=none,data:= .set #[] 0 (.fresh 0 0 (!bt w))} }):codeAny (model prog w) A (.call (.builtin "set.__new__") ⟨[.type "set",a],[]⟩) (wants Q₁ E) s:=by
 refine lZx ?_;refine (show wpAny _ A.in1 (do checkBuiltinCall "set.__new__" ⟨[.type "set",a],[]⟩;again (.builtin "set.__new__" ⟨[.type "set",a],[]⟩)) _ _ s from ?_)
 (refine lJa (lX8 (F.newCall_set_1 a) (lJd ⟨lVe F.plain_set_new _,lQq F.entry_set_new ?_⟩)))
 (rw[lQ0 F.plain_set_new _])
 (unfold Builtin.«set.__new__» Builtin.Frozenset.newClass)
 have hsub:=sub_set_self
 (obtain⟨hp,g,d,tk,os⟩:=s)
 dsimp only
 wp_walk
 (refine lYa (lJd ?_))
 dsimp only
 simp only[newObj]
 (refine lJa (wpAny_alloc (lJd ?_)))
 exact lJd h
def jVx(w:World):Obj:={cls:= .type "set",dict:=none,data:= .set #[] 0 (.fresh 0 0 (!bt w))}
set_option maxHeartbeats 3201000 in
theorem kQk{l:Addr}{items:Array Value}{kb:List (TKey×Addr)}{Q:Value->Shared->Prop}(hh:A.handled=none)(hu:A.units+20<cLine)(hl:s.heap.IsList l items)(hi:items.toList=kb.map λe=> .ref e.2)(hk:∀e,e∈kb->intT e.1=true/\(jJi prog w).is s.heap e.1 e.2){us:List TKey}(hus:us.length<76)(hkus:∀e,e∈kb->e.1∈us)
  (h:∀(h':Heap)(tk:Nat),SetIs prog w h' s.heap.objs.size kb->(∀b o,s.heap.get? b=some o->h'.get? b=some o)->Q (.ref s.heap.objs.size) {s with heap:=h',toks:=tk}):wpAny (model prog w) A (call (.type "set") [.ref l]) Q E s:=by
 (obtain⟨c,tl,hmro⟩:=lVm.mro)
 (have hmade:=lVm.made)
 have hsub:=lVm.sub;have hsz:items.size=kb.length:=by rw[<-lKm,hi,lJg]
 (refine wpAny_call (lZx ?_))
 refine (show wpAny _ _ (callAny (.type "set") _) _ _ _ from ?_)
 (refine lJd ⟨Code.quiet_builtin _ (by decide +kernel),lQq F.entry_type_call ?_⟩)
 (rw[Around.under_plain (weight_type_call_type "set" [.ref l] []) rfl])
 (have h1:=lVm.notType)
 (have h2:=lVm.canCreate)
 (have hct:=F.typeCall_set_1 (.ref l))
 (repeat (any_goals (first | assumption | wp_step)))
 refine lX6 (qXn (.ref l) (E:=E) (Q₁:=λobj s₁=>obj= .ref s.heap.objs.size/\s₁={s with heap:=s.heap.push (jVx w)}) ⟨rfl,rfl⟩) λr s₁ hr=> ?_
 cases r with
 | error e=>exact hr
 | ok fl=>
  cases fl with
  | ret obj=>
   obtain⟨rfl,rfl⟩:=hr;have hS:(s.heap.push (jVx w)).get? s.heap.objs.size=some (jVx w):=lJz _ rfl;have hT:Shared.TypeIs {s with heap:=s.heap.push (jVx w)} (.ref s.heap.objs.size) "set":=⟨_,hS,rfl⟩
   (have hli:=lVm.init.lookup)
   (have hbi:=lVm.init.bind (.ref s.heap.objs.size))
   (repeat (any_goals (first | assumption | wp_step)))
   refine lX6 (codeAny_call_builtin (R:=wants (λr s₂=>r= .none/\∃h' tk,s₂={s with heap:=h',toks:=tk}/\SetIs prog w h' s.heap.objs.size kb/\(∀b o,s.heap.get? b=some o->h'.get? b=some o)) E) lVm.init.plain F.entry_set_init (check_set_init_1 hT ?_)) λr₂ s₂ hr₂=> ?_
   ·(obtain⟨ol,hol,hcl,nl,hdl⟩:=hl)
    (obtain⟨ocls,odict,odata,oslots⟩:=ol)
    simp only at hcl hdl;subst hcl;subst hdl;have hol':(s.heap.push (jVx w)).get? l=some {cls:= .type "list",dict:=odict,data:= .seq items nl,slots:=oslots}:=lJm _ hol;have hsls:=F.sub_list_set
    (have hslf:=F.sub_list_frozenset)
    (have hne:(Value.type "list" == Value.type "dict")=false:=by decide)
    have hl1:(s.heap.push (jVx w)).IsList l items:=⟨_,hol',rfl,nl,rfl⟩
    (unfold Builtin.«set.__init__» noKeywords Builtin.Frozenset.updateFrom)
    generalize hPI:pyIter=PI
    unfold jVx at hS hol' hl1 ⊢
    wp_walk
    subst hPI
    (refine lZv hl1 ?_)
    (refine lJa (lY1 ?_))
    (have hlS:l<s.heap.objs.size:=lJl hol)
    (have hh3:A.in1.in1.in1.handled=none:=by simp[hh])
    have hneI:l≠(s.heap.push (jVx w)).objs.size:=by
     (rw[lXu];exact lJt (lZl hlS))
    have hSf:s.heap.objs.size∉[(s.heap.push (jVx w)).objs.size,l]:=by
     rw[lXu];simp only[lJp,lKp,lVd,not_or]
     (exact⟨lJt (lX1 _),lQ5 hlS⟩)
    have hval:∀(i:Nat)(v:Value),items[i]? =some v->∃e,kb[i]? =some e/\v= .ref e.2:=by
     intro i v hv;rw[<-lK5,hi,lJj] at hv;obtain⟨e,e1,e2⟩:=lK3.mp hv;exact⟨e,e1,e2.symm⟩
    have up:∀b o,s.heap.get? b=some o->((s.heap.push (jVx w)).push {cls:= .type "list_iterator",data:= .fields #[.ref l,.int 0 0]}).get? b=some o:=λb o e=>lJm _ (lJm _ e)
    refine qXo (A:=A.in1.in1) ((Walks.list hh3 _ l hneI items).toS) s.heap.objs.size hSf ?hIt kb ?hu (λe he=>(hk e he).1) hval hsz hus hkus (items.size-0) 0 _ (by omega) (lJx _) ⟨⟨_,lJz _ rfl,rfl,rfl⟩,(hl1.push _)⟩ ?hks ?hS0 ?hR
    case hIt=>
     rintro i s2 o2 ⟨⟨o3,e3,c3,_⟩,_⟩ e2;rw[e3] at e2;cases e2;rw[c3];decide
    case hu=>
     show A.in1.in1.in1.units+6<cLine
     rw[lK8,lK8,lK8];omega
    case hks=>
     exact λe he=>jK1 (λb o e _=>up b o e) (hk e he).2
    case hS0=>
     exact (qK8 (prog:=prog) (w:=w) rfl (h:=s.heap)).move (λo e=>lJm _ e) λb o e _=>lJm _ e
    case hR=>
     intro s' hm hS'
     (obtain⟨h',g',d',tk',os'⟩:=s')
     cases (show g'=s.gens from hm.gens)
     cases (show d'=s.drawn from hm.drawn)
     cases (show os'=s.os from hm.os)
     refine (show wpAny _ _ _ _ _ _ from lJd ?_)
     refine (show wpAny _ _ (ret Value.none) _ _ _ from lJd ⟨rfl,h',tk',rfl,hS',λb o e=> ?_⟩)
     have hb:=lJl e;refine hm.heap b o ?_ (up b o e);simp only[lJp,lKp,lVd,not_or];exact⟨lJt hb,by rw[lXu];exact lJt (lZl hb)⟩
   .cases r₂ with
    | error e=>exact hr₂
    | ok fl₂=>
     cases fl₂ with
     | ret r=>
      (obtain⟨rfl,h',tk,rfl,hS',hk'⟩:=hr₂)
      (repeat (any_goals (first | assumption | wp_step)))
      exact h _ _ hS' hk'
     | _=>exact hr₂.elim
  | _=>exact hr.elim
end
end
namespace Si
theorem own:Manifest.owners.lookup (String.ofList ['r','o','t','a','r','e','t','i','_','t','e','s'].reverse)=some Manifest.sig_set_iterator:=by kernel_rfl
theorem slot_next:Slot "set_iterator" "__next__" "set_iterator.__next__":=
 .of (owner:="set_iterator") (n:="__next__") (by rw[lYy,lYz];kernel_rfl) (by decide +kernel) (by decide +kernel) (by decide +kernel) (by first | exact .inl (by decide +kernel) | exact .inr (by decide +kernel)) (by rw[lY0];kernel_rfl)
theorem entry_next:entryFor table "set_iterator.__next__"=some Builtin.«set_iterator.__next__» :=entryFor_of_tree (by kernel_rfl)
theorem args_next(a:Value):argsOk "set_iterator.__next__" ⟨[a],[]⟩:=by
 unfold argsOk;rw[signature?_of (id:="set_iterator.__next__") (n:=['_','_','t','x','e','n','_','_']) (o:=['r','o','t','a','r','e','t','i','_','t','e','s']) (by kernel_rfl) own];kernel_rfl
theorem entry_iter:entryFor table "set.__iter__"=some Builtin.«frozenset.__iter__» :=entryFor_alias (id':="frozenset.__iter__") (by kernel_rfl) rfl (by decide +kernel) (by kernel_rfl)
theorem slot_iter:Slot "set_iterator" "__iter__" "set_iterator.__iter__":=
 .of (owner:="set_iterator") (n:="__iter__") (by rw[lYy,lYz];kernel_rfl) (by decide +kernel) (by decide +kernel) (by decide +kernel) (by first | exact .inl (by decide +kernel) | exact .inr (by decide +kernel)) (by rw[lY0];kernel_rfl)
theorem entry_it:entryFor table "set_iterator.__iter__"=some Builtin.«dict_keyiterator.__iter__» :=entryFor_alias (id':="dict_keyiterator.__iter__") (by kernel_rfl) rfl (by decide +kernel) (by kernel_rfl)
theorem args_it(a:Value):argsOk "set_iterator.__iter__" ⟨[a],[]⟩:=by
 unfold argsOk;rw[signature?_of (id:="set_iterator.__iter__") (n:=['_','_','r','e','t','i','_','_']) (o:=['r','o','t','a','r','e','t','i','_','t','e','s']) (by kernel_rfl) own];kernel_rfl
end Si
section
variable {prog:Program}{w:World}{A:Around}{E:Value->Shared->Prop}{s:Shared}
theorem SetD.stateB{h0:Heap}{S:Addr}{o:Obj}{arr:Array (Int×Value)}{ep:Nat}{t:SetTable}{es:List (TKey×Addr)}(d:SetD prog w h0 S o arr ep t es)(hg:s.heap.get? S=some o){Q:(Array (Int×Value)×Nat×SetTable)->Shared->Prop}(h:Q (arr,ep,t) s):wpAny (model prog w) A (setState S) Q E s:=
 lZ3 hg d.data d.fits h
theorem qY3{S:Addr}{o:Obj}{arr:Array (Int×Value)}{ep:Nat}{t:SetTable}{es:List (TKey×Addr)}(d:SetD prog w s.heap S o arr ep t es){Q:Value->Shared->Prop}
  (hQ:Q (.ref s.heap.objs.size) {s with heap:=s.heap.push {cls:= .type "set_iterator",data:= .fields #[.int 0 0,.int 0 0,.ref S,.int es.length 0,.int ep 0]} }):wpAny (model prog w) A (pyIter (.ref S)) Q E s:=by
 have hT:s.TypeIs (.ref S) "set":=⟨o,d.get,d.exact_.1⟩;refine lZz hT PySem.F.slot_set_iter (lK6 PySem.F.slot_set_iter hT Si.entry_iter ?_ (PySem.F.args_set_iter_1 _));unfold Builtin.«frozenset.__iter__» Builtin.Frozenset.slot0 slotArgs
 (simp only[List.isEmpty_nil,lXo,lKi,↓reduceIte,bind_assoc,lQd,bne_self_eq_false])
 (unfold Builtin.Frozenset.addrOf Builtin.Frozenset.sizeOf)
 refine lJa (lJd ?_)
 try dsimp only
 refine lJa (lJd ?_);simp only[setEntries,setDrawn,bind_assoc];refine lJa (d.state ?_);refine lJa (lJd (lJa (lJd (lJa (d.state ?_)))))
 dsimp only[setsByText]
 refine lJa (lJa (lYa (lJd (lJa (lJd ?_)))));rw[lJb (λz=> ?_)]
 ·(refine lJa (lJd ?_))
  unfold setEpoch;refine lJa (lJa (d.state (lJd ?_)));refine lJa (lKl (lJd ⟨_,rfl,"set_iterator",_,⟨_,lJz _ rfl,rfl⟩,Si.slot_next.lookup,?_⟩));have:=d.size
  simpa[rawInt,this] using hQ
 .have z':(!(w.params.followText "set-order")&&(!t.plain&&decide (arr.size>1)))=true:=z;rw[d.plain] at z';simp at z'
theorem kK1{α:Type}:∀{l:List α}{i:Nat}(h:i<l.length),(l[i]::l.eraseIdx i).Perm l
 | a::l,0,_=> .refl _
 | a::l,i+1,h=>by
  have hi:i<l.length:=by simpa using h
  exact (List.Perm.swap _ _ _).trans (List.Perm.cons a (kK1 hi))
theorem qQ3{α:Type}(next:Nat->Nat):∀(fuel k:Nat)(left:List α)(out:Array α),fuel=left.length->(pickOrder.go next fuel k left out).toList.Perm (out.toList++left)
 | 0,k,left,out,h=>by
  have:left=[]:=lZc h.symm;subst this;rw[lQ2];exact .refl _
 | fuel+1,k,left,out,h=>by
  have hl:next k%left.length<left.length:=lQm _ (by omega)
  unfold pickOrder.go;rw[lJf hl]
  dsimp only
  refine (qQ3 next fuel (k+1) _ _ (by rw[List.length_eraseIdx_of_lt hl];omega)).trans ?_
  rw[Array.toList_push,lQ7]
  (refine List.Perm.append_left _ ?_)
  rw[List.singleton_append];exact kK1 hl
theorem qQ2{α:Type}(next:Nat->Nat)(xs:Array α):(pickOrder next xs).toList.Perm xs.toList:=by
 have:=qQ3 next xs.size 0 xs.toList #[] (by simp)
 rw[show (#[]:Array α).toList++xs.toList=xs.toList from rfl] at this
 exact this
def ordS(w:World)(S:Addr)(ep:Nat)(arr:Array (Int×Value)):Array (Int×Value):=if bt w=true then pickOrder (w.params.setOrder S ep) arr else arr
theorem jXt(w:World)(S:Addr)(ep:Nat)(arr:Array (Int×Value)):(ordS w S ep arr).toList.Perm arr.toList:=by
 unfold ordS;split
 .exact qQ2 _ _
 .exact .refl _
def jVv(w:World)(t:SetTable)(i:Nat):Nat:=if bt w=true then 0 else if i=0 then 0 else t.place.getD (i-1) 0+1
theorem qKm{t:SetTable}{hs:List Int}(g:St.Good t hs)(hb:bt w=false){i:Nat}(hi:i<=t.place.size):SetTable.below t.place (jVv w t i)=i:=by
 unfold jVv;rw[hb,lJb (by decide)]
 by_cases c:i=0
 .subst c;exact St.below_zero g.ris
 .rw[lJb c,St.getD_at (by omega),St.below_next g.ris (by omega)]
  omega
theorem kKo{h0:Heap}{S:Addr}{o:Obj}{arr:Array (Int×Value)}{ep:Nat}{t:SetTable}{es:List (TKey×Addr)}(d:SetD prog w h0 S o arr ep t es)(hg:s.heap.get? S=some o)(hl:t.led= !bt w){i:Nat}(hi:i<=arr.size){Q:Option (Value×Nat)->Shared->Prop}
  (hQ:Q (((ordS w S ep arr)[i]?).map λe=>(e.2,jVv w t (i+1))) s):wpAny (model prog w) A (setNext S (jVv w t i) i ep) Q E s:=by
 have hp:t.place.size=arr.size:=by
  have l:=d.good.len;unfold hashes at l;rw[lJg] at l;rw[l,d.size]
 unfold setNext;refine lJa (d.stateB hg ?_)
 dsimp only[setsByText]
 (refine lJa (lJa (lYa (lJd ?_))))
 refine (show wpAny _ _ (if bt w=true then _ else _) _ _ _ from ?_)
 cases hb:bt w with
 | true=>
  rw[lJc rfl,lJb (by simp)]
  unfold setWalk;refine lJa (lJa (d.stateB hg ?_))
  dsimp only[setsByText]
  (refine lJa (lJa (lYa (lJd ?_))))
  refine (show wpAny _ _ (if bt w=true then _ else _) _ _ _ from ?_)
  rw[hb,lJc rfl];refine lJa (lYa (lJd (lJd ?_)));have e1:jVv w t i=jVv w t (i+1):=by unfold jVv;rw[hb];rfl
  unfold ordS at hQ;rw[hb,lJc rfl,<-e1] at hQ;exact hQ
 | false=>
  rw[lJb (by decide)]
  rw[lJb (λz=> ?_)]
  .refine lJa (m:=(if (!t.led&& !arr.isEmpty)=true then unsupported "set:maker-not-led" else pure ())) ?_
   rw[hl,hb];simp only[Bool.not_false,lXo,Bool.false_and,lKi,↓reduceIte]
   (refine lJd (lJd ?_))
   rw[qKm d.good hb (by omega)]
   unfold ordS at hQ;rw[hb,lJb (by decide)] at hQ
   by_cases c:i<arr.size
   .have hi':i<t.place.size:=by omega
    rw[lKu c,lKu hi'];rw[lKu c] at hQ
    dsimp only
    have e1:jVv w t (i+1)=t.place[i]+1:=by
     unfold jVv;rw[hb,lJb (by decide),lJb (by omega),Nat.add_sub_cancel,St.getD_at hi']
    rw[e1] at hQ;exact hQ
   .rw[lQk (by omega)]
    rw[lQk (by omega)] at hQ
    exact hQ
  .have z':(!t.plain&&decide (arr.size>1))=true:=z;rw[d.plain] at z';simp at z'
def qKh(S:Addr)(ep n slot i:Nat):Obj:={cls:= .type "set_iterator",dict:=none,data:= .fields #[.int slot 0,.int i 0,.ref S,.int n 0,.int ep 0],slots:= #[]}
theorem qYm{h0:Heap}{S I:Addr}{o:Obj}{arr:Array (Int×Value)}{ep:Nat}{t:SetTable}{es:List (TKey×Addr)}(d:SetD prog w h0 S o arr ep t es)(hl:t.led= !bt w)(hg:s.heap.get? S=some o){i:Nat}(hI:s.heap.get? I=some (qKh S ep arr.size (jVv w t i) i)){e:Int×Value}(he:(ordS w S ep arr)[i]? =some e){Q:Option Value->Shared->Prop}
  (hQ:∀h',Heap.SameBut I s.heap h'->h'.get? I=some (qKh S ep arr.size (jVv w t (i+1)) (i+1))->Q (some e.2) {s with heap:=h'}):wpAny (model prog w) A (pyNext (.ref I)) Q E s:=by
 have hT:s.TypeIs (.ref I) "set_iterator":=⟨_,hI,rfl⟩;have hsz:(ordS w S ep arr).size=arr.size:=by rw[<-lKm,(jXt w S ep arr).length_eq,lKm]
 have hi:i<arr.size:=by have:=(mJb.mp he).1;omega
 unfold pyNext;refine lJa (lX9 (lVc (name:=Str.ofString "__next__") hT Si.slot_next (lK6 Si.slot_next hT Si.entry_next ?_ (Si.args_next _))));unfold Builtin.«set_iterator.__next__»;refine lJa (lJd ?_);refine lJa (lXn hI rfl ?_)
 dsimp only
 unfold setEntries;refine lJa (lJa (d.stateB hg (lJd ?_)))
 dsimp only
 rw[lJb (by simp)]
 simp only[lV7];refine lJa (kKo d hg hl (lQ3 hi) ?_);rw[he]
 dsimp only[Option.map_some]
 refine lJa (lZ4 hI (by simp) λh1 e1 sb1=> ?_)
 refine lJa (lZ4 (s:={s with heap:=h1}) e1 (by simp) λh2 e2 sb2=> ?_)
 refine lJd ⟨_,rfl,lJd (hQ h2 (sb1.trans sb2) ?_)⟩
 simpa[rawInt,qKh] using e2
theorem uQ1{h0:Heap}{S I:Addr}{o:Obj}{arr:Array (Int×Value)}{ep:Nat}{t:SetTable}{es:List (TKey×Addr)}(d:SetD prog w h0 S o arr ep t es)(hl:t.led= !bt w)(hh:A.handled=none)(hg:s.heap.get? S=some o)(hI:s.heap.get? I=some (qKh S ep arr.size (jVv w t arr.size) arr.size)){Q:Option Value->Shared->Prop}
  (hQ:∀h',Heap.ExtBut I s.heap h'->Q none {s with heap:=h'}):wpAny (model prog w) A (pyNext (.ref I)) Q E s:=by
 have hT:s.TypeIs (.ref I) "set_iterator":=⟨_,hI,rfl⟩;have hsz:(ordS w S ep arr).size=arr.size:=by rw[<-lKm,(jXt w S ep arr).length_eq,lKm]
 unfold pyNext;refine lJa (lX9 (lVc (name:=Str.ofString "__next__") hT Si.slot_next (lK6 Si.slot_next hT Si.entry_next ?_ (Si.args_next _))));unfold Builtin.«set_iterator.__next__»;refine lJa (lJd ?_);refine lJa (lXn hI rfl ?_)
 dsimp only
 unfold setEntries;refine lJa (lJa (d.stateB hg (lJd ?_)))
 dsimp only
 rw[lJb (by simp)]
 simp only[lV7];refine lJa (kKo d hg hl (lJh _) ?_);rw[lQk (by omega)]
 dsimp only[Option.map_none]
 refine lJa (lZ4 hI (by simp) λh1 e1 sb1=> ?_)
 refine (show wpAny _ _ (newExc (.type "StopIteration") [] >>= _) _ _ _ from lJa ?_)
 simp only[newExc,newTuple];refine lJa (lKl ?_ (by size_fits));refine lJa (m:=firstArgMember _ _) (lX8 (a:=Value.none) (by first | rfl | (simp only[firstArgMember];rfl)) (lKl ?_ (by size_fits)))
 simp only[raiseNew];refine lJa (wpAny_handled ?_);rw[show A.in1.handled=none from hh];refine lJa (lJd (wpAny_throw ?_))
 exact lJa (lXk (T:="StopIteration") (b:=true) ⟨_,lJz _ rfl,rfl⟩ isSubtype_stop (lJd (hQ _ ((sb1.extBut.push _).push _))))
theorem qKv{h0:Heap}{S I:Addr}{o:Obj}{arr:Array (Int×Value)}{ep:Nat}{t:SetTable}{es:List (TKey×Addr)}(d:SetD prog w h0 S o arr ep t es)(hl:t.led= !bt w)(hh:A.handled=none)(hIS:I≠S):
  WalksS prog w A I [I,S] [I] (λa b=>b=a) arr.size (λi v=>((ordS w S ep arr)[i]?).map (·.2)=some v) (λi s=>s.heap.get? S=some o/\s.heap.get? I=some (qKh S ep arr.size (jVv w t i) i)) where
 sub:=λb hb=>by rw[lJ0.mp hb];exact lJ2 ..
 grefl:=λ_=>rfl
 gtrans:=λ_ _ _ h1 h2=>(h2.trans h1)
 frame:=λi s h' _ st _ hk=>⟨hk S (by simp) _ st.1,hk I (by simp) _ st.2⟩
 item:=by
  intro i s Q E hi st hQ;have hsz:(ordS w S ep arr).size=arr.size:=by rw[<-lKm,(jXt w S ep arr).length_eq,lKm]
  refine qYm d hl st.1 st.2 (e:=(ordS w S ep arr)[i]) (lKu (by omega)) λh' sb e=> ?_
  refine hQ _ _ (by rw[lKu (by omega)];rfl) ⟨(sb.2 S (λz=>hIS z.symm)).trans st.1,e⟩ ⟨λb ob hb e=> ?_,rfl,rfl,rfl,lJh _⟩
  exact (sb.2 b (λz=>hb (lJ0.mpr z))).trans e
 done:=by
  intro s Q E st hQ;refine uQ1 d hl hh st.1 st.2 λh' eb=>hQ _ ⟨λb ob hb e=> ?_,rfl,rfl,rfl,lJh _⟩
  exact eb b ob (λz=>hb (lJ0.mpr z)) e
 self:=by
  intro i s Q E st hQ;have hT:s.TypeIs (.ref I) "set_iterator":=⟨_,st.2,rfl⟩;refine lZz hT Si.slot_iter (lK6 Si.slot_iter hT Si.entry_it ?_ (Si.args_it _));exact (show wpAny _ _ (ret (.ref I)) _ _ s from lJd ⟨_,rfl,"set_iterator",_,hT,Si.slot_next.lookup,hQ⟩)
theorem qZa{S:Addr}{o:Obj}(hg:s.heap.get? S=some o)(hc:o.cls= .type "set"){Q:Bool->Shared->Prop}(h:Q false s):wpAny (model prog w) A (Builtin.List.listLengthHint (.ref S)) Q E s:=by
 have hT:s.TypeIs (.ref S) "set":=⟨o,hg,hc⟩
 (unfold Builtin.List.listLengthHint)
 refine lJa (lXj hT PySem.F.slot_set_len.lookup ?_)
 generalize hn:("set.__len__":String)=nm
 wp_delta
 rw[show splitId nm=some ("set","__len__") by subst hn;decide +kernel];subst hn
 refine lJa (lXk (T:="set") (b:=true) hT (by rw[lY0];kernel_rfl) (lV2 (λz=>absurd z (by decide)) λ_=> ?_))
 refine lV2 (λ_=> ?_) λz=>absurd (by decide +kernel) z
 exact lJa (lVp hT (lJd h))
theorem qKj{R:Result->Shared->Prop}{S L:Addr}{o:Obj}{arr:Array (Int×Value)}{ep:Nat}{t:SetTable}{es:List (TKey×Addr)}(d:SetD prog w s.heap S o arr ep t es)(hl:t.led= !bt w)(hh:A.handled=none)(res:Value)(c0:Nat)
  (hL:s.heap.get? L=some {cls:= .type "list",data:= .seq #[] c0}) (hLS:L≠S)
  (hR:∀(g:Heap)(tk:Nat)(acc:Array Value)(c':Nat),(∀b ob,b≠L->s.heap.get? b=some ob->g.get? b=some ob)->g.get? L=some {cls:= .type "list",dict:=none,data:= .seq acc c',slots:= #[]}->ItemsOf (λi v=>((ordS w S ep arr)[i]?).map (·.2)=some v) acc arr.size->R (.ok (.ret res)) {s with heap:=g,toks:=tk}):
  wpAny (model prog w) A.in1 (Builtin.List.listExtendWith (.ref L) (.ref S) res) (λfin z=>match fin with | .done f=>R (.ok f) z | .again c'=>c'.quiet=true/\codeAny (model prog w) A c' R z) (λe z=>R (.error e) z) s:=by
 have hT:s.TypeIs (.ref S) "set":=⟨o,d.get,d.exact_.1⟩;have hIS:s.heap.objs.size≠S:=lQ5 (lJl d.get);have hIL:L≠s.heap.objs.size:=lJt (lJl hL);have hSf:L∉[s.heap.objs.size,S]:=by simp[hIL,hLS]
 have asz:arr.size<=sizeLine:=by
  rw[d.size,lKg]
  rcases d.mask with ⟨_,z⟩ | ⟨_,z⟩ | ⟨_,z⟩<;>omega
 (unfold Builtin.List.listExtendWith)
 (refine lJa (lVp hT ?_))
 have z1:Builtin.List.listSameRef (.ref L) (.ref S)=false:=by simp[Builtin.List.listSameRef,hLS]
 have z2:(Value.type "set" == Value.type "list")=false:=by decide
 have z3:(Value.type "set" == Value.type "tuple")=false:=by decide
 simp only[z1,z2,z3,Bool.or_false,lKi,lJ6];refine lJa (qY3 d ?_);refine lJa (lKw (qZa (o:=o) (lJm _ d.get) d.exact_.1 ?_));refine lV2 (λ_=> ?_) λz=>absurd (by decide +kernel) z
 refine lJa (wpAny_rule ?_)
 generalize hg1:s.heap.push {cls:=Value.type "set_iterator",data:=Data.fields #[Value.int 0 0,Value.int 0 0,Value.ref S,Value.int (es.length:Int) 0,Value.int (ep:Int) 0]}=h1
 have hI1:h1.get? s.heap.objs.size=some (qKh S ep arr.size (jVv w t 0) 0):=by
  rw[<-hg1,d.size,show jVv w t 0=0 by unfold jVv;split<;>rfl]
  exact lJz _ rfl
 have up:∀b ob,s.heap.get? b=some ob->h1.get? b=some ob:=λb ob e=>by rw[<-hg1];exact lJm _ e
 have hL1:=up L _ hL;refine lJa ?_;refine (show wpAny _ A.in1 (updateSeq L (·.push .none) >>= λ_=>updateSeq L (·.pop)) _ _ {s with heap:=h1} from ?_)
 refine lJa (wpAny_updateSeq hL1 rfl ?_);have hL2:=lV5 (Obj.mapSeq (·.push Value.none)) hL1 rfl
 refine wpAny_updateSeq (s:={s with heap:=h1.update L (Obj.mapSeq (·.push Value.none))}) hL2 rfl ?_
 have hL3:=lV5 (Obj.mapSeq (·.pop)) hL2 rfl
 have oth:∀b ob,b≠L->h1.get? b=some ob->((h1.update L (Obj.mapSeq (·.push Value.none))).update L (Obj.mapSeq (·.pop))).get? b=some ob:=
  λb ob hb e=>(lYf _ _ (Ne.symm hb)).trans ((lYf _ _ (Ne.symm hb)).trans e)
 refine lJd ⟨lVe F.plain_extend_loop _,?_⟩;refine codeAny_extend_loopS (qKv (A:=A.in1) d hl hh hIS) asz L hSf res arr.size 0 _ #[] _ rfl (lJx _) ⟨oth S o (Ne.symm hLS) (up S o d.get),oth _ _ (Ne.symm hIL) hI1⟩ hL3 (ItemsOf.nil _) λz acc c' hm hL' hacc=> ?_
 rw[Moved.eq_with hm];refine hR z.heap z.toks acc c' (λb ob hb e=>hm.heap b ob ?_ (oth b ob hb (up b ob e))) hL' hacc
 simp only[lJp,lKp,lVd,not_or];exact⟨hb,lJt (lJl e)⟩
theorem kYp{S:Addr}{o:Obj}{arr:Array (Int×Value)}{ep:Nat}{t:SetTable}{es:List (TKey×Addr)}(d:SetD prog w s.heap S o arr ep t es)(hl:t.led= !bt w)(hh:A.handled=none){Q:List Value->Shared->Prop}
  (hQ:∀(g:Heap)(tk:Nat)(acc:List Value),(∀b ob,s.heap.get? b=some ob->g.get? b=some ob)->s.heap.objs.size<g.objs.size->acc.Perm (es.map λe=> .ref e.2)->Q acc {s with heap:=g,toks:=tk}):wpAny (model prog w) A (collect (.ref S)) Q E s:=by
 have hLS:s.heap.objs.size≠S:=lQ5 (lJl d.get)
 have key:∀R:Result->Shared->Prop,(∀(g:Heap)(tk:Nat)(acc:Array Value)(c':Nat),(∀b ob,s.heap.get? b=some ob->g.get? b=some ob)->g.get? s.heap.objs.size=some {cls:= .type "list",dict:=none,data:= .seq acc c',slots:= #[]}->ItemsOf (λi v=>((ordS w S ep arr)[i]?).map (·.2)=some v) acc arr.size->R (.ok (.ret (.ref s.heap.objs.size))) {s with heap:=g,toks:=tk})->
   codeAny (model prog w) A (.builtin "proto.collect" ⟨[.ref S],[]⟩) R s:=by
  intro R hR;refine lQq lZd ?_
  (rw[lQ0 lZe _])
  refine (show wpAny _ A.in1 (newList [] >>= λl=>again (.builtin "list.__iadd__" ⟨[l,.ref S],[]⟩)) _ _ s from lJa (lKl (lJd ⟨lVe lV9 _,lQq lZf ?_⟩)))
  (rw[lQ0 lV9 _])
  have hS1:(s.heap.push {cls:= .type "list",data:= .seq ([]:List Value).toArray}).get? s.heap.objs.size=some {cls:= .type "list",data:= .seq ([]:List Value).toArray}:=lJz _ rfl;have d1:SetD prog w (s.heap.push {cls:= .type "list",data:= .seq ([]:List Value).toArray}) S o arr ep t es:=d.move (lJm _ d.get) λb ob e _=>lJm _ e
  exact qKj (A:=A) (R:=R) (s:={s with heap:=s.heap.push {cls:= .type "list",data:= .seq ([]:List Value).toArray} }) d1 hl hh (.ref s.heap.objs.size) 0 hS1 hLS λg tk acc c' kp hL' hacc=>hR g tk acc c' (λb ob e=>kp b ob (lJt (lJl e)) (lJm _ e)) hL' hacc
 unfold collect;refine lJa (lY1 (key _ λg tk acc c' kp hL' hacc=>(show wpAny _ A (load s.heap.objs.size >>= _) _ _ _ from lJa (wpAny_load hL' (lJd (hQ g tk acc.toList kp (lJl hL') ?_))))))
 have e1:acc.toList=(ordS w S ep arr).toList.map (·.2):=by
  have hsz:(ordS w S ep arr).size=arr.size:=by rw[<-lKm,(jXt w S ep arr).length_eq,lKm]
  apply lKh;intro i;rw[lJj,lK5,lK5]
  by_cases hi:i<acc.size
  .have:=hacc.2 i acc[i] (lKu hi);rw[lKu hi];exact this.symm
  .rw[lQk (by omega),lQk (by rw[hsz,<-hacc.1];omega)]
   rfl
 rw[e1];refine ((jXt w S ep arr).map _).trans ?_;rw[d.arr_,lJr];exact .refl _
end
end L3
namespace L3
open PySem PySem.Spec PyProof.Rows L2
noncomputable def lexLt{K:Type}[DecidableEq K](lt:K->K->Option Bool):List K->List K->Option Bool
 | [],[]=>some false
 | [],_::_=>some true
 | _::_,[]=>some false
 | x::xs,y::ys=>if x=y then lexLt lt xs ys else lt x y
def ltI:Key->Key->Option Bool
 | .inl i,.inl j=>some (decide (i<j))
 | _,_=>none
def ltS{K:Type}[DecidableEq K](lt:K->K->Option Bool):Key ⊕ List K->Key ⊕ List K->Option Bool
 | .inl x,.inl y=>ltI x y
 | .inr x,.inr y=>lexLt lt x y
 | _,_=>none
def ltK:TKey->TKey->Option Bool:=lexLt (ltS (ltS ltI))
section
variable {prog:Program}{w:World}{K:Type}[DecidableEq K]{c:Nat}
def LtV(V:KeyV prog w K c)(lt:K->K->Option Bool):Prop:=∀{A:Around}{E:Value->Shared->Prop}{s:Shared}{x y:K}{u v:Value}{b:Bool}{Q:Value->Shared->Prop},A.units+c<cLine->V.is s.heap x u->V.is s.heap y v->lt x y=some b->Q (.bool b) s->wpAny (model prog w) A (compareOp .Lt u v) Q E s
theorem qUq:LtV (jY2 prog w) ltI:=by
 intro A E s x y u v b Q _ hx hy hl h
 rcases jJv (show jXe x u=true from hx) with ⟨i,t,rfl,rfl⟩ | ⟨i,t,rfl,rfl⟩
 .rcases jJv (show jXe y v=true from hy) with ⟨j,t',rfl,rfl⟩ | ⟨j,t',rfl,rfl⟩
  .cases hl;exact PyProof.Rows.lt_int h
  .cases hl
 .cases hl
open PySem.SeqAt in
open PySem.AutoSeq1 (wpAny_loadPart') in
open PySem.MeetsSeq PySem.MeetsSeq2 PySem.MeetsSeq3 in
theorem uV7{V:KeyV prog w K c}{lt:K->K->Option Bool}(hV:LtV V lt):LtV (jUk V) (lexLt lt):=by
 rintro A E s x y u v b Q hu ⟨a1,o1,its1,n1,rfl,ho1,hc1,hd1,hi1⟩ ⟨a2,o2,its2,n2,rfl,ho2,hc2,hd2,hi2⟩ hl h;obtain⟨cls,dd,data,sl⟩:=o1;obtain⟨cls2,dd2,data2,sl2⟩:=o2;simp only at hc1 hd1 hc2 hd2;subst hc1 hd1 hc2 hd2;have hT1:s.TypeIs (.ref a1) "tuple":=⟨_,ho1,rfl⟩;have hT2:s.TypeIs (.ref a2) "tuple":=⟨_,ho2,rfl⟩;refine (show wpAny _ _ (richCompare .Lt (.ref a1) (.ref a2)) _ _ s from wpAny_richCompare_same_room hT1 hT2 PySem.F.slot_tuple_lt (lK6 PySem.F.slot_tuple_lt hT1 PySem.F.entry_tuple_lt ?_ (PySem.F.args_tuple_lt_2 _ _)) (by omega))
 have f2:=AutoSeq1.sub_tuple_tuple
 (obtain⟨hp,g,d,tk,os⟩:=s)
 have z1:its1.size=x.length:=by rw[hi1.length];simp
 have z2:its2.size=y.length:=by rw[hi2.length];simp
 wp_walk using wpAny_loadPart' ho1,wpAny_loadPart' ho2,wpAny_forIn_list _ (λrest bb s'=>bb.1=none/\s'=⟨hp,g,d,tk,os⟩/\∃(vs ws:List Value)(x' y':List K),rest=vs.zip ws/\ItemsV V hp x' vs/\ItemsV V hp y' ws/\x'.length+its2.size=y'.length+its1.size/\lexLt lt x' y'=some b) _
 case turn=>
  rintro⟨p,q⟩ rest bb s' ⟨hb',rfl,vs,ws,x',y',hz,hv1,hv2,hlen,hR⟩;cases hv1 with
  | nil=>rw[List.zip_nil_left] at hz;cases hz
  | @cons k1 v1 ks1 vs1 h1 hv1'=>
   cases hv2 with
   | nil=>rw[List.zip_nil_right] at hz;cases hz
   | @cons k2 v2 ks2 vs2 h2 hv2'=>
    rw[lV6] at hz;injection hz with hyx hrest
    injection hyx with hy hx
    subst hy hx;simp only[lJ7] at hlen;have he:=V.eqAt (A:=A.in1) (s:=⟨hp,g,d,tk,os⟩) (by rw[lK8];omega) h1 h2
    refine lJa (he prog w _ _ ?_)
    by_cases e:k1=k2
    .have hR':lexLt lt ks1 ks2=some b:=by
      have:=hR;unfold lexLt at this;rw[lJc e] at this;exact this
     rw[lKf e]
     wp_walk
     exact⟨rfl,rfl,_,_,_,_,hrest,hv1',hv2',by omega,hR'⟩
    .have hR':lt k1 k2=some b:=by
      have:=hR;unfold lexLt at this;rw[lJb e] at this;exact this
     rw[lJ4 e];have hri:∀{Q':Value->Shared->Prop}{E':Value->Shared->Prop},Q' (.bool b) ⟨hp,g,d,tk,os⟩->wpAny (model prog w) A.in1 (richCompare .Lt p q) Q' E' ⟨hp,g,d,tk,os⟩:=λhq=>(hV (A:=A.in1) (s:=⟨hp,g,d,tk,os⟩) (by rw[lK8];omega) h1 h2 hR' hq:wpAny (model prog w) A.in1 (compareOp .Lt p q) _ _ _)
     wp_walk using hri
     exact⟨_,rfl,(λz=>nomatch z),h⟩
 case fin=>
  rintro⟨b1,b2⟩ s' ⟨hb',rfl,vs,ws,x',y',hz,hv1,hv2,hlen,hR⟩;simp only at hb';subst hb'
  have hv:b=decide (its1.size<its2.size):=by
   cases hv1 with
   | nil=>
    cases hv2 with
    | nil=>simp only[lQd] at hlen;cases hR;exact (lJ4 (by omega)).symm
    | cons _ _=>simp only[lQd,lJ7] at hlen;cases hR;exact (lKf (by omega)).symm
   | cons _ hv1'=>
    cases hv2 with
    | nil=>simp only[lQd,lJ7] at hlen;cases hR;exact (lJ4 (by omega)).symm
    | cons _ _=>rw[lV6] at hz;cases hz
  wp_walk
  refine⟨_,rfl,(λz=>nomatch z),?_⟩
  simpa[Builtin.Tuple.tupleCompareSizes,<-hv] using h
 case h=>
  exact⟨rfl,rfl,its1.toList,its2.toList,x,y,rfl,hi1,hi2,by omega,hl⟩
theorem uJ5{V:KeyV prog w K c}{lt:K->K->Option Bool}(hV:LtV V lt):LtV (qJo V) (ltS lt):=by
 rintro A E s (x | x) (y | y) u v b Q hu hx hy hl h
 .exact qUq (by omega) hx hy hl h
 .cases hl
 .cases hl
 .exact uV7 hV hu hx hy hl h
end
end L3
namespace L3
open PySem PySem.Spec PyProof.Rows L2 PySem.W
def Rn{α:Type}(n:Nat)(lt:Nat->Nat->Bool):KasT α->(α->Prop)->Prop
 | .ret a,Q=>Q a
 | .ask i j k,Q=>i<n/\j<n/\Rn n lt (k (lt i j)) Q
theorem Rn.mono{α:Type}{n:Nat}{lt:Nat->Nat->Bool}{Q Q':α->Prop}(hq:∀a,Q a->Q' a):∀{t:KasT α},Rn n lt t Q->Rn n lt t Q'
 | .ret a,h=>hq a h
 | .ask i j k,h=>⟨h.1,h.2.1,Rn.mono hq (t:=k (lt i j)) h.2.2⟩
theorem Rn.bind{α β:Type}{n:Nat}{lt:Nat->Nat->Bool}{f:α->KasT β}{Q:β->Prop}:∀{t:KasT α},Rn n lt t (λa=>Rn n lt (f a) Q)->Rn n lt (t.bind f) Q
 | .ret a,h=>h
 | .ask i j k,h=>⟨h.1,h.2.1,Rn.bind (t:=k (lt i j)) h.2.2⟩
theorem Rn.wp{α:Type}{n:Nat}{lt:Nat->Nat->Bool}{cmp:Nat->Nat->(Bool->Shared->Prop)->Shared->Prop}{s:Shared}{Q:α->Prop}{R:α->Shared->Prop}(hc:∀i j C,i<n->j<n->C (lt i j) s->cmp i j C s)(hr:∀a,Q a->R a s):∀{t:KasT α},Rn n lt t Q->t.kasWp cmp R s
 | .ret a,h=>hr a h
 | .ask i j k,h=>hc i j _ h.1 h.2.1 (Rn.wp hc hr (t:=k (lt i j)) h.2.2)
structure SOrd (n:Nat) (lt:Nat->Nat->Bool):Prop where
 neg:∀i j,i<n->j<n->i≠j->lt j i= !lt i j
 tr:∀i j k,i<n->j<n->k<n->lt i j=true->lt j k=true->lt i k=true
section
variable {n:Nat}{lt:Nat->Nat->Bool}
def Pm(n:Nat)(p:Array Nat):Prop:=p.toList.Perm (List.range n)
theorem Pm.size{p:Array Nat}(h:Pm n p):p.size=n:=by have:=h.length_eq;simpa using this
theorem Pm.bd{p:Array Nat}(h:Pm n p)(hn:0<n)(i:Nat):p.getD i 0<n:=by
 by_cases c:i<p.size
 .have e:p.getD i 0=p[i]:=by simp[Array.getD,c]
  rw[e];have:p[i]∈List.range n:=h.mem_iff.mp (by simp)
  exact lJw.mp this
 .have e:p.getD i 0=0:=by simp[Array.getD,c]
  rw[e];exact hn
theorem Pm.ne{p:Array Nat}(h:Pm n p){i j:Nat}(hi:i<n)(hj:j<n)(hij:i≠j):p.getD i 0≠p.getD j 0:=by
 have hs:=h.size;have nd:p.toList.Nodup:=h.nodup_iff.mpr lXc;have e1:p.getD i 0=p[i]:=by simp[Array.getD,hs,hi]
 have e2:p.getD j 0=p[j]:=by simp[Array.getD,hs,hj]
 rw[e1,e2];intro z;have:=(List.getElem_inj (xs:=p.toList) (h₀:=by simpa[hs] using hi) (h₁:=by simpa[hs] using hj) nd).mp (by simpa using z)
 exact hij this
theorem Pm.rev{p:Array Nat}(h:Pm n p)(i j:Nat):Pm n (kas_rev p i j):=(mJd.mp (mirror_perm p i j _)).trans h
theorem Pm.bub{p:Array Nat}(h:Pm n p)(i j:Nat):Pm n (bubble p i j):=(mJd.mp (bubble_perm p i j)).trans h
def Srt(lt:Nat->Nat->Bool)(p:Array Nat)(m:Nat):Prop:=∀a b,a<b->b<m->lt (p.getD a 0) (p.getD b 0)=true
theorem qV5(O:SOrd n lt){p:Array Nat}(hp:Pm n p)(hn:0<n):∀(f a:Nat),1<=a->a+f<=n->Srt lt p a->Rn n lt (kas_asc p f a) (λm=>a<=m/\m<=a+f/\Srt lt p m/\(m<a+f->lt (p.getD m 0) (p.getD (m-1) 0)=true))
 | 0,a,_,_,hs=>⟨lJh _,lJh _,hs,λz=>absurd z (by omega)⟩
 | f+1,a,h1,hf,hs=>by
  refine⟨hp.bd hn _,hp.bd hn _,?_⟩;cases c:lt (p.getD a 0) (p.getD (a-1) 0) with
  | true=>dsimp only;rw[if_pos rfl];exact⟨Nat.le_refl _,by omega,hs,λ_=>c⟩
  | false=>
   dsimp only
   rw[lJb (by decide)]
   have up:lt (p.getD (a-1) 0) (p.getD a 0)=true:=by
    have:=O.neg _ _ (hp.bd hn a) (hp.bd hn (a-1)) (hp.ne (by omega) (by omega) (by omega))
    rw[c] at this;exact this
   have hs':Srt lt p (a+1):=by
    intro x y hxy hy
    by_cases e:y=a
    .subst e
     by_cases e2:x=y-1
     .subst e2;exact up
     .exact O.tr _ _ _ (hp.bd hn _) (hp.bd hn _) (hp.bd hn _) (hs x (y-1) (by omega) (by omega)) up
    .exact hs x y hxy (by omega)
   refine (qV5 O hp hn f (a+1) (by omega) (by omega) hs').mono λm hm=>⟨by omega,by omega,hm.2.2.1,λz=>hm.2.2.2 (by omega)⟩
def Dsc(lt:Nat->Nat->Bool)(p:Array Nat)(m:Nat):Prop:=∀a b,a<b->b<m->lt (p.getD b 0) (p.getD a 0)=true
theorem qVn(O:SOrd n lt){p:Array Nat}(hp:Pm n p)(hn:0<n):∀(f a:Nat),1<=a->a+f<=n->Dsc lt p a->Rn n lt (kas_desc f p a 0) (λr=>r.1=p/\a<=r.2.1/\r.2.1<=a+f/\r.2.2=0/\Dsc lt p r.2.1)
 | 0,a,_,_,hs=>⟨rfl,lJh _,lJh _,rfl,hs⟩
 | f+1,a,h1,hf,hs=>by
  refine⟨hp.bd hn _,hp.bd hn _,?_⟩;cases c:lt (p.getD a 0) (p.getD (a-1) 0) with
  | true=>
   dsimp only
   rw[lJc rfl,lJb (by omega)]
   have hs':Dsc lt p (a+1):=by
    intro x y hxy hy
    by_cases e:y=a
    .subst e
     by_cases e2:x=y-1
     .subst e2;exact c
     .exact O.tr _ _ _ (hp.bd hn _) (hp.bd hn _) (hp.bd hn _) c (hs x (y-1) (by omega) (by omega))
    .exact hs x y hxy (by omega)
   exact (qVn O hp hn f (a+1) (by omega) (by omega) hs').mono λr hr=>⟨hr.1,by omega,by omega,hr.2.2.2⟩
  | false=>
   dsimp only
   rw[lJb (by decide)]
   have up:lt (p.getD (a-1) 0) (p.getD a 0)=true:=by
    have:=O.neg _ _ (hp.bd hn a) (hp.bd hn (a-1)) (hp.ne (by omega) (by omega) (by omega))
    rw[c] at this;exact this
   refine⟨hp.bd hn _,hp.bd hn _,?_⟩;rw[up]
   dsimp only
   rw[lJc rfl];exact⟨rfl,lJh _,lX0 _ _,rfl,hs⟩
theorem qQh{p:Array Nat}{m k:Nat}(hm:m<=p.size)(hk:k<m):(kas_rev p 0 m).getD k 0=p.getD (m-1-k) 0:=by
 have:=getElem?_mirror_all (xs:=p) (i:=0) (j:=m) hm k;rw[lJc ⟨lJx _,hk⟩,lXa] at this;unfold kas_rev;rw[lVw,lVw,this]
theorem uKw{p:Array Nat}{m:Nat}(hm:m<=p.size)(h:Dsc lt p m):Srt lt (kas_rev p 0 m) m:=by
 intro a b hab hb;rw[qQh hm (by omega),qQh hm hb]
 exact h _ _ (by omega) (by omega)
theorem uKj(O:SOrd n lt){p:Array Nat}(hp:Pm n p)(hn:0<n){m:Nat}(h1:1<=m)(hm:m<=n)(h:Dsc lt p m):Rn n lt (kas_tail3 m n p) (λr=>Pm n r.2/\1<=r.1/\r.1<=n/\Srt lt r.2 r.1):=by
 unfold kas_tail3;refine Rn.bind ((qV5 O (hp.rev 0 m) hn (n-m) m h1 (by omega) (uKw (by rw[hp.size];exact hm) h)).mono λx hx=> ?_)
 exact⟨hp.rev 0 m,by omega,by omega,hx.2.2.1⟩
theorem qZu(O:SOrd n lt){p:Array Nat}(hp:Pm n p)(hn:0<n):Rn n lt (kas_count n p) (λr=>Pm n r.2/\1<=r.1/\r.1<=n/\Srt lt r.2 r.1):=by
 unfold kas_count;refine Rn.bind ((qV5 O hp hn (n-1) 1 (lJh _) (by omega) (λa b h1 h2=>by omega)).mono λm hm=> ?_)
 by_cases e:m=n
 .rw[lJc (by simpa using e)]
  exact⟨hp,by omega,by omega,hm.2.2.1⟩
 .rw[lJb (by simpa using e)]
  have dn:=hm.2.2.2 (by omega)
  by_cases c:m>1
  .rw[lJc c];refine⟨hp.bd hn _,hp.bd hn _,?_⟩;rw[hm.2.2.1 0 (m-1) (by omega) (by omega)]
   dsimp only
   rw[lJc rfl];exact⟨hp,by omega,by omega,hm.2.2.1⟩
  .rw[lJb c];have m1:m=1:=by omega
   subst m1;unfold kas_descPart;refine Rn.bind ((qVn O hp hn (n-(1+1)) (1+1) (by omega) (by omega) ?_).mono λr hr=> ?_)
   .intro a b h1 h2;have:a=0:=by omega
    have:b=1:=by omega
    subst a;subst b;exact dn
   .obtain⟨q,a,z⟩:=r;obtain⟨r1,r2,r3,r4,r5⟩:=hr;simp only at r1 r2 r3 r4 r5;subst r1;subst r4;rw[lJb (by simp)]
    exact uKj O hp hn (m:=a) (by omega) (by omega) r5
theorem kQ3(O:SOrd n lt){p:Array Nat}(hp:Pm n p)(hn:0<n){k:Nat}(hk:k<n)(hs:Srt lt p k):∀(f l r:Nat),l<=r->r<=k->r-l<=f->(∀i,i<l->lt (p.getD i 0) (p.getD k 0)=true)->(∀i,r<=i->i<k->lt (p.getD k 0) (p.getD i 0)=true)->
  Rn n lt (kas_place p k f l r) (λm=>m<=k/\(∀i,i<m->lt (p.getD i 0) (p.getD k 0)=true)/\(∀i,m<=i->i<k->lt (p.getD k 0) (p.getD i 0)=true))
 | 0,l,r,h1,h2,h3,h4,h5=>by
  have e:r=l:=by omega
  subst e;exact⟨h2,h4,h5⟩
 | f+1,l,r,h1,h2,h3,h4,h5=>by
  unfold kas_place
  by_cases c:l>=r
  .rw[lJc c];have e:r=l:=by omega
   subst e;exact⟨h2,h4,h5⟩
  .rw[lJb c];refine⟨hp.bd hn _,hp.bd hn _,?_⟩;cases q:lt (p.getD k 0) (p.getD ((l+r) / 2) 0) with
   | true=>
    dsimp only
    rw[lJc rfl];refine kQ3 O hp hn hk hs f l _ (by omega) (by omega) (by omega) h4 λi hi1 hi2=> ?_
    by_cases e:i=(l+r) / 2
    .subst e;exact q
    .exact O.tr _ _ _ (hp.bd hn _) (hp.bd hn _) (hp.bd hn _) q (hs _ _ (by omega) hi2)
   | false=>
    dsimp only
    rw[lJb (by decide)]
    have up:lt (p.getD ((l+r) / 2) 0) (p.getD k 0)=true:=by
     have:=O.neg _ _ (hp.bd hn k) (hp.bd hn ((l+r) / 2)) (hp.ne hk (by omega) (by omega))
     rw[q] at this;exact this
    refine kQ3 O hp hn hk hs f _ r (by omega) h2 (by omega) (λi hi=> ?_) h5
    by_cases e:i=(l+r) / 2
    .subst e;exact up
    .exact O.tr _ _ _ (hp.bd hn _) (hp.bd hn _) (hp.bd hn _) (hs _ _ (by omega) (by omega)) up
theorem qVz{p:Array Nat}{k l x:Nat}(hk:k<p.size)(hl:l<=k):(bubble p k (k-l)).getD x 0=if x=l then p.getD k 0 else if l<x/\x<=k then p.getD (x-1) 0 else p.getD x 0:=by
 have:=getElem?_bubble hk (k-l) (by omega) x
 rw[show k-(k-l)=l by omega] at this
 simp only[lVw];rw[this];split
 .rfl
 .split<;>rfl
theorem uKd(O:SOrd n lt)(hn:0<n):∀(f:Nat)(p:Array Nat)(k:Nat),Pm n p->k+f=n->Srt lt p k->Rn n lt (kas_bin f p k) (λq=>Pm n q/\Srt lt q n)
 | 0,p,k,hp,hf,hs=>by
  have:k=n:=by omega
  subst this;exact⟨hp,hs⟩
 | f+1,p,k,hp,hf,hs=>by
  unfold kas_bin;refine Rn.bind ((kQ3 O hp hn (by omega) hs k 0 k (lJx _) (lJh _) (by omega) (λi hi=>by omega) (λi h1 h2=>by omega)).mono λl hl=> ?_)
  refine uKd O hn f _ (k+1) (hp.bub k (k-l)) (by omega) ?_
  obtain⟨l1,l2,l3⟩:=hl;have hk:k<p.size:=by rw[hp.size];omega
  intro a b hab hb;rw[qVz hk l1,qVz hk l1]
  by_cases ea:a=l
  .rw[lJc ea,lJb (by omega),lJc (by omega)]
   exact l3 _ (by omega) (by omega)
  .rw[lJb ea]
   by_cases eb:b=l
   .rw[lJb (by omega),lJc eb]
    exact l2 a (by omega)
   .rw[lJb eb]
    by_cases ca:l<a/\a<=k
    .rw[lJc ca,lJc (by omega)]
     (exact hs _ _ (by omega) (by omega))
    .rw[lJb ca]
     by_cases cb:l<b/\b<=k
     .rw[lJc cb]
      (exact hs _ _ (by omega) (by omega))
     .rw[lJb cb]
      (exact hs _ _ (by omega) (by omega))
theorem uKp(O:SOrd n lt)(hn:0<n):Rn n lt (kas_sort n) (λp=>Pm n p/\Srt lt p n):=by
 unfold kas_sort;have hp:Pm n (List.toArray (List.range n)):= .refl _;refine Rn.bind ((qZu O hp hn).mono λr hr=> ?_)
 obtain⟨m,q⟩:=r;obtain⟨h1,h2,h3,h4⟩:=hr;simp only at h1 h2 h3 h4 ⊢
 by_cases c:m<n
 .rw[lJc c,show max m 1=m by omega]
  exact uKd O hn (n-m) q m h1 (by omega) h4
 .rw[lJb c];have:m=n:=by omega
  subst this;exact⟨h1,h4⟩
end
structure KOrd {K:Type} (lt:K->K->Option Bool):Prop where
 neg:∀ {a b},a≠b->∀ {c},lt a b=some c->lt b a=some !c
 tr:∀ {a b c},a≠b->b≠c->lt a b=some true->lt b c=some true->lt a c=some true
 ir:∀ {a b},a≠b->lt a b=some true->lt b a=some true->False
theorem kord_I:KOrd ltI:=by
 refine⟨?_,?_,?_⟩
 .rintro (a | a) (b | b) h c e
  .have hab:a≠b:=λz=>h (by rw[z])
   simp only[ltI,lQi] at e ⊢;rw[<-e]
   by_cases q:a<b
   .rw[lKf q,lJ4 (by omega)];rfl
   .rw[lJ4 q,lKf (by omega)];rfl
  .cases e
  .cases e
  .cases e
 .rintro (a | a) (b | b) (c | c) _ _ e1 e2<;>first | cases e1;done | cases e2;done | skip
  simp only[ltI,lQi,lK7] at e1 e2 ⊢;omega
 .rintro (a | a) (b | b) _ e1 e2<;>first | cases e1;done | skip
  simp only[ltI,lQi,lK7] at e1 e2;omega
section
variable {K:Type}[DecidableEq K]{lt:K->K->Option Bool}
theorem kX9(o:KOrd lt):∀{a b:List K},a≠b->∀ {c},lexLt lt a b=some c->lexLt lt b a=some !c
 | [],[],h,_,_=>absurd rfl h
 | [],_::_,_,c,e=>by cases e;rfl
 | _::_,[],_,c,e=>by cases e;rfl
 | x::xs,y::ys,h,c,e=>by
  unfold lexLt at e ⊢
  by_cases q:x=y
  .rw[lJc q] at e;rw[lJc q.symm];exact kX9 o (λz=>h (by rw[q,z])) e
  .rw[lJb q] at e;rw[lJb (λz=>q z.symm)]
   exact o.neg q e
theorem kZn(o:KOrd lt):∀{a b c:List K},lexLt lt a b=some true->lexLt lt b c=some true->lexLt lt a c=some true
 | [],[],_,e,_=>by cases e
 | _::_,[],_,e,_=>by cases e
 | [],_::_,[],_,e=>by cases e
 | [],_::_,_::_,_,_=>(rfl)
 | _::_,_::_,[],_,e=>by cases e
 | x::xs,y::ys,z::zs,e1,e2=>by
  unfold lexLt at e1 e2 ⊢
  by_cases q1:x=y
  .subst q1;rw[lJc rfl] at e1
   by_cases q2:x=z
   .rw[lJc q2] at e2 ⊢;exact kZn o e1 e2
   .rw[lJb q2] at e2 ⊢;exact e2
  .rw[lJb q1] at e1
   by_cases q2:y=z
   .subst q2;rw[lJb q1];exact e1
   .rw[lJb q2] at e2
    by_cases q3:x=z
    .subst q3;exact (o.ir q1 e1 e2).elim
    .rw[lJb q3];exact o.tr q1 q2 e1 e2
theorem kUb(o:KOrd lt):KOrd (lexLt lt):=by
 refine⟨?_,?_,?_⟩
 .intro a b h c e;exact kX9 o h e
 .intro a b c _ _ e1 e2;exact kZn o e1 e2
 .intro a b h e1 e2;have:=kX9 o h e1;rw[e2] at this;cases this
theorem kZo(o:KOrd lt):KOrd (ltS lt):=by
 refine⟨?_,?_,?_⟩
 .rintro (a | a) (b | b) h c e
  .exact kord_I.neg (λz=>h (by rw[z])) e
  .cases e
  .cases e
  .exact (kUb o).neg (λz=>h (by rw[z])) e
 .rintro (a | a) (b | b) (c | c) h1 h2 e1 e2<;>first | cases e1;done | cases e2;done | skip
  .exact kord_I.tr (λz=>h1 (by rw[z])) (λz=>h2 (by rw[z])) e1 e2
  .exact kZn o e1 e2
 .rintro (a | a) (b | b) h e1 e2<;>first | cases e1;done | skip
  .exact kord_I.ir (λz=>h (by rw[z])) e1 e2
  .exact (kUb o).ir (λz=>h (by rw[z])) e1 e2
end
theorem kord:KOrd ltK:=kUb (kZo (kZo kord_I))
theorem uQi{a b c:TKey}(h1:ltK a b=some true)(h2:ltK b c=some true):ltK a c=some true:=kZn (kZo (kZo kord_I)) h1 h2
def kUe:TKey->Bool->Prop
 | .inl _::_,b=>b=true
 | .inr _::_,b=>b=false
 | [],_=>False
section
variable {prog:Program}{w:World}{A:Around}{E:Value->Shared->Prop}{s:Shared}
theorem kVj{Q:Bool->Shared->Prop}{b:Bool}{n1 n2:Nat}{c:Bool}(hu:A.units+6<cLine)(hq:Q c s):∀(i:Nat)(x y:TKey)(vs ws:List Value),ItemsV (vk2 prog w) s.heap x vs->ItemsV (vk2 prog w) s.heap y ws->x.length+n2=y.length+n1->lexLt (ltS (ltS ltI)) x y=some c->((b&&i == 0)=true->(∀k,k∈x->i=0->x.head? =some k->∃z,k= .inl z)/\(∀k,k∈y->i=0->y.head? =some k->∃z,k= .inl z))->
  KatLex prog w A b (decide (n1<n2)) Q (vs.zip ws) i s
 | i,_,_,_,_,.nil,.nil,hn,hl,_=>by
  simp only[lQd] at hn;cases hl;refine kat_nil ?_;rw[lJ4 (by omega)];exact hq
 | i,_,_,_,_,.nil,.cons _ _,hn,hl,_=>by
  simp only[lQd,lJ7] at hn;cases hl;refine kat_nil ?_;rw[lKf (by omega)];exact hq
 | i,_,_,_,_,.cons _ _,.nil,hn,hl,_=>by
  simp only[lQd,lJ7] at hn;cases hl;refine kat_nil ?_;rw[lJ4 (by omega)];exact hq
 | i,_,_,_,_,@ItemsV.cons _ _ _ _ _ _ _ k1 v1 ks1 vs1 h1 t1,@ItemsV.cons _ _ _ _ _ _ _ k2 v2 ks2 vs2 h2 t2,hn,hl,hb=>by
  simp only[lJ7] at hn;rw[lV6];refine kat_cons (((vk2 prog w).eqAt (by omega) h1 h2) prog w _ _ ?_)
  unfold lexLt at hl
  by_cases e:k1=k2
  .rw[lJc e] at hl;rw[lKf e];refine kat_yes (kVj hu hq (i+1) _ _ _ _ t1 t2 (by omega) hl λz=> ?_)
   simp at z
  .rw[lJb e] at hl;rw[lJ4 e];refine kat_no ?_;cases q:(b&&i == 0) with
   | false=>exact kat_one _ _ (uJ5 (uJ5 qUq) (by omega) h1 h2 hl hq)
   | true=>
    have hi:i=0:=by simp at q;exact q.2
    obtain⟨z1,z2⟩:=hb q;obtain⟨a,rfl⟩:=z1 k1 (lJ2 ..) hi rfl;obtain⟨a',rfl⟩:=z2 k2 (lJ2 ..) hi rfl
    rcases jJv (show jXe a v1=true from h1) with ⟨p,t,rfl,rfl⟩ | ⟨p,t,rfl,rfl⟩
    .rcases jJv (show jXe a' v2=true from h2) with ⟨p',t',rfl,rfl⟩ | ⟨p',t',rfl,rfl⟩
     .cases hl;exact oneLt_int hq
     .cases hl
    .cases hl
theorem uX1{b:Bool}{x y:TKey}{a1 a2:Addr}{c:Bool}{Q:Bool->Shared->Prop}(hu:A.units+6<cLine)(h1:(jJi prog w).is s.heap x a1)(h2:(jJi prog w).is s.heap y a2)(hl:ltK x y=some c)(hx:kUe x b)(hy:kUe y b)(hq:Q c s):wpAny (model prog w) A (keyLt' (tuples' b) (.ref a1) (.ref a2)) Q E s:=by
 obtain⟨p1,o1,its1,n1,e1,ho1,hc1,hd1,hi1⟩:=(show kJ3 _ _ _ _ from h1)
 obtain⟨p2,o2,its2,n2,e2,ho2,hc2,hd2,hi2⟩:=(show kJ3 _ _ _ _ from h2)
 cases e1;cases e2;refine kat_lt ho1 hd1 ho2 hd2 (kVj hu hq 0 x y _ _ hi1 hi2 ?_ hl λz=> ?_)
 .have l1:=hi1.length;have l2:=hi2.length;simp at l1 l2;omega
 .have hb:b=true:=by simpa using z
  subst hb;refine⟨λk _ _ hk=> ?_,λk _ _ hk=> ?_⟩
  .match x,hx,hk with
   | .inl u::_,_,e=>cases e;exact⟨u,rfl⟩
  .match y,hy,hk with
   | .inl u::_,_,e=>cases e;exact⟨u,rfl⟩
def tyOf(b:Bool):Value:=if b=true then .type "int" else .type "tuple"
theorem kVi{b:Bool}:∀(es:List (TKey×Addr)),(∀e,e∈es->(jJi prog w).is s.heap e.1 e.2/\kUe e.1 b/\intT e.1=true)->∃fs,KatTups s.heap (es.map λe=> .ref e.2) fs/\fs.length=es.length/\∀v,v∈fs->Looks (model prog w) s.heap (typeOf v) (tyOf b)
 | [],_=>⟨[],.nil,rfl,λv hv=>absurd hv (lKp)⟩
 | (k,a)::es,h=>by
  obtain⟨fs,t,l,hf⟩:=kVi es λe he=>h e (lJ5 _ he)
  obtain⟨h1,h2,h3⟩:=h (k,a) (lJ2 ..);obtain⟨p1,o1,its1,n1,e1,ho1,hc1,hd1,hi1⟩:=(show kJ3 _ _ _ _ from h1)
  cases e1
  match k,h2,h3,hi1 with
  | .inl u::ks,hb,h3,hi=>
   cases (show b=true from hb)
   generalize hits:its1.toList=its at hi
   cases hi with
   | @cons _ v _ vs hv ht=>
    refine⟨v::fs,.cons ho1 hc1 hd1 (by rw[<-lK5,hits];rfl) t,by simp[l],λx hx=> ?_⟩
    (rcases lJp.mp hx with rfl | hx)
    .rcases jJv (show jXe u x=true from hv) with ⟨i,tk,_,rfl⟩ | ⟨i,tk,rfl,rfl⟩
     .exact Looks.of_pure rfl
     .simp[intT,intS,intK] at h3
    .exact hf x hx
  | .inr u::ks,hb,h3,hi=>
   cases (show b=false from hb)
   generalize hits:its1.toList=its at hi
   cases hi with
   | @cons _ v _ vs hv ht=>
    obtain⟨p2,o2,its2,n2,e2,ho2,hc2,hd2,hi2⟩:=(show kJ3 _ _ u v from hv)
    subst e2;refine⟨.ref p2::fs,.cons ho1 hc1 hd1 (by rw[<-lK5,hits];rfl) t,by simp[l],λx hx=> ?_⟩
    (rcases lJp.mp hx with rfl | hx)
    .have:=(Looks.ld (M:=model prog w) (part:=none) ho2).andThen (f:=λo=>pure o.cls) .now
     rw[hc2] at this;exact this
    .exact hf x hx
theorem uQl{b:Bool}{es:List (TKey×Addr)}(h:∀e,e∈es->(jJi prog w).is s.heap e.1 e.2/\kUe e.1 b/\intT e.1=true)(hne:0<es.length){Q:SortKind->Shared->Prop}(hq:Q (tuples' b) s):wpAny (model prog w) A (keyKind' (List.toArray (es.map λe=>Value.ref e.2))) Q E s:=by
 obtain⟨fs,t,l,hf⟩:=kVi es h;refine kat_kind (T:=tyOf b) t (by omega) hf (by cases b<;>decide) ?_
 rw[show (tyOf b != Value.type "tuple")=b by cases b<;>decide]
 exact hq
theorem kUs{a n:Nat}{b:Bool}{es:List (TKey×Addr)}(ho:s.heap.get? a=some (seqObj "list" (List.toArray (es.map λe=>Value.ref e.2)) n))(hu:A.units+6<cLine)(h:∀e,e∈es->(jJi prog w).is s.heap e.1 e.2/\kUe e.1 b/\intT e.1=true)(hlt:∀e,e∈es->∀e',e'∈es->(ltK e.1 e'.1).isSome=true)(hnd:(es.map (·.1)).Nodup)(h64:es.length<64){P:PySem.Fin->Shared->Prop}
  (k:∀(es':List (TKey×Addr))(h':Heap)(c:Nat),es'.Perm es->es'.Pairwise (λx y=>ltK x.1 y.1=some true)->h'.get? a=some (seqObj "list" (List.toArray (es'.map λe=>Value.ref e.2)) c)->(∀p o,p≠a->s.heap.get? p=some o->h'.get? p=some o)->P (.done (.ret .none)) {s with heap:=h'}):wpAny (model prog w) A (Builtin.«list.sort» ⟨[.ref a],[]⟩) P E s:=by
 (have ha:a<s.heap.objs.size:=lJl ho)
 have hlen:(es.map λe=>Value.ref e.2).length=es.length:=lJg ..
 rw[list_sort_plain]
 (refine lJa (listItems_at ho rfl ?_))
 refine lJa (listUpdate_at ho rfl ?_ (by rw[lJu,hlen,lKg];omega) (lJx _))
 (obtain⟨e1,ho1⟩:∃e1,(s.heap.update a (Obj.mapSeq λ_=>(#[]:Array Value))).get? a=some (seqObj "list" #[] e1):=⟨_,get?_update_seq ho λ_=> #[]⟩)
 (refine lJa (seqEpoch_at ho1 rfl ?_))
 refine lJa (wpAny_newTuple ?_ (by show (es.map λe=>Value.ref e.2).length<=_;rw[hlen,lKg];omega))
 (refine lJa (wpAny_newList ?_ (lJx _)))
 refine lKw ?_
 generalize hg:((s.heap.update a (Obj.mapSeq λ_=>(#[]:Array Value))).push (seqObj "tuple" (List.toArray (es.map λe=>Value.ref e.2)) 0)).push (seqObj "list" #[] 0)=h1
 refine (show wpAny (model prog w) A _ P E {s with heap:=h1} from ?_)
 have oth:∀p o,p≠a->s.heap.get? p=some o->h1.get? p=some o:=by
  intro p o hp e;rw[<-hg];exact lJm _ (lJm _ ((Heap.get?_update_ne _ _ _ _ hp).trans e))
 have ho6:h1.get? a=some (seqObj "list" #[] e1):=by
  rw[<-hg];exact lJm _ (lJm _ ho1)
 have tk:TupKept s.heap h1:=by
  intro p o e hc;refine oth p o ?_ e;rintro rfl;rw[ho] at e;cases e;exact absurd hc (show ¬ Value.type "list"=Value.type "tuple" by decide)
 have hk1:∀e,e∈es->(jJi prog w).is h1 e.1 e.2/\kUe e.1 b/\intT e.1=true:=λe he=>⟨jK1 tk (h e he).1,(h e he).2⟩
 have fin:∀(out:List (TKey×Addr)),out.Perm es->out.Pairwise (λx y=>ltK x.1 y.1=some true)->∀st':SortSt,(arrOf st').map (·.2)=List.toArray (out.map λe=>Value.ref e.2)->failedOf st'=none->
   wpAny (model prog w) A (do
    let touched:=(<-seqEpoch a) != e1
    Builtin.List.listUpdate (.ref a) λ_=>(arrOf st').map (·.2)
    if let some e:=failedOf st' then rule "list.sort.comparison-raised"; throw e
    if (touched) then rule "list.sort.modified"; raiseError "ValueError" "list modified during sort"
    ret .none) P E {s with heap:=h1}:=by
  intro out hp hs st' hout hf;rw[hout,hf];have hol:out.length=es.length:=hp.length_eq;refine lJa (seqEpoch_at (s:={s with heap:=h1}) ho6 rfl ?_)
  refine lJa (listUpdate_at (s:={s with heap:=h1}) ho6 rfl ?_ (lJx _) (by rw[lJu,lJg,hol,lKg];omega))
  (simp only[bne_self_eq_false,lKi,lJ6])
  refine lJd (k out _ _ hp hs (get?_update_seq ho6 λ_=>List.toArray (out.map λe=>Value.ref e.2)) λp o hpa e=>(Heap.get?_update_ne _ _ _ _ hpa).trans (oth p o hpa e))
 dsimp only
 by_cases h2:(List.toArray (es.map λe=>Value.ref e.2)).size<2
 .rw[lJc h2,lJc h2];refine lJa (lJd ?_);rw[StateT.run_pure];refine lJa (lJd ?_);refine fin es (.refl _) ?_ _ ?_ rfl
  .rw[lJu,hlen] at h2
   match es,h2 with
   | [],_=>exact .nil
   | [_],_=>exact List.pairwise_singleton _ _
  .apply Array.toList_inj.mp;show (((List.toArray (es.map λe=>Value.ref e.2)).zip (List.toArray (es.map λe=>Value.ref e.2))).map (·.2)).toList=_
   rw[Array.toList_map,ksk_zip,List.map_snd_zip (lJh _)]
 .rw[lJb h2,lJb h2];rw[lJu,hlen] at h2;refine lJa (uQl (s:={s with heap:=h1}) hk1 (by omega) ?_)
  have at_:∀i,i<es.length->∃e,e∈es/\es[i]? =some e/\(es.map λe=>Value.ref e.2).getD i Value.none= .ref e.2:=by
   intro i hi;refine⟨es[i],lVl hi,lJf hi,?_⟩;simp[hi]
  let lt:Nat->Nat->Bool:=λi j=>match es[i]?,es[j]? with
   | some x,some y=>ltK x.1 y.1 == some true
   | _,_=>false
  have lt_eq:∀(i j:Nat)(x y:TKey×Addr),es[i]? =some x->es[j]? =some y->lt i j=(ltK x.1 y.1 == some true):=by
   intro i j x y h1 h2;show (match es[i]?,es[j]? with | some x,some y=>ltK x.1 y.1 == some true | _,_=>false)=_
   rw[h1,h2]
  have key_ne:∀(i j:Nat)(x y:TKey×Addr),i≠j->es[i]? =some x->es[j]? =some y->x.1≠y.1:=by
   intro i j x y hij h1 h2 z;have e1:(es.map (·.1))[i]? =some x.1:=by rw[lJj,h1];rfl
   have e2:(es.map (·.1))[j]? =some x.1:=by rw[lJj,h2,z];rfl
   exact hij ((lQ9 (lJe.mp e1).1 hnd).mp (e1.trans e2.symm))
  have O:SOrd es.length lt:=by
   refine⟨λi j hi hj hij=> ?_,λi j q hi hj hq h1 h2=> ?_⟩
   .obtain⟨x,mx,ex,_⟩:=at_ i hi
    obtain⟨y,my,ey,_⟩:=at_ j hj
    obtain⟨c,hc⟩:=lYc.mp (hlt x mx y my);rw[lt_eq _ _ _ _ ey ex,lt_eq _ _ _ _ ex ey,hc,kord.neg (key_ne i j x y hij ex ey) hc];cases c<;>rfl
   .obtain⟨x,mx,ex,_⟩:=at_ i hi
    obtain⟨y,my,ey,_⟩:=at_ j hj
    obtain⟨z,mz,ez,_⟩:=at_ q hq
    rw[lt_eq _ _ _ _ ex ey] at h1;rw[lt_eq _ _ _ _ ey ez] at h2;rw[lt_eq _ _ _ _ ex ez];have:=uQi (eq_of_beq h1) (eq_of_beq h2);rw[this];rfl
  refine lJa (lQp (kat_run (prog:=prog) (w:=w) (A:=A) (κ:=tuples' b) (vs:=es.map λe=>Value.ref e.2) (ks:=es.map λe=>Value.ref e.2) (s:={s with heap:=h1}) (Q:=λst' s'=>s'={s with heap:=h1}/\∃p:Array Nat,Pm es.length p/\Srt lt p es.length/\arrOf st'=p.map (kas_item ((List.toArray (es.map λe=>Value.ref e.2)).zip (List.toArray (es.map λe=>Value.ref e.2))))/\failedOf st'=none) (G:=λp s'=>s'={s with heap:=h1}/\Pm es.length p/\Srt lt p es.length)
   rfl (by rw[hlen];omega) (by rw[hlen];exact h64) (λp st' s' a1 a2 a3 a4=>⟨a4.1,p,a4.2.1,a4.2.2,a2,a3⟩) ?_) ?_ λ_ _ x=>x)
  .rw[hlen];refine Rn.wp (n:=es.length) (lt:=lt) (Q:=λp=>Pm es.length p/\Srt lt p es.length) (λi j C hi hj hC=> ?_) (λp hp=>⟨rfl,hp⟩) (uKp O (by omega))
   obtain⟨x,mx,ex,vx⟩:=at_ i hi
   obtain⟨y,my,ey,vy⟩:=at_ j hj
   obtain⟨c,hc⟩:=lYc.mp (hlt x mx y my);unfold kas_ask;rw[vx,vy];refine uX1 (s:={s with heap:=h1}) hu (hk1 x mx).1 (hk1 y my).1 hc (hk1 x mx).2.1 (hk1 y my).2.1 ?_
   rw[lt_eq _ _ _ _ ex ey,hc] at hC;cases c<;>exact hC
  .rintro⟨⟨⟩,st'⟩ s' ⟨rfl,p,hp,hs,har,hf⟩;have hout:=kat_snds (ks:=es.map λe=>Value.ref e.2) (vs:=es.map λe=>Value.ref e.2) rfl har
   have pe:(p.toList.filterMap (es[·]?)).Perm es:=kKr hp
   have ge:∀l:List Nat,(∀i,i∈l->i<es.length)->l.map (λi=>(es.map λe=>Value.ref e.2).getD i Value.none)=(l.filterMap (es[·]?)).map λe=>Value.ref e.2:=by
    intro l hl
    induction l with
    | nil=>rfl
    | cons i l ih=>
     obtain⟨x,mx,ex,vx⟩:=at_ i (hl i (lJ2 ..))
     rw[lXb ex,lJq,lJq,vx,ih λj hj=>hl j (lJ5 _ hj)]
   refine fin (p.toList.filterMap (es[·]?)) pe ?_ st' ?_ hf
   .rw[lZj];refine lZh.mpr λi j hi hj hij x hx y hy=> ?_
    have hi':i<p.size:=by simpa using hi
    have hj':j<p.size:=by simpa using hj
    have:=hs i j hij (by rw[<-hp.size];exact hj')
    rw[lt_eq _ _ x y (by rw[St.getD_at hi'];simpa using hx) (by rw[St.getD_at hj'];simpa using hy)] at this
    exact eq_of_beq this
   .rw[hout,ge p.toList λi hi=>lJw.mp (hp.mem_iff.mp hi)]
end
theorem jXa{α β:Type}{f:α->β}{l l':List β}(h:l.Perm l'):∀es:List α,l'=es.map f->∃es':List α,es'.Perm es/\l=es'.map f:=by
 induction h with
 | nil=>intro es e;cases es with | nil=>exact⟨[],.refl _,rfl⟩ | cons _ _=>cases e
 | cons x _ ih=>
  intro es e;cases es with
  | nil=>cases e
  | cons a es=>
   rw[lJq,lVa] at e;obtain⟨es',h1,h2⟩:=ih es e.2;exact⟨a::es',h1.cons a,by rw[lJq,e.1,h2]⟩
 | swap x y l=>
  intro es e
  match es,e with
  | a::b::es,e=>
   rw[lJq,lJq,lVa,lVa] at e;exact⟨b::a::es,.swap _ _ _,by rw[lJq,lJq,e.1,e.2.1,e.2.2]⟩
 | trans _ _ ih1 ih2=>
  intro es e;obtain⟨es',h1,h2⟩:=ih2 es e;obtain⟨es'',h3,h4⟩:=ih1 es' h2;exact⟨es'',h3.trans h1,h4⟩
section
variable {prog:Program}{w:World}{A:Around}{E:Value->Shared->Prop}{s:Shared}
theorem qJq{S:Addr}{b:Bool}{kb:List (TKey×Addr)}(hS:SetIs prog w s.heap S kb)(hh:A.handled=none)(hu:A.units+20<cLine)(h:∀e,e∈kb->kUe e.1 b/\intT e.1=true)(hlt:∀e,e∈kb->∀e',e'∈kb->(ltK e.1 e'.1).isSome=true){us:List TKey}(hus:us.length<64)(hkus:∀e,e∈kb->e.1∈us){Q:Value->Shared->Prop}
  (k:∀(es:List (TKey×Addr))(h':Heap)(tk:Nat)(D c:Nat),Put es kb->es.Pairwise (λx y=>ltK x.1 y.1=some true)->s.heap.objs.size<=D->h'.get? D=some (seqObj "list" (List.toArray (es.map λe=>Value.ref e.2)) c)->(∀p o,s.heap.get? p=some o->h'.get? p=some o)->Q (.ref D) {s with heap:=h',toks:=tk}):
  wpAny (model prog w) A (call (.builtin "sorted") [.ref S]) Q E s:=by
 obtain⟨o,arr,ep,t,es,d,p,l⟩:=hS;have el:es.length<64:=lYi (p.few hkus) hus
 (refine Calls.call_function_entry kind_sorted plain_sorted entry_sorted (args_sorted1 _) ?_)
 unfold Builtin.«sorted»
 (refine lJa (m:=checkCount "sorted" 1 1 _) (lJd ?_))
 refine lJa (kYp (A:=A.in1) d l (by simpa using hh) λg tk acc kp big pe=> ?_)
 obtain⟨es2,pe2,rfl⟩:=jXa pe es rfl;have l2:es2.length=es.length:=pe2.length_eq;refine lJa (wpAny_newList ?_ (by rw[lJg,lKg];omega))
 have hoL:(g.push (seqObj "list" (List.toArray (es2.map λe=>Value.ref e.2)) 0)).get? g.objs.size=some (seqObj "list" (List.toArray (es2.map λe=>Value.ref e.2)) 0):=lJz _ rfl
 refine lJa (lKw (lK6 slot_list_sort ⟨_,hoL,rfl⟩ entry_list_sort ?_ (args_list_sort _)));have hsub:∀e,e∈es2->e∈kb:=λe he=>p.sub e (pe2.mem_iff.mp he)
 refine kUs (s:={s with heap:=g.push (seqObj "list" (List.toArray (es2.map λe=>Value.ref e.2)) 0),toks:=tk}) (b:=b) hoL (by rw[lK8,lK8];omega) (λe he=> ?_) (λe he e' he'=>hlt e (hsub e he) e' (hsub e' he')) ((pe2.map _).nodup_iff.mpr p.nod) (by omega) λes' h' c pe' so hD oth=> ?_
 .exact⟨jK1 (λb ob e _=>lJm _ (kp b ob e)) (d.are e (pe2.mem_iff.mp he)),h e (hsub e he)⟩
 .refine⟨_,rfl,lJd ⟨_,rfl,k es' h' tk _ c ?_ so (lQ3 big) hD λq ob e=>oth q ob ?_ (lJm _ (kp q ob e))⟩⟩
  .have pp:=pe'.trans pe2;exact⟨λe he=>p.sub e (pp.mem_iff.mp he),λe he=>(pp.map (·.1)).mem_iff.mpr (p.all e he),(pp.map _).nodup_iff.mpr p.nod⟩
  .exact lJt (lKa (lJl e) (lQ3 big))
end
theorem kJh{x y:T}{k:Key}(h1:jQ6 x=some k)(h2:jQ6 y=some k):x=y:=by
 cases x<;>cases h1<;>(cases y<;>cases h2;rfl)
theorem jZp{κ:Type}{f:T->Option κ}(hf:∀x y k,f x=some k->f y=some k->x=y):∀{xs ys:List T}{ks:List κ},allK f xs=some ks->allK f ys=some ks->xs=ys
 | [],[],_,_,_=>rfl
 | [],y::ys,_,h1,h2=>by
  cases h1;unfold allK at h2;cases e1:f y<;>cases e2:allK f ys<;>rw[e1,e2] at h2<;>cases h2
 | x::xs,[],_,h1,h2=>by
  cases h2;unfold allK at h1;cases e1:f x<;>cases e2:allK f xs<;>rw[e1,e2] at h1<;>cases h1
 | x::xs,y::ys,ks,h1,h2=>by
  unfold allK at h1 h2;cases e1:f x with
  | none=>rw[e1] at h1;cases h1
  | some k1=>
   cases e2:allK f xs with
   | none=>rw[e1,e2] at h1;cases h1
   | some k2=>
    rw[e1,e2] at h1;cases h1;cases e3:f y with
    | none=>rw[e3] at h2;cases h2
    | some k3=>
     cases e4:allK f ys with
     | none=>rw[e3,e4] at h2;cases h2
     | some k4=>
      rw[e3,e4] at h2;cases h2;rw[hf _ _ _ e1 e3,jZp hf e2 e4]
theorem qY2(x y:T)(k:K1)(h1:key1 x=some k)(h2:key1 y=some k):x=y:=by
 cases k with
 | inl k=>
  have f:∀z:T,key1 z=some (.inl k)->jQ6 z=some k:=by
   intro z hz;cases z with
   | tup ts=>
    obtain⟨_,_,e⟩:=lK3.mp (show (allK jQ6 ts).map Sum.inr=some (Sum.inl k) from hz)
    cases e
   | int i=>cases hz;rfl
   | str i=>cases hz;rfl
   | _=>cases hz
  exact kJh (f x h1) (f y h2)
 | inr ks=>
  have f:∀z:T,key1 z=some (.inr ks)->∃ts,z= .tup ts/\allK jQ6 ts=some ks:=by
   intro z hz;cases z with
   | tup ts=>
    obtain⟨k',h,e⟩:=lK3.mp (show (allK jQ6 ts).map Sum.inr=some (Sum.inr ks) from hz)
    cases e;exact⟨ts,rfl,h⟩
   | _=>cases hz
  obtain⟨t1,rfl,e1⟩:=f x h1;obtain⟨t2,rfl,e2⟩:=f y h2;rw[jZp (λ_ _ _=>kJh) e1 e2]
theorem qY0(x y:T)(k:K2)(h1:key2 x=some k)(h2:key2 y=some k):x=y:=by
 cases k with
 | inl k=>
  have f:∀z:T,key2 z=some (.inl k)->jQ6 z=some k:=by
   intro z hz;cases z with
   | tup ts=>
    obtain⟨_,_,e⟩:=lK3.mp (show (allK key1 ts).map Sum.inr=some (Sum.inl k) from hz)
    cases e
   | int i=>cases hz;rfl
   | str i=>cases hz;rfl
   | _=>cases hz
  exact kJh (f x h1) (f y h2)
 | inr ks=>
  have f:∀z:T,key2 z=some (.inr ks)->∃ts,z= .tup ts/\allK key1 ts=some ks:=by
   intro z hz;cases z with
   | tup ts=>
    obtain⟨k',h,e⟩:=lK3.mp (show (allK key1 ts).map Sum.inr=some (Sum.inr ks) from hz)
    cases e;exact⟨ts,rfl,h⟩
   | _=>cases hz
  obtain⟨t1,rfl,e1⟩:=f x h1;obtain⟨t2,rfl,e2⟩:=f y h2;rw[jZp qY2 e1 e2]
theorem qKc{xs ys:List T}{k:TKey}(h1:jKx xs=some k)(h2:jKx ys=some k):xs=ys:=jZp qY0 h1 h2
def SKey(b:Bool)(ts:List T)(k:TKey):Prop:=jKx ts=some k/\kUe k b/\intT k=true
theorem jK6{K:PySem.W.Frag}{H:Hp}{b:Bool}:∀{tks:List (List T×TKey)}{vs:List V}{its:List Value},(∀e,e∈tks->SKey b e.1 e.2)->Reps K H (tks.map λe=> .tup e.1) vs->Vals vs its->
  ∃tb:List ((List T×TKey)×Addr),tb.map (·.1)=tks/\vs=tb.map (λe=> .ref e.2)/\its=tb.map (λe=>Value.ref e.2)/\∀e,e∈tb->TKeyAt H e.1.2 e.2/\Rep K H (.tup e.1.1) (.ref e.2)
 | [],_,_,_,r,v=>by
  cases (show _=[] from r)
  cases v;exact⟨[],rfl,rfl,rfl,λe he=>absurd he (lKp)⟩
 | (ts,k)::tks,_,its,hk,⟨v,ws,e,r1,r2⟩,vv=>by
  subst e;cases vv with
  | @cons _ u _ us hr hrs=>
  obtain⟨tb,h1,h2,h3,h4⟩:=jK6 (λe he=>hk e (lJ5 _ he)) r2 hrs
  obtain⟨a,vs',e,ha,hrep⟩:=(show ∃a vs',v= .ref a/\H a=some (.tup vs')/\Reps K H ts vs' from r1)
  subst e;cases (show u=Value.ref a from hr)
  refine⟨((ts,k),a)::tb,by rw[lJq,h1],by rw[lJq,h2],by rw[lJq,h3],λe he=> ?_⟩
  (rcases lJp.mp he with rfl | he)
  .exact⟨jQj (hk _ (lJ2 ..)).1 ha hrep,r1⟩
  .exact h4 e he
theorem qQ1{tb:List ((List T×TKey)×Addr)}:∀(es:List (TKey×Addr)),(∀e,e∈es->e∈tb.map λx=>(x.1.2,x.2))->∃tb':List ((List T×TKey)×Addr),tb'.map (λx=>(x.1.2,x.2))=es/\∀e,e∈tb'->e∈tb
 | [],_=>⟨[],rfl,λe he=>absurd he (lKp)⟩
 | e::es,h=>by
  obtain⟨tb',h1,h2⟩:=qQ1 es λx hx=>h x (lJ5 _ hx)
  obtain⟨x,hx,ex⟩:=lJi.mp (h e (lJ2 ..));refine⟨x::tb',by rw[lJq,h1,ex],λy hy=> ?_⟩
  (rcases lJp.mp hy with rfl | hy)
  .exact hx
  .exact h2 y hy
theorem kXe{K:PySem.W.Frag}{H:Hp}:∀(tb:List ((List T×TKey)×Addr)),(∀e,e∈tb->Rep K H (.tup e.1.1) (.ref e.2))->Reps K H (tb.map λe=> .tup e.1.1) (tb.map λe=>V.ref e.2)
 | [],_=>rfl
 | e::tb,h=>⟨_,_,rfl,h e (lJ2 ..),kXe tb λx hx=>h x (lJ5 _ hx)⟩
theorem jX7:∀(bs:List ((List T×TKey)×Addr)),Vals (bs.map λe=>V.ref e.2) (bs.map λe=>Value.ref e.2)
 | []=> .nil
 | e::bs=> .cons rfl (jX7 bs)
section
variable {X:Cx}
structure Rising (xs ys:List T) (kys:List (List T×TKey)):Prop where
 eq:ys=kys.map λe=> .tup e.1
 keys:∀e,e∈kys->jKx e.1=some e.2
 mem:∀t,t∈ys↔t∈xs
 up:kys.Pairwise λx y=>ltK x.2 y.2=some true
noncomputable def uKl(ta:TA3):TE3:=λτ G Q=>ta τ G λvs G1=>∃(x:T)(b:Bool)(tks:List (List T×TKey)),vs=[x]/\jQ7 G1 x=some (tks.map λe:List T×TKey=> .tup e.1)/\(∃us:List TKey,us.length<64/\∀e,e∈tks->e.2∈us)/\(∀e,e∈tks->SKey b e.1 e.2)/\(∀e,e∈tks->∀e',e'∈tks->(ltK e.2 e'.2).isSome=true)/\
 ∀(p:Addr)(ys:List T)(kys:List (List T×TKey)),G1 p=none->Rising (tks.map λe=> .tup e.1) ys kys->Q (.ref p) (gup G1 p (.lst ys))
theorem uXp{pos pos' p p':Pos}{a:Expr}{ta:TA3}(hc:X.calm=true)(hu:X.A.units+20<cLine)(hl:Gl X "sorted")(hlm:X.mg "sorted"=none)(hlv:bootBuiltins "sorted"=some (.builtin "sorted"))(hg:Gl X "set")(hm:X.mg "set"=none)(hv:bootBuiltins "set"=some (.type "set"))(ha:PA3 X [a] ta)(hs:starEach [a] X.env=[(false,eval a X.env)]:=by rfl)
  (hs':starEach [Expr.Call (.Name "set" p) [a] [] pos] X.env=[(false,eval (.Call (.Name "set" p) [a] [] pos) X.env)]:=by rfl):
  PE3 X (.Call (.Name "sorted" p') [.Call (.Name "set" p) [a] [] pos] [] pos') (uKl ta):=by
 intro pins s τ G H Q I h;obtain⟨σ,I0,_,_⟩:=id I;refine Call_ (jUe I0 hl hlm hlv (lZ7 ?_ hs' rfl));rw[hs'];refine Calls.spliced_cons (Call_ (jUe I0 hg hm hv (lQj (thn (ha pos pins s τ G H _ I h) λus s1 w_=>w_.el λys G1 H1 e1 i_ r_ q1=>i_.el λσ1 I1 hs1 hg1=>r_.el λas ras rvs=> ?_) hs rfl)))
 obtain⟨x,b,tks,e,hx,⟨us,hus,hkus⟩,hk,hlt,q⟩:=q1;subst e;obtain⟨v,rfl,rv⟩:=jUn ras;obtain⟨u,rfl,ru⟩:=rvs.one;obtain⟨pa,vs,rfl,hq,r⟩:=jXw hg1 rv hx;cases ru;obtain⟨its,rvv,pl,hz⟩:=I1.list hq;obtain⟨tb,t1,t2,t3,t4⟩:=jK6 hk r rvv;have tl:tb.length=tks.length:=by rw[<-t1,lJg]
 have hmem:∀e,e∈tb->e.1∈tks:=λe he=>by rw[<-t1];exact lJi.mpr ⟨e,he,rfl⟩
 have hkb:∀e,e∈(tb.map λe=>(e.1.2,e.2))->e.1∈us:=by
  intro e he;obtain⟨y,hy,rfl⟩:=lJi.mp he;exact hkus _ (hmem y hy)
 refine kQk (kb:=tb.map λe=>(e.1.2,e.2)) (I1.ok.hd hc) hu pl.isList (by rw[List.toList_toArray,t3,lJr];rfl) (λe he=> ?_) (by omega) hkb λh2 tk2 hS kp2=> ?_
 .obtain⟨y,hy,rfl⟩:=lJi.mp he;exact⟨(hk _ (hmem y hy)).2.2,jXx I1.hok (t4 y hy).1⟩
 refine Calls.spliced_nil ?_;refine qJq (s:={s1 with heap:=h2,toks:=tk2}) (b:=b) hS (I1.ok.hd hc) hu (λe he=> ?_) (λe he e' he'=> ?_) hus hkb λes h3 tk3 D c hp so hD hoD kp3=> ?_
 .obtain⟨y,hy,rfl⟩:=lJi.mp he;exact (hk _ (hmem y hy)).2
 .obtain⟨y,hy,rfl⟩:=lJi.mp he;obtain⟨y',hy',rfl⟩:=lJi.mp he';exact hlt _ (hmem y hy) _ (hmem y' hy')
 obtain⟨tb',p1,p2⟩:=qQ1 es λe he=>hp.sub e he
 have kp:∀b o,s1.heap.get? b=some o->h3.get? b=some o:=λb o e=>kp3 b o (kp2 b o e)
 have hD1:s1.heap.objs.size<=D:=by
  obtain⟨o,_,_,_,_,d,_⟩:=hS;exact lKc (lQ3 (lJl d.get)) hD
 have fr:=I1.hok.fresh hD1
 have es_len:tb'.length<=us.length:=by
  have:=hp.few hkb;rw[<-p1,lJg] at this;exact this
 have I3:=I1.laid (a:=D) (o:= .lst (tb'.map λe=>V.ref e.2)) (h':=h3) (t':=tk3) kp hD1 ⟨by rw[lJg,lKg];omega,tb'.map λe=>Value.ref e.2,c,jX7 tb',by rw[<-p1,lJr] at hoD;exact hoD⟩
 have ext:Ext H1 (upd H1 D (.lst (tb'.map λe=>V.ref e.2))):= .upd (.none fr)
 refine⟨.ref D,_,_,e1.trans ext,⟨σ1,I3,hs1.mono ext,hg1.lstNew (kXe tb' λe he=>(t4 e (p2 e he)).2) (.none fr)⟩,⟨.ref D,rfl,rfl⟩,?_⟩
 refine q D _ (tb'.map (·.1)) (hg1.fresh fr) ⟨by rw[lJr];rfl,λe he=> ?_,λt=>⟨λht=> ?_,λht=> ?_⟩,?_⟩
 .obtain⟨y,hy,rfl⟩:=lJi.mp he;exact (hk _ (hmem y (p2 y hy))).1
 .obtain⟨y,hy,rfl⟩:=lJi.mp ht;exact lJi.mpr ⟨y.1,hmem y (p2 y hy),rfl⟩
 .obtain⟨y,hy,rfl⟩:=lJi.mp ht;rw[<-t1] at hy;obtain⟨z,hz',rfl⟩:=lJi.mp hy;have:=hp.all (z.1.2,z.2) (lJi.mpr ⟨z,hz',rfl⟩);rw[<-p1,lJr] at this;obtain⟨z',hz'',ez⟩:=lJi.mp this;have ek:z'.1.2=z.1.2:=ez;refine lJi.mpr ⟨z',hz'',?_⟩;have k1:=(hk _ (hmem z' (p2 z' hz''))).1;have k2:=(hk _ (hmem z hz')).1;rw[ek] at k1;rw[qKc k1 k2]
 .rw[<-p1,lVk] at so;rw[lVk];exact so
end
end L3
namespace L3
open PySem PySem.Spec PyProof.Rows L2
section
variable {X:Cx}
theorem jYx{P:Program}{w:World}{K:PySem.W.Frag}{H:Hp}{h:Heap}(ok:HOk P w H h):∀{kys:List (List T×TKey)}{vs:List V}{its:List Value},(∀e,e∈kys->jKx e.1=some e.2)->Reps K H (kys.map λe=> .tup e.1) vs->Vals vs its->∀(i:Nat)(u:Value),its[i]? =some u->∃e b,kys[i]? =some e/\u= .ref b/\(jJi P w).is h e.2 b
 | [],_,_,_,r,v,i,u,hu=>by
  cases (show _=[] from r);cases v;simp at hu
 | e::kys,_,_,hk,⟨v,ws,ev,r1,r2⟩,vv,i,u,hu=>by
  subst ev;cases vv with
  | @cons _ u0 _ us hr hrs=>
  cases i with
  | zero=>
   cases hu;obtain⟨a,vs',ea,ha,hrep⟩:=(show ∃a vs',v= .ref a/\H a=some (.tup vs')/\Reps K H e.1 vs' from r1)
   subst ea;exact⟨e,a,rfl,hr,jXx ok (jQj (hk e (lJ2 ..)) ha hrep)⟩
  | succ i=>exact jYx ok (λx hx=>hk x (lJ5 _ hx)) r2 hrs i u hu
noncomputable def kXt:T->List T->Gp->VK3->Prop:=λx as G Q=>∃(p:Addr)(kys:List (List T×TKey))(ys:List T)(k:TKey)(j:Nat),x= .ref p/\as=[.tup ys]/\G p=some (.lst (kys.map λe=> .tup e.1))/\(∀e,e∈kys->jKx e.1=some e.2)/\jKx ys=some k/\(kys.map (·.2))[j]? =some k/\(∀m,m<j->(kys.map (·.2))[m]? ≠some k)/\Q (.int j) G
theorem qYs(hu:X.A.units+20<cLine):Mt3 X "list.index" kXt:=by
 rintro pins s τ G H x as v us Q ⟨σ,I,hs,hg⟩ ⟨a,ra,rv⟩ ⟨bs,rbs,rus⟩ ⟨p,kys,ys,k,j,ex,ea,hp,hks,hk,hj,hno,q⟩;subst ex;subst ea;cases (show a= .ref p from ra);cases rv
 obtain⟨b,rfl,rb⟩:=jUn rbs;obtain⟨u,rfl,ru⟩:=rus.one;obtain⟨vs,h1,h2⟩:=hg.lst hp;obtain⟨hz,its,n,r,hl,e⟩:=I.lstM h1;obtain⟨qa,vs',eb,hqa,hrep⟩:=(show ∃qa vs',b= .ref qa/\H qa=some (.tup vs')/\Reps X.K H ys vs' from rb)
 subst eb;cases (show u=Value.ref qa from ru)
 have hkq:(jJi X.prog X.w).is s.heap k qa:=jXx I.hok (jQj hk hqa hrep);have at_:=jYx (P:=X.prog) (w:=X.w) I.hok hks h2 r
 have hlen:its.length=kys.length:=by have:=r.length;have:=h2.length;rw[lJg] at this;omega
 have hjl:j<kys.length:=by have:=(lJe.mp hj).1;rw[lJg] at this;exact this
 have hsl:=jYz
 let ef:Value->Bool:=λw=> @decide (∃b,w= .ref b/\(jJi X.prog X.w).is s.heap k b) (Classical.propDecidable _)
 have ef_at:∀(i:Nat)(w:Value),its[i]? =some w->∃e b,kys[i]? =some e/\w= .ref b/\(jJi X.prog X.w).is s.heap e.2 b/\ef w=decide (e.2=k):=by
  intro i w hw;obtain⟨e,b,e1,e2,e3⟩:=at_ i w hw
  refine⟨e,b,e1,e2,e3,?_⟩
  by_cases c:e.2=k
  .rw[lKf c];exact @decide_eq_true _ (Classical.propDecidable _) ⟨b,e2,c▸e3⟩
  .rw[lJ4 c];refine @decide_eq_false _ (Classical.propDecidable _) ?_;rintro⟨b',e4,e5⟩;rw[e2] at e4;cases e4;exact c ((jJi X.prog X.w).inj e3 e5)
 refine lQ1 F.slot_list_index ⟨_,e,rfl⟩ F.entry_list_index (F.args_list_index_2 _ _) (SeqAt.list_indexAt p its.toArray n none #[] (.ref qa) ef j (by simp;omega) (by omega) ?_ ?_) ⟨e,λw hw=> ?_,?_⟩
 .obtain⟨e,b,e1,_,_,e4⟩:=ef_at j its[j] (lJf (by omega))
  rw[lJj,e1] at hj;have:e.2=k:=by simpa using hj
  rw[lKf this] at e4
  simpa using e4
 .intro m hm hmj;have hm':m<its.length:=by simpa using hm
  obtain⟨e,b,e1,_,_,e4⟩:=ef_at m its[m] (lJf hm');have:=hno m hmj;rw[lJj,e1] at this;have ne:e.2≠k:=λz=>this (by rw[<-z];rfl)
  rw[lJ4 ne] at e4
  simpa using e4
 .obtain⟨i,hi,ei⟩:=lVj (show w∈its by simpa using hw)
  obtain⟨e,b,e1,e2,e3,e4⟩:=ef_at i w (by rw[lJf hi,ei])
  rw[e4,e2];exact (jUk (vk2 X.prog X.w)).eqAt (by rw[lK8];omega) e3 hkq
 .exact⟨.int _,G,H,.refl H,⟨σ,I.tok _,hs,hg⟩,⟨.int _,rfl,s.toks,rfl⟩,q⟩
end
section
variable {X:Cx}
def jUu(b:Int):List Int->Int
 | []=>b
 | x::xs=>jUu (if x>b then x else b) xs
theorem qJ8(xs:List Int):∀(b y:Int),jUu b (xs++[y])=if y>jUu b xs then y else jUu b xs:=by
 induction xs with
 | nil=>intro b y;rfl
 | cons x xs ih=>intro b y;exact ih _ y
theorem qYq(xs:List Int):∀b,b<=jUu b xs/\∀x∈xs,x<=jUu b xs:=by
 induction xs with
 | nil=>intro b;exact⟨Int.le_refl b,λx hx=>by cases hx⟩
 | cons x xs ih=>
  intro b;obtain⟨h1,h2⟩:=ih (if x>b then x else b)
  have e:jUu b (x::xs)=jUu (if x>b then x else b) xs:=rfl
  rw[e]
  by_cases hx:x>b
  .rw[lJc hx] at h1 h2 ⊢;refine⟨by omega,λy hy=> ?_⟩
   rcases (lJp.mp hy) with rfl | z
   .exact h1
   .exact h2 y z
  .rw[lJb hx] at h1 h2 ⊢;refine⟨h1,λy hy=> ?_⟩
   rcases (lJp.mp hy) with rfl | z
   .omega
   .exact h2 y z
theorem qUl(xs:List Int):∀b,jUu b xs=b\/jUu b xs∈xs:=by
 induction xs with
 | nil=>intro b;exact .inl rfl
 | cons x xs ih=>
  intro b;have e:jUu b (x::xs)=jUu (if x>b then x else b) xs:=rfl
  rw[e]
  rcases ih (if x>b then x else b) with h | h
  .rw[h]
   by_cases hx:x>b
   .rw[lJc hx];exact .inr lJ2
   .rw[lJb hx];exact .inl rfl
  .exact .inr (lJ5 _ h)
theorem kVz(f:Nat->Int):∀k,f (argBest (λi j=>decide (f i>f j)) k)=jUu (f 0) ((List.range k).map λi=>f (i+1)):=by
 intro k
 induction k with
 | zero=>rfl
 | succ k ih=>
  rw[lKr,lKe,List.map_singleton,qJ8,<-ih];simp only[argBest,lK7]
  by_cases h:f (k+1)>f (argBest (λi j=>decide (f i>f j)) k)
  .rw[lJc h,lJc h]
  .rw[lJb h,lJb h]
theorem qVw(hc:X.calm=true):kKk X (.builtin "max") (λxs H Q=>∃p i is,xs=[.ref p]/\SqL X.K H p ((i::is).map V.int)/\Q (.int (jUu i is)) H):=by
 intro pins s σ H xs us Q I r h;obtain⟨p,i,is,rfl,hx,q⟩:=h;obtain⟨u,rfl,ru⟩:=kUp r;cases ru;obtain⟨its,r',pl,hz⟩:=I.list hx;obtain⟨ps,e1,e2⟩:=jUj r';subst e1
 have hne:0<ps.toArray.size:=by
  have:=lJs List.length e2;simp at this ⊢; omega
 have eI:(ps.map (λp=>Value.int p.1 p.2)).toArray=intItems ps.toArray:=by simp[intItems]
 refine max_intList (xs:=ps.toArray) (I.ok.hd hc) (eI▸pl.isList) hne λv h' tk hv k=> ?_
 obtain⟨t,rfl⟩:=(intItems_at hv)
 have hl:ps.toArray.size-1=is.length:=by
  have:=lJs List.length e2;simp at this ⊢; omega
 have hn:∀j,numAt ps.toArray j=((i::is)[j]?).getD 0:=λj=>by rw[<-e2];simp[numAt]
 refine⟨.int (jUu i is),H,I.kept k,?_,q⟩;refine⟨t,?_⟩;rw[kVz (numAt ps.toArray),hl];have a0:numAt ps.toArray 0=i:=by rw[hn];rfl
 have a1:((List.range is.length).map λj=>numAt ps.toArray (j+1))=is:=by
  apply lKh ; intro j;rw[lJj]
  by_cases hj:j<is.length
  .rw[lQn hj,lK4,hn,List.getElem?_cons_succ,lJf hj];rfl
  .rw[lJy (by simpa using hj),lJy (by simpa using hj)];rfl
 rw[a0,a1]
def qX4:List T->Gp->VK3->Prop:=λxs G Q=>∃p i is,xs=[.ref p]/\G p=some (.lst ((i::is).map T.int))/\Q (.int (jUu i is)) G
theorem uXu(hc:X.calm=true):Call3 X (.builtin "max") qX4:=
 Call3.of (qVw hc) λH G xs as Q hg ra ⟨p,i,is,e,hG,q⟩=>by
  subst e;obtain⟨v,rfl,rv⟩:=jUn ra;cases (show v= .ref p from rv)
  obtain⟨vs,h1,h2⟩:=hg.lst hG;have e:=jQm h2;subst e;exact⟨p,i,is,rfl,.of h1,.int _,G,.refl H,hg,rfl,q⟩
end
section
variable {X:Cx}
theorem jZ9(l:List Int):∀j,preSum (λi=>l.getD i 0) j=(l.take j).sum
 | 0=>by simp[preSum]
 | j+1=>by
  rw[preSum,jZ9 l j,lQh,List.sum_append]
  congr 1
  (rw[lX2])
  cases l[j]? <;>simp
theorem qQy(ps:List (Int×Tok)):preSum (numAt ps.toArray) ps.toArray.size=(ps.map (·.1)).sum:=by
 have h:numAt ps.toArray=λi=>(ps.map (·.1)).getD i 0:=by
  funext i
  simp[numAt,List.getD]
 rw[h,jZ9,lZb (by simp)]
theorem qVv(hc:X.calm=true):kKk X (.builtin "sum") (λxs H Q=>∃(p:Addr)(is:List Int),xs=[.ref p]/\SqL X.K H p (is.map V.int)/\Q (.int is.sum) H):=by
 intro pins s σ H xs us Q I r h;obtain⟨p,is,rfl,hx,q⟩:=h;obtain⟨u,rfl,ru⟩:=kUp r;cases ru;obtain⟨its,r',pl,hz⟩:=I.list hx;obtain⟨ps,e1,e2⟩:=jUj r';subst e1;have eI:(ps.map (λp=>Value.int p.1 p.2)).toArray=intItems ps.toArray:=by simp[intItems]
 refine sum_intListG (xs:=ps.toArray) (I.ok.hd hc) (eI▸pl.isList) λh' tk t' k=> ?_
 rw[qQy,e2];exact⟨.int _,H,I.kept k,⟨t',rfl⟩,q⟩
def qX1:List T->Gp->VK3->Prop:=λxs G Q=>∃(p:Addr)(is:List Int),xs=[.ref p]/\G p=some (.lst (is.map T.int))/\Q (.int is.sum) G
theorem uXt(hc:X.calm=true):Call3 X (.builtin "sum") qX1:=
 Call3.of (qVv hc) λH G xs as Q hg ra ⟨p,is,e,hG,q⟩=>by
  subst e;obtain⟨v,rfl,rv⟩:=jUn ra;cases (show v= .ref p from rv)
  obtain⟨vs,h1,h2⟩:=hg.lst hG;have e:=jQm h2;subst e;exact⟨p,is,rfl,.of h1,⟨.int _,G,.refl H,hg,rfl,q⟩⟩
end
section
variable {X:Cx}
end
section
variable {X:Cx}
end
section
variable {X:Cx}
end
section
variable {X:Cx}
end
end L3
namespace L3
open PySem PySem.Spec PyProof.Rows L2 PySem.W
section
variable {prog:Program}{w:World}{A:Around}{E:Value->Shared->Prop}{s:Shared}{d:Addr}{o:Obj}{es:Array DictEntry}{ep:Nat}
theorem qUx(hd:(d == sysModules)=false)(hc:o.ExactDict)(hx:o.data= .dict es ep):KdlSrc prog w "dict" d d es.size (λi v=>∃e,es[i]? =some e/\v=e.key) (λh=>h.get? d=some o) where
 type:=λ_ hm=>⟨o,hm,hc.1⟩
 there:=λ_ hm=>⟨lJl hm,lJl hm⟩
 keep:=λ_ _ hm hk=>hk d (.inl rfl) o hm
 notList:=by decide
 notTuple:=by decide
 hint:=λ_ _ _ _ hm hq=>kdl_hint_dict ⟨o,hm,hc.1⟩ hq
 iter:=λA s hh hm=>by
  refine⟨_,λi h=>h.IsKeyIter s.heap.objs.size d i es.size ep/\h.get? d=some o,λ_ _ hq=>qKf hd hm hc hx hq,⟨?_,?_,?_,?_,?_⟩,⟨_,lJz _ rfl,rfl,rfl⟩,lJm _ hm⟩
  .intro b hb;simp at hb;simp[hb]
  .exact λi h h' st hk=>⟨st.1.at λob e=>hk _ (by simp) ob e,hk d (by simp) o st.2⟩
  .intro i s' Q E' hi st hQ;have hne:d≠s.heap.objs.size:=lJt (lJl hm);refine qJ7 st.1 st.2 hx (lKu hi) λh' it' sb=> ?_
   exact hQ _ h' s'.toks ⟨_,lKu hi,rfl⟩ ⟨it',(sb.2 d hne).trans st.2⟩ λb ob hb e=>(sb.2 b (λh=>hb (by simp[h]))).trans e
  .intro s' Q E' st hQ;exact qVi hh st.1 st.2 hx (lJh _) λh' eb=>hQ h' s'.toks λb ob hb e=>eb b ob (λh=>hb (by simp[h])) e
  .exact λi s' Q E' st hQ=>wpAny_pyIter_keyiter st.1 hQ
theorem kUk(hh:A.handled=none)(hd:(d == sysModules)=false)(ho:s.heap.get? d=some o)(hc:o.ExactDict)(hx:o.data= .dict es ep)(hz:es.size<=sizeLine){Q:List Value->Shared->Prop}
  (hQ:∀(g:Heap)(tk:Nat),(∀b ob,s.heap.get? b=some ob->g.get? b=some ob)->s.heap.objs.size<g.objs.size->Q (es.toList.map (·.key)) {s with heap:=g,toks:=tk}):wpAny (model prog w) A (collect (.ref d)) Q E s:=by
 have hLS:s.heap.objs.size≠d:=lQ5 (lJl ho)
 have key:∀R:Result->Shared->Prop,(∀(g:Heap)(tk:Nat)(acc:Array Value)(c':Nat),(∀b ob,s.heap.get? b=some ob->g.get? b=some ob)->g.get? s.heap.objs.size=some {cls:= .type "list",dict:=none,data:= .seq acc c',slots:= #[]}->ItemsOf (λi v=>∃e,es[i]? =some e/\v=e.key) acc es.size->R (.ok (.ret (.ref s.heap.objs.size))) {s with heap:=g,toks:=tk})->
   codeAny (model prog w) A (.builtin "proto.collect" ⟨[.ref d],[]⟩) R s:=by
  intro R hR;refine lQq lZd ?_
  (rw[lQ0 lZe _])
  refine (show wpAny _ A.in1 (newList [] >>= λl=>again (.builtin "list.__iadd__" ⟨[l,.ref d],[]⟩)) _ _ s from lJa (lKl (lJd ⟨lVe lV9 _,lQq lZf ?_⟩)))
  (rw[lQ0 lV9 _])
  have hS1:(s.heap.push {cls:= .type "list",data:= .seq ([]:List Value).toArray}).get? s.heap.objs.size=some {cls:= .type "list",data:= .seq ([]:List Value).toArray}:=lJz _ rfl;exact kdl_extend (A:=A) (R:=R) (s:={s with heap:=s.heap.push {cls:= .type "list",data:= .seq ([]:List Value).toArray} }) (qUx hd hc hx) hh (lJm _ ho) s.heap.objs.size hLS hLS (.ref s.heap.objs.size) 0 hS1 (λg tk acc c' kp hL' hacc=>hR g tk acc c' (λb ob e=>kp b ob (lJt (lJl e)) (lJm _ e)) hL' hacc) hz
 unfold collect;refine lJa (lY1 (key _ λg tk acc c' kp hL' hacc=>(show wpAny _ A (load s.heap.objs.size >>= _) _ _ _ from lJa (wpAny_load hL' (lJd ?_)))))
 have ea:acc.toList=es.toList.map (·.key):=by
  apply lKh;intro i;have hl:acc.size=es.size:=hacc.1
  by_cases hi:i<acc.size
  .obtain⟨e,e1,e2⟩:=hacc.2 i _ (lKu hi);rw[lK5,lKu hi,e2,lJj,lK5,e1];rfl
  .rw[lK5,lJj,lK5,lQk (by omega),lQk (by omega)];rfl
 have:=hQ g tk kp (lJl hL');rw[<-ea] at this;exact this
theorem kUr{b:Bool}{ks:List (TKey×Addr)}{Q:Value->Shared->Prop}(hh:A.handled=none)(hd:(d == sysModules)=false)(ho:s.heap.get? d=some o)(hc:o.ExactDict)(hx:o.data= .dict es ep)(he:es.toList.map (·.key)=ks.map λe=>Value.ref e.2)(hu:A.units+20<cLine)(h:∀e,e∈ks->(jJi prog w).is s.heap e.1 e.2/\kUe e.1 b/\intT e.1=true)(hlt:∀e,e∈ks->∀e',e'∈ks->(ltK e.1 e'.1).isSome=true)(hnd:(ks.map (·.1)).Nodup)(hn:ks.length<64)
  (k:∀(es':List (TKey×Addr))(h':Heap)(tk D c:Nat),es'.Perm ks->es'.Pairwise (λx y=>ltK x.1 y.1=some true)->s.heap.objs.size<=D->h'.get? D=some (seqObj "list" (List.toArray (es'.map λe=>Value.ref e.2)) c)->(∀p o,s.heap.get? p=some o->h'.get? p=some o)->Q (.ref D) {s with heap:=h',toks:=tk}):wpAny (model prog w) A (call (.builtin "sorted") [.ref d]) Q E s:=by
 have hsz:es.size=ks.length:=by have:=lJs List.length he;simpa using this
 (refine Calls.call_function_entry kind_sorted plain_sorted entry_sorted (args_sorted1 _) ?_)
 unfold Builtin.«sorted»
 (refine lJa (m:=checkCount "sorted" 1 1 _) (lJd ?_))
 refine lJa (kUk (A:=A.in1) (by simpa using hh) hd ho hc hx (by rw[hsz,lKg];omega) λg tk kp big=> ?_)
 rw[he];refine lJa (wpAny_newList ?_ (by rw[lJg,lKg];omega))
 have hoL:(g.push (seqObj "list" (List.toArray (ks.map λe=>Value.ref e.2)) 0)).get? g.objs.size=some (seqObj "list" (List.toArray (ks.map λe=>Value.ref e.2)) 0):=lJz _ rfl
 refine lJa (lKw (lK6 slot_list_sort ⟨_,hoL,rfl⟩ entry_list_sort ?_ (args_list_sort _)));refine kUs (s:={s with heap:=g.push (seqObj "list" (List.toArray (ks.map λe=>Value.ref e.2)) 0),toks:=tk}) (b:=b) hoL (by rw[lK8,lK8];omega) (λe he=> ?_) hlt hnd (by omega) λes' h' c pe' so hD oth=> ?_
 .exact⟨jK1 (λb ob e _=>lJm _ (kp b ob e)) (h e he).1,(h e he).2⟩
 .refine⟨_,rfl,lJd ⟨_,rfl,k es' h' tk _ c pe' so (lQ3 big) hD λq ob e=>oth q ob ?_ (lJm _ (kp q ob e))⟩⟩
  exact lJt (lKa (lJl e) (lQ3 big))
end
section
variable {X:Cx}
theorem kU7{P:TKey->Addr->Prop}:∀(tks:List (List T×TKey))(us:List Value),us.length=tks.length->(∀i:Nat,∀h:i<tks.length,∃b,us[i]? =some (Value.ref b)/\P tks[i].2 b)->∃tb:List ((List T×TKey)×Addr),tb.map (·.1)=tks/\us=tb.map (λe=>Value.ref e.2)/\∀e,e∈tb->P e.1.2 e.2
 | [],us,hl,_=>⟨[],rfl,lQg.mp hl,λe he=>absurd he (lKp)⟩
 | t::tks,[],hl,_=>by cases hl
 | t::tks,u::us,hl,h=>by
  obtain⟨tb,h1,h2,h3⟩:=kU7 tks us (lKv hl) λi hi=>by
   obtain⟨b,q1,q2⟩:=h (i+1) (Nat.succ_lt_succ hi);exact⟨b,by simpa using q1,q2⟩
  obtain⟨b,q1,q2⟩:=h 0 (lVi _);refine⟨(t,b)::tb,by rw[lJq,h1],?_,λe he=> ?_⟩
  .have:u=Value.ref b:=by simpa using q1
   rw[this,h2];rfl
  .rcases (lJp.mp he) with rfl | he
   .exact q2
   .exact h3 e he
theorem uQ3{P:Program}{w:World}{K:PySem.W.Frag}{H:Hp}{h:Heap}{d:Addr}{kvs:List (TKey×T)}{ws:List (TKey×V)}{tks:List (List T×TKey)}(ho:ObjOk P w H h d (.dT ws))(hp:PKV K H kvs ws)(e:tks.map (·.2)=kvs.map (·.1))(hk:∀e,e∈tks->jKx e.1=some e.2):
  ∃(o:Obj)(es:Array DictEntry)(ep:Nat)(tb:List ((List T×TKey)×Addr)),h.get? d=some o/\o.ExactDict/\o.data= .dict es ep/\(d == sysModules)=false/\tb.map (·.1)=tks/\es.toList.map (·.key)=tb.map (λe=>Value.ref e.2)/\∀e,e∈tb->TKeyAt H e.1.2 e.2/\Rep K H (.tup e.1.1) (.ref e.2):=by
 obtain⟨z,hd,xs,rel,o,es,ep,ho,hc,hx,he,hn⟩:=ho
 have l1:es.size=ws.length:=by
  have a1:=lJs List.length he;have a2:=lVf rel;simp at a1;omega
 have l2:tks.length=ws.length:=by
  have a1:=lJs List.length e;have a2:=hp.length;simp at a1;omega
 have at_:∀i:Nat,∀(h:i<tks.length),∃b,(es.toList.map (·.key))[i]? =some (Value.ref b)/\TKeyAt H tks[i].2 b:=λi hi=>by
  have hiw:i<ws.length:=by omega
  obtain⟨q,h1,h2,h3,h4⟩:=jYl rel (lJf hiw);have hee:=entry_at he i;rw[h1,lKu (by omega)] at hee
  have hik:i<kvs.length:=by have:=hp.length;omega
  obtain⟨w',k1,k2,_⟩:=jYl hp (lJf hik);rw[lJf hiw] at k1;cases k1;have hyi:=lJs (λl=>l[i]?) e
  simp only[lJj,lJf hi,lJf hik,lK4,lQi] at hyi;refine⟨q.2.1,?_,by rw[hyi,k2];exact h3⟩
  rw[lJj,lK5,lKu (show i<es.size by omega)]
  rw[lJ3 hee];rfl
 obtain⟨tb,t1,t2,t3⟩:=kU7 (P:=λk b=>TKeyAt H k b) tks (es.toList.map (·.key)) (by simp;omega) at_
 refine⟨o,es,ep,tb,ho,hc,hx,hd,t1,t2,λx hx=> ?_⟩
 have hm:x.1∈tks:=by rw[<-t1];exact lJi.mpr ⟨x,hx,rfl⟩
 obtain⟨vs,r1,r2⟩:=t3 x hx;exact⟨⟨vs,r1,r2⟩,_,vs,rfl,r1,jX6 qUv _ (hk _ hm) r2⟩
noncomputable def qQo:List T->Gp->VK3->Prop:=λxs G Q=>∃(p:Addr)(kvs:List (TKey×T))(b:Bool)(tks:List (List T×TKey)),xs=[.ref p]/\G p=some (.dct kvs)/\tks.map (·.2)=kvs.map (·.1)/\tks.length<64/\(tks.map (·.2)).Nodup/\(∀e,e∈tks->SKey b e.1 e.2)/\(∀e,e∈tks->∀e',e'∈tks->(ltK e.2 e'.2).isSome=true)/\
 ∀(q:Addr)(kys:List (List T×TKey)),G q=none->kys.Perm tks->kys.Pairwise (λx y=>ltK x.2 y.2=some true)->Q (.ref q) (gup G q (.lst (kys.map λe=> .tup e.1)))
theorem uUb(hc:X.calm=true)(hu:X.A.units+20<cLine):Call3 X (.builtin "sorted") qQo:=by
 rintro pins s τ G H xs us Q ⟨σ,I,hs,hg⟩ ⟨as,ras,rvs⟩ ⟨pa,kvs,b,tks,ex,hp,ek,hn,hnd,hk,hlt,q⟩;subst ex;obtain⟨v,rfl,rv⟩:=jUn ras;obtain⟨u,rfl,ru⟩:=rvs.one;cases (show v= .ref pa from rv);cases ru
 obtain⟨ws,h1,h2⟩:=(show ∃ws,H pa=some (.dT ws)/\PKV X.K H kvs ws from hg pa _ hp)
 obtain⟨o,es,ep,tb,ho,hc',hx,hd,t1,t3,t4⟩:=uQ3 (show ObjOk X.prog X.w H s.heap pa (.dT ws) from I.hok pa _ h1) h2 ek (λe he=>(hk e he).1)
 have hmem:∀e,e∈tb->e.1∈tks:=λe he=>by rw[<-t1];exact lJi.mpr ⟨e,he,rfl⟩
 have tl:tb.length=tks.length:=by rw[<-t1,lJg]
 refine kUr (b:=b) (ks:=tb.map λe=>(e.1.2,e.2)) (I.ok.hd hc) hd ho hc' hx (by rw[t3,lJr];rfl) hu (λe he=> ?_) (λe he e' he'=> ?_) (by rw[lJr];rw[<-t1,lJr] at hnd;exact hnd) (by rw[lJg];omega) λes h3 tk D c hp so hD hoD kp=> ?_
 .obtain⟨y,hy,rfl⟩:=lJi.mp he;exact⟨jXx I.hok (t4 y hy).1,(hk _ (hmem y hy)).2⟩
 .obtain⟨y,hy,rfl⟩:=lJi.mp he;obtain⟨y',hy',rfl⟩:=lJi.mp he';exact hlt _ (hmem y hy) _ (hmem y' hy')
 obtain⟨tb',p1,p2⟩:=jXa hp tb rfl;have fr:=I.hok.fresh hD;have I3:=I.laid (a:=D) (o:= .lst (tb'.map λe=>V.ref e.2)) (h':=h3) (t':=tk) kp hD ⟨by rw[lJg,lKg,p1.length_eq];omega,tb'.map λe=>Value.ref e.2,c,jX7 tb',by rw[p2,lJr] at hoD;exact hoD⟩
 have ext:Ext H (upd H D (.lst (tb'.map λe=>V.ref e.2))):= .upd (.none fr)
 refine⟨.ref D,_,_,ext,⟨σ,I3,hs.mono ext,hg.lstNew (kXe tb' λe he=>(t4 e (p1.mem_iff.mp he)).2) (.none fr)⟩,⟨.ref D,rfl,rfl⟩,?_⟩
 have:=q D (tb'.map (·.1)) (hg.fresh fr) (by rw[<-t1];exact p1.map _) (by rw[p2,lVk] at so;rw[lVk];exact so)
 rw[lJr] at this;exact this
end
end L3
namespace L3
open PySem PySem.Spec PyProof.Rows L2
section
variable {X:Cx}
def kXr:R3:=λx y G Q=>∃p xs,y= .ref p/\G p=some (.lst xs)/\eqOk x=true/\jYu xs=true/\Q (.bl (!(tds xs).any λz=>PyData.eqv z (td x))) G
theorem qYf(hu:X.A.units+64<cLine):Op3 X (compareOp .NotIn) kXr:=by
 rintro pins s τ G H x y v u Q ⟨σ,I,hs,hg⟩ ⟨a,ra,rv⟩ ⟨b,rb,ru⟩ ⟨p,xs,ey,hp,ox,oxs,q⟩;subst ey;cases (show b= .ref p from rb)
 cases ru;obtain⟨vs,h1,h2⟩:=hg.lst hp;obtain⟨its,r1,⟨o,n,ho,hc,_,hd⟩,_⟩:=I.list (.of h1);simp only[eqOk,jYu,lKt,lK7] at ox oxs;obtain⟨as,r3⟩:=jXo I xs oxs.1.1 h2 r1;obtain⟨bs,r4⟩:=kQn I x ox.1.1 ra rv;have hd':=ox.2;exact SeqAt.notIn_list_reads (.list ho hc hd (by simpa using r3)) r4 (by simpa[PyData.canLay0] using oxs.1.2) ox.1.2 (by have:=Nat.min_le_right (PyData.depthAll (tds xs)) (td x).depth;omega) ⟨.bl _,G,H,.refl H,⟨σ,I,hs,hg⟩,⟨.bl _,rfl,rfl⟩,q⟩
end
end L3
namespace W
open PySem L3
abbrev B0:TE3:=tVar 0
abbrev B1:TE3:=tVar 1
abbrev B2:TE3:=tVar 2
abbrev B3:TE3:=tVar 3
abbrev B4:TE3:=tVar 4
abbrev B5:TE3:=tVar 5
abbrev B6:TE3:=tVar 6
abbrev B7:TE3:=tVar 7
abbrev B8:TE3:=tVar 8
abbrev B9:TE3:=tVar 9
abbrev B10:TE3:=tVar 10
abbrev B11:TE3:=tVar 11
abbrev B12:TE3:=tVar 12
abbrev B13:TE3:=tVar 13
abbrev C0:TA3:=jJc B0 tNil
abbrev C1:TA3:=jJc B1 tNil
abbrev C2:TA3:=jJc B2 tNil
abbrev C3:TA3:=jJc B3 tNil
abbrev C4:TA3:=jJc B4 tNil
abbrev C5:TA3:=jJc B5 tNil
abbrev C6:TA3:=jJc B6 tNil
abbrev C7:TA3:=jJc B7 tNil
abbrev C8:TA3:=jJc B8 tNil
abbrev C9:TA3:=jJc B9 tNil
abbrev C10:TA3:=jJc B10 tNil
abbrev C11:TA3:=jJc B11 tNil
abbrev tI0:TE3:=tC (.int 0)
abbrev tI1:TE3:=tC (.int 1)
abbrev tI2:TE3:=tC (.int 2)
abbrev D1:TG3:=jJg 1
abbrev D2:TG3:=jJg 2
abbrev D3:TG3:=jJg 3
abbrev D4:TG3:=jJg 4
abbrev D5:TG3:=jJg 5
abbrev D6:TG3:=jJg 6
abbrev D7:TG3:=jJg 7
abbrev D8:TG3:=jJg 8
abbrev D9:TG3:=jJg 9
abbrev D10:TG3:=jJg 10
abbrev D11:TG3:=jJg 11
abbrev D12:TG3:=jJg 12
abbrev D13:TG3:=jJg 13
abbrev fF:=false
abbrev tT:=true
local macro_rules
 | `(tactic| exists $ts,*) => do
  let ls ← ts.getElems.mapM fun t => `(Lean.Parser.Tactic.simpLemma| $t:term)
  let ns ← ("C0 C1 C2 C3 C4 C5 C6 C7 C8 C9 C10 C11 tI0 tI1 tI2 D1 D2 D3 D4 D5 D6 D7 D8 D9 D10 D11 D12 D13 fF tT B0 B1 B2 B3 B4 B5 B6 B7 B8 B9 B10 B11 B12 B13 tSeq tIfS jJx tOp rGt rLt rGe rSub L3.rI0 L3.rI rIxF tVar tC tAsg tCB jJc tNil kXu rLen rAbs rMax kKp gTup jKa gNil gSub jJg jQh tRet uUu jKm jQg jJs tLst tTup tIf tNot tAnd tOr uKn tOrV uKm tPar jJ7 jQv rMod uVc rPow rIsN jZ7 kKg tTru rTru truT tUn rNeg qZ2 kZj qYo qYn uQz qVc uQo uQp at0 at1 at2 ix30 ix31 ix32 qXq qXp uQq qXr Option.map_some and_assoc T.int.injEq T.bl.injEq T.tup.injEq T.ref.injEq List.cons.injEq and_true true_and exists_eq_left exists_eq_left' exists_and_left exists_eq_right List.getElem?_cons_zero List.getElem?_cons_succ List.set_cons_zero List.set_cons_succ List.length_cons List.length_nil Nat.reduceAdd Option.some.injEq jJh qU4 reduceCtorEq false_and exists_false exists_const Bool.true_eq Bool.not_eq_true' Bool.not_true Bool.not_false if_true if_false decide_eq_true_eq tBM jJ5 jZ8 jJ6 qXk jUf GO.lst.injEq msk List.zipWith_cons_cons List.zipWith_nil_left List.zipWith_nil_right Bool.false_eq_true uKi".splitOn " ").toArray.mapM fun n => `(Lean.Parser.Tactic.simpLemma| $(Lean.mkIdent n.toName):term)
  let al:=ns++ls
  `(tactic| ((try dsimp only [$al,*]); (try simp only [$al,*])))
local macro_rules
 | `(tactic| omega) => `(tactic| first | exact szle rfl | lia)
def BoxAt(G:Gp)(b:Addr)(n:Nat):Prop:=∃x y z:Int,G b=some (.lst [.int x,.int y,.int z])/\0<=x/\0<=y/\y<2147483648/\0<=z/\z<=n
def Keep(b:Addr)(G G':Gp):Prop:=∀c o,c≠b->G c=some o->G' c=some o
theorem Keep.refl(b:Addr)(G:Gp):Keep b G G:=λ_ _ _ h=>h
theorem Keep.trans{b:Addr}{G G1 G2:Gp}(h:Keep b G G1)(h':Keep b G1 G2):Keep b G G2:=λc o hc e=>h' c o hc (h c o hc e)
theorem Keep.gup{b:Addr}{G:Gp}{o:GO}:Keep b G (gup G b o):=λc u hc e=>by rw[jJm hc];exact e
theorem Keep.new{b p:Addr}{G:Gp}{o:GO}(hp:G p=none):Keep b G (L3.gup G p o):=λc u _ e=>by rw[jJm];exact e;rintro rfl;rw[hp] at e;cases e
abbrev RdOk(sp:Sp3)(rd:TS3)(N:List Str):Prop:=∀xs G Q,sp xs G Q->rd {nx:=λ_ G'=>Q .non G',rt:=Q} (jZs N xs) G
noncomputable def jJp:Sp3:=λxs G Q=>∃(b:Addr)(m:Int)(n:Nat),xs=[.ref b,.int m]/\BoxAt G b n/\n<2^40/\1<=m/\m<2^29/\∀(r:Int) G',0<=r->r<m->BoxAt G' b (n+1)->Keep b G G'->Q (.int r) G'
def qZ7:List Str:=["_law_box_here","_law_many","_law_found","_law_once"]
noncomputable def jZ1:TS3:=
 (tSeq (tIfS (jJx (tOp rGt (tOp rIxF B0 tI0) tI0)) (tSeq (tAsg (tCB kXu (jJc (tOp rIxF B0 tI0) C1)) (gTup 2 (jKa (gSub B0 tI0 jQh) (jKa D2 gNil))))
 (tRet B2)) jKm)
 (tSeq (tAsg (tOp jJ7 (tOp rIxF B0 tI2) tI1) (gSub B0 tI2 jQh))
 (tSeq (tAsg (tOp rMod (tOp jQv (tOp jJ7 (tOp rIxF B0 tI1) (tOp jQv (tC (.int 39373)) (tOp rIxF B0 tI2))) (tOp jJ7 (tC (.int 48271)) (tOp rIxF B0 tI2))) (tC (.int 2147483647))) D3)
 (tSeq (tAsg (tOp rMod (tOp jJ7 (tOp jQv B3 (tOp jJ7 (tOp rMod B3 (tC (.int 40009))) (tC (.int 7)))) (tOp rIxF B0 tI2)) (tC (.int 2147483629))) (gSub B0 tI1 jQh))
 (tRet (tOp rMod (tOp uVc (tOp rMod (tOp jQv (tOp rIxF B0 tI1) (tOp jJ7 (tOp rMod (tOp rIxF B0 tI1) (tC (.int 1009))) (tC (.int 3)))) (tC (.int 998244353))) (tC (.int 7))) B1))))))
theorem kXi:RdOk jJp jZ1 qZ7:=by
 intro xs G Q h_;apply xe3 h_;clear h_;intro b m n;refine ae5 ?_;intro q0_ hn hm1 hm2 k;obtain⟨x,y,z,hb,hx,hy0,hy1,hz0,hz1⟩:=q0_;show jZ1 _ [some (.ref b),some (.int m),none,none] G
 exists jZ1,jJy hb,uJk hb
 have box:∀x' y' z':Int,0<=x'->0<=y'->y'<2147483648->0<=z'->z'<=n+1->BoxAt (gup G b (.lst [.int x',.int y',.int z'])) b (n+1):=λx' y' z' h1 h2 h3 h4 h5=>⟨x',y',z',jJh,h1,h2,h3,h4,by omega⟩
 split
 .refine⟨⟨by omega,by omega⟩,k _ _ (lVu _ (by omega)) (lVv _ (by omega)) (box _ _ _ (Int.ediv_nonneg hx (by omega)) hy0 hy1 hz0 (by omega)) .gup⟩
 .have a0:=lVu ((y+39373*(z+1))*(48271+(z+1))) (b:=2147483647) (by decide)
  have a1:=lVv ((y+39373*(z+1))*(48271+(z+1))) (b:=2147483647) (by decide)
  refine⟨.inl (by decide),.inr ⟨by omega,by omega⟩,by decide,by decide,?_⟩
  generalize (y+39373*(z+1))*(48271+(z+1))%2147483647=u at a0 a1 ⊢
  have b0:=lVu (u*(u%40009+7)+(z+1)) (b:=2147483629) (by decide)
  have b1:=lVv (u*(u%40009+7)+(z+1)) (b:=2147483629) (by decide)
  refine⟨.inl ⟨by omega,by omega⟩,by decide,by decide,?_⟩
  generalize (u*(u%40009+7)+(z+1))%2147483629=v at b0 b1 ⊢
  refine⟨.inl ⟨by omega,by omega⟩,by decide,⟨by decide,by decide⟩,by omega,?_⟩
  exact k _ _ (lVu _ (by omega)) (lVv _ (by omega)) (box _ _ _ hx b0 (by omega) (by omega) (by omega)) .gup
abbrev jQo(ns:List Int):List T:=ns.map T.int
theorem sz:sizeLine=16777216:=lZg
noncomputable def kQe:Sp3:=λxs G Q=>∃(c:Addr)(ns:List Int)(k:Int),xs=[.ref c,.int k]/\G c=some (.lst (jQo ns))/\ns.length<=63/\0<=k/\k<100/\∀p G',G p=none->BoxAt G' p 0->Sub G G'->Q (.ref p) G'
def uUh:List Str:=["_law_script","_law_k","_law_cell"]
noncomputable def kQx:TS3:=
 (tSeq (tAsg (tOp rIxF (tOp jJ7 B0 (tOp jQv (tLst (jJc tI0 tNil)) (tOp jJ7 B1 tI1))) B1) D2)
 (tRet (tLst (jJc (tOp jQv (tCB rAbs C2) (tCB kKp (jJc (tOp rGe (tCB rAbs C2) (tOp rPow (tC (.int 10)) (tC (.int 18)))) tNil))) (jJc (tOp rMod (tOp jQv (tOp jJ7 (tOp jJ7 (tOp rMod B2 (tC (.int 2147483647))) (tOp jQv (tC (.int 7919)) B1)) (tC (.int 11))) (tC (.int 48271))) (tC (.int 2147483629))) (jJc tI0 tNil))))))
theorem qJw:RdOk kQe kQx uUh:=by
 intro xs G Q h_;apply xe3 h_;clear h_;intro c ns k;refine ae5 ?_;intro hc hl hk0 hk1 kk;show kQx _ [some (.ref c),some (.int k),none] G
 have hs:=sz
 exists kQx
 refine⟨by omega,λp hp=> ?_⟩
 have e1:mulR (gup G p (GO.lst [T.int 0])) (.ref p) (.int (k+1))=some (.newL (List.replicate (k+1).toNat [T.int 0]).flatten):=by
  simp only[mulR,jJh];rw[lJc];refine⟨?_,?_,?_⟩<;>simp<;>omega
 exists e1
 intro q hq;obtain⟨hqp,hq0⟩:=jKf hq;have hcp:=jJf hc hp;have hcq:=jJf hc hq0;have hc2:gup (gup G p (GO.lst [T.int 0])) q (GO.lst (List.replicate (k+1).toNat [T.int 0]).flatten) c=some (.lst (jQo ns)):=by rw[jJm hcq,jJm hcp];exact hc
 have hfl:(List.replicate (k+1).toNat [T.int 0]).flatten=List.replicate (k+1).toNat (T.int 0):=by
  induction (k+1).toNat with
  | zero=>rfl
  | succ n ih=>rw[lK2,lQv,ih];rfl
 have e2:=qJg (q:=q) hc2 jJh (by rw[hfl];simp;omega)
 exists e2
 intro r hr;obtain⟨hrq,hr1⟩:=jKf hr;obtain⟨hrp,hr0⟩:=jKf hr1
 obtain⟨v,hv⟩:∃v:Int,L2.atI (jQo ns++(List.replicate (k+1).toNat [T.int 0]).flatten) k=some (.int v):=by
  rw[atZ hk0,hfl]
  by_cases h:k.toNat<ns.length
  .rw[lJ9 (by simpa using h)]
   exact⟨ns[k.toNat],by simp[h]⟩
  .rw[lQe (by simpa using h),lXp]
   exact⟨0,by rw[lJc];simp;omega⟩
 exists hv
 refine⟨⟨by decide,by decide,by decide⟩,.inr (by split<;>split<;>decide),by decide,.inl (by decide),.inr (by decide),by decide,by omega,λb hbn=> ?_⟩
 obtain⟨hbr,hb1⟩:=jKf hbn;obtain⟨hbq,hb2⟩:=jKf hb1;obtain⟨hbp,hb0⟩:=jKf hb2;refine kk b _ hb0 ⟨_,_,_,jJh,Int.mul_nonneg (by split<;>omega) (by split<;>split<;>decide),lVu _ (by decide),?_,Int.le_refl _,by simp⟩ ((((Sub.new hp).over hq0).over hr0).over hb0)
 have:=lVv ((v%2147483647+7919*k+11)*48271) (b:=2147483629) (by decide)
 omega
noncomputable def jV2:Sp3:=λxs G Q=>∃(ns:List Int)(m:Int),xs=[.scr (jQo ns),.int m]/\ns.length<=63/\1<=m/\m<=63/\∀p G' (ms:List Int),G p=none->G' p=some (.lst (jQo ms))->ms.length<=m.toNat->ms.length<=63->Sub G G'->Q (.ref p) G'
def qKr:List Str:=["_law_script","_law_many","_law_cells","_law_k","_law_cell"]
noncomputable def jV7:TS3:=
 (tSeq (tAsg (tCB qQr (jJc (tSl rSlF B0 jZr (kV8 B1)) tNil)) D2)
 (tSeq (tFor (jX0 (jJc (tSl rSlF B0 (kV8 B1) (kV8 (tC (.int 63)))) tNil)) (gTup 2 (jKa D3 (jKa D4 gNil))) (tAsg (tOp jJ7 (tOp rIxF B2 (tOp rMod B3 B1)) (tOp jQv B4 (tOp jJ7 B3 tI2))) (gSub B2 (tOp rMod B3 B1) jQh)))
 (tRet B2)))
theorem kQq:RdOk jV2 jV7 qKr:=by
 intro xs G Q h_;apply xe2 h_;clear h_;intro ns m;refine ae4 ?_;intro hl hm1 hm2 kk;show jV7 _ [some (.scr (jQo ns)),some (.int m),none,none,none] G
 have hs:=sz
 exists jV7,tSl,rSlF,slR,jZr,kV8,qQr,kXs,jJt,jX0
 intro p hp p1 hp1;obtain⟨hpp,hp10⟩:=jKf hp1;intro q hq;obtain⟨hq1,hq2⟩:=jKf hq;obtain⟨hqp,hq0⟩:=jKf hq2
 obtain⟨cs,hcs,lcs⟩:∃cs:List Int,cutT (jQo ns) none (some m)=jQo cs/\cs.length=min m.toNat ns.length:=by
  refine⟨ns.take (min m.toNat ns.length),?_,by simp⟩
  simp only[cutT,HT.sIx,lJg,List.drop_zero,Nat.sub_zero];rw[lJb (by omega)]
  simp[lXd]
 obtain⟨rs,hrs,lrs⟩:∃rs:List Int,cutT (jQo ns) (some m) (some 63)=jQo rs/\(rs.length<=63/\(0<rs.length->m.toNat<=ns.length)):=by
  refine⟨(ns.drop (min m.toNat ns.length)).take (min 63 ns.length-min m.toNat ns.length),?_,?_,?_⟩
  .simp only[cutT,HT.sIx,lJg];simp only[show ¬ m<0 by omega,show ¬ (63:Int)<0 by decide,lJ6]
   simp[lXd,lXz]
  .simp;omega
  .simp;omega
 rw[hcs,hrs];refine⟨jQo rs,by simp only[jQ7,jJh,asL],?_⟩
 refine⟨λi τ G'=>∃(v3 v4:Option T)(ms:List Int),τ=[some (.scr (jQo ns)),some (.int m),some (.ref p1),v3,v4]/\G' p1=some (.lst (jQo ms))/\ms.length=cs.length/\G' q=some (.lst (jQo rs))/\Sub G G',?_,?_,?_,?_⟩
 .refine⟨none,none,cs,rfl,by rw[jJm hq1.symm,jJh],rfl,jJh,(((Sub.new hp).over hp10).over hq0)⟩
 .intro i τ G' hi h_;apply xe3 h_;clear h_;intro v3 v4 ms;refine ae4 ?_;intro h1 h2 h3 h4;simp only[jQ7,h3,asL]
 .intro i x τ G' hx h_;apply xe3 h_;clear h_;intro v3 v4 ms;refine ae4 ?_;intro h1 h2 h3 h4;have hi:i<rs.length:=by have:=(lJe.mp hx).1;simpa[jJ2] using this
  have hri:(jQo rs)[i]? =some (.int rs[i]):=by simp[hi]
  rw[jUd hri] at hx;cases hx;have hml:=lrs.2 (by omega)
  have hk0:(0:Int)<=(i:Int)%m:=lVu _ (by omega)
  have hk1:(i:Int)%m<m:=lVv _ (by omega)
  have hk:((i:Int)%m).toNat<ms.length:=by omega
  have hat:L2.atI (jQo ms) ((i:Int)%m)=some (.int ms[((i:Int)%m).toNat]):=by rw[atZ hk0];simp[hk]
  have hix:L2.ixN (jQo ms).length ((i:Int)%m)=some ((i:Int)%m).toNat:=ixZ hk0 (by simp;omega)
  exists jJy h1,hat,jUa h1 hix
  refine⟨by omega,.inr ⟨by omega,by omega⟩,by omega,?_⟩
  exact⟨ms.set ((i:Int)%m).toNat (ms[((i:Int)%m).toNat]+rs[i]*((i:Int)+2)),by simp[jQo,List.map_set],by simpa using h2,by rw[jJm hq1];exact h3,h4.over hp10⟩
 .intro τ G' h_;apply xe3 h_;clear h_;intro v3 v4 ms;refine ae4 ?_;intro h1 h2 h3 h4
  exists tSeq
  exact kk p1 G' ms hp10 h1 (by omega) (by omega) h4
abbrev Web:=List (List (Nat×Nat))
def encE(e:Nat×Nat):T:= .tup [.int e.1,.int e.2]
def encR(r:List (Nat×Nat)):T:= .tup (r.map encE)
def encW(W:Web):T:= .tup (W.map encR)
def en(W:Web)(r i:Nat):Option (Nat×Nat):=(W[r]?).bind λes=>es[i]?
def Sym(W:Web):Prop:=∀r i s j,en W r i=some (s,j)->en W s j=some (r,i)
def sw:Nat->Nat
 | 0=>1
 | 1=>0
 | n=>n
theorem uX9{n:Nat}(h:n<=2):sw (sw n)=n/\sw n<=2:=by
 have:n=0\/n=1\/n=2:=by omega
 rcases this with rfl | rfl | rfl<;>exact⟨rfl,by decide⟩
def RowsAt(G:Gp)(h:Addr)(Hs:Web)(rs:List Addr):Prop:=G h=some (.lst (rs.map T.ref))/\rs.length=Hs.length/\∀(i:Nat)(r:Addr),rs[i]? =some r->∃hs:List (Nat×Nat),Hs[i]? =some hs/\G r=some (.lst (hs.map encE))
theorem RowsAt.sub{G G':Gp}{h:Addr}{Hs:Web}{rs:List Addr}(s:Sub G G')(x:RowsAt G h Hs rs):RowsAt G' h Hs rs:=⟨s _ _ x.1,x.2.1,λi r e=>let ⟨hs,h1,h2⟩:=x.2.2 i r e;⟨hs,h1,s _ _ h2⟩⟩
structure JoinOk (Hs:Web):Prop where
 len:Hs.length<=1000
 row:∀(r:Nat)(hs:List (Nat×Nat)),Hs[r]? =some hs->hs.length<=1000
 inj:∀r i r' i' h,en Hs r i=some h->en Hs r' i'=some h->r=r'/\i=i'
 part:∀r i t s,en Hs r i=some (t,s)->s<=2/\∃r' i',en Hs r' i'=some (t,sw s)
def keyE(e:Nat×Nat):L2.TKey:=[.inl (.inl (e.1:Int)),.inl (.inl (e.2:Int))]
theorem jZj{a b:Nat×Nat}(h:keyE a=keyE b):a=b:=by
 obtain⟨a1,a2⟩:=a;obtain⟨b1,b2⟩:=b;simp only[keyE,lVa,Sum.inl.injEq,lXm] at h;obtain⟨h1,h2⟩:=h;rw[lX3 h1,lX3 h2]
theorem jVq{a b:Int}:jKx [.int a,.int b]=some [.inl (.inl a),.inl (.inl b)]:=rfl
theorem qXg{κ:Type}[DecidableEq κ](kvs:List (κ×T))(k j:κ)(v:T):valT (putT kvs k v) j=if k=j then some v else valT kvs j:=by
 unfold putT valT
 by_cases h:(kvs.any λkv=>decide (kv.1=k))=true
 .rw[lJc h]
  induction kvs with
  | nil=>simp at h
  | cons p ps ih=>
   rw[lJq,lQf,lQf]
   by_cases hp:p.1=k
   .rw[lJc hp]
    by_cases hj:k=j
    .simp[hp,hj]
    .have h1:¬ p.1=j:=λz=>hj (hp.symm.trans z)
     simp only[h1,decide_false,hj,lJ6]
     by_cases h2:(ps.any λkv=>decide (kv.1=k))=true
     .have:=ih h2;rw[lJb hj] at this;exact this
     .have hm:ps.map (λkv=>if kv.1=k then (kv.1,v) else kv)=ps:=by
       rw[lXe (g:=id)];· simp
       intro a ha;have:¬ a.1=k:=λz=>h2 (lYo.mpr ⟨a,ha,by simp[z]⟩)
       simp[this]
      rw[hm]
   .rw[lJb hp]
    have h2:(ps.any λkv=>decide (kv.1=k))=true:=by
     rw[lQu,lJ4 hp,Bool.false_or] at h;exact h
    have:=ih h2
    by_cases hj:p.1=j
    .have:¬ k=j:=λz=>hp (hj.trans z.symm)
     simp[hj,this]
    .simp only[hj,decide_false];exact this
 .rw[lJb h,List.find?_append]
  have hn:(kvs.find? λkv=>decide (kv.1=j))=none\/∃p,(kvs.find? λkv=>decide (kv.1=j))=some p:=by
   cases kvs.find? λkv=>decide (kv.1=j) with
   | none=>exact .inl rfl
   | some p=>exact .inr ⟨p,rfl⟩
  by_cases hj:k=j
  .subst hj
   have:(kvs.find? λkv=>decide (kv.1=k))=none:=by
    rw[lXy];intro a ha z;exact h (lYo.mpr ⟨a,ha,z⟩)
   simp[this]
  .rcases hn with e | ⟨p,e⟩
   .simp[e,hj]
   .simp[e,hj]
theorem qX8{κ:Type}[DecidableEq κ](kvs:List (κ×T))(k:κ)(v:T):(putT kvs k v).length<=kvs.length+1:=by
 unfold putT;split<;>simp
theorem kYo{G:Gp}{p:Addr}{kvs:List (L2.TKey×T)}{ys:List T}{ks:L2.TKey}(h:G p=some (.dct kvs))(hk:jKx ys=some ks):dAt G (.ref p) (.tup ys)=some (valT kvs ks):=by simp only[dAt,h,hk]
theorem uQr{G:Gp}{p:Addr}{kvs:List (L2.TKey×T)}{ys:List T}{ks:L2.TKey}{t:T}(h:G p=some (.dct kvs))(hk:jKx ys=some ks)(ht:valT kvs ks=some t):ixR G (.ref p) (.tup ys)=some t:=by
 simp only[ixR,seqT,h,asL,kYo h hk,ht]
theorem kY8{G:Gp}{p:Addr}{kvs:List (L2.TKey×T)}{ys:List T}{ks:L2.TKey}{v:T}(h:G p=some (.dct kvs))(hk:jKx ys=some ks)(hz:kvs.length<sizeLine):setR G (.ref p) (.tup ys) v=some (gup G p (.dct (putT kvs ks v))):=by
 simp only[setR,h,hk,hz,lK0]
theorem jKo{W:Web}{r i:Nat}{e:Nat×Nat}(h:en W r i=some e):∃es,W[r]? =some es/\es[i]? =some e:=by
 unfold en at h;cases e1:W[r]? with
 | none=>rw[e1] at h;cases h
 | some es=>rw[e1] at h;exact⟨es,rfl,h⟩
theorem jKu{W:Web}{r i:Nat}{es:List (Nat×Nat)}{e:Nat×Nat}(h1:W[r]? =some es)(h2:es[i]? =some e):en W r i=some e:=by unfold en;rw[h1];exact h2
structure Joined (Hs W:Web):Prop where
 len:W.length=Hs.length
 row:∀(r:Nat)(hs:List (Nat×Nat)),Hs[r]? =some hs->∃es,W[r]? =some es/\es.length=hs.length
 to:∀r i t sd s j,en Hs r i=some (t,sd)->en Hs s j=some (t,sw sd)->en W r i=some (s,j)
theorem Joined.sym{Hs W:Web}(J:Joined Hs W)(ok:JoinOk Hs):Sym W:=by
 intro r i s j h;obtain⟨es,h1,h2⟩:=jKo h;have hr:r<Hs.length:=by rw[<-J.len];exact (lJe.mp h1).1
 obtain⟨es',h3,h4⟩:=J.row r _ (lJf hr);rw[h1] at h3;cases h3;have hi:i<Hs[r].length:=by rw[<-h4];exact (lJe.mp h2).1
 have e1:en Hs r i=some (Hs[r][i]):=jKu (lJf hr) (lJf hi)
 generalize Hs[r][i]=e0 at e1
 obtain⟨t,sd⟩:=e0;obtain⟨hsd,r',i',e2⟩:=ok.part r i t sd e1;have e3:=J.to r i t sd r' i' e1 e2;rw[h] at e3;cases e3;refine J.to s j t (sw sd) r i e2 ?_;rw[(uX9 hsd).1];exact e1
open Classical in
def oth(Hs:Web)(e:Nat×Nat):Nat×Nat:=if h:∃p:Nat×Nat,en Hs p.1 p.2=some (e.1,sw e.2) then h.choose else (0,0)
theorem uJx{Hs:Web}{e:Nat×Nat}{r i:Nat}(h:en Hs r i=some (e.1,sw e.2)):en Hs (oth Hs e).1 (oth Hs e).2=some (e.1,sw e.2):=by
 unfold oth;have:∃p:Nat×Nat,en Hs p.1 p.2=some (e.1,sw e.2):=⟨(r,i),h⟩
 rw[dif_pos this];exact this.choose_spec
theorem qKe{Hs:Web}(ok:JoinOk Hs):Joined Hs (Hs.map (List.map (oth Hs))) where
 len:=by simp
 row:=λr hs h=>⟨hs.map (oth Hs),by simp[h],by simp⟩
 to:=λr i t sd s j h1 h2=>by
  obtain⟨es,q1,q2⟩:=jKo h1;have:en (Hs.map (List.map (oth Hs))) r i=some (oth Hs (t,sd)):=jKu (es:=es.map (oth Hs)) (by simp[q1]) (by simp[q2])
  rw[this];have h3:=uJx (e:=(t,sd)) h2;obtain⟨z1,z2⟩:=ok.inj _ _ _ _ _ h3 h2;rw[<-z1,<-z2]
def jV1:Sp3:=λxs G Q=>∃(h:Addr)(Hs:Web)(rs:List Addr),xs=[.ref h]/\RowsAt G h Hs rs/\JoinOk Hs/\∀G' W,Sub G G'->Joined Hs W->Q (encW W) G'
def qKq:List Str:=["_law_halves","_law_at","_law_room","_law_door","_law_half","_law_web_here","_law_doors","_law_tie","_law_side"]
noncomputable def jV6:TS3:=
 (tSeq (tAsg jX8 D1)
 (tSeq (tFor (jJ1 (jJc (tCB rLen C0) tNil)) D2 (tFor (jX0 (jJc (tOp rIxF B0 B2) tNil)) (gTup 2 (jKa D3 (jKa D4 gNil))) (tAsg (tTup (jJc B2 C3)) (gSub B1 B4 jQh))))
 (tSeq (tAsg (tLst tNil) D5)
 (tSeq (tFor (iSeq B0) D6 (jQg (tBM "list" jJ5 B5 (jJc (tCB jJ6 (jJc (jQb [fF,fF,fF,fF,fF,fF,fF,tT,tT] (iSeq B6) (gTup 2 (jKa D7 (jKa D8 gNil))) jUf (tOp rIxF B1 (tTup (jJc B7 (jJc (tOp rIxF (tLst (jJc tI1 (jJc tI0 (jJc tI2 tNil)))) B8) tNil))))) tNil)) tNil))))
 (tRet (tCB jJ6 C5))))))
def Tab(Hs:Web)(kvs:List (L2.TKey×T))(done:Nat->Nat->Prop):Prop:=∀r i e,en Hs r i=some e->done r i->valT kvs (keyE e)=some (encE (r,i))
theorem jKs{n i:Nat}{x:T}(h:(rngT 0 n)[i]? =some x):i<n/\x= .int i:=by
 unfold rngT at h;rw[lJj] at h
 have hi:i<n:=by
  rcases lQr i n with z | z
  .exact z
  .rw[lJy (by simpa using z)] at h;cases h
 simp[hi] at h;exact⟨hi,h.symm⟩
theorem jKc{n:Nat}:(rngT 0 n).length=n:=by simp[rngT]
theorem kQp:RdOk jV1 jV6 qKq:=by
 intro xs G Q h_;apply xe3 h_;clear h_;intro h Hs rs;refine ae3 ?_;intro q0_ ok kk;obtain⟨hh,hlen,hrow⟩:=q0_;show jV6 _ [some (.ref h),none,none,none,none,none,none,none,none] G
 have hs:=sz;have hL:=ok.len
 exists jV6,jX8,jJt,jJ1
 refine .inl λd hd=> ?_
 have hhd:=jJf hh hd;have hrl:(rs.map T.ref).length=Hs.length:=by simp[hlen]
 refine⟨rs.map T.ref,by simp only[seqT,jJm hhd,hh,asL],by rw[hrl];omega,by rw[hrl];omega,?_⟩
 rw[hrl,show ((Hs.length:Int)).toNat=Hs.length by omega]
 refine⟨λr τ G'=>∃(v2 v3 v4:Option T)(kvs:List (L2.TKey×T)),τ=[some (.ref h),some (.ref d),v2,v3,v4,none,none,none,none]/\G' d=some (.dct kvs)/\kvs.length<=1000*r/\Tab Hs kvs (λr' _=>r'<r)/\Sub G G',?_,?_,?_,?_⟩
 .exact⟨none,none,none,[],rfl,jJh,lJx _,λr i e _ z=>absurd z (lKd _),.new hd⟩
 .intros;trivial
 .intro r x τ G1 hx h_;apply xe4 h_;clear h_;intro v2 v3 v4 kvs;refine ae4 ?_;intro hdk hkl tab sb;obtain⟨hr,rfl⟩:=jKs hx;have hri:r<rs.length:=by omega
  obtain⟨hs',hH,hG⟩:=hrow r rs[r] (lJf hri);have hh1:=sb _ _ hh;have hG1:=sb _ _ hG;have hat:L2.atI (rs.map T.ref) (r:Int)=some (.ref rs[r]):=by rw[atN];simp[hri]
  have hrow1000:=ok.row r hs' hH
  exists jJt,jX0,jJy hh1,hat
  refine⟨hs'.map encE,by simp only[jQ7,hG1,asL],?_⟩
  refine⟨λi τ G'=>∃(v3 v4:Option T)(kvs:List (L2.TKey×T)),τ=[some (.ref h),some (.ref d),some (.int r),v3,v4,none,none,none,none]/\G' d=some (.dct kvs)/\kvs.length<=1000*r+i/\Tab Hs kvs (λr' i'=>r'<r\/(r'=r/\i'<i))/\Sub G G',?_,?_,?_,?_⟩
  .exact⟨v3,v4,kvs,rfl,hdk,hkl,λr' i' e he hd'=>tab r' i' e he (by rcases hd' with z | ⟨_,z⟩;exact z;exact absurd z (lKd _)),sb⟩
  .intro i τ G' hi h_;apply xe3 h_;clear h_;intro v3 v4 kvs;refine ae4 ?_;intro h1 h2 h3 h4;simp only[jQ7,h4 _ _ hG,asL]
  .intro i x τ G2 hx h_;apply xe3 h_;clear h_;intro v3 v4 kvs;refine ae4 ?_;intro h1 h2 h3 h4;have hi:i<hs'.length:=by have:=(lJe.mp hx).1;simpa[jJ2] using this
   have hri2:(hs'.map encE)[i]? =some (encE hs'[i]):=by simp[hi]
   rw[jUd hri2] at hx;cases hx;have hz:kvs.length<sizeLine:=by omega
   exists encE,kY8 h1 jVq hz
   refine⟨by omega,?_⟩
   refine⟨putT kvs (keyE hs'[i]) (encE (r,i)),rfl,by have:=qX8 kvs (keyE hs'[i]) (encE (r,i));omega,λr' i' e he hd'=> ?_,h4.over hd⟩
   show valT (putT kvs (keyE hs'[i]) _) (keyE e)=_
   rw[qXg];have eri:en Hs r i=some hs'[i]:=jKu hH (lJf hi)
   by_cases hk:keyE hs'[i]=keyE e
   .rw[lJc hk];have:=jZj hk;subst this;obtain⟨z1,z2⟩:=ok.inj _ _ _ _ _ eri he;subst z1;subst z2;rfl
   .rw[lJb hk];refine h3 r' i' e he ?_
    rcases hd' with z | ⟨z1,z2⟩
    .exact .inl z
    .subst z1
     by_cases hii:i'=i
     .subst hii;rw[eri] at he;cases he;exact absurd rfl hk
     .exact .inr ⟨rfl,by omega⟩
  .intro τ G' h_;apply xe3 h_;clear h_;intro v3 v4 kvs;refine ae4 ?_;intro h1 h2 h3 h4;refine⟨some (.int r),v3,v4,rfl,kvs,h1,?_,λr' i' e he hd'=>h3 r' i' e he ?_,h4⟩
   .simp only[jJ2,lJg] at h2;omega
   .rcases lQr r' r with z | z
    .exact .inl z
    .have:r'=r:=by omega
     subst this;obtain⟨es,q1,q2⟩:=jKo he;rw[hH] at q1;cases q1;exact .inr ⟨rfl,by simpa[jJ2] using (lJe.mp q2).1⟩
 .intro τ G1 h_;apply xe4 h_;clear h_;intro v2 v3 v4 kvs;refine ae4 ?_;intro hdk hkl tab sb;rw[jKc] at tab
  exists jJt,iSeq
  refine⟨lJx _,λw hw=> ?_⟩
  have hdw:=jJf hdk hw;have hhw:=jJf (sb _ _ hh) hw;refine⟨rs.map T.ref,by simp only[seqT,jJm hhw,sb _ _ hh,asL],?_⟩
  refine⟨λi τ G'=>∃(v6:Option T),τ=[some (.ref h),some (.ref d),v2,v3,v4,some (.ref w),v6,none,none]/\G' w=some (.lst ((Hs.take i).map λhs=>encR (hs.map (oth Hs))))/\Sub G1 G',?_,?_,?_,?_⟩
  .exact⟨none,rfl,by simp[jJh],.new hw⟩
  .intro i τ G' hi h_;apply xe1 h_;clear h_;intro v6;refine ae2 ?_;intro h1 h2;simp only[seqT,h2 _ _ (sb _ _ hh),asL]
  .intro i x τ G2 hx0 h_;apply xe1 h_;clear h_;intro v6;refine ae2 ?_;intro h1 h2;obtain⟨ra,hx,rfl⟩:=jKd hx0;obtain⟨hs',hH,hG⟩:=hrow i ra hx;have hG2:=h2 _ _ (sb _ _ hG);have hrow1000:=ok.row i hs' hH
   exists iSeq,jJ4 h1
   refine⟨hs'.map encE,jJn hG2,?_⟩;refine jKw (λe=>encE (oth Hs e)) (by omega) (λG' s=>jJn (s _ _ hG2)) ?_ ?_
   .intro j e he G' K K0 s hk;obtain⟨t,sd⟩:=e;have hen:=jKu hH he;obtain⟨hsd,r',i',e2⟩:=ok.part _ _ _ _ hen;have hv:=uJx (e:=(t,sd)) e2;have hr':(oth Hs (t,sd)).1<List.length Hs:=by obtain⟨es,q1,q2⟩:=jKo hv;exact (lJe.mp q1).1
    have ht:=tab _ _ _ hv hr';have hd3:=s _ _ (h2 _ _ hdk)
    exists encE
    refine⟨by omega,λp hp=> ?_⟩
    have hdp:=jJf hd3 hp
    have hsw:L2.atI [T.int 1,T.int 0,T.int 2] (sd:Int)=some (.int (sw sd:Int)):=by
     have:sd=0\/sd=1\/sd=2:=by omega
     rcases this with rfl | rfl | rfl<;>rw[atN]<;>rfl
    refine⟨_,hsw,by omega,_,uQr (ks:=[.inl (.inl (t:Int)),.inl (.inl (sw sd:Int))]) (by rw[jJm hdp];exact hd3) jVq ht,hk _ (.new hp)⟩
   .intro D G3 hD h3 h4
    exists jJn h3,h4 _ _ h1
    refine⟨by simp;omega,?_,((h2.trans h4).over hw)⟩
    rw[lQh,hH];simp[encR]
  .intro τ G' h_;apply xe1 h_;clear h_;intro v6;refine ae2 ?_;intro h1 h2
   exists jJn h1
   have e1:(Hs.take (rs.map T.ref).length).map (λhs=>encR (hs.map (oth Hs)))=(Hs.map (List.map (oth Hs))).map encR:=by
    rw[hrl,lQz,lJr];rfl
   rw[e1];exact kk G' _ (sb.trans h2) (qKe ok)
theorem BoxAt.mono{G:Gp}{b:Addr}{n m:Nat}(h:BoxAt G b n)(hm:n<=m):BoxAt G b m:=by
 obtain⟨x,y,z,h1,h2,h3,h4,h5,h6⟩:=h;exact⟨x,y,z,h1,h2,h3,h4,h5,by omega⟩
theorem BoxAt.some{G:Gp}{b:Addr}{n:Nat}(h:BoxAt G b n):∃o,G b=some o:=by
 obtain⟨x,y,z,h1,_⟩:=h;exact⟨_,h1⟩
theorem BoxAt.sub{G G':Gp}{b:Addr}{n:Nat}(h:BoxAt G b n)(s:Sub G G'):BoxAt G' b n:=by
 obtain⟨x,y,z,h1,h2,h3,h4,h5,h6⟩:=h;exact⟨x,y,z,s _ _ h1,h2,h3,h4,h5,h6⟩
theorem BoxAt.gup{G:Gp}{b p:Addr}{n:Nat}{o:GO}(h:BoxAt G b n)(hp:b≠p):BoxAt (gup G p o) b n:=by
 obtain⟨x,y,z,h1,h2,h3,h4,h5,h6⟩:=h;exact⟨x,y,z,by rw[jJm hp];exact h1,h2,h3,h4,h5,h6⟩
theorem Keep.sub{b:Addr}{G G':Gp}(h:Sub G G'):Keep b G G':=λc o _ e=>h c o e
theorem Keep.over{b p:Addr}{G G':Gp}{o:GO}(h:Keep b G G')(hp:G p=none):Keep b G (L3.gup G' p o):=λc u hc e=>by rw[jJm];exact h c u hc e;rintro rfl;rw[hp] at e;cases e
theorem RowsAt.keep{b:Addr}{G G':Gp}{h:Addr}{Hs:Web}{rs:List Addr}(s:Keep b G G')(hb:b∉h::rs)(x:RowsAt G h Hs rs):RowsAt G' h Hs rs:=by
 simp only[lJp,not_or] at hb;exact⟨s _ _ (Ne.symm hb.1) x.1,x.2.1,λi r e=>let ⟨hs,h1,h2⟩:=x.2.2 i r e;⟨hs,h1,s _ _ (by rintro rfl;exact hb.2 (lJk e)) h2⟩⟩
theorem RowsAt.set{G:Gp}{h:Addr}{Hs:Web}{rs:List Addr}{r:Nat}{a:Addr}{hs':List (Nat×Nat)}(x:RowsAt G h Hs rs)(hn:(h::rs).Nodup)(hr:rs[r]? =some a):RowsAt (gup G a (.lst (hs'.map encE))) h (Hs.set r hs') rs:=by
 rw[lKn] at hn;have hrl:r<rs.length:=(lJe.mp hr).1;refine⟨by rw[jJm];exact x.1;rintro rfl;exact hn.1 (lJk hr),by rw[lVg];exact x.2.1,λi c e=> ?_⟩
 by_cases hi:i=r
 .subst hi;rw[hr] at e;cases e;exact⟨hs',by rw[lK9];rw[<-x.2.1];exact hrl,jJh⟩
 .obtain⟨hs,h1,h2⟩:=x.2.2 i c e;refine⟨hs,by rw[lKy (Ne.symm hi)];exact h1,?_⟩
  rw[jJm];exact h2;rintro rfl;have hil:i<rs.length:=(lJe.mp e).1;exact hi ((lQ9 hil hn.2).mp (e.trans hr.symm))
def hv(n t:Nat)(p:Nat×Nat):List (Nat×Nat×Nat):=if p.2=n then [(p.1,t,2)] else [(p.1,t,0),(p.2,t,1)]
def hvs(P:List (Nat×Nat))(n k:Nat):List (Nat×Nat×Nat):=(List.range k).flatMap λt=>match P[t]? with
 | some p=>hv n t p
 | none=>[]
theorem jUv{P:List (Nat×Nat)}{n k:Nat}{p:Nat×Nat}(h:P[k]? =some p):hvs P n (k+1)=hvs P n k++hv n k p:=by
 unfold hvs;rw[lKr,lYp];simp[h]
theorem kKy{n t:Nat}{p:Nat×Nat}{r t' s:Nat}(h:(r,t',s)∈hv n t p):t'=t/\s<=2/\((p.2=n/\s=2/\r=p.1)\/(p.2≠n/\s=0/\r=p.1)\/(p.2≠n/\s=1/\r=p.2)):=by
 unfold hv at h;split at h
 .rename_i hp;simp at h;obtain⟨rfl,rfl,rfl⟩:=h;exact⟨rfl,by omega,.inl ⟨hp,rfl,rfl⟩⟩
 .rename_i hp;simp at h
  rcases h with ⟨rfl,rfl,rfl⟩ | ⟨rfl,rfl,rfl⟩
  .exact⟨rfl,by omega,.inr (.inl ⟨hp,rfl,rfl⟩)⟩
  .exact⟨rfl,by omega,.inr (.inr ⟨hp,rfl,rfl⟩)⟩
theorem kJl{P:List (Nat×Nat)}{n k:Nat}{r t s:Nat}(h:(r,t,s)∈hvs P n k):∃p,P[t]? =some p/\t<k/\(r,t,s)∈hv n t p:=by
 unfold hvs at h;rw[lX4] at h;obtain⟨t',h1,h2⟩:=h;cases e:P[t']? with
 | none=>rw[e] at h2;cases h2
 | some p=>
  rw[e] at h2;have h2:(r,t,s)∈hv n t' p:=h2;have ht:=(kKy h2).1;subst ht;exact⟨p,e,lJw.mp h1,h2⟩
theorem kZw{P:List (Nat×Nat)}{n k:Nat}{r t s:Nat}{p:Nat×Nat}(h:P[t]? =some p)(hk:t<k)(hm:(r,t,s)∈hv n t p):(r,t,s)∈hvs P n k:=by
 unfold hvs;rw[lX4];exact⟨t,lJw.mpr hk,by rw[h];exact hm⟩
theorem kJk{P:List (Nat×Nat)}{n:Nat}:∀k,((hvs P n k).map λx=>x.2).Nodup
 | 0=>by simp[hvs]
 | k+1=>by
  cases e:P[k]? with
  | none=>
   have:hvs P n (k+1)=hvs P n k:=by unfold hvs;rw[lKr,lYp];simp[e]
   rw[this];exact kJk k
  | some p=>
   rw[jUv e,lKe,lQ8];refine⟨kJk k,by unfold hv;split<;>simp,?_⟩
   intro a ha b hb;obtain⟨⟨r,t,s⟩,h1,rfl⟩:=lJi.mp ha;obtain⟨⟨r',t',s'⟩,h2,rfl⟩:=lJi.mp hb;obtain⟨_,_,h3,_⟩:=kJl h1;have h4:=(kKy h2).1;intro z;have:t=t':=lJs Prod.fst z;omega
theorem kUd{P:List (Nat×Nat)}{n:Nat}:∀k,(hvs P n k).length<=2*k
 | 0=>by simp[hvs]
 | k+1=>by
  have ih:=kUd (P:=P) (n:=n) k;cases e:P[k]? with
  | none=>
   have:hvs P n (k+1)=hvs P n k:=by unfold hvs;rw[lKr,lYp];simp[e]
   rw[this];omega
  | some p=>
   rw[jUv e,lJv];have:(hv n k p).length<=2:=by unfold hv;split<;>simp
   omega
structure HalfL (L:List (Nat×Nat×Nat)) (n:Nat) (Hs:Web):Prop where
 len:Hs.length=n
 perm:∀(r:Nat)(hs:List (Nat×Nat)),Hs[r]? =some hs->hs.Perm ((L.filter λx=>x.1 == r).map λx=>x.2)
theorem ins_perm{α:Type}{xs:List α}{k:Nat}{y:α}:(xs.take k++y::xs.drop k).Perm (xs++[y]):=by
 have h1:(xs.take k++y::xs.drop k).Perm (y::(xs.take k++xs.drop k)):=List.perm_middle;rw[lYm] at h1;exact h1.trans (List.perm_append_comm (l₁:=[y]) (l₂:=xs))
theorem HalfL.ins{L:List (Nat×Nat×Nat)}{n:Nat}{Hs:Web}{r k:Nat}{hs:List (Nat×Nat)}{e:Nat×Nat}(h:HalfL L n Hs)(hr:Hs[r]? =some hs):HalfL (L++[(r,e)]) n (Hs.set r (hs.take k++e::hs.drop k)) where
 len:=by rw[lVg];exact h.len
 perm:=λr' hs' h'=>by
  have hrl:r<Hs.length:=(lJe.mp hr).1;rw[lZm,lKe]
  by_cases hi:r'=r
  .subst hi;rw[lK9 hrl] at h';cases h';have:=h.perm r' hs hr;refine ins_perm.trans ?_;simp;exact this.append_right [e]
  .rw[lKy (Ne.symm hi)] at h';have:=h.perm r' hs' h';have hne:¬ r=r':=λz=>hi z.symm
   simp[hne];exact this
theorem HalfL.mem{L:List (Nat×Nat×Nat)}{n:Nat}{Hs:Web}{r i:Nat}{e:Nat×Nat}(h:HalfL L n Hs)(he:en Hs r i=some e):(r,e)∈L:=by
 obtain⟨es,h1,h2⟩:=jKo he;have:=(h.perm r es h1).mem_iff.mp (lJk h2);obtain⟨⟨r',e'⟩,h3,rfl⟩:=lJi.mp this;obtain⟨h4,h5⟩:=lQs.mp h3;have:r'=r:=by simpa using h5
 subst this;exact h4
theorem HalfL.of{L:List (Nat×Nat×Nat)}{n:Nat}{Hs:Web}{r:Nat}{e:Nat×Nat}(h:HalfL L n Hs)(hr:r<n)(he:(r,e)∈L):∃i,en Hs r i=some e:=by
 have hrl:r<Hs.length:=by rw[h.len];exact hr
 have h1:Hs[r]? =some Hs[r]:=lJf hrl;have:e∈Hs[r]:=(h.perm r _ h1).mem_iff.mpr (lJi.mpr ⟨(r,e),lQs.mpr ⟨he,by simp⟩,rfl⟩)
 obtain⟨i,hi⟩:=lJ1 this;exact⟨i,jKu h1 hi⟩
def kJz(P:List (Nat×Nat))(n:Nat):Prop:=∀p,p∈P->p.1<n/\p.2<=n
theorem HalfL.ok{P:List (Nat×Nat)}{n:Nat}{Hs:Web}(h:HalfL (hvs P n P.length) n Hs)(hp:kJz P n)(hn:n<=1000)(hl:P.length<=500):JoinOk Hs where
 len:=by rw[h.len];exact hn
 row:=λr hs hr=>by
  rw[(h.perm r hs hr).length_eq,lJg];have h1:=lVx (λx:Nat×Nat×Nat=>x.1 == r) (hvs P n P.length)
  have h2:=kUd (P:=P) (n:=n) P.length;omega
 inj:=λr i r' i' e h1 h2=>by
  obtain⟨t,s⟩:=e;obtain⟨p,q1,q2,q3⟩:=kJl (h.mem h1);obtain⟨p',q1',q2',q3'⟩:=kJl (h.mem h2);rw[q1] at q1';cases q1';have m1:=(kKy q3).2.2;have m2:=(kKy q3').2.2
  have hrr:r=r':=by
   rcases m1 with ⟨a,b,c⟩ | ⟨a,b,c⟩ | ⟨a,b,c⟩<;>rcases m2 with ⟨a',b',c'⟩ | ⟨a',b',c'⟩ | ⟨a',b',c'⟩<;>omega
  subst hrr;refine⟨rfl,?_⟩;obtain⟨es,z1,z2⟩:=jKo h1;obtain⟨es',z3,z4⟩:=jKo h2;rw[z1] at z3;cases z3
  have nd:es.Nodup:=by
   rw[(h.perm r es z1).nodup_iff];exact (List.filter_sublist.map _).nodup (kJk _)
  exact (lQ9 (lJe.mp z2).1 nd).mp (z2.trans z4.symm)
 part:=λr i t s h1=>by
  obtain⟨p,q1,q2,q3⟩:=kJl (h.mem h1);obtain⟨_,h2,m⟩:=kKy q3;refine⟨h2,?_⟩;have hpp:=hp p (lJk q1)
  rcases m with ⟨a,rfl,c⟩ | ⟨a,rfl,c⟩ | ⟨a,rfl,c⟩
  .exact⟨r,i,h1⟩
  .obtain⟨i',h3⟩:=h.of (r:=p.2) (e:=(t,1)) (by omega) (kZw q1 q2 (by unfold hv;rw[lJb a];simp))
   exact⟨p.2,i',h3⟩
  .obtain⟨i',h3⟩:=h.of (r:=p.1) (e:=(t,0)) (by omega) (kZw q1 q2 (by unfold hv;rw[lJb a];simp))
   exact⟨p.1,i',h3⟩
structure Made (P:List (Nat×Nat)) (n:Nat) (W:Web):Prop where
 len:W.length=n
 sym:Sym W
 deg:∀(r:Nat)(es:List (Nat×Nat)),W[r]? =some es->es.length=((hvs P n P.length).filter λx=>x.1 == r).length
 tie:∀p,p∈P->p.2<n->∃i j,en W p.1 i=some (p.2,j)
theorem uQb{P:List (Nat×Nat)}{n:Nat}{Hs W:Web}(h:HalfL (hvs P n P.length) n Hs)(hp:kJz P n)(ok:JoinOk Hs)(J:Joined Hs W):Made P n W where
 len:=by rw[J.len,h.len]
 sym:=J.sym ok
 deg:=λr es hr=>by
  have hrl:r<Hs.length:=by rw[<-J.len];exact (lJe.mp hr).1
  obtain⟨es',h1,h2⟩:=J.row r _ (lJf hrl);rw[hr] at h1;cases h1;rw[h2,(h.perm r _ (lJf hrl)).length_eq,lJg]
 tie:=λp hpm hpn=>by
  obtain⟨t,ht⟩:=lJ1 hpm;have htl:t<P.length:=(lJe.mp ht).1;have hne:¬ p.2=n:=by omega
  obtain⟨i,h1⟩:=h.of (r:=p.1) (e:=(t,0)) (hp p hpm).1 (kZw ht htl (by unfold hv;rw[lJb hne];simp))
  obtain⟨j,h2⟩:=h.of (r:=p.2) (e:=(t,1)) hpn (kZw ht htl (by unfold hv;rw[lJb hne];simp))
  exact⟨i,j,J.to _ _ _ _ _ _ h1 h2⟩
theorem Keep.none{b p:Addr}{G G':Gp}(h:Keep b G G')(hb:p≠b)(hp:G' p=none):G p=none:=by
 cases e:G p with
 | none=>rfl
 | some o=>rw[h p o hb e] at hp;cases hp
theorem qY4{xs:List (Nat×Nat)}{k:Nat}{y:Nat×Nat}:insT (xs.map encE) k (encE y)=(xs.take k++y::xs.drop k).map encE:=by simp[insT,lXd,lXz]
theorem HalfL.len_le{L:List (Nat×Nat×Nat)}{n:Nat}{Hs:Web}{r:Nat}{hs:List (Nat×Nat)}(h:HalfL L n Hs)(hr:Hs[r]? =some hs):hs.length<=L.length:=by
 rw[(h.perm r hs hr).length_eq,lJg];exact lVx _ _
theorem kJq{E:Ends3}{G G2:Gp}{b D p:Addr}{rs:List Addr}{n k m':Nat}{S:List (Nat×Nat)}{L:List (Nat×Nat×Nat)}{Hs:Web}{w1 w2 w5 w6 w8 w9:Option T}
  (h1:HalfL L n Hs) (h2:RowsAt G2 D Hs rs) (h3:BoxAt G2 b m') (h4:Keep b G G2) (hnd:(D::rs).Nodup) (hbn:b∉D::rs) (hfr:∀r,r∈D::rs->G r=none) (hp:G2 p=some (.lst (S.map encE))) (hpn:p∉D::rs) (hpb:p≠b) (hS:∀x,x∈S->x.1<n) (hm:m'+S.length<2^40) (hL:L.length+S.length<10000)
  (kk:∀G' Hs' v8 v9,HalfL (L++S.map λx=>(x.1,k,x.2)) n Hs'->RowsAt G' D Hs' rs->BoxAt G' b (m'+S.length)->Keep b G G'->E.nx [some (.ref b),w1,w2,some (.ref D),some (.int k),w5,w6,some (.ref p),v8,v9] G'):
  uJd (gTup 2 (jKa D8 (jKa D9 gNil))) (jQg (tBM "list" jZ8 (tOp rIxF B3 B8) (jJc (jJs jJp (jJc B0 (jJc (tOp jJ7 (tCB rLen (jJc (tOp rIxF B3 B8) tNil)) (tC (T.int 1))) tNil))) (jJc (tTup (jJc B4 C9)) tNil)))) E
   [some (.ref b),w1,w2,some (.ref D),some (.int k),w5,w6,some (.ref p),w8,w9] (S.map encE) (λG'=>seqT G' (.ref p)=some (S.map encE)) G2:=by
 have hs:=sz;refine⟨λj τ G'=>∃(v8 v9:Option T)(Hs:Web),τ=[some (.ref b),w1,w2,some (.ref D),some (.int k),w5,w6,some (.ref p),v8,v9]/\HalfL (L++(S.take j).map λx=>(x.1,k,x.2)) n Hs/\RowsAt G' D Hs rs/\BoxAt G' b (m'+j)/\Keep b G G'/\G' p=some (.lst (S.map encE)),?_,?_,?_,?_⟩
 .exact⟨w8,w9,Hs,rfl,by simpa using h1,h2,h3,h4,hp⟩
 .intro j τ G' hj h_;apply xe3 h_;clear h_;intro v8 v9 Hs;refine ae5 ?_;intro i1 i2 i3 i4 i5;exact jJn i5
 .intro j x τ G' hx0 h_;apply xe3 h_;clear h_;intro v8 v9 Hs;refine ae5 ?_;intro i1 i2 i3 i4 i5;obtain⟨⟨r,s⟩,hx,rfl⟩:=jKd hx0;have hj:j<S.length:=(lJe.mp hx).1;have hr:r<n:=hS _ (lJk hx);have hrl:r<rs.length:=by rw[i2.2.1,i1.len];exact hr
  have hra:rs[r]? =some rs[r]:=lJf hrl
  generalize rs[r]=a at hra
  obtain⟨hs',hh1,hh2⟩:=i2.2.2 r a hra;have hat:L2.atI (rs.map T.ref) (r:Int)=some (.ref a):=by rw[atN];simp[hra]
  have hle:=i1.len_le hh1;have hlt:(L++(S.take j).map λx=>(x.1,k,x.2)).length<10000:=by simp;omega
  exists encE,jJy i2.1,hat,jJ4 hh2,jJn hh2,List.length_map
  refine⟨b,_,m'+j,rfl,i3,by omega,by omega,by omega,λc G3 c0 c1 bx kp=> ?_⟩
  have ham:a∈D::rs:=lJ5 _ (lJk hra);have hab:a≠b:=by rintro rfl;exact hbn ham
  have hap:a≠p:=by rintro rfl;exact hpn ham
  have i2':=i2.keep kp hbn;refine⟨by omega,hs'.map encE,c,rfl,kp _ _ hab hh2,c0,by simp;omega,by simp;omega,?_⟩
  rw[show T.tup [T.int (k:Int),T.int (s:Int)]=encE (k,s) from rfl,qY4]
  refine⟨Hs.set r (hs'.take c.toNat++(k,s)::hs'.drop c.toNat),?_,i2'.set hnd hra,?_,(i4.trans kp).over (hfr a ham),?_⟩
  .have:=i1.ins (k:=c.toNat) (e:=(k,s)) hh1;rw[lQh,hx,lKe,<-lQ7];exact this
  .exact bx.gup hab.symm
  .rw[jJm hap.symm];exact kp _ _ hpb i5
 .intro τ G' h_;apply xe3 h_;clear h_;intro v8 v9 Hs;refine ae5 ?_;intro i1 i2 i3 i4 i5;rw[lJg] at i1 i3;rw[lQz] at i1;exact kk G' Hs v8 v9 i1 i2 i3 i4
theorem jZi{xs:List T}:(numT xs).length=xs.length:=by simp[numT]
noncomputable def jK2:Sp3:=λxs G Q=>∃(b pr:Addr)(P:List (Nat×Nat))(n m:Nat),xs=[.ref b,.ref pr,.int n]/\BoxAt G b m/\m+2*P.length<2^40/\pr≠b/\G pr=some (.lst (P.map encE))/\kJz P n/\n<=1000/\P.length<=500/\∀W G',Made P n W->BoxAt G' b (m+2*P.length)->Keep b G G'->Q (encW W) G'
def kUo:List Str:=["_law_box_here","_law_pairs","_law_many","_law_halves","_law_tie","_law_one","_law_other","_law_sides","_law_room","_law_side"]
noncomputable def jUi:TS3:=
 (tSeq (tAsg (jQb [fF,fF,fF,fF,fF,fF,fF,fF,tT,fF] (jJ1 C2) D8 jUf (tLst tNil)) D3)
 (tSeq (tFor (jX0 C1) (gTup 2 (jKa D4 (jKa (gTup 2 (jKa D5 (jKa D6 gNil))) gNil))) (tSeq (tAsg (tIf (jJx (tOp rEqA B6 B2)) (tLst (jJc (tTup (jJc B5 (jJc tI2 tNil))) tNil)) (tLst (jJc (tTup (jJc B5 (jJc tI0 tNil))) (jJc (tTup (jJc B6 (jJc tI1 tNil))) tNil)))) D7)
 (tFor (iSeq B7) (gTup 2 (jKa D8 (jKa D9 gNil))) (jQg (tBM "list" jZ8 (tOp rIxF B3 B8) (jJc (jJs jJp (jJc B0 (jJc (tOp jJ7 (tCB rLen (jJc (tOp rIxF B3 B8) tNil)) tI1) tNil))) (jJc (tTup (jJc B4 C9)) tNil)))))))
 (tRet (jJs jV1 C3))))
theorem jUb{n:Nat}:rngT 0 n=(List.range n).map λ(k:Nat)=>T.int k:=by simp[rngT]
theorem jY6:RdOk jK2 jUi kUo:=by
 intro xs G Q h_;apply xe5 h_;clear h_;intro b pr P n m;refine ae8 ?_;intro hb hm hpb hpr hP hn hPl kk;show jUi _ [some (.ref b),some (.ref pr),some (.int n),none,none,none,none,none,none,none] G
 have hs:=sz
 exists jUi,jJt,jJ1,jX0
 refine⟨by omega,by omega,?_⟩
 rw[show ((n:Int)).toNat=n by omega,jUb]
 refine kK2 (λ_=>[]) (by simp;omega) (λ_ _=>trivial) ?_ ?_
 .intro i e he G' K K0 s hk
  exists tSeq
  exact⟨lJx _,λp hp=>hk p _ hp jJh (.new hp)⟩
 .intro D rs G1 hD hD1 s1 hrl hnd hrs;rw[lKq] at hrl;obtain⟨bo,hbo⟩:=hb.some
  have hbn:b∉D::rs:=by
   intro z;rw[lJp] at z
   rcases z with rfl | z
   .rw[hD] at hbo;cases hbo
   .obtain⟨j,hj⟩:=lJ1 z;have hjl:j<rs.length:=(lJe.mp hj).1;have:=(hrs j b j hj (by rw[lQn (by omega)])).1
    rw[this] at hbo;cases hbo
  have hfr:∀r,r∈D::rs->G r=none:=by
   intro r z;rw[lJp] at z
   rcases z with rfl | z
   .exact hD
   .obtain⟨j,hj⟩:=lJ1 z;have hjl:j<rs.length:=(lJe.mp hj).1;exact (hrs j r j hj (by rw[lQn (by omega)])).1
  refine⟨P.map encE,by simp only[jQ7,s1 _ _ hpr,asL],?_⟩
  refine⟨λk τ G'=>∃(v4 v5 v6 v7 v8 v9:Option T)(Hs:Web),τ=[some (.ref b),some (.ref pr),some (.int n),some (.ref D),v4,v5,v6,v7,v8,v9]/\HalfL (hvs P n k) n Hs/\RowsAt G' D Hs rs/\BoxAt G' b (m+2*k)/\Keep b G G',?_,?_,?_,?_⟩
  .refine⟨none,none,none,none,none,none,List.replicate n [],rfl,⟨by simp,?_⟩,⟨hD1,by simp[hrl],?_⟩,hb.sub s1,.sub s1⟩
   .intro r hs' h;have:hs'=[]:=by rw[lXp] at h;split at h;cases h;rfl;cases h
    subst this;simp[hvs]
   .intro i r h;have hi:i<n:=by rw[<-hrl];exact (lJe.mp h).1
    exact⟨[],by simp[hi],(hrs i r i h (by simp[hi])).2⟩
  .intro k τ G' hk h_;apply xe7 h_;clear h_;intro v4 v5 v6 v7 v8 v9 Hs;refine ae4 ?_;intro h1 h2 h3 h4;simp only[jQ7,h4 _ _ hpb hpr,asL]
  .intro k x τ G2 hx h_;apply xe7 h_;clear h_;intro v4 v5 v6 v7 v8 v9 Hs;refine ae4 ?_;intro h1 h2 h3 h4;have hk:k<P.length:=by have:=(lJe.mp hx).1;simpa[jZi] using this
   rw[jUd (x:=encE P[k]) (by simp[hk])] at hx
   cases hx
   generalize hpk:P[k]=p
   have hpe:P[k]? =some p:=by rw[lJf hk,hpk]
   obtain⟨a,c⟩:=p;obtain⟨ha,hc⟩:=hP _ (lJk hpe);have ha:a<n:=ha;have hc:c<=n:=hc
   exists encE,rEqA,iSeq,jJt
   rw[show eqG G2 (T.int (c:Int)) (T.int (n:Int))=some (decide ((c:Int)=n)) from rfl]
   have hL:=kUd (P:=P) (n:=n) k;refine⟨_,rfl,?_⟩
   have fresh:∀p,G2 p=none->p∉D::rs/\p≠b:=by
    intro p hp;refine⟨λz=> ?_,?_⟩
    .rw[lJp] at z
     rcases z with rfl | z
     .rw[h2.1] at hp;cases hp
     .obtain⟨j,hj⟩:=lJ1 z;obtain⟨_,_,q⟩:=h2.2.2 j p hj;rw[q] at hp;cases hp
    .rintro rfl;obtain⟨o,ho⟩:=h3.some;rw[ho] at hp;cases hp
   by_cases hcn:c=n
   .rw[lJc (by simp[hcn])]
    refine⟨by omega,by omega,λp hp=> ?_⟩
    obtain⟨f1,f2⟩:=fresh p hp;refine kJq (S:=[(a,2)]) h1 (h2.sub (.new hp)) (h3.gup f2.symm) (h4.over (h4.none f2 hp)) hnd hbn hfr jJh f1 f2 (by simp[ha]) (by simp;omega) (by simp;omega) ?_
    intro G' Hs' v8 v9 i1 i2 i3 i4;refine⟨_,_,_,_,_,_,rfl,Hs',?_,i2,i3.mono (by simp;omega),i4⟩
    rw[jUv hpe];unfold hv;rw[lJc hcn];exact i1
   .rw[lJb (by simp;omega)]
    refine⟨by omega,by omega,by omega,λp hp=> ?_⟩
    obtain⟨f1,f2⟩:=fresh p hp;refine kJq (S:=[(a,0),(c,1)]) h1 (h2.sub (.new hp)) (h3.gup f2.symm) (h4.over (h4.none f2 hp)) hnd hbn hfr jJh f1 f2 (by simp;omega) (by simp;omega) (by simp;omega) ?_
    intro G' Hs' v8 v9 i1 i2 i3 i4;refine⟨_,_,_,_,_,_,rfl,Hs',?_,i2,i3.mono (by simp;omega),i4⟩
    rw[jUv hpe];unfold hv;rw[lJb hcn];exact i1
  .intro τ G' h_;apply xe7 h_;clear h_;intro v4 v5 v6 v7 v8 v9 Hs;refine ae4 ?_;intro h1 h2 h3 h4;rw[jZi,lJg] at h1 h3
   exists tSeq
   have ok:=h1.ok hP hn hPl;refine⟨D,Hs,rs,rfl,h2,ok,λG3 W s3 J=> ?_⟩
   exact kk W G3 (uQb h1 hP ok J) (h3.sub s3) (h4.trans (.sub s3))
def dgr(P:List (Nat×Nat))(n r:Nat):Nat:=((hvs P n P.length).filter λx=>x.1 == r).length
def jKp(n:Nat)(p:Nat×Nat):List Nat:=if p.2=n then [p.1] else [p.1,p.2]
theorem qU1{P Q:List (Nat×Nat)}{n:Nat}:∀k,k<=P.length->hvs (P++Q) n k=hvs P n k
 | 0,_=>rfl
 | k+1,h=>by
  have e:P[k]? =some P[k]:=lJf (by omega)
  rw[jUv e,jUv (p:=P[k]) (by rw[lJ9 (by omega)];exact e),qU1 k (by omega)]
theorem qY9{P:List (Nat×Nat)}{n:Nat}{p:Nat×Nat}:hvs (P++[p]) n (P++[p]).length=hvs P n P.length++hv n P.length p:=by
 rw[lJv,lQw,jUv (p:=p) (by simp),qU1 _ (lJh _)]
theorem uXe{n t r:Nat}{p:Nat×Nat}:((hv n t p).filter λx=>x.1 == r).length=(jKp n p).count r:=by
 unfold hv jKp;split
 .by_cases h:p.1=r<;>simp[h]
 .by_cases h:p.1=r<;>by_cases h':p.2=r<;>simp[h,h',lXf]
theorem jK5{P:List (Nat×Nat)}{n r:Nat}{p:Nat×Nat}:dgr (P++[p]) n r=dgr P n r+(jKp n p).count r:=by
 unfold dgr;rw[qY9,lZm,lJv,uXe]
theorem qZj{L:List (Nat×Nat×Nat)}{k:Nat}:(L.filter λx=>decide (x.1<k+1)).length=(L.filter λx=>decide (x.1<k)).length+(L.filter λx=>x.1 == k).length:=by
 induction L with
 | nil=>rfl
 | cons a as ih=>
  rw[lXf,lXf,lXf]
  rcases lQl a.1 k with h | h | h
  .have h1:a.1<k+1:=by omega
   have h2:¬ a.1=k:=by omega
   simp[h,h1,h2,ih];omega
  .have h1:a.1<k+1:=by omega
   simp[h,ih];omega
  .have h1:¬ a.1<k+1:=by omega
   have h2:¬ a.1=k:=by omega
   have h3:¬ a.1<k:=by omega
   simp[h1,h2,h3,ih]
theorem uJv{L:List (Nat×Nat×Nat)}{d:Nat}:∀k,(∀r,r<k->d<=(L.filter λx=>x.1 == r).length)->k*d<=(L.filter λx=>decide (x.1<k)).length
 | 0,_=>by simp
 | k+1,h=>by
  rw[qZj,lQx];have h1:=uJv k λr hr=>h r (by omega)
  have h2:=h k (by omega)
  omega
theorem kVo{P:List (Nat×Nat)}{n d k:Nat}(hd:2<=d)(hk:P.length<k):∃r,r<k/\dgr P n r<d:=by
 apply lQc;intro h
 have h1:∀r,r<k->d<=((hvs P n P.length).filter λx=>x.1 == r).length:=λr hr=>by
  rcases lQr (dgr P n r) d with z | z
  .exact absurd ⟨r,hr,z⟩ h
  .exact z
 have h2:=uJv k h1;have h3:=lVx (λx:Nat×Nat×Nat=>decide (x.1<k)) (hvs P n P.length)
 have h4:=kUd (P:=P) (n:=n) P.length;have h5:k*2<=k*d:=Nat.mul_le_mul_left k hd;omega
theorem qJb{P:List (Nat×Nat)}{n k r:Nat}(h:∀p,p∈P->p.1<k/\p.2<k)(hr:k<=r):dgr P n r=0:=by
 unfold dgr;rw[lQg,List.filter_eq_nil_iff];rintro⟨a,t,s⟩ hx;obtain⟨p,h1,h2,h3⟩:=kJl hx;have h4:=h p (lJk h1);have h5:=(kKy h3).2.2;simp;omega
def jKl(n:Nat)(f:Nat->Nat):List T:=(List.range n).map λr=>T.int (f r)
theorem jQz{n:Nat}{f:Nat->Nat}{r:Nat}(h:r<n):L2.atI (jKl n f) (r:Int)=some (.int (f r)):=by rw[atN];simp[jKl,h]
theorem jXh{n:Nat}{f:Nat->Nat}:(jKl n f).length=n:=by simp[jKl]
theorem jXg{n:Nat}{f:Nat->Nat}{r v:Nat}:(jKl n f).set r (.int v)=jKl n λx=>if x=r then v else f x:=by
 apply lKh;intro i
 by_cases hi:i=r
 .subst hi
  by_cases h:i<n
  .rw[lK9 (by simpa[jKl] using h)];simp[jKl,h]
  .rw[lJy (by simp[jKl];omega),lJy (by simp[jKl];omega)]
 .rw[lKy (Ne.symm hi)]
  by_cases h:i<n
  .simp[jKl,h,hi]
  .rw[lJy (by simp[jKl];omega),lJy (by simp[jKl];omega)]
theorem bump{E:Ends3}{G2:Gp}{u:Addr}{n:Nat}{f:Nat->Nat}{es:List Nat}{stay:Gp->Prop}{w0 w1 w2 w4 w5 w6 w7 w8 w9 w10 w11:Option T}(hu:G2 u=some (.lst (jKl n f)))(hst:∀G',(∀c,c≠u->G' c=G2 c)->stay G')(hes:∀e,e∈es->e<n)
  (kk:∀G' v7,G' u=some (.lst (jKl n λr=>f r+es.count r))->(∀c,c≠u->G' c=G2 c)->E.nx [w0,w1,w2,some (.ref u),w4,w5,w6,v7,w8,w9,w10,w11] G'):
  uJd D7 (tAsg (tOp jJ7 (tOp rIxF B3 B7) tI1) (gSub B3 B7 jQh)) E [w0,w1,w2,some (.ref u),w4,w5,w6,w7,w8,w9,w10,w11] (es.map λe=>T.int (e:Nat)) stay G2:=by
 refine⟨λj τ G'=>∃v7,τ=[w0,w1,w2,some (.ref u),w4,w5,w6,v7,w8,w9,w10,w11]/\G' u=some (.lst (jKl n λr=>f r+(es.take j).count r))/\(∀c,c≠u->G' c=G2 c),?_,?_,?_,?_⟩
 .exact⟨w7,rfl,by simpa using hu,λ_ _=>rfl⟩
 .intro j τ G' hj h_;apply xe1 h_;clear h_;intro v7;refine ae2 ?_;intro h1 h2;exact hst G' h2
 .intro j x τ G' hx0 h_;apply xe1 h_;clear h_;intro v7;refine ae2 ?_;intro h1 h2;obtain⟨e,hx,rfl⟩:=jKd hx0;have he:=hes e (lJk hx);have hix:L2.ixN (jKl n λr=>f r+(es.take j).count r).length (e:Int)=some e:=kJi (by rw[jXh];exact he)
  exists jJy h1,jQz he,jUa h1 hix
  refine⟨?_,λc hc=>by rw[jJm hc];exact h2 c hc⟩
  rw[show T.int (((f e+(es.take j).count e:Nat):Int)+1)=T.int ((f e+(es.take j).count e+1:Nat):Int) by simp,jXg]
  congr 1
  funext r
  rw[lQh,hx,Option.toList_some,List.count_append]
  by_cases hr:r=e
  .subst hr;simp;omega
  .have:¬ e=r:=λz=>hr z.symm
   simp[hr,this]
 .intro τ G' h_;apply xe1 h_;clear h_;intro v7;refine ae2 ?_;intro h1 h2;rw[lJg,lQz] at h1;exact kk G' v7 h1 h2
structure WebOk (n d:Nat) (W:Web):Prop where
 len:W.length=n
 sym:Sym W
 deg:∀(r:Nat)(es:List (Nat×Nat)),W[r]? =some es->es.length<=d
 low:∀r,1<=r->r<n->∃i a j,en W r i=some (a,j)/\a<r
structure POk (P:List (Nat×Nat)) (n d k:Nat):Prop where
 ok:kJz P n
 deg:∀r,r<n->dgr P n r<=d
 low:∀r,1<=r->r<k->∃p,p∈P/\p.2=r/\p.1<r
theorem POk.web{P:List (Nat×Nat)}{n d:Nat}{W:Web}(h:POk P n d n)(m:Made P n W):WebOk n d W where
 len:=m.len
 sym:=m.sym
 deg:=λr es hr=>by
  rw[m.deg r es hr];exact h.deg r (by rw[<-m.len];exact (lJe.mp hr).1)
 low:=λr h1 h2=>by
  obtain⟨p,q1,q2,q3⟩:=h.low r h1 h2;obtain⟨i,j,q4⟩:=m.tie p q1 (by omega)
  have:=m.sym _ _ _ _ q4;rw[q2] at this;exact⟨j,p.1,i,this,q3⟩
noncomputable def jVo:Sp3:=λxs G Q=>∃(b:Addr)(n d m:Nat),xs=[.ref b,.int n,.int d]/\BoxAt G b m/\m+300<2^40/\1<=n/\n<=24/\2<=d/\d<=100/\∀W G',WebOk n d W->BoxAt G' b (m+300)->Keep b G G'->Q (encW W) G'
def uUg:List Str:=["_law_box_here","_law_many","_law_most","_law_used","_law_pairs","_law_room","_law_free","_law_end","_law_turn_here","_law_pair","_law_ends_here","_law_one"]
noncomputable def kQw:TS3:=
 (tSeq (tAsg (tOp jQv (tLst (jJc tI0 tNil)) B1) D3)
 (tSeq (tAsg (tLst tNil) D4)
 (tSeq (tFor (kVn (jJc tI1 C1)) D5 (tSeq (tAsg (jQb [fF,fF,fF,fF,fF,fF,fF,fF,fF,fF,fF,tT] (jJ1 C5) D11 (jJx (tOp rLt (tOp rIxF B3 B11) B2)) B11) D6)
 (tSeq (jQg (tBM "list" jJ5 B4 (jJc (tTup (jJc (tOp rIxF B6 (jJs jJp (jJc B0 (jJc (tCB rLen C6) tNil)))) C5)) tNil)))
 (tFor (iSeq (tOp rIxF B4 (tUn rNeg tI1))) D7 (tAsg (tOp jJ7 (tOp rIxF B3 B7) tI1) (gSub B3 B7 jQh))))))
 (tSeq (tFor (jJ1 (jJc (jJs jJp (jJc B0 (jJc (tOp jJ7 B1 tI2) tNil))) tNil)) D8 (tSeq (tAsg (tTup (jJc (jJs jJp (jJc B0 C1)) (jJc (jJs jJp (jJc B0 (jJc (tOp jJ7 B1 tI1) tNil))) tNil))) D9)
 (tSeq (tAsg (jQb [fF,fF,fF,fF,fF,fF,fF,tT,fF,fF,fF,fF] (iSeq B9) D7 (jJx (tOp rLt B7 B1)) B7) D10)
 (tIfS (jJx (tCB rAll (jJc (jQb [fF,fF,fF,fF,fF,fF,fF,tT,fF,fF,fF,fF] (iSeq B10) D7 jUf (tOp rLeF (tOp jJ7 (tOp rIxF B3 B7) (tBM "list" qQt B10 C7)) B2)) tNil))) (tSeq (jQg (tBM "list" jJ5 B4 C9))
 (tFor (iSeq B10) D7 (tAsg (tOp jJ7 (tOp rIxF B3 B7) tI1) (gSub B3 B7 jQh)))) jKm))))
 (tRet (jJs jK2 (jJc B0 (jJc B4 C1))))))))
theorem qXv{n:Nat}:(List.replicate n [T.int 0]).flatten=jKl n λ_=>0:=by
 have:(List.replicate n [T.int 0]).flatten=List.replicate n (T.int 0):=by
  induction n with
  | zero=>rfl
  | succ n ih=>rw[lK2,lQv,ih];rfl
 rw[this];apply lKh;intro i
 by_cases h:i<n
 .simp[jKl,h]
 .rw[lJy (by simp;omega),lJy (by simp[jKl];omega)]
theorem jZy{lo n:Nat}:rngT lo n=(List.range n).map λ(k:Nat)=>T.int ((lo+k:Nat):Int):=by simp[rngT]
theorem uQ9{es:List Nat}{r:Nat}:(es.map λe=>T.int (e:Nat)).countP (λz=>eqT z (.int r))=es.count r:=by
 rw[List.countP_map,List.count]
 congr 1
 funext e
 simp only[eqT,Function.comp]
 by_cases h:e=r
 .subst h;simp
 .have h2:¬ (e:Int)=r:=by omega
  rw[beq_eq_false_iff_ne.mpr h,beq_eq_false_iff_ne.mpr h2]
theorem jX1{es:List Nat}:(es.map λe=>T.int (e:Nat)).all jU5=true:=by
 rw[List.all_map,lVh];intros;rfl
theorem kV2{α:Type}{f:α->Bool}:∀{es:List α},kYu (es.map λe=>T.bl (f e))=some (es.all f)
 | []=>rfl
 | e::es=>by rw[lJq,kYu,kV2,lQt]
theorem qJv:RdOk jVo kQw uUg:=by
 intro xs G Q h_;apply xe4 h_;clear h_;intro b n d m;refine ae7 ?_;intro hb hm hn1 hn2 hd1 hd2 kk;show kQw _ [some (.ref b),some (.int n),some (.int d),none,none,none,none,none,none,none,none,none] G
 have hs:=sz
 exists kQw,jJt,jJ1,kVn
 refine⟨by omega,λz hz=> ?_⟩
 have e1:mulR (gup G z (GO.lst [T.int 0])) (.ref z) (.int n)=some (.newL (jKl n λ_=>0)):=by
  rw[<-qXv];simp only[mulR,jJh];rw[lJc];congr;refine⟨?_,?_,?_⟩<;>simp<;>omega
 exists e1
 intro u hu;obtain⟨huz,hu0⟩:=jKf hu;refine⟨lJx _,λpr hpr=> ?_⟩
 obtain⟨hpu,hpr1⟩:=jKf hpr;obtain⟨hpz,hpr0⟩:=jKf hpr1;obtain⟨bo,hbo⟩:=hb.some;have hbu:=jJf hbo hu0;have hbp:=jJf hbo hpr0;have hbz:=jJf hbo hz;refine⟨by omega,by omega,by omega,by omega,?_⟩
 rw[show ((n:Int)-1).toNat=n-1 by omega,show rngT 1 (n-1)=rngT ((1:Nat):Int) (n-1) from rfl,jZy]
 let J1:Nat->St3->Gp->Prop:=λk τ G'=>∃(v5 v6 v7:Option T)(P:List (Nat×Nat)),τ=[some (.ref b),some (.int n),some (.int d),some (.ref u),some (.ref pr),v5,v6,v7,none,none,none,none]/\P.length=k/\POk P n d (k+1)/\(∀p,p∈P->p.1<k+1/\p.2<k+1)/\G' u=some (.lst (jKl n (dgr P n)))/\G' pr=some (.lst (P.map encE))/\BoxAt G' b (m+k)/\Keep b G G'
 refine⟨J1,?_,?_,?_,?_⟩
 .refine xi4 none none none [] rfl ⟨rfl,⟨by intro p h;simp at h,λr _=>by simp[dgr,hvs],λr h1 h2=>by omega⟩,by intro p h;simp at h,by rw[jJm hpu.symm,jJh];rfl,jJh,((hb.gup hbz).gup hbu).gup hbp,(((Keep.new hz).over hu0).over hpr0)⟩
 .intros;trivial
 .intro k x τ G1 hx0 h_;apply xe4 h_;clear h_;intro v5 v6 v7 P;refine ae7 ?_;intro hPl hP hlt hgu hgp hbx hkp;obtain⟨e,hx,rfl⟩:=jKd hx0
  obtain⟨hk,rfl⟩:k<n-1/\k=e:=by
   rw[lJe] at hx;obtain⟨q1,q2⟩:=hx;simp at q1 q2;exact⟨q1,q2⟩
  exists iSeq,jJ1,jJt
  refine⟨by omega,by omega,?_⟩
  rw[show (((1+k:Nat)):Int).toNat=1+k by omega,jUb]
  refine jVt (λr=>if dgr P n r<d then some (T.int (r:Nat)) else none) (by simp;omega) (λ_ _=>trivial) ?_ ?_
  .intro i r hr G2 K K0 s2 hK hK0
   obtain⟨hr1,rfl⟩:i<1+k/\i=r:=by
    rw[lJe] at hr;obtain⟨q1,q2⟩:=hr;simp at q1 q2;exact⟨q1,q2⟩
   exists jJy (s2 _ _ hgu),jQz (show i<n by omega)
   by_cases hdg:dgr P n i<d
   .rw[lJc (by omega)]
    exact hK _ _ (by rw[lJc hdg]) (.refl _)
   .rw[lJb (by omega)]
    exact hK0 (by rw[lJb hdg]) _ (.refl _)
  .intro fr G2 hfr hfr2 s2
   obtain⟨F,hF1,hF2⟩:∃F:List Nat,(List.range (1+k)).filterMap (λr=>if dgr P n r<d then some (T.int (r:Nat)) else none)=F.map (λr=>T.int (r:Nat))/\F=(List.range (1+k)).filter λr=>decide (dgr P n r<d):=by
    refine⟨_,?_,rfl⟩
    generalize List.range (1+k)=l
    induction l with
    | nil=>rfl
    | cons a as ih=>
     rw[lQ4,lXf]
     by_cases h:dgr P n a<d<;>simp[h,ih]
   rw[hF1] at hfr2;have hFl:F.length<=1+k:=by rw[hF2];have:=lVx (λr=>decide (dgr P n r<d)) (List.range (1+k));rw[lKq] at this;exact this
   have hF0:1<=F.length:=by
    obtain⟨r,q1,q2⟩:=kVo (P:=P) (n:=n) (d:=d) (k:=1+k) hd1 (by omega)
    have:r∈F:=by rw[hF2,lQs];exact⟨lJw.mpr q1,by simpa using q2⟩
    exact lYq this
   have hgp2:=s2 _ _ hgp
   exists jJ4 hgp2,jJn hfr2,List.length_map
   refine⟨b,_,m+k,rfl,hbx.sub s2,by omega,by omega,by omega,λc G3 c0 c1 bx kp=> ?_⟩
   have hfb:fr≠b:=by rintro rfl;obtain⟨o,ho⟩:=hbx.some;rw[ho] at hfr;cases hfr
   have hcF:c.toNat<F.length:=by omega
   have hca:L2.atI (F.map λr=>T.int (r:Nat)) c=some (.int (F[c.toNat]:Nat)):=by rw[atZ c0];simp[hcF]
   have hmem:F[c.toNat]∈F:=lVl hcF
   generalize F[c.toNat]=a at hca hmem
   rw[hF2,lQs] at hmem;have ha1:a<1+k:=lJw.mp hmem.1;have ha2:dgr P n a<d:=by simpa using hmem.2
   have hgp3:=kp _ _ hbp.symm hgp2;have hgu3:=kp _ _ hbu.symm (s2 _ _ hgu)
   exists jJy (kp _ _ hfb hfr2),hca,hgp3
   refine⟨by omega,by simp;omega,_,kYs,[T.int (a:Nat),T.int ((1+k:Nat):Int)],rfl,?_⟩
   have hne:u≠pr:=hpu.symm;have hE:jKp n (a,1+k)=[a,1+k]:=by unfold jKp;rw[lJb (show ¬ (1+k)=n by omega)]
   refine bump (es:=[a,1+k]) (n:=n) (f:=dgr P n) (by rw[jJm hne];exact hgu3) (λ_ _=>rfl) (by simp;omega) ?_
   intro G4 v7 hu4 hk4
   have hlt':∀p,p∈P++[(a,1+k)]->p.1<k+1+1/\p.2<k+1+1:=by
    intro p hp;rw[lKb,lJ0] at hp
    rcases hp with hp | rfl
    .have:=hlt p hp;omega
    .exact⟨by show a<_;omega,by show 1+k<_;omega⟩
   refine xi4 _ _ _ (P++[(a,1+k)]) rfl ⟨by simp[hPl],⟨?_,?_,?_⟩,hlt',?_,?_,?_,?_⟩
   .intro p hp;have:=hlt' p hp;omega
   .intro r hr;rw[jK5,hE];have h0:=hP.deg r hr;have hz1:=qJb (n:=n) (r:=1+k) hlt (by omega)
    by_cases h1:r=a
    .subst h1;have:¬ 1+k=r:=by omega
     simp[this];omega
    .have h1':¬ a=r:=λz=>h1 z.symm
     by_cases h2:1+k=r
     .subst h2;simp[h1'];omega
     .simp[h1',h2];omega
   .intro r h1 h2
    by_cases h3:r<k+1
    .obtain⟨p,q1,q2⟩:=hP.low r h1 h3;exact⟨p,lK1 _ q1,q2⟩
    .exact⟨(a,1+k),by simp,by show 1+k=r;omega,by show a<r;omega⟩
   .rw[hu4,show (λr=>dgr P n r+List.count r [a,1+k])=dgr (P++[(a,1+k)]) n from funext λr=>by rw[jK5,hE]]
   .rw[hk4 pr hpu,jJh];simp[encE]
   .obtain⟨x,y,w,z1,z2⟩:=bx;exact⟨x,y,w,by rw[hk4 b hbu,jJm hbp];exact z1,z2⟩
   .intro c o hc he;have hcu:=jJf he hu0;have hcp:=jJf he hpr0;rw[hk4 c hcu,jJm hcp];exact kp _ _ hc (s2 _ _ (hkp _ _ hc he))
 .intro τ G1 h_;apply xe4 h_;clear h_;intro v5 v6 v7 P;refine ae7 ?_;intro hPl hP hlt hgu hgp hbx hkp;rw[lJg,lKq] at hPl hP hbx;rw[show n-1+1=n by omega] at hP
  exists jJt,jJ1
  refine⟨b,_,m+(n-1),rfl,hbx,by omega,by omega,by omega,λq G2 q0 q1 bx kp=> ?_⟩
  refine⟨q,rfl,by omega,by omega,?_⟩
  let J2:Nat->St3->Gp->Prop:=λk τ G'=>∃(v7 v8 v9 v10 v11:Option T)(P:List (Nat×Nat)),τ=[some (.ref b),some (.int n),some (.int d),some (.ref u),some (.ref pr),v5,v6,v7,v8,v9,v10,v11]/\P.length<=n+k/\POk P n d n/\G' u=some (.lst (jKl n (dgr P n)))/\G' pr=some (.lst (P.map encE))/\BoxAt G' b (m+n+2*k)/\Keep b G G'
  refine⟨J2,?_,?_,?_,?_⟩
  .exact xi6 _ _ _ _ _ P rfl ⟨by omega,hP,kp _ _ hbu.symm hgu,kp _ _ hbp.symm hgp,bx.mono (by omega),hkp.trans kp⟩
  .intros;trivial
  .intro k x τ G3 hx0 h_;apply xe6 h_;clear h_;intro v7 v8 v9 v10 v11 P;refine ae6 ?_;intro hPl hP hgu hgp hbx hkp;have hk:k<q.toNat:=by have:=(lJe.mp hx0).1;rw[jKc] at this;exact this
   exists jJt,iSeq
   refine⟨b,_,_,rfl,hbx,by omega,by omega,by omega,λc G4 c0 c1 bx4 kp4=> ?_⟩
   refine⟨b,_,_,rfl,bx4,by omega,by omega,by omega,λe G5 e0 e1 bx5 kp5=> ?_⟩
   obtain⟨a,rfl⟩:=lKo c0;obtain⟨y,rfl⟩:=lKo e0;have ha:a<n:=by omega
   have hy:y<=n:=by omega
   have kp35:=kp4.trans kp5;have hgu5:=kp35 _ _ hbu.symm hgu;have hgp5:=kp35 _ _ hbp.symm hgp;refine⟨by omega,?_⟩
   have hEn:∀e',e'∈jKp n (a,y)->e'<n:=by
    intro e' he';unfold jKp at he';split at he'<;>simp at he'<;>simp at * <;>omega
   have hEl:(jKp n (a,y)).length<=2:=by unfold jKp;split<;>simp
   refine jVt (es:=[a,y]) (enc:=λr:Nat=>T.int r) (λr=>if r<n then some (T.int (r:Nat)) else none) (by simp;omega) (λ_ _=>trivial) ?_ ?_
   .intro i r hr G6 K K0 s6 hK hK0
    exists tSeq
    by_cases hrn:r<n
    .rw[lJc (by omega)]
     exact hK _ _ (by rw[lJc hrn]) (.refl _)
    .rw[lJb (by omega)]
     exact hK0 (by rw[lJb hrn]) _ (.refl _)
   .intro en G6 hen hen6 s6
    have hEE:List.filterMap (λr=>if r<n then some (T.int (r:Nat)) else none) [a,y]=(jKp n (a,y)).map λr=>T.int (r:Nat):=by
     unfold jKp
     by_cases hyn:y=n
     .simp[ha,hyn]
     .have:y<n:=by omega
      simp[ha,hyn,this]
    rw[hEE] at hen6;refine⟨_,jJn hen6,?_⟩;refine jKw (λr=>T.bl (decide (dgr P n r+(jKp n (a,y)).count r<=d))) (by omega) (λG' s=>jJn (s _ _ hen6)) ?_ ?_
    .intro i r hr G7 K K0 s7 hK;have hrn:=hEn r (lJk hr)
     exists jJy (s7 _ _ (s6 _ _ hgu5)),jQz hrn,jJ4 (s7 _ _ hen6),qQt,s7 _ _ hen6,rLeF
     refine⟨rfl,jX1,?_⟩;rw[uQ9,show decide (((dgr P n r:Nat):Int)+((jKp n (a,y)).count r:Nat)<=(d:Nat))=decide (dgr P n r+(jKp n (a,y)).count r<=d) from decide_eq_decide.mpr (by omega)]
     exact hK _ (.refl _)
    .intro al G7 hal hal7 s7;refine⟨al,_,_,rfl,hal7,kV2,_,rfl,?_⟩;have s57:=s6.trans s7;have hgp7:=s57 _ _ hgp5;have hgu7:=s57 _ _ hgu5;have henp:en≠pr:=(jJf hgp5 hen).symm;have henu:en≠u:=(jJf hgu5 hen).symm;have hkp7:Keep b G G7:=(hkp.trans kp35).trans (.sub s57);split
     .rename_i hall
      rw[lVh] at hall;refine⟨by rw[jJ4 hgp7];trivial,_,hgp7,by simp;omega,_,jJn (by rw[jJm henp];exact s7 _ _ hen6),?_⟩
      refine bump (es:=jKp n (a,y)) (n:=n) (f:=dgr P n) (by rw[jJm hpu.symm];exact hgu7) (λG' hG'=>jJn (by rw[hG' _ henu,jJm henp];exact s7 _ _ hen6)) hEn ?_
      intro G8 w7 hu8 hk8;refine xi6 _ _ _ _ _ (P++[(a,y)]) rfl ⟨by simp;omega,⟨?_,?_,?_⟩,?_,?_,?_,?_⟩
      .intro p hp;rw[lKb,lJ0] at hp
       rcases hp with hp | rfl
       .exact hP.ok p hp
       .exact⟨ha,hy⟩
      .intro r hr;rw[jK5]
       by_cases hm:r∈jKp n (a,y)
       .simpa using hall r hm
       .rw[List.count_eq_zero_of_not_mem hm];exact hP.deg r hr
      .intro r h1 h2;obtain⟨p,q1,q2⟩:=hP.low r h1 h2;exact⟨p,lK1 _ q1,q2⟩
      .rw[hu8,show (λr=>dgr P n r+List.count r (jKp n (a,y)))=dgr (P++[(a,y)]) n from funext λr=>by rw[jK5]]
      .rw[hk8 pr hpu,jJh];simp[encE]
      .obtain⟨x1,y1,w,z1,z2⟩:=(bx5.sub s57).mono (show m+n+2*k+1+1<=m+n+2*(k+1) by omega)
       exact⟨x1,y1,w,by rw[hk8 b hbu,jJm hbp];exact z1,z2⟩
      .intro c o hc he;have hcu:=jJf he hu0;have hcp:=jJf he hpr0;rw[hk8 c hcu,jJm hcp];exact hkp7 _ _ hc he
     .exact xi6 _ _ _ _ _ P rfl ⟨by omega,hP,hgu7,hgp7,(bx5.sub s57).mono (by omega),hkp7⟩
  .intro τ G3 h_;apply xe6 h_;clear h_;intro v7 v8 v9 v10 v11 P;refine ae6 ?_;intro hPl hP hgu hgp hbx hkp;rw[jKc] at hPl hbx
   exists tSeq
   refine⟨b,pr,P,n,_,rfl,hbx,by omega,hbp.symm,hgp,hP.ok,by omega,by omega,λW G4 mw bx4 kp4=> ?_⟩
   exact kk W G4 (hP.web mw) (bx4.mono (by omega)) (hkp.trans kp4)
def Conn(W:Web):Prop:=∀S:Nat->Prop,S 0->(∀r i s j,S r->en W r i=some (s,j)->S s)->∀r,r<W.length->S r
theorem WebOk.conn{n d:Nat}{W:Web}(h:WebOk n d W):Conn W:=by
 intro S h0 hst r
 induction r using Nat.strongRecOn with
 | ind r ih=>
  intro hr
  by_cases hz:r=0
  .subst hz;exact h0
  .obtain⟨i,a,j,q1,q2⟩:=h.low r (by omega) (by rw[<-h.len];exact hr)
   exact hst a j r i (ih a q2 (by omega)) (h.sym _ _ _ _ q1)
theorem kJo{W:Web}{r i:Nat}{e:Nat×Nat}(h:en W r i=some e):r<W.length:=by
 obtain⟨es,h1,h2⟩:=jKo h;exact (lJe.mp h1).1
def ring(n:Nat):Web:=(List.range n).map λr=>[((r+1)%n,1),((r+n-1)%n,0)]
theorem kZ5{n r:Nat}(h:r<n):en (ring n) r 0=some ((r+1)%n,1):=jKu (es:=[((r+1)%n,1),((r+n-1)%n,0)]) (by simp[ring,h]) rfl
theorem kUh{n r:Nat}(h:r<n):en (ring n) r 1=some ((r+n-1)%n,0):=jKu (es:=[((r+1)%n,1),((r+n-1)%n,0)]) (by simp[ring,h]) rfl
theorem kQm{n:Nat}:(ring n).length=n:=by simp[ring]
theorem qQg{n:Nat}(hn:1<=n):WebOk n 2 (ring n) where
 len:=kQm
 sym:=by
  intro r i s j h;have hr:r<n:=by have:=kJo h;rwa [kQm] at this
  have hi:i=0\/i=1:=by
   obtain⟨es,h1,h2⟩:=jKo h;have:es=[((r+1)%n,1),((r+n-1)%n,0)]:=by simp[ring,hr] at h1;exact h1.symm
   subst this;have:=(lJe.mp h2).1;simp at this;omega
  rcases hi with rfl | rfl
  .rw[kZ5 hr] at h;cases h;rw[kUh (lQm _ (by omega))]
   congr 2
   by_cases hz:r+1=n
   .rw[hz,Nat.mod_self];rw[lQo (by omega)];omega
   .rw[lQo (show r+1<n by omega),show r+1+n-1=r+n by omega,lZn,lQo hr]
  .rw[kUh hr] at h;cases h;rw[kZ5 (lQm _ (by omega))]
   congr 2
   by_cases hz:r=0
   .subst hz;rw[lQo (show 0+n-1<n by omega),show 0+n-1+1=n by omega,Nat.mod_self]
   .rw[show r+n-1=(r-1)+n by omega,lZn,lQo (show r-1<n by omega),show r-1+1=r by omega,lQo hr]
 deg:=λr es hr=>by
  have hrl:r<n:=by have:=(lJe.mp hr).1;rwa [kQm] at this
  simp[ring,hrl] at hr;rw[<-hr];simp
 low:=λr h1 h2=>⟨1,r-1,0,by rw[kUh h2,show r+n-1=(r-1)+n by omega,lZn,lQo (show r-1<n by omega)],by omega⟩
def jXj:Sp3:=λxs G Q=>∃n:Nat,xs=[.int n]/\1<=n/\n<=1000/\∀G',Sub G G'->Q (encW (ring n)) G'
def qZ9:List Str:=["_law_many","_law_room"]
noncomputable def jZ3:TS3:=
 (tRet (tCB jJ6 (jJc (jQb [fF,tT] (jJ1 C0) D1 jUf (tTup (jJc (tTup (jJc (tOp rMod (tOp jJ7 B1 tI1) B0) (jJc tI1 tNil))) (jJc (tTup (jJc (tOp rMod (tOp rSub B1 tI1) B0) (jJc tI0 tNil))) tNil)))) tNil)))
theorem kXk:RdOk jXj jZ3 qZ9:=by
 intro xs G Q h_;apply xe1 h_;clear h_;intro n;refine ae3 ?_;intro hn1 hn2 kk;show jZ3 _ [some (.int n),none] G
 have hs:=sz
 exists jZ3,jJ1
 refine⟨by omega,by omega,?_⟩
 rw[show ((n:Int)).toNat=n by omega,jUb]
 refine jKw (λr=>encR [((r+1)%n,1),((r+n-1)%n,0)]) (by simp;omega) (λ_ _=>trivial) ?_ ?_
 .intro i r hr G' K K0 s hk
  have hrn:r<n:=by
   rw[lJe] at hr;obtain⟨q1,q2⟩:=hr;simp at q1 q2;omega
  exists tSeq
  have e1:((r:Int)+1)%(n:Int)=(((r+1)%n:Nat):Int):=by simp
  have e2:((r:Int)-1)%(n:Int)=(((r+n-1)%n:Nat):Int):=by
   rw[Int.natCast_emod,show ((r+n-1:Nat):Int)=(r:Int)-1+n by omega,Int.add_emod_right]
  rw[e1,e2];refine⟨by omega,by omega,by omega,by omega,by omega,?_⟩
  exact hk _ (.refl _)
 .intro D G' hD h1 h2
  exists jJn h1
  have:=kk G' h2;rw[encW,ring,lJr] at this;exact this
structure Fine (W:Web):Prop where
 len:W.length<=1000
 row:∀(r:Nat)(es:List (Nat×Nat)),W[r]? =some es->es.length<=1000
 rng:∀r i s j,en W r i=some (s,j)->s<W.length
theorem jKr{W:Web}{r:Nat}{es:List (Nat×Nat)}(h:W[r]? =some es):L2.atI (W.map encR) (r:Int)=some (encR es):=by rw[atN];simp[h]
theorem jYv{es:List (Nat×Nat)}{i:Nat}{e:Nat×Nat}(h:es[i]? =some e):L2.atI (es.map encE) (i:Int)=some (encE e):=by rw[atN];simp[h]
theorem jXn{n k:Nat}{x:T}(h:(rngT 0 n)[k]? =some x):k<n/\x= .int (k:Nat):=jKs h
def leE(a b:Nat×Nat):Bool:=HT.lexLe [(a.1:Int),(a.2:Int)] [(b.1:Int),(b.2:Int)]
theorem leE_iff{a b:Nat×Nat}:leE a b=true↔(a.1<b.1\/(a.1=b.1/\a.2<=b.2)):=by
 unfold leE;rw[HT.lexLe_cons,HT.lexLe_cons,HT.lexLe_nil]
 by_cases h1:a.1=b.1
 .rw[lJc (by omega)]
  by_cases h2:a.2=b.2
  .rw[lJc (by omega)];simp;omega
  .rw[lJb (by omega)];simp;omega
 .rw[lJb (by omega)];simp;omega
abbrev Tie:=(Nat×Nat)×(Nat×Nat)
def encT(x:Tie):T:= .tup [encE x.1,encE x.2]
def jZb(r:Nat)(es:List (Nat×Nat))(i:Nat):Option Tie:=match es[i]? with
 | some e=>if leE (r,i) e=true then some ((r,i),e) else none
 | none=>none
def rowE(W:Web)(r:Nat):List Tie:=match W[r]? with
 | some es=>(List.range es.length).filterMap (jZb r es)
 | none=>[]
def jK0(W:Web):List Tie:=(List.range W.length).flatMap (rowE W)
theorem jVu{r i:Nat}{es:List (Nat×Nat)}{x:Tie}(h:jZb r es i=some x):x.1=(r,i)/\es[i]? =some x.2/\leE x.1 x.2=true:=by
 unfold jZb at h;split at h
 .rename_i e he
  split at h
  .rename_i hl;cases h;exact⟨rfl,he,hl⟩
  .cases h
 .cases h
theorem endsL_mem{W:Web}{x:Tie}:x∈jK0 W↔en W x.1.1 x.1.2=some x.2/\leE x.1 x.2=true:=by
 obtain⟨⟨r,i⟩,e⟩:=x;unfold jK0;rw[lX4]
 constructor
 .rintro⟨r',h1,h2⟩;unfold rowE at h2;split at h2
  .rename_i es hes
   rw[lVq] at h2;obtain⟨i',h3,h4⟩:=h2;obtain⟨q1,q2,q3⟩:=jVu h4;cases q1;exact⟨jKu hes q2,q3⟩
  .cases h2
 .rintro⟨h1,h2⟩;obtain⟨es,q1,q2⟩:=jKo h1;refine⟨r,lJw.mpr (lJe.mp q1).1,?_⟩;unfold rowE;rw[q1];show _∈List.filterMap _ _
  rw[lVq];refine⟨i,lJw.mpr (lJe.mp q2).1,?_⟩;have q2:es[i]? =some e:=q2;unfold jZb;rw[q2];show (if leE (r,i) e=true then _ else _)=_
  rw[lJc h2]
theorem uYg{α β:Type}{f:α->Option β}{R:β->β->Prop}{xs:List α}(hx:xs.Nodup)(h:∀a a' b b',a≠a'->f a=some b->f a'=some b'->R b b'):(xs.filterMap f).Pairwise R:=by
 rw[lZj];exact hx.imp λhne b hb b' hb'=>h _ _ b b' hne hb hb'
theorem kYh{W:Web}:(jK0 W).Nodup:=by
 unfold jK0
 have h:∀l:List Nat,l.Nodup->(l.flatMap (rowE W)).Nodup:=by
  intro l hl
  induction l with
  | nil=>exact lVs
  | cons a as ih=>
   rw[lKn] at hl;rw[List.flatMap_cons,lQ8];refine⟨?_,ih hl.2,?_⟩
   .unfold rowE;split
    .refine uYg lXc ?_;rintro i i' x x' hne hx hx' rfl;have q1:=(jVu hx).1;have q2:=(jVu hx').1;rw[q1] at q2;cases q2;exact hne rfl
    .exact lVs
   .intro x hx y hy;rintro rfl;rw[lX4] at hy;obtain⟨a',h1,h2⟩:=hy
    have fst:∀r,x∈rowE W r->x.1.1=r:=by
     intro r hr;unfold rowE at hr;split at hr
     .rw[lVq] at hr;obtain⟨i,_,h4⟩:=hr;rw[(jVu h4).1]
     .cases hr
    have:a=a':=(fst a hx).symm.trans (fst a' h2);subst this;exact hl.1 h1
 exact h _ lXc
def jU9:Sp3:=λxs G Q=>∃W:Web,xs=[encW W]/\Fine W/\∀p G',G p=none->G' p=some (.lst ((jK0 W).map encT))->(jK0 W).length<=1000000->Sub G G'->Q (.ref p) G'
def uJc:List Str:=["_law_web_here","_law_found","_law_room","_law_door"]
noncomputable def jZ6:TS3:=
 (tSeq (tAsg (tLst tNil) D1)
 (tSeq (tFor (jJ1 (jJc (tCB rLen C0) tNil)) D2 (tFor (jJ1 (jJc (tCB rLen (jJc (tOp rIxF B0 B2) tNil)) tNil)) D3 (tIfS (jJx (tOp rLeF (tTup (jJc B2 C3)) (tOp rIxF (tOp rIxF B0 B2) B3))) (jQg (tBM "list" jJ5 B1 (jJc (tTup (jJc (tTup (jJc B2 C3)) (jJc (tOp rIxF (tOp rIxF B0 B2) B3) tNil))) tNil))) jKm)))
 (tRet B1)))
theorem kXn:RdOk jU9 jZ6 uJc:=by
 intro xs G Q h_;apply xe1 h_;clear h_;intro W;refine ae2 ?_;intro fine kk;show jZ6 _ [some (.tup (W.map encR)),none,none,none] G
 have hs:=sz;have hl:=fine.len
 exists jZ6,jJt,jJ1,List.length_map
 refine⟨lJx _,λp hp=>⟨by omega,by omega,?_⟩⟩
 rw[show ((W.length:Int)).toNat=W.length by omega]
 refine⟨λk τ G'=>∃(v2 v3:Option T),τ=[some (.tup (W.map encR)),some (.ref p),v2,v3]/\G' p=some (.lst (((List.range k).flatMap (rowE W)).map encT))/\((List.range k).flatMap (rowE W)).length<=1000*k/\Sub G G',?_,?_,?_,?_⟩
 .exact⟨none,none,rfl,jJh,lJx _,.new hp⟩
 .intros;trivial
 .intro k x τ G1 hx h_;apply xe2 h_;clear h_;intro v2 v3;refine ae3 ?_;intro h1 h2 h3;obtain⟨hk,rfl⟩:=jXn hx;have hW:W[k]? =some W[k]:=lJf hk
  generalize W[k]=es at hW
  have hes:=fine.row k es hW
  exists jJt,jJ1,jKr hW,encR,List.length_map
  refine⟨by omega,by omega,?_⟩
  rw[show ((es.length:Int)).toNat=es.length by omega]
  refine⟨λi τ G'=>∃(v3:Option T),τ=[some (.tup (W.map encR)),some (.ref p),some (.int k),v3]/\G' p=some (.lst (((List.range k).flatMap (rowE W)++(List.range i).filterMap (jZb k es)).map encT))/\((List.range k).flatMap (rowE W)++(List.range i).filterMap (jZb k es)).length<=1000*k+i/\Sub G G',?_,?_,?_,?_⟩
  .exact⟨v3,rfl,by simpa using h1,by simpa using h2,h3⟩
  .intros;trivial
  .intro i x τ G2 hx h_;apply xe1 h_;clear h_;intro v3;refine ae3 ?_;intro i1 i2 i3;obtain⟨hi,rfl⟩:=jXn hx;have hE:es[i]? =some es[i]:=lJf hi
   generalize es[i]=e at hE
   exists rLeF,jKr hW,encR,jYv hE,encE,jJ4 i1,i1
   refine⟨by omega,?_⟩
   have hle:HT.lexLe [(k:Int),(i:Int)] [(e.1:Int),(e.2:Int)]=leE (k,i) e:=rfl;rw[hle]
   by_cases hc:leE (k,i) e=true
   .have hcell:jZb k es i=some ((k,i),e):=by unfold jZb;rw[hE];show (if _ then _ else _)=_;rw[lJc hc]
    rw[lJc hc];refine⟨by omega,by omega,by rw[lJg];omega,?_,?_,i3.over hp⟩
    .rw[lKr,lV8];simp[hcell,encT,encE]
    .rw[lKr,lV8,lJv,lJv];rw[lJv] at i2;simp[hcell] at i2 ⊢; omega
   .have hcell:jZb k es i=none:=by unfold jZb;rw[hE];show (if _ then _ else _)=_;rw[lJb hc]
    rw[lJb hc];refine⟨?_,?_,i3⟩
    .rw[lKr,lV8];simp[hcell]
    .rw[lKr,lV8];simp[hcell];simp at i2;omega
  .intro τ G' h_;apply xe1 h_;clear h_;intro v3;refine ae3 ?_;intro i1 i2 i3;rw[jKc] at i1 i2
   have e1:(List.range (k+1)).flatMap (rowE W)=(List.range k).flatMap (rowE W)++(List.range es.length).filterMap (jZb k es):=by
    rw[lKr,lYp]
    congr 1
    simp[rowE,hW]
   refine⟨_,_,rfl,by rw[e1];exact i1,by rw[e1];omega,i3⟩
 .intro τ G1 h_;apply xe2 h_;clear h_;intro v2 v3;refine ae3 ?_;intro h1 h2 h3;rw[jKc] at h1 h2
  exists tSeq
  exact kk p G1 hp h1 (by show ((List.range W.length).flatMap (rowE W)).length<=_;omega) h3
def jJj(F:List Nat):List T:=F.map λe=>T.int (e:Nat)
theorem qY5{F:List Nat}{r:Nat}:inT (.int r) (jJj F)=F.contains r:=by
 unfold inT jJj;rw[List.any_map,List.contains_eq_any_beq]
 congr 1
 funext e
 simp only[Function.comp,eqT]
 by_cases h:e=r
 .subst h;simp
 .have h2:¬ (e:Int)=r:=by omega
  have h3:¬ r=e:=λz=>h z.symm
  rw[beq_eq_false_iff_ne.mpr h3,beq_eq_false_iff_ne.mpr h2]
theorem kZv{G:Gp}{p:Addr}{F:List Nat}{r:Nat}(h:G p=some (.lst (jJj F))):inR G (.int r) (.ref p)=some (F.contains r):=by
 unfold inR;rw[jJn h];show (if _ then _ else _)=_
 rw[lJc ⟨rfl,jX1⟩,qY5]
theorem jQk:∀{n:Nat}{F:List Nat}(hn:F.Nodup)(hl:∀x,x∈F->x<n),F.length<=n
 | 0,F,hn,hl=>by
  cases F with
  | nil=>exact lJh _
  | cons a as=>exact absurd (hl a (lJ2)) (lKd _)
 | n+1,F,hn,hl=>by
  have h1:=jQk (n:=n) (hn.erase n) (λx hx=>by
   rw[hn.mem_erase_iff] at hx;have:=hl x hx.2;omega)
  by_cases h:n∈F
  .rw[List.length_erase_of_mem h] at h1;omega
  .rw[List.erase_of_not_mem h] at h1;omega
theorem kJd{F:List Nat}{n:Nat}(hn:F.Nodup)(hl:∀x,x∈F->x<n)(he:F.length=n):∀r,r<n->r∈F:=by
 intro r hr;apply lQc;intro hm;have:(r::F).length<=n:=jQk (lKn.mpr ⟨hm,hn⟩) (λx hx=>by rw[lJp] at hx;rcases hx with rfl | hx;exact hr;exact hl x hx)
 simp at this;omega
def uX6(W:Web)(S:Nat->Prop):Prop:=∀r i s j,S r->en W r i=some (s,j)->S s
structure Found (W:Web) (r0:Nat) (F:List Nat):Prop where
 nd:F.Nodup
 lt:∀x,x∈F->x<W.length
 got:∀S,S r0->uX6 W S->∀x,x∈F->S x
def vis(F:List Nat)(es:List (Nat×Nat)):List Nat:=es.foldl (λF e=>if F.contains e.1=true then F else F++[e.1]) F
def row(W:Web)(r:Nat):List (Nat×Nat):=(W[r]?).getD []
theorem jVy{W:Web}{r:Nat}{es:List (Nat×Nat)}(h:W[r]? =some es):row W r=es:=by unfold row;rw[h];rfl
theorem jZd{F:List Nat}{es:List (Nat×Nat)}{j:Nat}{e:Nat×Nat}(h:es[j]? =some e):vis F (es.take (j+1))=if (vis F (es.take j)).contains e.1=true then vis F (es.take j) else vis F (es.take j)++[e.1]:=by
 unfold vis;rw[lQh,h,lXg];rfl
def bfsN(W:Web):Nat->Nat->List Nat->List Nat
 | 0,_,F=>F
 | n+1,k,F=>match F[k]? with
  | some r=>bfsN W n (k+1) (vis F (row W r))
  | none=>F
def bfs(W:Web)(r:Nat):List Nat:=bfsN W W.length 0 [r]
theorem kJw{W:Web}{n k:Nat}{F:List Nat}(h:F.length<=k):bfsN W n k F=F:=by
 cases n with
 | zero=>rfl
 | succ n=>rw[bfsN,lJy h]
theorem kJv{W:Web}{n k r:Nat}{F:List Nat}(h:F[k]? =some r):bfsN W (n+1) k F=bfsN W n (k+1) (vis F (row W r)):=by rw[bfsN,h]
noncomputable def jU7:Sp3:=λxs G Q=>∃(W:Web)(r0:Nat),xs=[encW W,.int r0]/\Fine W/\r0<W.length/\∀p G' F,G p=none->G' p=some (.lst (jJj F))->Found W r0 F->F=bfs W r0->Sub G G'->Q (.ref p) G'
def kYw:List Str:=["_law_web_here","_law_room","_law_found","_law_at","_law_other","_law_door"]
noncomputable def jVb:TS3:=
 (tSeq (tAsg (tLst C1) D2)
 (tSeq (tAsg tI0 D3)
 (tSeq (jUz (jJx (tOp rLt B3 (tCB rLen C2))) (tSeq (tFor (iSeq (tOp rIxF B0 (tOp rIxF B2 B3))) (gTup 2 (jKa D4 (jKa D5 gNil))) (tIfS (jJx (tOp jK4 B4 B2)) (jQg (tBM "list" jJ5 B2 C4)) jKm))
 (tAsg (tOp jJ7 B3 tI1) D3)))
 (tRet B2))))
theorem kJ7:RdOk jU7 jVb kYw:=by
 intro xs G Q h_;apply xe2 h_;clear h_;intro W r0;refine ae3 ?_;intro fine hr0 kk;show jVb _ [some (.tup (W.map encR)),some (.int r0),none,none,none,none] G
 have hs:=sz;have hl:=fine.len
 exists jVb,jUz,jJt
 refine⟨by omega,λp hp=> ?_⟩
 refine⟨λm τ G'=>∃(at':Nat)(v4 v5:Option T)(F:List Nat),τ=[some (.tup (W.map encR)),some (.int r0),some (.ref p),some (.int at'),v4,v5]/\G' p=some (.lst (jJj F))/\Found W r0 F/\Sub G G'/\bfs W r0=bfsN W (W.length-at') at' F/\m=W.length-at',⟨_,0,none,none,[r0],rfl,jJh,⟨by simp,by simpa using hr0,λS h0 _ x hx=>by rw[lJ0] at hx;rw[hx];exact h0⟩,.new hp,rfl,rfl⟩,?_⟩
 intro m τ G1 h_;apply xe4 h_;clear h_;intro at' v4 v5 F;refine ae5 ?_;intro h1 h2 h3 hB e4_;subst e4_
 exists iSeq,jJn h1,jJy h1
 have hFl:=jQk h2.nd h2.lt;split
 .rename_i hc
  have hat:at'<F.length:=by rw[jJj,lJg] at hc;omega
  have hF:F[at']? =some F[at']:=lJf hat;have hfm:F[at']∈F:=lVl hat
  generalize F[at']=r at hF hfm
  have hrW:=h2.lt r hfm;have hW:W[r]? =some W[r]:=lJf hrW
  generalize W[r]=es at hW
  have hatI:L2.atI (jJj F) (at':Int)=some (.int r):=by rw[atN];simp[jJj,hF]
  exists hatI,jKr hW,encR
  refine⟨λτ G'=>∃(v4 v5:Option T)(F:List Nat),τ=[some (.tup (W.map encR)),some (.int r0),some (.ref p),some (.int ((at'+1:Nat):Int)),v4,v5]/\G' p=some (.lst (jJj F))/\Found W r0 F/\Sub G G'/\bfs W r0=bfsN W (W.length-(at'+1)) (at'+1) F,?_,?_⟩
  .intro τ' G' h_;apply xe3 h_;clear h_;intro v4 v5 F';refine ae4 ?_;intro i1 i2 i3 iB;exact⟨W.length-(at'+1),by omega,at'+1,v4,v5,rfl,F',i1,i2,i3,iB,rfl⟩
  .refine⟨λj τ G'=>∃(v4 v5:Option T)(F':List Nat),τ=[some (.tup (W.map encR)),some (.int r0),some (.ref p),some (.int at'),v4,v5]/\G' p=some (.lst (jJj F'))/\r∈F'/\Found W r0 F'/\Sub G G'/\F'=vis F (es.take j),?_,?_,?_,?_⟩
   .exact⟨v4,v5,F,rfl,h1,hfm,h2,h3,rfl⟩
   .intros;trivial
   .intro j x τ G2 hx0 h_;apply xe3 h_;clear h_;intro v4 v5 F0;refine ae5 ?_;intro i1 i2 i3 i4 iB;obtain⟨⟨s,t⟩,hx,rfl⟩:=jKd hx0;have hen:=jKu hW hx
    exists encE,jK4,kZv i1,jJ4 i1,i1
    by_cases hm:s∈F0
    .rw[lJb (by simp[hm])]
     exact⟨F0,rfl,i2,i3,i4,by rw[jZd hx,<-iB,lJc (by simpa using hm)]⟩
    .rw[lJc (by simp[hm])]
     have hFl:=jQk i3.nd i3.lt;refine⟨by rw[jJj,lJg];omega,F0++[s],by simp[jJj],lK1 _ i2,⟨?_,?_,?_⟩,i4.over hp,by rw[jZd hx,<-iB,lJb (by simpa using hm)]⟩
     .rw[lQ8];exact⟨i3.nd,by simp,λa ha b hb=>by rw[lJ0] at hb;subst hb;rintro rfl;exact hm ha⟩
     .intro x hx;rw[lKb,lJ0] at hx
      rcases hx with hx | rfl
      .exact i3.lt x hx
      .exact fine.rng _ _ _ _ hen
     .intro S h0 hc x hx;rw[lKb,lJ0] at hx
      rcases hx with hx | rfl
      .exact i3.got S h0 hc x hx
      .exact hc _ _ _ _ (i3.got S h0 hc r i2) hen
   .intro τ G' h_;apply xe3 h_;clear h_;intro v4 v5 F0;refine ae5 ?_;intro i1 i2 i3 i4 iB
    exists tSeq
    refine⟨by simp,F0,i1,i3,i4,?_⟩
    rw[lJg,lQz] at iB;rw[hB,show W.length-at'=W.length-(at'+1)+1 by omega,kJv hF,jVy hW,<-iB]
 .rename_i hc
  exact kk p G1 F hp h1 h2 (by rw[hB,kJw (by rw[jJj,lJg] at hc;omega)]) h3
structure Turn (m:Nat) (σ:List Nat):Prop where
 len:σ.length=m
 nd:σ.Nodup
 lt:∀x,x∈σ->x<m
def Invol(σ:List Nat):Prop:=∀(k x:Nat),σ[k]? =some x->σ[x]? =some k
theorem Turn.at{m:Nat}{σ:List Nat}(h:Turn m σ){k:Nat}(hk:k<m):∃x,σ[k]? =some x/\x<m:=by
 have hk':k<σ.length:=by rw[h.len];exact hk
 exact⟨σ[k],lJf hk',h.lt _ (lVl hk')⟩
theorem Turn.onto{m:Nat}{σ:List Nat}(h:Turn m σ){x:Nat}(hx:x<m):∃k,k<m/\σ[k]? =some x:=by
 obtain⟨k,hk⟩:=lJ1 (kJd h.nd h.lt h.len x hx);exact⟨k,by rw[<-h.len];exact (lJe.mp hk).1,hk⟩
theorem Turn.inj{m:Nat}{σ:List Nat}(h:Turn m σ){k k' x:Nat}(h1:σ[k]? =some x)(h2:σ[k']? =some x):k=k':=
 (lQ9 (lJe.mp h1).1 h.nd).mp (h1.trans h2.symm)
theorem Invol.turn{m:Nat}{σ:List Nat}(hl:σ.length=m)(h:Invol σ):Turn m σ where
 len:=hl
 nd:=by
  unfold List.Nodup;refine lZh.mpr ?_;intro i j hi hj hij e;have h1:=h j _ (lJf hj);have h2:=h i _ (lJf hi);rw[e,h1] at h2;cases h2;omega
 lt:=λx hx=>by
  obtain⟨k,hk⟩:=lJ1 hx;rw[<-hl];exact (lJe.mp (h k x hk)).1
theorem Invol.swap{σ:List Nat}{a b:Nat}(h:Invol σ)(ha:σ[a]? =some a)(hb:σ[b]? =some b)(hab:a≠b):Invol ((σ.set a b).set b a):=by
 have hal:=(lJe.mp ha).1;have hbl:=(lJe.mp hb).1
 have gt:∀k,((σ.set a b).set b a)[k]? =if k=b then some a else if k=a then some b else σ[k]? :=by
  intro k
  by_cases h1:k=b
  .subst h1;rw[lJc rfl,lK9 (by simpa using hbl)]
  .rw[lJb h1,lKy (λz=>h1 z.symm)]
   by_cases h2:k=a
   .subst h2;rw[lJc rfl,lK9 hal]
   .rw[lJb h2,lKy (λz=>h2 z.symm)]
 intro k x hk;rw[gt] at hk ⊢
 by_cases h1:k=b
 .subst h1;rw[lJc rfl] at hk;cases hk;rw[lJb hab,lJc rfl]
 .rw[lJb h1] at hk
  by_cases h2:k=a
  .subst h2;rw[lJc rfl] at hk;cases hk;rw[lJc rfl]
  .rw[lJb h2] at hk;have hx:=h k x hk;have h3:x≠b:=by rintro rfl;rw[hb] at hx;cases hx;exact h1 rfl
   have h4:x≠a:=by rintro rfl;rw[ha] at hx;cases hx;exact h2 rfl
   rw[lJb h3,lJb h4];exact hx
noncomputable def jZv:Sp3:=λxs G Q=>∃(b:Addr)(m n:Nat)(own:Bool),xs=[.ref b,.int m,.bl own]/\BoxAt G b n/\n+m<2^40/\1<=m/\m<=1000/\∀ σ G',Turn m σ->(own=true->Invol σ)->BoxAt G' b (n+m)->Keep b G G'->Q (.tup (jJj σ)) G'
def qZ6:List Str:=["_law_box_here","_law_many","_law_own","_law_order","_law_k","_law_turn_here","_law_one","_law_other"]
noncomputable def jZ0:TS3:=
 (tSeq (tAsg (tLst tNil) D3)
 (tSeq (tFor (jJ1 C1) D4 (jQg (tBM "list" jZ8 B3 (jJc (jJs jJp (jJc B0 (jJc (tOp jJ7 B4 tI1) tNil))) C4))))
 (tSeq (tIfS (tNot (tTru rTru B2)) (tRet (tCB jJ6 C3)) jKm)
 (tSeq (tAsg (jVl C1) D5)
 (tSeq (tFor (qY8 (jJc tI0 (jJc (tOp rSub B1 tI1) (jJc tI2 tNil)))) D4 (tSeq (tPar 6 7 (jJc (tOp rIxF B3 B4) (jJc (tOp rIxF B3 (tOp jJ7 B4 tI1)) tNil)))
 (tSeq (tAsg B7 (gSub B5 B6 jQh))
 (tAsg B6 (gSub B5 B7 jQh)))))
 (tRet (tCB jJ6 C5)))))))
theorem kXh:RdOk jZv jZ0 qZ6:=by
 intro xs G Q h_;apply xe4 h_;clear h_;intro b m n own;refine ae5 ?_;intro hb hn hm1 hm2 kk;show jZ0 _ [some (.ref b),some (.int m),some (.bl own),none,none,none,none,none] G
 have hs:=sz;obtain⟨bo,hbo⟩:=hb.some
 exists jZ0,jJt,jJ1,qY8,jVl
 refine⟨lJx _,λo ho=>⟨by omega,by omega,?_⟩⟩
 have hob:=jJf hbo ho;rw[show ((m:Int)).toNat=m by omega]
 refine⟨λk τ G'=>∃(v4:Option T)(σ:List Nat),τ=[some (.ref b),some (.int m),some (.bl own),some (.ref o),v4,none,none,none]/\G' o=some (.lst (jJj σ))/\Turn k σ/\BoxAt G' b (n+k)/\Keep b G G',?_,?_,?_,?_⟩
 .exact⟨none,[],rfl,jJh,⟨rfl,lVs,λx hx=>by cases hx⟩,hb.gup hob,.new ho⟩
 .intros;trivial
 .intro k x τ G1 hx h_;apply xe2 h_;clear h_;intro v4 σ;refine ae4 ?_;intro h1 h2 h3 h4;obtain⟨hk,rfl⟩:=jXn hx
  exists jJ4 h1
  refine⟨b,_,n+k,rfl,h3,by omega,by omega,by omega,λc G2 c0 c1 bx kp=> ?_⟩
  have h1':=kp _ _ hob.symm h1;refine⟨jJj σ,c,rfl,h1',c0,by rw[jJj,lJg,h2.len];omega,by rw[jJj,lJg,h2.len];omega,σ.take c.toNat++k::σ.drop c.toNat,?_,⟨?_,?_,?_⟩,bx.gup hob,(h4.trans kp).over ho⟩
  .simp[insT,jJj,lXd,lXz]
  .rw[ins_perm.length_eq,lJv,h2.len];rfl
  .rw[ins_perm.nodup_iff,lQ8];exact⟨h2.nd,by simp,λa ha e he=>by rw[lJ0] at he;subst he;have:=h2.lt a ha;omega⟩
  .intro x hx;rw[ins_perm.mem_iff,lKb,lJ0] at hx
   rcases hx with hx | rfl
   .have:=h2.lt x hx;omega
   .omega
 .intro τ G1 h_;apply xe2 h_;clear h_;intro v4 σ;refine ae4 ?_;intro h1 h2 h3 h4;rw[jKc] at h2 h3
  exists jJn h1
  cases own with
  | false=>exact kk σ G1 h2 (λz=>by cases z) h3 h4
  | true=>
   exists jJt,qY8,jVl
   refine⟨by omega,by omega,λt ht=> ?_⟩
   have hto:=jJf h1 ht;have htb:b≠t:=by obtain⟨u,hu⟩:=h3.some;exact jJf hu ht
   have ht0:=h4.none htb.symm ht
   have hsm:Builtin.Range.small 0 ((m:Int)-1) 2=true:=by
    unfold Builtin.Range.small Builtin.Range.rangeSize;simp only[Builtin.Range.rangeFitsLong,lKt,lYk,lK7,beq_iff_eq,show (2:Int)>0 by decide,lK0]
    split<;>omega
   refine⟨by decide,by decide,hsm,?_⟩
   have hN:(Builtin.Range.rangeSize 0 ((m:Int)-1) 2).toNat=m / 2:=by
    unfold Builtin.Range.rangeSize;rw[lJc (by decide)]
    split<;>omega
   rw[hN,show ((m:Int)).toNat=m by omega,jUb]
   refine⟨λk τ G'=>∃(v4 v6 v7:Option T)(ρ:List Nat),τ=[some (.ref b),some (.int m),some (.bl true),some (.ref o),v4,some (.ref t),v6,v7]/\G' t=some (.lst (jJj ρ))/\G' o=some (.lst (jJj σ))/\Invol ρ/\ρ.length=m/\(∀i x,2*k<=i->σ[i]? =some x->ρ[x]? =some x)/\BoxAt G' b (n+m)/\Keep b G G',?_,?_,?_,?_⟩
   .refine⟨_,_,_,List.range m,rfl,jJh,by rw[jJm hto];exact h1,?_,by simp,?_,h3.gup htb,h4.over ht0⟩
    .intro k x hk;obtain⟨q1,q2⟩:=lJe.mp hk;simp at q1 q2;subst q2;exact hk
    .intro i x _ hx;have:=h2.lt x (lJk hx);simp[this]
   .intros;trivial
   .intro k x τ G2 hx h_;apply xe4 h_;clear h_;intro v4 v6 v7 ρ;refine ae7 ?_;intro i1 i2 i3 i4 i5 i6 i7
    obtain⟨hk,rfl⟩:k<m / 2/\x= .int ((2*k:Nat):Int):=by
     obtain⟨q1,q2⟩:=lJe.mp hx;simp[rngS] at q1 q2;refine⟨q1,?_⟩;rw[<-q2];congr 1;omega
    obtain⟨a,ha,_⟩:=h2.at (show 2*k<m by omega)
    obtain⟨c,hc,_⟩:=h2.at (show 2*k+1<m by omega)
    have hca:L2.atI (jJj σ) ((2*k:Nat):Int)=some (.int (a:Nat)):=by rw[atN];simp[jJj,ha]
    have hcc:L2.atI (jJj σ) (((2*k:Nat):Int)+1)=some (.int (c:Nat)):=by rw[show ((2*k:Nat):Int)+1=((2*k+1:Nat):Int) by omega,atN];simp[jJj,hc]
    have hac:a≠c:=by rintro rfl;have:=h2.inj ha hc;omega
    have fa:=i5 (2*k) a (lJh _) ha;have fc:=i5 (2*k+1) c (by omega) hc
    have hal:a<ρ.length:=(lJe.mp fa).1;have hcl:c<ρ.length:=(lJe.mp fc).1;have ixa:L2.ixN (jJj ρ).length (a:Int)=some a:=kJi (by rw[jJj,lJg];exact hal)
    have ixc:L2.ixN ((jJj ρ).set a (.int (c:Nat))).length (c:Int)=some c:=kJi (by rw[lVg,jJj,lJg];exact hcl)
    exists jJy i2,hca,hcc,jUa i1 ixa,ixc
    have e1:((jJj ρ).set a (.int (c:Nat))).set c (.int (a:Nat))=jJj ((ρ.set a c).set c a):=by simp[jJj,List.map_set]
    rw[e1];refine⟨(ρ.set a c).set c a,rfl,by rw[jJm hto];exact i2,i3.swap fa fc hac,by simp[i4],?_,i6.gup htb,i7.over ht0⟩
    intro i x hi hx;have hxa:a≠x:=by rintro rfl;have:=h2.inj ha hx;omega
    have hxc:c≠x:=by rintro rfl;have:=h2.inj hc hx;omega
    rw[lKy hxc,lKy hxa];exact i5 i x (by omega) hx
   .intro τ G2 h_;apply xe4 h_;clear h_;intro v4 v6 v7 ρ;refine ae7 ?_;intro i1 i2 i3 i4 i5 i6 i7
    exists jJn i1
    exact kk ρ G2 (i3.turn i4) (λ_=>i3) i6 i7
structure TurnsOk (W:Web) (m:Nat) (Ts:List (List Nat)):Prop where
 len:Ts.length=(jK0 W).length
 ok:∀(t:Nat)(x:Tie)(σ:List Nat),(jK0 W)[t]? =some x->Ts[t]? =some σ->Turn m σ/\(x.1=x.2->Invol σ)
def Bel(W:Web)(Ts:List (List Nat))(x i y j:Nat):Prop:=∃(t:Nat)(e f:Nat×Nat)(σ:List Nat)(k k':Nat),(jK0 W)[t]? =some (e,f)/\Ts[t]? =some σ/\σ[k]? =some k'/\
 ((x=e.1+k*W.length/\i=e.2/\y=f.1+k'*W.length/\j=f.2)\/(y=e.1+k*W.length/\j=e.2/\x=f.1+k'*W.length/\i=f.2))
theorem Bel.symm{W:Web}{Ts:List (List Nat)}{x i y j:Nat}(h:Bel W Ts x i y j):Bel W Ts y j x i:=by
 obtain⟨t,e,f,σ,k,k',h1,h2,h3,h4⟩:=h;exact⟨t,e,f,σ,k,k',h1,h2,h3,h4.symm⟩
theorem spl{n r k r' k':Nat}(h1:r<n)(h2:r'<n)(h:r+k*n=r'+k'*n):r=r'/\k=k':=by
 have e1:(r+k*n)%n=r:=by rw[lZo,lQo h1]
 have e2:(r'+k'*n)%n=r':=by rw[lZo,lQo h2]
 have hn:0<n:=by omega
 have e3:(r+k*n) / n=k:=by rw[Nat.add_mul_div_right _ _ hn,lXx h1,lXa]
 have e4:(r'+k'*n) / n=k':=by rw[Nat.add_mul_div_right _ _ hn,lXx h2,lXa]
 rw[h] at e1 e3;exact⟨e1.symm.trans e2,e3.symm.trans e4⟩
theorem kQc{W:Web}{t:Nat}{x:Tie}(h:(jK0 W)[t]? =some x):en W x.1.1 x.1.2=some x.2/\leE x.1 x.2=true:=endsL_mem.mp (lJk h)
theorem kQb{W:Web}{t t':Nat}{x:Tie}(h:(jK0 W)[t]? =some x)(h':(jK0 W)[t']? =some x):t=t':=(lQ9 (lJe.mp h).1 kYh).mp (h.trans h'.symm)
theorem Bel.fn{W:Web}{m:Nat}{Ts:List (List Nat)}{x i y j y' j':Nat}(hs:Sym W)(ok:TurnsOk W m Ts)(h:Bel W Ts x i y j)(h':Bel W Ts x i y' j'):y=y'/\j=j':=by
 obtain⟨t,e,f,σ,k,l,h1,h2,h3,h4⟩:=h;obtain⟨t',e',f',σ',k',l',h1',h2',h3',h4'⟩:=h';obtain⟨q1,q2⟩:=kQc h1;obtain⟨q1',q2'⟩:=kQc h1';have q1:en W e.1 e.2=some (f.1,f.2):=q1;have q1':en W e'.1 e'.2=some (f'.1,f'.2):=q1';have qs:=hs _ _ _ _ q1;have qs':=hs _ _ _ _ q1';have l1:=kJo q1;have l2:=kJo qs;have l1':=kJo q1';have l2':=kJo qs';obtain⟨e1,e2⟩:=e;obtain⟨f1,f2⟩:=f;obtain⟨e1',e2'⟩:=e';obtain⟨f1',f2'⟩:=f';obtain⟨T1,T2⟩:=ok.ok _ _ _ h1 h2;simp only at *
 rcases h4 with ⟨rfl,rfl,rfl,rfl⟩ | ⟨rfl,rfl,rfl,rfl⟩<;>rcases h4' with ⟨z1,rfl,rfl,rfl⟩ | ⟨rfl,rfl,z1,rfl⟩
 .obtain⟨rfl,rfl⟩:=spl l1 l1' z1;rw[q1] at q1';cases q1';have:=kQb h1 h1';subst this;rw[h2] at h2';cases h2';rw[h3] at h3';cases h3';exact⟨rfl,rfl⟩
 .obtain⟨rfl,rfl⟩:=spl l1 l2' z1;rw[q1] at qs';cases qs';have a1:=leE_iff.mp q2;have a2:=leE_iff.mp q2';simp only at a1 a2;have:e1=f1/\i=j:=by omega
  obtain⟨rfl,rfl⟩:=this;have:=kQb h1 h1';subst this;rw[h2] at h2';cases h2';have:=T2 rfl _ _ h3';rw[h3] at this;cases this;exact⟨rfl,rfl⟩
 .obtain⟨rfl,rfl⟩:=spl l2 l1' z1;rw[qs] at q1';cases q1';have a1:=leE_iff.mp q2;have a2:=leE_iff.mp q2';simp only at a1 a2;have:e1=f1/\j=i:=by omega
  obtain⟨rfl,rfl⟩:=this;have:=kQb h1 h1';subst this;rw[h2] at h2';cases h2';have:=T2 rfl _ _ h3;rw[h3'] at this;cases this;exact⟨rfl,rfl⟩
 .obtain⟨rfl,rfl⟩:=spl l2 l2' z1;rw[qs] at qs';cases qs';have:=kQb h1 h1';subst this;rw[h2] at h2';cases h2';have:=T1.inj h3 h3';subst this;exact⟨rfl,rfl⟩
def cl(M:List (List T))(x i:Nat):Option T:=(M[x]?).bind λts=>ts[i]?
def put(M:List (List T))(x i:Nat)(v:T):List (List T):=match M[x]? with
 | some ts=>M.set x (ts.set i v)
 | none=>M
theorem kUl{M:List (List T)}{x i:Nat}{v:T}(h:cl M x i=some v):∃ts,M[x]? =some ts/\ts[i]? =some v:=by
 unfold cl at h;cases e1:M[x]? with
 | none=>rw[e1] at h;cases h
 | some ts=>rw[e1] at h;exact⟨ts,rfl,h⟩
theorem kVs{M:List (List T)}{x i:Nat}{ts:List T}(h1:M[x]? =some ts):cl M x i=ts[i]? :=by unfold cl;rw[h1];rfl
theorem qJd{M:List (List T)}{x i:Nat}{v u:T}(h:cl M x i=some u)(x' i':Nat):cl (put M x i v) x' i'=if x'=x/\i'=i then some v else cl M x' i':=by
 obtain⟨ts,h1,h2⟩:=kUl h;have hx:=(lJe.mp h1).1;have hi:=(lJe.mp h2).1;unfold put;rw[h1];show cl (M.set x (ts.set i v)) x' i'=_
 by_cases hxx:x'=x
 .subst hxx;rw[kVs (lK9 hx),kVs h1]
  by_cases hii:i'=i
  .subst hii;rw[lK9 hi,lJc ⟨rfl,rfl⟩]
  .rw[lKy (λz=>hii z.symm),lJb (λz=>hii z.2)]
 .rw[lJb (λz=>hxx z.1)]
  unfold cl;rw[lKy (λz=>hxx z.symm)]
structure SInv (W:Web) (m:Nat) (Ts:List (List Nat)) (M:List (List T)):Prop where
 len:M.length=m*W.length
 row:∀(x:Nat)(ts:List T),M[x]? =some ts->∃es,W[x%W.length]? =some es/\ts.length=es.length
 val:∀x i v,cl M x i=some v->v= .non\/∃y j,Bel W Ts x i y j/\v=encE (y,j)
def Fl(M:List (List T))(x i:Nat):Prop:=∃e,cl M x i=some (encE e)
theorem SInv.at{W:Web}{m:Nat}{Ts:List (List Nat)}{M:List (List T)}{r i k:Nat}{e:Nat×Nat}(h:SInv W m Ts M)(hk:k<m)(he:en W r i=some e):∃ts,M[r+k*W.length]? =some ts/\i<ts.length:=by
 obtain⟨es,h1,h2⟩:=jKo he;have hr:=kJo he
 have hx:r+k*W.length<M.length:=by
  rw[h.len];have:(k+1)*W.length<=m*W.length:=lXh _ hk;rw[lQx] at this;omega
 have hM:M[r+k*W.length]? =some M[r+k*W.length]:=lJf hx;obtain⟨es',q1,q2⟩:=h.row _ _ hM;rw[lZo,lQo hr,h1] at q1;cases q1;exact⟨_,hM,by rw[q2];exact (lJe.mp h2).1⟩
theorem SInv.put{W:Web}{m:Nat}{Ts:List (List Nat)}{M:List (List T)}{x i y j:Nat}{ts:List T}(h:SInv W m Ts M)(hx:M[x]? =some ts)(hi:i<ts.length)(hb:Bel W Ts x i y j):
  SInv W m Ts (M.set x (ts.set i (encE (y,j))))/\Fl (M.set x (ts.set i (encE (y,j)))) x i/\∀x' i',Fl M x' i'->Fl (M.set x (ts.set i (encE (y,j)))) x' i':=by
 have hc:cl M x i=some ts[i]:=by rw[kVs hx];exact lJf hi
 have hp:M.set x (ts.set i (encE (y,j)))=_root_.W.put M x i (encE (y,j)):=by unfold _root_.W.put;rw[hx]
 have hxl:=(lJe.mp hx).1;refine⟨⟨by rw[lVg];exact h.len,λx' ts' h'=> ?_,λx' i' v hv=> ?_⟩,?_,λx' i' ⟨e,he⟩=> ?_⟩
 .by_cases hxx:x'=x
  .subst hxx;rw[lK9 hxl] at h';cases h';rw[lVg];exact h.row _ _ hx
  .rw[lKy (λz=>hxx z.symm)] at h';exact h.row _ _ h'
 .rw[hp,qJd hc] at hv
  by_cases hxx:x'=x/\i'=i
  .rw[lJc hxx] at hv;cases hv;obtain⟨rfl,rfl⟩:=hxx;exact .inr ⟨y,j,hb,rfl⟩
  .rw[lJb hxx] at hv;exact h.val _ _ _ hv
 .exact⟨(y,j),by rw[hp,qJd hc,lJc ⟨rfl,rfl⟩]⟩
 .by_cases hxx:x'=x/\i'=i
  .exact⟨(y,j),by rw[hp,qJd hc,lJc hxx]⟩
  .exact⟨e,by rw[hp,qJd hc,lJb hxx];exact he⟩
structure Sheet (W:Web) (m:Nat) (V:Web):Prop where
 len:V.length=m*W.length
 row:∀(x:Nat)(ts:List (Nat×Nat)),V[x]? =some ts->∃es,W[x%W.length]? =some es/\ts.length=es.length
 sym:Sym V
def uUk(W:Web)(m:Nat)(Ts:List (List Nat))(M:List (List T))(d:Nat->Nat->Prop):Prop:=∀t k e f σ k',d t k->(jK0 W)[t]? =some (e,f)->Ts[t]? =some σ->σ[k]? =some k'->Fl M (e.1+k*W.length) e.2/\Fl M (f.1+k'*W.length) f.2
def dec:T->Nat×Nat
 | .tup [.int a,.int b]=>(a.toNat,b.toNat)
 | _=>(0,0)
theorem kJr{e:Nat×Nat}:dec (encE e)=e:=by obtain⟨a,b⟩:=e;simp[encE,dec]
theorem qXm{W:Web}{m:Nat}{Ts:List (List Nat)}{M:List (List T)}(hs:Sym W)(ok:TurnsOk W m Ts)(h:SInv W m Ts M)(hd:uUk W m Ts M λt k=>t<(jK0 W).length/\k<m):Sheet W m (M.map (List.map dec))/\M=(M.map (List.map dec)).map (List.map encE):=by
 have full:∀x i v,cl M x i=some v->Fl M x i:=by
  intro x i v hv;obtain⟨ts,h1,h2⟩:=kUl hv;obtain⟨es,q1,q2⟩:=h.row _ _ h1;have hx:x<m*W.length:=by rw[<-h.len];exact (lJe.mp h1).1
  have hi:i<es.length:=by rw[<-q2];exact (lJe.mp h2).1
  have hW:0<W.length:=by rcases lXv W.length with z | z;rw[z] at hx;omega;exact z
  have hk:x / W.length<m:=Nat.div_lt_of_lt_mul (by rw[lQy];exact hx)
  have hxe:x%W.length+x / W.length*W.length=x:=by rw[lQy];exact Nat.mod_add_div x W.length
  have he:=jKu q1 (lJf hi)
  generalize es[i]=e at he
  obtain⟨s,j⟩:=e
  by_cases hle:leE (x%W.length,i) (s,j)=true
  .obtain⟨t,ht⟩:=lJ1 (endsL_mem (x:=((x%W.length,i),(s,j))).mpr ⟨he,hle⟩);have htl:=(lJe.mp ht).1;have htT:t<Ts.length:=by rw[ok.len];exact htl
   have hσ:Ts[t]? =some Ts[t]:=lJf htT;obtain⟨k',hk',_⟩:=(ok.ok _ _ _ ht hσ).1.at hk;have:=(hd t _ _ _ _ _ ⟨htl,hk⟩ ht hσ hk').1;simp only at this;rw[hxe] at this;exact this
  .have hle2:leE (s,j) (x%W.length,i)=true:=by
    rw[leE_iff] at hle ⊢; simp only at hle ⊢; omega
   obtain⟨t,ht⟩:=lJ1 (endsL_mem (x:=((s,j),(x%W.length,i))).mpr ⟨hs _ _ _ _ he,hle2⟩);have htl:=(lJe.mp ht).1;have htT:t<Ts.length:=by rw[ok.len];exact htl
   have hσ:Ts[t]? =some Ts[t]:=lJf htT;obtain⟨k0,hk0,hk1⟩:=(ok.ok _ _ _ ht hσ).1.onto hk;have:=(hd t _ _ _ _ _ ⟨htl,hk0⟩ ht hσ hk1).2;simp only at this;rw[hxe] at this;exact this
 have enM:∀x i e,en (M.map (List.map dec)) x i=some e->cl M x i=some (encE e)/\Bel W Ts x i e.1 e.2:=by
  intro x i e he;obtain⟨es,h1,h2⟩:=jKo he;rw[lJj] at h1;cases e1:M[x]? with
  | none=>rw[e1] at h1;cases h1
  | some ts=>
   rw[e1] at h1;cases h1;rw[lJj] at h2;cases e2:ts[i]? with
   | none=>rw[e2] at h2;cases h2
   | some v=>
    rw[e2] at h2;cases h2;have hc:cl M x i=some v:=by rw[kVs e1];exact e2
    obtain⟨e',he'⟩:=full x i v hc;rw[hc] at he';cases he';rw[kJr];refine⟨hc,?_⟩
    rcases h.val _ _ _ hc with z | ⟨y,j,hb,z⟩
    .cases z
    .have:e'=(y,j):=by rw[<-kJr (e:=e'),z,kJr]
     rw[this];exact hb
 have toM:∀x i e,cl M x i=some (encE e)->en (M.map (List.map dec)) x i=some e:=by
  intro x i e he;obtain⟨ts,h1,h2⟩:=kUl he;exact jKu (es:=ts.map dec) (by simp[h1]) (by simp[h2,kJr])
 refine⟨⟨by rw[lJg];exact h.len,λx ts hx=> ?_,λx i y j he=> ?_⟩,?_⟩
 .rw[lJj] at hx;cases e1:M[x]? with
  | none=>rw[e1] at hx;cases hx
  | some us=>
   rw[e1] at hx;cases hx;rw[lJg];exact h.row _ _ e1
 .obtain⟨h1,h2⟩:=enM x i (y,j) he;have h3:Bel W Ts y j x i:=h2.symm
  have hin:∃v,cl M y j=some v:=by
   obtain⟨t,e,f,σ,k,k',q1,q2,q3,q4⟩:=h3;obtain⟨z1,z2⟩:=kQc q1;have z1:en W e.1 e.2=some (f.1,f.2):=z1;have T1:=(ok.ok _ _ _ q1 q2).1;have hk:k<m:=by rw[<-T1.len];exact (lJe.mp q3).1
   have hk':k'<m:=T1.lt _ (lJk q3)
   rcases q4 with ⟨a1,a2,_,_⟩ | ⟨_,_,a1,a2⟩
   .obtain⟨ts,b1,b2⟩:=h.at hk z1;exact⟨ts[e.2],by rw[a1,a2,kVs b1];exact lJf b2⟩
   .obtain⟨ts,b1,b2⟩:=h.at hk' (hs _ _ _ _ z1);exact⟨ts[f.2],by rw[a1,a2,kVs b1];exact lJf b2⟩
  obtain⟨v,hv⟩:=hin;obtain⟨e',he'⟩:=full y j v hv;have h4:=toM y j e' he';obtain⟨_,h5⟩:=enM y j e' h4;obtain⟨a1,a2⟩:=Bel.fn hs ok h3 h5;rw[h4,<-show (e'.1,e'.2)=e' from rfl,<-a1,<-a2]
 .rw[lJr]
  conv=>lhs;rw[<-List.map_id M]
  apply lXe;intro ts hts;show ts=(ts.map dec).map encE
  rw[lJr]
  conv=>lhs;rw[<-List.map_id ts]
  apply lXe;intro v hv;obtain⟨x,hx⟩:=lJ1 hts;obtain⟨i,hi⟩:=lJ1 hv;obtain⟨e,he⟩:=full x i v (by rw[kVs hx];exact hi)
  rw[kVs hx,hi] at he;cases he;show encE e=encE (dec (encE e))
  rw[kJr]
def RowsT(G:Gp)(h:Addr)(M:List (List T))(rs:List Addr):Prop:=G h=some (.lst (rs.map T.ref))/\rs.length=M.length/\∀(i:Nat)(r:Addr),rs[i]? =some r->∃ts:List T,M[i]? =some ts/\G r=some (.lst ts)
theorem RowsT.set{G:Gp}{h:Addr}{M:List (List T)}{rs:List Addr}{r:Nat}{a:Addr}{ts:List T}(x:RowsT G h M rs)(hn:(h::rs).Nodup)(hr:rs[r]? =some a):RowsT (gup G a (.lst ts)) h (M.set r ts) rs:=by
 rw[lKn] at hn;have hrl:r<rs.length:=(lJe.mp hr).1;refine⟨by rw[jJm];exact x.1;rintro rfl;exact hn.1 (lJk hr),by rw[lVg];exact x.2.1,λi c e=> ?_⟩
 by_cases hi:i=r
 .subst hi;rw[hr] at e;cases e;exact⟨ts,by rw[lK9];rw[<-x.2.1];exact hrl,jJh⟩
 .obtain⟨us,h1,h2⟩:=x.2.2 i c e;refine⟨us,by rw[lKy (Ne.symm hi)];exact h1,?_⟩
  rw[jJm];exact h2;rintro rfl;have hil:i<rs.length:=(lJe.mp e).1;exact hi ((lQ9 hil hn.2).mp (e.trans hr.symm))
theorem RowsT.get{G:Gp}{h:Addr}{M:List (List T)}{rs:List Addr}{x:Nat}{ts:List T}(R:RowsT G h M rs)(hx:M[x]? =some ts):∃a,rs[x]? =some a/\L2.atI (rs.map T.ref) (x:Int)=some (.ref a)/\G a=some (.lst ts):=by
 have hxl:x<rs.length:=by rw[R.2.1];exact (lJe.mp hx).1
 have hr:rs[x]? =some rs[x]:=lJf hxl;obtain⟨us,h1,h2⟩:=R.2.2 x _ hr;rw[hx] at h1;cases h1;exact⟨_,hr,by rw[atN,lJj,hr];rfl,h2⟩
theorem uKx{n:Nat}:(List.replicate n [T.non]).flatten=List.replicate n T.non:=by
 induction n with
 | zero=>rfl
 | succ n ih=>rw[lK2,lQv,ih];rfl
def rowN(W:Web)(x:Nat):List T:=List.replicate ((W[x%W.length]?).getD []).length .non
theorem qJs{W:Web}{m:Nat}{Ts:List (List Nat)}:SInv W m Ts ((List.range (m*W.length)).map (rowN W)) where
 len:=by simp
 row:=λx ts h=>by
  rw[lJj] at h;cases e:(List.range (m*W.length))[x]? with
  | none=>rw[e] at h;cases h
  | some y=>
   rw[e] at h;cases h;obtain⟨q1,q2⟩:=lJe.mp e;simp at q1 q2;subst q2;have hW:0<W.length:=by rcases lXv W.length with z | z;rw[z] at q1;omega;exact z
   have hx:x%W.length<W.length:=lQm _ hW;exact⟨W[x%W.length],lJf hx,by simp[rowN,hx]⟩
 val:=λx i v h=>by
  obtain⟨ts,h1,h2⟩:=kUl h;rw[lJj] at h1;cases e:(List.range (m*W.length))[x]? with
  | none=>rw[e] at h1;cases h1
  | some y=>
   rw[e] at h1;cases h1;have:=lJk h2;unfold rowN at this;exact .inl (List.mem_replicate.mp this).2
noncomputable def jU6:Sp3:=λxs G Q=>∃(W:Web)(tr:Addr)(m:Nat)(Ts:List (List Nat)),xs=[encW W,.ref tr,.int m]/\Fine W/\Sym W/\1<=W.length/\1<=m/\m*W.length<=1000/\TurnsOk W m Ts/\G tr=some (.lst (Ts.map λσ=>T.tup (jJj σ)))/\∀V G',Sheet W m V->Sub G G'->Q (encW V) G'
def kYv:List Str:=["_law_web_here","_law_turns","_law_many","_law_made","_law_t","_law_one","_law_other","_law_k","_law_spot","_law_there","_law_n","_law_room"]
noncomputable def jVa:TS3:=
 (tSeq (tAsg (jQb [fF,fF,fF,fF,fF,fF,fF,fF,fF,fF,tT,fF] (jJ1 (jJc (tOp jQv B2 (tCB rLen C0)) tNil)) D10 jUf (tOp jQv (tLst (jJc (tC .non) tNil)) (tCB rLen (jJc (tOp rIxF B0 (tOp rMod B10 (tCB rLen C0))) tNil)))) D3)
 (tSeq (tFor (jX0 (jJc (jJs jU9 C0) tNil)) (gTup 2 (jKa D4 (jKa (gTup 2 (jKa D5 (jKa D6 gNil))) gNil))) (tFor (jJ1 C2) D7 (tSeq (tAsg (tOp jJ7 (tOp rIxF B5 tI0) (tOp jQv B7 (tCB rLen C0))) D8)
 (tSeq (tAsg (tOp jJ7 (tOp rIxF B6 tI0) (tOp jQv (tOp rIxF (tOp rIxF B1 B4) B7) (tCB rLen C0))) D9)
 (tSeq (tAsg (tTup (jJc B9 (jJc (tOp rIxF B6 tI1) tNil))) (gSub (tOp rIxF B3 B8) (tOp rIxF B5 tI1) jQh))
 (tAsg (tTup (jJc B8 (jJc (tOp rIxF B5 tI1) tNil))) (gSub (tOp rIxF B3 B9) (tOp rIxF B6 tI1) jQh)))))))
 (tRet (tCB jJ6 (jJc (jQb [fF,fF,fF,fF,fF,fF,fF,fF,fF,fF,fF,tT] (iSeq B3) D11 jUf (tCB jJ6 C11)) tNil)))))
noncomputable def uJm:TS3:=(tSeq (tAsg (tTup (jJc B9 (jJc (tOp rIxF B6 tI1) tNil))) (gSub (tOp rIxF B3 B8) (tOp rIxF B5 tI1) jQh))
 (tAsg (tTup (jJc B8 (jJc (tOp rIxF B5 tI1) tNil))) (gSub (tOp rIxF B3 B9) (tOp rIxF B6 tI1) jQh)))
theorem kQu:jVa=(tSeq (tAsg (jQb [fF,fF,fF,fF,fF,fF,fF,fF,fF,fF,tT,fF] (jJ1 (jJc (tOp jQv B2 (tCB rLen C0)) tNil)) D10 jUf (tOp jQv (tLst (jJc (tC .non) tNil)) (tCB rLen (jJc (tOp rIxF B0 (tOp rMod B10 (tCB rLen C0))) tNil)))) D3)
 (tSeq (tFor (jX0 (jJc (jJs jU9 C0) tNil)) (gTup 2 (jKa D4 (jKa (gTup 2 (jKa D5 (jKa D6 gNil))) gNil))) (tFor (jJ1 C2) D7 (tSeq (tAsg (tOp jJ7 (tOp rIxF B5 tI0) (tOp jQv B7 (tCB rLen C0))) D8)
 (tSeq (tAsg (tOp jJ7 (tOp rIxF B6 tI0) (tOp jQv (tOp rIxF (tOp rIxF B1 B4) B7) (tCB rLen C0))) D9)
 uJm))))
 (tRet (tCB jJ6 (jJc (jQb [fF,fF,fF,fF,fF,fF,fF,fF,fF,fF,fF,tT] (iSeq B3) D11 jUf (tCB jJ6 C11)) tNil))))):=rfl
theorem kJ6:RdOk jU6 jVa kYv:=by
 intro xs G Q h_;apply xe4 h_;clear h_;intro W tr m Ts;refine ae8 ?_;intro fine sym hW1 hm1 hmn ok htr kk;show jVa _ [some (.tup (W.map encR)),some (.ref tr),some (.int m),none,none,none,none,none,none,none,none,none] G
 have hs:=sz;have hl:=fine.len;have hm2:m<=1000:=lKc (Nat.le_mul_of_pos_right m hW1) hmn;rw[kQu]
 exists jJt,jJ1,jX0,iSeq,List.length_map
 have hcast:(m:Int)*(W.length:Int)=((m*W.length:Nat):Int):=by simp
 rw[hcast];refine⟨.inr ⟨by omega,by omega⟩,by omega,by omega,?_⟩
 rw[show ((m*W.length:Nat):Int).toNat=m*W.length by omega,jUb]
 refine kK2 (rowN W) (by simp;omega) (λ_ _=>trivial) ?_ ?_
 .intro x x' hx G' K K0 s hk;obtain⟨q1,q2⟩:=lJe.mp hx;simp at q1 q2;subst q2;have hmod:x%W.length<W.length:=lQm _ hW1;have hWx:W[x%W.length]? =some W[x%W.length]:=lJf hmod;have hrow:rowN W x=List.replicate (W[x%W.length]).length .non:=by simp[rowN,hWx]
  rw[hrow] at hk
  generalize W[x%W.length]=es at hWx hk
  have hes:=fine.row _ _ hWx
  exists List.length_map,show (x:Int)%(W.length:Int)=((x%W.length:Nat):Int) by simp,jKr hWx,encR
  refine⟨by omega,λp hp=>⟨by omega,.newL (List.replicate es.length .non),?_,?_⟩⟩
  .rw[<-uKx];simp only[mulR,jJh];rw[lJc];congr;refine⟨?_,?_,?_⟩<;>simp<;>omega
  .rw[qVc];intro q hq;have hq0:=(jKf hq).2;exact hk q _ hq0 jJh ((Sub.new hp).over hq0)
 .intro D rs G1 hD hD1 s1 hrl hnd hrs;rw[lKq] at hrl
  have hfr:∀r,r∈rs->G r=none:=by
   intro r z;obtain⟨j,hj⟩:=lJ1 z;have hjl:j<rs.length:=(lJe.mp hj).1;exact (hrs j r j hj (by rw[lQn (by omega)])).1
  refine⟨W,rfl,fine,λpe G2 hpe hG2 hlen s2=> ?_⟩
  have hpn:∀r,r∈rs->pe≠r:=by
   rintro r z rfl;obtain⟨j,hj⟩:=lJ1 z;have hjl:j<rs.length:=(lJe.mp hj).1;have:=(hrs j pe j hj (by rw[lQn (by omega)])).2
   rw[this] at hpe;cases hpe
  refine⟨(jK0 W).map encT,by simp only[jQ7,hG2,asL],?_⟩
  let J1:Nat->St3->Gp->Prop:=λt τ G'=>∃(v4 v5 v6 v7 v8 v9:Option T)(M:List (List T)),τ=[some (.tup (W.map encR)),some (.ref tr),some (.int m),some (.ref D),v4,v5,v6,v7,v8,v9,none,none]/\RowsT G' D M rs/\SInv W m Ts M/\uUk W m Ts M (λt' k=>t'<t/\k<m)/\Sub G G'/\G' pe=some (.lst ((jK0 W).map encT))
  refine⟨J1,?_,?_,?_,?_⟩
  .refine xi7 none none none none none none ((List.range (m*W.length)).map (rowN W)) rfl ⟨⟨s2 _ _ hD1,by simp[hrl],λi r hi=> ?_⟩,qJs,λt k e f σ k' h=>absurd h.1 (lKd _),s1.trans s2,hG2⟩
   have hil:i<m*W.length:=by rw[<-hrl];exact (lJe.mp hi).1
   exact⟨rowN W i,by simp[hil],s2 _ _ (hrs i r i hi (by simp[hil])).2⟩
  .intro t τ G' ht h_;apply xe7 h_;clear h_;intro v4 v5 v6 v7 v8 v9 M;refine ae5 ?_;intro i1 i2 i3 i4 i5;simp only[jQ7,i5,asL]
  .intro t x τ G3 hx h_;apply xe7 h_;clear h_;intro v4 v5 v6 v7 v8 v9 M;refine ae5 ?_;intro i1 i2 i3 i4 i5;have ht:t<(jK0 W).length:=by have:=(lJe.mp hx).1;simpa[jZi] using this
   have hte:(jK0 W)[t]? =some (jK0 W)[t]:=lJf ht;rw[jUd (x:=encT (jK0 W)[t]) (by simp[ht])] at hx
   cases hx
   generalize (jK0 W)[t]=x at hte
   obtain⟨e,f⟩:=x;have htT:t<Ts.length:=by rw[ok.len];exact ht
   have hσ:Ts[t]? =some Ts[t]:=lJf htT
   generalize Ts[t]=σ at hσ
   obtain⟨T1,T2⟩:=ok.ok _ _ _ hte hσ;have hef:en W e.1 e.2=some (f.1,f.2):=(kQc hte).1;have hfe:=sym _ _ _ _ hef
   exists jJt,jJ1,encT
   refine⟨by omega,by omega,?_⟩
   rw[show ((m:Int)).toNat=m by omega]
   let J2:Nat->St3->Gp->Prop:=λk τ G'=>∃(v7 v8 v9:Option T)(M:List (List T)),τ=[some (.tup (W.map encR)),some (.ref tr),some (.int m),some (.ref D),some (.int t),some (encE e),some (encE f),v7,v8,v9,none,none]/\RowsT G' D M rs/\SInv W m Ts M/\uUk W m Ts M (λt' k'=>(t'<t/\k'<m)\/(t'=t/\k'<k))/\Sub G G'/\G' pe=some (.lst ((jK0 W).map encT))
   refine⟨J2,?_,?_,?_,?_⟩
   .refine xi4 v7 v8 v9 M rfl ⟨i1,i2,λt' k e f σ k' h=> ?_,i4,i5⟩
    rcases h with h | h
    .exact i3 t' k e f σ k' h
    .exact absurd h.2 (lKd _)
   .intros;trivial
   .intro k x τ G4 hx h_;apply xe4 h_;clear h_;intro v7 v8 v9 M;refine ae5 ?_;intro i1 i2 i3 i4 i5;obtain⟨hk,rfl⟩:=jXn hx;obtain⟨k',hk',hkm⟩:=T1.at hk;have hb1:Bel W Ts (e.1+k*W.length) e.2 (f.1+k'*W.length) f.2:=⟨t,e,f,σ,k,k',hte,hσ,hk',.inl ⟨rfl,rfl,rfl,rfl⟩⟩;obtain⟨ts,m1,m2⟩:=i2.at hk hef;obtain⟨a,a1,a2,a3⟩:=i1.get m1;have ham:=lJk a1;obtain⟨p1,p2,p3⟩:=i2.put m1 m2 hb1;have q1:=i1.set (ts:=ts.set e.2 (encE (f.1+k'*W.length,f.2))) hnd a1;obtain⟨us,m3,m4⟩:=p1.at hkm hfe;obtain⟨c,c1,c2,c3⟩:=q1.get m3;have hcm:=lJk c1;obtain⟨p4,p5,p6⟩:=p1.put m3 m4 hb1.symm;have q2:=q1.set (ts:=us.set f.2 (encE (e.1+k*W.length,e.2))) hnd c1;have g2:L2.atI (Ts.map λσ=>T.tup (jJj σ)) (t:Int)=some (.tup (jJj σ)):=by rw[atN];simp[hσ]
    have g3:L2.atI (jJj σ) (k:Int)=some (.int (k':Nat)):=by rw[atN];simp[jJj,hk']
    have b1:e.1+k*W.length<m*W.length:=by rw[<-i2.len];exact (lJe.mp m1).1
    have b2:f.1+k'*W.length<m*W.length:=by rw[<-p1.len];exact (lJe.mp m3).1
    have s8:(e.1:Int)+(k:Int)*(W.length:Int)=((e.1+k*W.length:Nat):Int):=by simp
    have s9:(f.1:Int)+(k':Int)*(W.length:Int)=((f.1+k'*W.length:Nat):Int):=by simp
    exists encE,List.length_map,jJy (i4 _ _ htr),g2,g3,s8,s9
    refine⟨.inr ⟨by omega,by omega⟩,.inr ⟨by omega,by omega⟩,?_⟩
    exists uJm,encE,jJy i1.1,a2,jUa a3 (kJi m2)
    refine⟨by omega,by omega,.ref c,(jJy q1.1).trans c2,_,jUa c3 (kJi m4),xi4 _ _ _ _ rfl ⟨q2,p4,?_,(i4.over (hfr a ham)).over (hfr c hcm),?_⟩⟩
    .intro t' k0 e' f' σ' k1 h g4 g5 g6
     by_cases hh:t'=t/\k0=k
     .obtain⟨rfl,rfl⟩:=hh;rw[hte] at g4;cases g4;rw[hσ] at g5;cases g5;rw[hk'] at g6;cases g6;exact⟨p6 _ _ p2,p5⟩
     .obtain⟨z1,z2⟩:=i3 t' k0 e' f' σ' k1 (by omega) g4 g5 g6
      exact⟨p6 _ _ (p3 _ _ z1),p6 _ _ (p3 _ _ z2)⟩
    .rw[jJm (hpn c hcm),jJm (hpn a ham)];exact i5
   .intro τ G' h_;apply xe4 h_;clear h_;intro v7 v8 v9 M;refine ae5 ?_;intro i1 i2 i3 i4 i5;rw[jKc] at i3;refine xi7 _ _ _ _ _ _ M rfl ⟨i1,i2,λt' k e f σ k' h=>i3 t' k e f σ k' ?_,i4,i5⟩
    by_cases hh:t'=t
    .exact .inr ⟨hh,h.2⟩
    .exact .inl ⟨by omega,h.2⟩
  .intro τ G3 h_;apply xe7 h_;clear h_;intro v4 v5 v6 v7 v8 v9 M;refine ae5 ?_;intro i1 i2 i3 i4 i5;rw[jZi,lJg] at i3;obtain⟨sh,eM⟩:=qXm sym ok i2 i3
   exists iSeq,jJn i1.1
   refine jKw (es:=rs) (λr=>T.tup (match G3 r with | some (.lst ts)=>ts | _=>[])) (by omega) (λG' s=>jJn (s _ _ i1.1)) ?_ ?_
   .intro i r hr G4 K K0 s hk;obtain⟨ts,z1,z2⟩:=i1.2.2 i r hr
    exists jJn (s _ _ z2)
    have:=hk G4 (.refl _);rw[z2] at this;exact this
   .intro E G4 hE h4 s4;refine⟨_,jJn h4,?_⟩
    have e1:rs.map (λr=>T.tup (match G3 r with | some (.lst ts)=>ts | _=>[]))=(M.map (List.map dec)).map encR:=by
     have e2:(M.map (List.map dec)).map encR=M.map T.tup:=by
      conv=>rhs;rw[eM]
      rw[lJr,lJr,lJr];rfl
     rw[e2];apply lKh;intro i
     by_cases hi:i<rs.length
     .have hri:rs[i]? =some rs[i]:=lJf hi;obtain⟨ts,z1,z2⟩:=i1.2.2 i _ hri;rw[lJj,lJj,hri,z1];simp only[lK4,z2]
     .rw[lJy (by rw[lJg];omega),lJy (by rw[lJg,<-i1.2.1];omega)]
    rw[e1];exact kk _ G4 sh (i4.trans s4)
def Cov(W:Web)(m:Nat)(V:Web):Prop:=V=W\/(Sheet W m V/\Conn V)
theorem Sheet.fine{W V:Web}{m:Nat}(h:Sheet W m V)(f:Fine W)(hm:m*W.length<=1000):Fine V where
 len:=by rw[h.len];exact hm
 row:=λx ts hx=>by obtain⟨es,h1,h2⟩:=h.row x ts hx;rw[h2];exact f.row _ _ h1
 rng:=λr i s j he=>kJo (h.sym _ _ _ _ he)
theorem Found.conn{V:Web}{F:List Nat}(h:Found V 0 F)(hl:F.length=V.length):Conn V:=λS h0 hst r hr=>h.got S h0 hst r (kJd h.nd h.lt hl r hr)
theorem uQ0{G:Gp}{e f:Nat×Nat}:eqG G (encE e) (encE f)=some (decide (e=f)):=by
 obtain⟨a,b⟩:=e;obtain⟨c,d⟩:=f;rw[show eqG G (encE (a,b)) (encE (c,d))=some (eqT (encE (a,b)) (encE (c,d))) from rfl]
 congr 1
 simp only[encE,eqT,eqTs,Bool.and_true]
 by_cases h1:a=c
 .by_cases h2:b=d
  .simp[h1,h2]
  .have:¬ (b:Int)=d:=by omega
   simp[h1,h2,this]
 .have:¬ (a:Int)=c:=by omega
  simp[h1,this]
theorem jKq{G:Gp}{a c:Nat}:eqG G (.int a) (.int c)=some (decide (a=c)):=by
 rw[show eqG G (.int a) (.int c)=some (eqT (.int a) (.int c)) from rfl]
 congr 1
 simp only[eqT]
 by_cases h1:a=c
 .simp[h1]
 .have:¬ (a:Int)=c:=by omega
  simp[h1,this]
noncomputable def jQ8:Sp3:=λxs G Q=>∃(b:Addr)(W:Web)(m n:Nat),xs=[.ref b,encW W,.int m]/\BoxAt G b n/\n+3*((jK0 W).length*m)<2^40/\Fine W/\Sym W/\1<=W.length/\1<=m/\m*W.length<=1000/\∀V G',Cov W m V->BoxAt G' b (n+3*((jK0 W).length*m))->Keep b G G'->Q (encW V) G'
def kYy:List Str:=["_law_box_here","_law_web_here","_law_many","_law_turn_here","_law_turns","_law_made","_law_pair"]
noncomputable def jVd:TS3:=
 (tSeq (tFor (jJ1 (jJc (tC (.int 3)) tNil)) D3 (tSeq (tAsg (jQb [fF,fF,fF,fF,fF,fF,tT] (iSeq (jJs jU9 C1)) D6 jUf (jJs jZv (jJc B0 (jJc B2 (jJc (tOp rEqA (tOp rIxF B6 tI0) (tOp rIxF B6 tI1)) tNil))))) D4)
 (tSeq (tAsg (jJs jU6 (jJc B1 (jJc B4 C2))) D5)
 (tIfS (jJx (tOp rEqA (tCB rLen (jJc (jJs jU7 (jJc B5 (jJc tI0 tNil))) tNil)) (tCB rLen C5))) (tRet B5) jKm))))
 (tRet B1))
theorem kJ9:RdOk jQ8 jVd kYy:=by
 intro xs G Q h_;apply xe4 h_;clear h_;intro b W m n;refine ae8 ?_;intro hb hn fine sym hW1 hm1 hmn kk;show jVd _ [some (.ref b),some (encW W),some (.int m),none,none,none,none] G
 have hs:=sz;have hm2:m<=1000:=lKc (Nat.le_mul_of_pos_right m hW1) hmn
 exists jVd,jJt,jJ1
 refine⟨by decide,by decide,?_⟩
 refine⟨λk τ G'=>∃(v3 v4 v5:Option T),τ=[some (.ref b),some (encW W),some (.int m),v3,v4,v5,none]/\BoxAt G' b (n+k*((jK0 W).length*m))/\Keep b G G',?_,?_,?_,?_⟩
 .exact⟨none,none,none,rfl,by simpa using hb,.refl _ _⟩
 .intros;trivial
 .intro k x τ G1 hx h_;apply xe3 h_;clear h_;intro v3 v4 v5;refine ae2 ?_;intro hb1 kp1;have hk:k<3:=by have:=(lJe.mp hx).1;rw[jKc] at this;exact this
  have hk3:(k+1)*((jK0 W).length*m)<=3*((jK0 W).length*m):=lXh _ (by omega)
  rw[lQx] at hk3;obtain⟨bo,hbo⟩:=hb1.some
  exists iSeq
  refine⟨W,rfl,fine,λpe G2 hpe hG2 hlen s2=> ?_⟩
  have hpb:=jJf hbo hpe;refine⟨_,jJn hG2,?_⟩;intro D hD;have hDb:=jJf (s2 _ _ hbo) hD;have hDe:=jJf hG2 hD;refine⟨λi acc G'=>∃Ts:List (List Nat),acc=Ts.map (λσ=>T.tup (jJj σ))/\Ts.length=i/\(∀(t:Nat)(x:Tie)(σ:List Nat),(jK0 W)[t]? =some x->Ts[t]? =some σ->Turn m σ/\(x.1=x.2->Invol σ))/\BoxAt G' b (n+k*((jK0 W).length*m)+i*m)/\Keep b G2 G'/\G' D=some (.lst acc),?_,?_,?_,?_⟩
  .exact⟨[],rfl,rfl,λt x σ _ h=>by simp at h,by simpa using (hb1.sub s2).gup hDb,.new hD,jJh⟩
  .rintro i acc G' hi ⟨Ts,rfl,j1,j2,j3,j4,j5⟩;exact⟨jJn (j4 _ _ hpb.symm hG2),j5⟩
  .rintro i x acc G3 hx0 ⟨Ts,rfl,j1,j2,j3,j4,j5⟩;obtain⟨⟨e,f⟩,hte,rfl⟩:=jKd hx0;have hi:i<(jK0 W).length:=(lJe.mp hte).1;have him:(i+1)*m<=(jK0 W).length*m:=lXh _ hi;rw[lQx] at him
   exists encT,rEqA,uQ0
   refine⟨b,m,_,_,rfl,j3,by omega,hm1,hm2,λσ G4 T1 T2 bx kp=> ?_⟩
   refine⟨kp _ _ hDb.symm j5,by rw[lJg];omega,Ts++[σ],by simp,by simp[j1],?_,?_,?_⟩
   .intro t y ρ h1 h2
    by_cases htl:t<Ts.length
    .rw[lJ9 htl] at h2;exact j2 t y ρ h1 h2
    .have htl2:t<(Ts++[σ]).length:=(lJe.mp h2).1;simp at htl2;have:t=Ts.length:=by omega
     subst this;rw[lQe (lJh _)] at h2;simp at h2;subst h2;rw[j1,hte] at h1;cases h1;exact⟨T1,λz=>T2 (by simpa using z)⟩
   .exact (bx.gup hDb).mono (by rw[lQx];omega)
   .exact (j4.trans kp).over hD
  .rintro acc G3 ⟨Ts,rfl,j1,j2,j3,j4,j5⟩;rw[lJg] at j1 j3;have hkp3:Keep b G G3:=(kp1.trans (.sub s2)).trans j4;refine⟨W,D,m,Ts,rfl,fine,sym,hW1,hm1,hmn,⟨j1,j2⟩,j5,λV G4 sh s4=> ?_⟩
   have hVl:1<=V.length:=by rw[sh.len];exact Nat.mul_pos hm1 hW1
   refine⟨V,0,rfl,sh.fine fine hmn,hVl,λp G5 F hp hp5 fd _ s5=> ?_⟩
   exists rEqA,jJn hp5,encW,jJj,List.length_map,jKq
   split
   .rename_i hc
    have hc:F.length=V.length:=by simpa using hc
    exact kk V G5 (.inr ⟨sh,fd.conn hc⟩) (((j3.sub s4).sub s5).mono (by omega)) ((hkp3.trans (.sub s4)).trans (.sub s5))
   .exact⟨((j3.sub s4).sub s5).mono (by rw[lQx];omega),(hkp3.trans (.sub s4)).trans (.sub s5)⟩
 .intro τ G1 h_;apply xe3 h_;clear h_;intro v3 v4 v5;refine ae2 ?_;intro hb1 kp1;rw[jKc] at hb1
  exists tSeq
  exact kk W G1 (.inl rfl) hb1 kp1
structure AnyWeb (W:Web):Prop where
 pos:1<=W.length
 len:W.length<=24
 sym:Sym W
 deg:∀(r:Nat)(es:List (Nat×Nat)),W[r]? =some es->es.length<=6
 conn:Conn W
theorem WebOk.any{n d:Nat}{W:Web}(h:WebOk n d W)(h1:1<=n)(h2:n<=24)(h3:d<=6):AnyWeb W:=⟨by rw[h.len];exact h1,by rw[h.len];exact h2,h.sym,λr es hr=>lKc (h.deg r es hr) h3,h.conn⟩
theorem WebOk.fine{n d:Nat}{W:Web}(h:WebOk n d W)(h2:n<=24)(h3:d<=6):Fine W:=⟨by rw[h.len];omega,λr es hr=>by have:=h.deg r es hr;omega,λr i s j he=>kJo (h.sym _ _ _ _ he)⟩
theorem AnyWeb.fine{W:Web}(h:AnyWeb W):Fine W:=⟨by have:=h.len;omega,λr es hr=>by have:=h.deg r es hr;omega,λr i s j he=>kJo (h.sym _ _ _ _ he)⟩
theorem kZ0{α β:Type}{f:α->List β}{d:Nat}:∀{l:List α},(∀a,a∈l->(f a).length<=d)->(l.flatMap f).length<=l.length*d
 | [],_=>by simp
 | a::l,h=>by
  rw[List.flatMap_cons,lJv,lJ7,lQx];have h1:=h a (lJ2);have h2:=kZ0 (l:=l) λx hx=>h x (lJ5 _ hx)
  omega
theorem qZp{W:Web}{d:Nat}(h:∀(r:Nat)(es:List (Nat×Nat)),W[r]? =some es->es.length<=d):(jK0 W).length<=W.length*d:=by
 have:=kZ0 (f:=rowE W) (d:=d) (l:=List.range W.length) λr hr=>by
  unfold rowE;split
  .rename_i es hes
   have h1:=List.length_filterMap_le (jZb r es) (List.range es.length);rw[lKq] at h1;have h2:=h r es hes;omega
  .simp
 rwa [lKq] at this
theorem kV4{kvs:List (L2.Key×T)}{k:L2.Key}:(valT kvs k).isSome=true↔k∈kvs.map Prod.fst:=by
 unfold valT;rw[lYh,List.find?_isSome,lJi];exact⟨λ⟨a,h1,h2⟩=>⟨a,h1,by simpa using h2⟩,λ⟨a,h1,h2⟩=>⟨a,h1,by simpa using h2⟩⟩
def keyN(x:Nat):L2.Key:= .inl (x:Nat)
theorem kZt{F:List Nat}{x:Nat}:keyN x∈F.map keyN↔x∈F:=by
 rw[lJi];refine⟨λ⟨a,ha,e⟩=> ?_,λh=>⟨x,h,rfl⟩⟩
 have e1:(Sum.inl (a:Int):L2.Key)=Sum.inl (x:Int):=e;have:(a:Int)=x:=by injection e1
 have:a=x:=by omega
 exact this▸ha
theorem uQt{G:Gp}{d:Addr}{kvs:List (L2.Key×T)}{F:List Nat}{x:Nat}(h:G d=some (.dck kvs))(hk:kvs.map Prod.fst=F.map keyN):inR G (.int (x:Nat)) (.ref d)=some (decide (x∈F)):=by
 have e1:seqT G (.ref d)=none:=by simp only[seqT,h];rfl
 have e2:dAt G (.ref d) (.int (x:Nat))=some (valT kvs (keyN x)):=by simp only[dAt,h,jQ6];rfl
 unfold inR;simp only[e1,e2]
 congr 1
 rw[Bool.eq_iff_iff,kV4,hk,kZt];simp
theorem qX7{kvs:List (L2.Key×T)}{k:L2.Key}{v:T}(h:k∉kvs.map Prod.fst):putT kvs k v=kvs++[(k,v)]:=by
 unfold putT;rw[lJb];rw[lYo];rintro⟨a,ha,e⟩;exact h (lJi.mpr ⟨a,ha,by simpa using e⟩)
theorem kY9{G:Gp}{d:Addr}{kvs:List (L2.Key×T)}{x:Nat}{v:T}(h:G d=some (.dck kvs))(hz:kvs.length<sizeLine):setR G (.ref d) (.int (x:Nat)) v=some (gup G d (.dck (putT kvs (keyN x) v))):=by
 simp only[setR,h,jQ6];rw[lJc hz];rfl
theorem kQ7{xs:List T}{j:Nat}{y:T}(h:(numT xs)[j]? =some y):∃x,xs[j]? =some x/\y= .tup [.int j,x]:=by
 have hj:j<xs.length:=by have:=(lJe.mp h).1;rwa [jJ2] at this
 refine⟨xs[j],lJf hj,?_⟩;rw[jUd (lJf hj)] at h;cases h;rfl
theorem jQe{G G':Gp}(h:Sub G G'){p:Addr}(hp:G' p=none):G p=none:=by
 cases e:G p with
 | none=>rfl
 | some o=>rw[h _ _ e] at hp;cases hp
theorem vis_sub{F:List Nat}{es:List (Nat×Nat)}:(∃E,vis F es=F++E)/\(∀e,e∈es->e.1∈vis F es)/\(∀x,x∈vis F es->x∈F\/∃e,e∈es/\e.1=x)/\(F.Nodup->(vis F es).Nodup):=by
 induction es generalizing F with
 | nil=>exact⟨⟨[],by simp[vis]⟩,by simp,λx h=> .inl h,λh=>h⟩
 | cons e es ih=>
  have hv:vis F (e::es)=vis (if F.contains e.1=true then F else F++[e.1]) es:=rfl
  rw[hv]
  by_cases h:F.contains e.1=true
  .rw[lJc h];obtain⟨⟨E,i1⟩,i2,i3,i4⟩:=ih (F:=F);refine⟨⟨E,i1⟩,λd hd=> ?_,λx hx=> ?_,i4⟩
   .rcases (lJp.mp hd) with rfl | hde
    .rw[i1];exact lK1 _ (by simpa using h)
    .exact i2 d hde
   .rcases i3 x hx with h | ⟨d,hd,e⟩
    .exact .inl h
    .exact .inr ⟨d,lJ5 _ hd,e⟩
  .rw[lJb h];obtain⟨⟨E,i1⟩,i2,i3,i4⟩:=ih (F:=F++[e.1]);refine⟨⟨e.1::E,by rw[i1];simp⟩,λd hd=> ?_,λx hx=> ?_,λhn=>i4 ?_⟩
   .rcases (lJp.mp hd) with rfl | hde
    .rw[i1];exact lK1 _ (by simp)
    .exact i2 d hde
   .rcases i3 x hx with h | ⟨d,hd,e'⟩
    .rcases (lKb.mp h) with h | hs
     .exact .inl h
     .exact .inr ⟨e,lJ2 ..,(lJ0.mp hs).symm⟩
    .exact .inr ⟨d,lJ5 _ hd,e'⟩
   .rw[lQ8];exact⟨hn,by simp,λa ha b hb=>by rw[lJ0] at hb;subst hb;rintro rfl;exact h (by simpa using ha)⟩
structure Bfs (W:Web) (k:Nat) (F:List Nat):Prop where
 nd:F.Nodup
 lt:∀x,x∈F->x<W.length
 near:∀(i x:Nat)(e:Nat×Nat),i<k->F[i]? =some x->e∈row W x->e.1∈F
theorem uKu{W:Web}{x:Nat}{e:Nat×Nat}(h:e∈row W x):∃i,en W x i=some e:=by
 unfold row at h;cases hW:W[x]? with
 | none=>rw[hW] at h;simp at h
 | some es=>
  rw[hW] at h;obtain⟨i,hi⟩:=lJ1 (show e∈es from h)
  exact⟨i,jKu hW hi⟩
theorem Bfs.step{W:Web}(f:Fine W){k r:Nat}{F:List Nat}(h:Bfs W k F)(hr:F[k]? =some r):Bfs W (k+1) (vis F (row W r)):=by
 obtain⟨⟨E,e1⟩,e2,e3,e4⟩:=vis_sub (F:=F) (es:=row W r);refine⟨e4 h.nd,λx hx=> ?_,λi x e hi hx he=> ?_⟩
 .rcases e3 x hx with hx | ⟨e,he,rfl⟩
  .exact h.lt x hx
  .obtain⟨i,hi⟩:=uKu he;exact f.rng _ _ e.1 e.2 hi
 .have hkl:k<F.length:=(lJe.mp hr).1;have hx':F[i]? =some x:=by rw[e1,lJ9 (by omega)] at hx;exact hx
  rcases lVn (lQb hi) with h1 | rfl
  .rw[e1];exact lK1 _ (h.near i x e h1 hx' he)
  .rw[hr] at hx';cases hx';exact e2 e he
theorem Bfs.run{W:Web}(f:Fine W):∀(n k:Nat)(F:List Nat),Bfs W k F->W.length<=n+k->k<=F.length->(∃E,bfsN W n k F=F++E)/\Bfs W (bfsN W n k F).length (bfsN W n k F)
 | 0,k,F,h,hl,hk=>by
  have hF:=jQk h.nd h.lt;have:k=F.length:=by omega
  subst this;exact⟨⟨[],by simp[bfsN]⟩,h⟩
 | n+1,k,F,h,hl,hk=>by
  rcases lQr k F.length with hlt | hge
  .have hr:F[k]? =some F[k]:=lJf hlt;rw[kJv hr];obtain⟨⟨E,e1⟩,e2,e3,e4⟩:=vis_sub (F:=F) (es:=row W F[k]);obtain⟨⟨E',h1⟩,h2⟩:=Bfs.run f n (k+1) _ (h.step f hr) (by omega) (by rw[e1,lJv];omega)
   exact⟨⟨E++E',by rw[h1,e1,lQ7]⟩,h2⟩
  .have:k=F.length:=by omega
   subst this;rw[kJw (lJh _)];exact⟨⟨[],by simp⟩,h⟩
theorem uX0{W:Web}(f:Fine W){r:Nat}(hr:r<W.length):(∃E,bfs W r=r::E)/\Bfs W (bfs W r).length (bfs W r):=
 Bfs.run f W.length 0 [r] ⟨by simp,by simpa using hr,λi x e hi=>absurd hi (lKd _)⟩ (by omega) (by simp)
structure Order (W:Web) (r:Nat) (F:List Nat):Prop where
 nd:F.Nodup
 lt:∀x,x∈F->x<W.length
 all:∀x,x<W.length->x∈F
 first:F[0]? =some r
theorem qV1{W:Web}(f:Fine W)(sym:Sym W)(c:Conn W){r:Nat}(hr:r<W.length):Order W r (bfs W r):=by
 obtain⟨⟨E,e1⟩,h⟩:=uX0 f hr
 have cl:∀x i s j,x∈bfs W r->en W x i=some (s,j)->s∈bfs W r:=by
  intro x i s j hx he;obtain⟨k,hk⟩:=lJ1 hx;have hkl:=(lJe.mp hk).1;refine h.near k x (s,j) hkl hk ?_;have he':=he;unfold en at he';cases hW:W[x]? with
  | none=>rw[hW] at he';cases he'
  | some es=>rw[hW] at he';rw[jVy hW];exact lJk (show es[i]? =_ from he')
 have hrF:r∈bfs W r:=by rw[e1];exact lJ2 ..
 have h0:0∈bfs W r:=c (λx=>x∈bfs W r->0∈bfs W r) (λh=>h) (λx i s j hx he hs=>hx (cl s j x i hs (sym _ _ _ _ he))) r hr hrF
 exact⟨h.nd,h.lt,λx hx=>c (λx=>x∈bfs W r) h0 (λx i s j h he=>cl x i s j h he) x hx,by rw[e1];rfl⟩
theorem qJc:∀(n:Nat)(F:List Nat),(∀x,x<n->x∈F)->n<=F.length
 | 0,_,_=>lJx _
 | n+1,F,h=>by
  have hn:=h n (lX1 _);have h1:=qJc n (F.erase n) λx hx=>(List.mem_erase_of_ne (by omega)).mpr (h x (by omega))
  rw[List.length_erase_of_mem hn] at h1;have:=lYq hn;omega
theorem Order.len{W:Web}{r:Nat}{F:List Nat}(h:Order W r F):F.length=W.length:=by
 have h1:=jQk h.nd h.lt;exact Nat.le_antisymm h1 (qJc _ _ h.all)
def nuF(nu:List Nat)(x:Nat):Nat:=(nu[x]?).getD x
theorem kJc{nu:List Nat}{x y:Nat}(h:nu[x]? =some y):nuF nu x=y:=by unfold nuF;rw[h];rfl
theorem AnyWeb.order{W:Web}(a:AnyWeb W){r:Nat}(hr:r<W.length):Order W r (bfs W r):=qV1 a.fine a.sym a.conn hr
theorem uUn{W:Web}(f:Fine W){F:List Nat}{x:Nat}{es:List (Nat×Nat)}(hx:W[x]? =some es)(hF:∀y,y∈F->y<W.length)(j:Nat):∀y,y∈vis F (es.take j)->y<W.length:=by
 intro y hy
 rcases (vis_sub (F:=F) (es:=es.take j)).2.2.1 y hy with h | ⟨e,he,rfl⟩
 .exact hF y h
 .obtain⟨i,hi⟩:=lJ1 (lZk he);exact f.rng x i e.1 e.2 (jKu hx hi)
section
variable {κ:Type}[DecidableEq κ]
def fst1(F:List κ)(x:κ):List κ:=if x∈F then F else F++[x]
def jJr(ls:List κ):List κ:=ls.foldl fst1 []
def ix1(F:List κ)(x:κ):Nat:=F.idxOf x
def num(ls:List κ):List Nat:=ls.map λx=>(jJr ls).idxOf x
theorem fst1_mem{F:List κ}{x y:κ}:y∈fst1 F x↔y∈F\/y=x:=by
 unfold fst1;split
 .rename_i h
  constructor
  .exact .inl
  .rintro (z | rfl)
   .exact z
   .exact h
 .simp
theorem uQx{F:List κ}{x:κ}(h:F.Nodup):(fst1 F x).Nodup:=by
 unfold fst1;split
 .exact h
 .rename_i hx
  rw[lQ8];refine⟨h,by simp,λa ha b hb=> ?_⟩
  have:b=x:=by simpa using hb
  subst this;rintro rfl;exact hx ha
theorem qZi{F:List κ}{x:κ}:∃E,fst1 F x=F++E:=by
 unfold fst1;split
 .exact⟨[],by simp⟩
 .exact⟨[x],rfl⟩
theorem kZz:∀(ls F:List κ),∃E,ls.foldl fst1 F=F++E
 | [],F=>⟨[],by simp⟩
 | x::ls,F=>by
  obtain⟨E,e⟩:=qZi (F:=F) (x:=x);obtain⟨E',e'⟩:=kZz ls (fst1 F x);exact⟨E++E',by rw[lVr,e',e,lQ7]⟩
theorem kZy:∀(ls F:List κ){y:κ},y∈ls.foldl fst1 F↔y∈F\/y∈ls
 | [],F,y=>by simp
 | x::ls,F,y=>by
  rw[lVr,kZy ls,fst1_mem,lJp,or_assoc]
theorem qVb:∀(ls F:List κ),F.Nodup->(ls.foldl fst1 F).Nodup
 | [],F,h=>h
 | x::ls,F,h=>qVb ls _ (uQx h)
theorem firsts_mem{ls:List κ}{y:κ}:y∈jJr ls↔y∈ls:=by
 unfold jJr;rw[kZy];simp
theorem jX2(ls:List κ):(jJr ls).Nodup:=qVb ls [] lVs
theorem jUx{ls:List κ}{k:Nat}{x:κ}(h:ls[k]? =some x):jJr (ls.take (k+1))=fst1 (jJr (ls.take k)) x:=by
 unfold jJr;rw[lQh,h,lXg];rfl
theorem kK0(ls:List κ)(k:Nat):∃E,jJr ls=jJr (ls.take k)++E:=by
 unfold jJr;obtain⟨E,e⟩:=kZz (ls.drop k) ((ls.take k).foldl fst1 []);refine⟨E,?_⟩;rw[<-e,<-lXg,lYm]
theorem kYd{F E:List κ}{x:κ}(h:x∈F):(F++E).idxOf x=F.idxOf x:=by rw[List.idxOf_append,lJc h]
theorem kQ5{ls:List κ}:(num ls).length=ls.length:=by simp[num]
theorem jQn{ls:List κ}{k:Nat}{x:κ}(h:ls[k]? =some x):(num ls)[k]? =some ((jJr ls).idxOf x):=by simp[num,h]
theorem jYs{F:List κ}{x y:κ}(hx:x∈F)(h:F.idxOf x=F.idxOf y):x=y:=by
 have h1:=lVb hx;have h2:F.idxOf y<F.length:=by rw[<-h];exact h1
 have e1:F[F.idxOf x]=x:=lVy h1;have e2:F[F.idxOf y]=y:=lVy h2;rw[<-e1,<-e2];congr 1
theorem kQ6{ls:List κ}{a b:Nat}{x y:κ}(ha:ls[a]? =some x)(hb:ls[b]? =some y)(h:(num ls)[a]? =(num ls)[b]?):x=y:=by
 rw[jQn ha,jQn hb] at h;exact jYs (firsts_mem.mpr (lJk ha)) (lJ3 h)
theorem kJb{μ:Type}[DecidableEq μ]{f:κ->μ}{ls:List κ}(hf:∀x y,x∈ls->y∈ls->f x=f y->x=y):num (ls.map f)=num ls:=by
 have key:∀(ms F:List κ),(∀x,x∈ms->x∈ls)->(∀x,x∈F->x∈ls)->(ms.map f).foldl fst1 (F.map f)=(ms.foldl fst1 F).map f:=by
  intro ms
  induction ms with
  | nil=>intro F _ _;rfl
  | cons m ms ih=>
   intro F h1 h2;rw[lJq,lVr,lVr];have hm:=h1 m lJ2
   have e:fst1 (F.map f) (f m)=(fst1 F m).map f:=by
    unfold fst1
    by_cases h:m∈F
    .rw[lJc h,lJc (lJi.mpr ⟨m,h,rfl⟩)]
    .rw[lJb h,lJb,lKe];rfl;intro z;obtain⟨y,hy,e⟩:=lJi.mp z;rw[hf y m (h2 y hy) hm e] at hy;exact h hy
   rw[e];refine ih _ (λx hx=>h1 x (lJ5 _ hx)) λx hx=> ?_
   rcases fst1_mem.mp hx with z | rfl
   .exact h2 x z
   .exact hm
 have e:=key ls [] (λ_ h=>h) (by simp)
 have ef:jJr (ls.map f)=(jJr ls).map f:=e;unfold num;rw[lJr];apply lXe;intro x hx;show (jJr (ls.map f)).idxOf (f x)=_
 rw[ef]
 have idx:∀F:List κ,(∀y,y∈F->y∈ls)->(F.map f).idxOf (f x)=F.idxOf x:=by
  intro F
  induction F with
  | nil=>intro _;rfl
  | cons a F ih=>
   intro hF;rw[lJq,lZp,lZp,ih λy hy=>hF y (lJ5 _ hy)]
   by_cases h:a=x
   .subst h;simp only[lZ2]
   .have:¬ f a=f x:=λz=>h (hf a x (hF a lJ2) hx z)
    rw[beq_eq_false_iff_ne.mpr this,beq_eq_false_iff_ne.mpr h]
 exact idx _ λy hy=>firsts_mem.mp hy
def uUl(m:List Nat):Prop:=∀(k v:Nat),m[k]? =some v->∀n,n<v->∃i,i<k/\m[i]? =some n
theorem kVg(ls:List κ):uUl (num ls):=by
 intro k v hk n hn;have hkl:k<ls.length:=by have:=(lJe.mp hk).1;rwa [kQ5] at this
 have hx:ls[k]? =some ls[k]:=lJf hkl;rw[jQn hx] at hk;cases hk;obtain⟨E,e⟩:=kK0 ls (k+1)
 have hxm:ls[k]∈jJr (ls.take (k+1)):=by
  rw[firsts_mem];exact lJk (i:=k) (by rw[List.getElem?_take];simp[hkl])
 rw[e,kYd hxm] at hn
 obtain⟨E',e'⟩:∃E',jJr (ls.take (k+1))=jJr (ls.take k)++E'/\(E'=[]\/E'=[ls[k]]):=by
  rw[jUx hx];unfold fst1;split
  .exact⟨[],by simp,.inl rfl⟩
  .exact⟨[ls[k]],rfl,.inr rfl⟩
 have hnl:n<(jJr (ls.take k)).length:=by
  rcases e'.2 with z | z
  .have:=lVb hxm;rw[e'.1,z,lQ2] at this hn;omega
  .by_cases hm:ls[k]∈jJr (ls.take k)
   .rw[e'.1,kYd hm] at hn;have:=lVb hm;omega
   .rw[e'.1,z] at hn
    have:(jJr (ls.take k)++[ls[k]]).idxOf ls[k]<=(jJr (ls.take k)).length:=by
     rw[List.idxOf_append];simp[hm]
    omega
 have hy:(jJr (ls.take k))[n]? =some (jJr (ls.take k))[n]:=lJf hnl
 generalize (jJr (ls.take k))[n]=y at hy
 have hym:y∈ls.take k:=firsts_mem.mp (lJk hy);obtain⟨i,hi⟩:=lJ1 hym;have hik:i<k:=by have:=(lJe.mp hi).1;simp at this;omega
 have hiy:ls[i]? =some y:=by rw[List.getElem?_take] at hi;simpa[hik] using hi
 refine⟨i,hik,?_⟩;rw[jQn hiy]
 congr 1
 obtain⟨E2,e2⟩:=kK0 ls k;rw[e2,kYd (lJk hy)];have hnd:(jJr (ls.take k)).Nodup:=jX2 _;have hi1:=lVb (lJk hy);have e1:(jJr (ls.take k))[(jJr (ls.take k)).idxOf y]? =some y:=by rw[lJf hi1,lVy]
 exact (lQ9 hi1 hnd).mp (e1.trans hy.symm)
end
def tups(W:Web)(m:List Nat):List (List (Nat×Nat)):=W.map λes=>es.map λe=>(e.2,m.getD e.1 0)
def marks(W:Web):Nat->List Nat
 | 0=>num (W.map List.length)
 | k+1=>num (tups W (marks W k))
theorem jJ8{W:Web}:∀k,(marks W k).length=W.length
 | 0=>by simp[marks,num]
 | k+1=>by simp[marks,num,tups]
theorem jYp{W:Web}{k:Nat}(h:marks W (k+1)=marks W k):∀j,marks W (k+j)=marks W k
 | 0=>rfl
 | j+1=>by
  show num (tups W (marks W (k+j)))=_
  rw[jYp h j];exact h
theorem jK6{W:Web}{m:List Nat}{r:Nat}{es:List (Nat×Nat)}(h:W[r]? =some es):(tups W m)[r]? =some (es.map λe=>(e.2,m.getD e.1 0)):=by simp[tups,h]
theorem finer{W:Web}(f:Fine W):∀(k a b:Nat)(es fs:List (Nat×Nat)),W[a]? =some es->W[b]? =some fs->(es.map λe=>(e.2,(marks W k).getD e.1 0))=(fs.map λe=>(e.2,(marks W k).getD e.1 0))->(marks W k)[a]? =(marks W k)[b]?
 | 0,a,b,es,fs,ha,hb,h=>by
  have hl:=lJs List.length h;simp at hl;have h1:(W.map List.length)[a]? =some es.length:=by simp[ha]
  have h2:(W.map List.length)[b]? =some fs.length:=by simp[hb]
  show (num _)[a]? =(num _)[b]?
  rw[jQn h1,jQn h2,hl]
 | k+1,a,b,es,fs,ha,hb,h=>by
  show (num _)[a]? =(num _)[b]?
  rw[jQn (jK6 ha),jQn (jK6 hb)]
  congr 2
  apply lKh;intro i;have hi:=lJs (λl=>l[i]?) h
  simp only[lJj] at hi ⊢;cases e1:es[i]? with
  | none=>
   rw[e1] at hi;cases e2:fs[i]? with
   | none=>rfl
   | some q=>rw[e2] at hi;cases hi
  | some p=>
   rw[e1] at hi;cases e2:fs[i]? with
   | none=>rw[e2] at hi;cases hi
   | some q=>
    rw[e2] at hi;simp only[lK4,lQi,lX5] at hi ⊢;refine⟨hi.1,?_⟩;have hp:=f.rng a i p.1 p.2 (jKu ha e1);have hq:=f.rng b i q.1 q.2 (jKu hb e2)
    have gd:∀(k x:Nat),x<W.length->(marks W k)[x]? =some ((marks W k).getD x 0):=λk x hx=>by
     have:x<(marks W k).length:=by rw[jJ8];exact hx
     simp[List.getD,lJf this]
    have hWp:W[p.1]? =some W[p.1]:=lJf hp;have hWq:W[q.1]? =some W[q.1]:=lJf hq
    have same:(num (tups W (marks W k)))[p.1]? =(num (tups W (marks W k)))[q.1]? :=by
     have g1:=gd (k+1) p.1 hp;have g2:=gd (k+1) q.1 hq;show (marks W (k+1))[p.1]? =(marks W (k+1))[q.1]?
     rw[g1,g2,hi.2]
    have:=finer f k p.1 q.1 _ _ hWp hWq (kQ6 (jK6 hWp) (jK6 hWq) same);rw[gd k p.1 hp,gd k q.1 hq] at this;exact lJ3 this
section
variable {κ K:Type}[DecidableEq κ][DecidableEq K]
def dkvN(key:κ->K):Nat->List κ->List (K×T)
 | _,[]=>[]
 | n,x::F=>(key x,T.int (n:Nat))::dkvN key (n+1) F
def dkv(key:κ->K)(F:List κ):List (K×T):=dkvN key 0 F
theorem kZ9(key:κ->K)(x:κ):∀(F:List κ)(n:Nat),dkvN key n (F++[x])=dkvN key n F++[(key x,T.int ((n+F.length:Nat)))]
 | [],n=>rfl
 | y::F,n=>by
  rw[List.cons_append,dkvN,kZ9 key x F,dkvN,List.cons_append,lJ7,show n+1+F.length=n+(F.length+1) by omega]
theorem uQ5(key:κ->K)(x:κ)(F:List κ):dkv key (F++[x])=dkv key F++[(key x,T.int (F.length:Nat))]:=by
 unfold dkv;rw[kZ9,lXa]
theorem kZ8(key:κ->K):∀(F:List κ)(n:Nat),(dkvN key n F).length=F.length
 | [],_=>rfl
 | _::F,n=>by rw[dkvN,lJ7,kZ8 key F,lJ7]
theorem qVm{key:κ->K}{F:List κ}:(dkv key F).length=F.length:=kZ8 key F 0
theorem kZ7{key:κ->K}(hk:∀x y,key x=key y->x=y)(x:κ):∀(F:List κ)(n:Nat),valT (dkvN key n F) (key x)=if x∈F then some (T.int ((n+F.idxOf x:Nat))) else none
 | [],_=>by simp[dkvN,valT]
 | y::F,n=>by
  have ih:=kZ7 hk x F (n+1);unfold valT at ih ⊢;rw[dkvN,lQf]
  by_cases h:y=x
  .subst h;simp
  .have h1:decide (key y=key x)=false:=lJ4 λe=>h (hk y x e)
   simp only[h1];rw[ih,lZp,beq_eq_false_iff_ne.mpr h]
   have h2:(x∈y::F)↔x∈F:=by
    rw[lJp];exact⟨λz=>z.resolve_left λe=>h e.symm,.inr⟩
   by_cases hx:x∈F
   .rw[lJc hx,lJc (h2.mpr hx)];simp only[cond_false]
    congr 3;omega
   .rw[lJb hx,lJb λz=>hx (h2.mp z)]
theorem kYm{key:κ->K}(hk:∀x y,key x=key y->x=y){x:κ}{F:List κ}:valT (dkv key F) (key x)=if x∈F then some (T.int (F.idxOf x:Nat)) else none:=by
 unfold dkv;rw[kZ7 hk,lXa]
theorem kU4{kvs:List (K×T)}{k:K}{v:T}(h:valT kvs k=none):putT kvs k v=kvs++[(k,v)]:=by
 unfold putT;rw[lJb];intro z;rw[lYo] at z;obtain⟨p,hp,e⟩:=z;unfold valT at h;rw[Option.map_eq_none_iff,lXy] at h;exact h p hp e
theorem uQ4{key:κ->K}(hk:∀x y,key x=key y->x=y){x:κ}{F:List κ}(h:x∉F):putT (dkv key F) (key x) (T.int (F.length:Nat))=dkv key (fst1 F x):=by
 rw[kU4 (by rw[kYm hk,lJb h]),fst1,lJb h,uQ5]
structure Dic (mk:List (K×T)->GO) (key:κ->K) (enc:κ->T):Prop where
 inj:∀x y,key x=key y->x=y
 has:∀(G:Gp) d kvs x,G d=some (mk kvs)->inR G (enc x) (.ref d)=some (valT kvs (key x)).isSome
 put:∀(G:Gp) d kvs x v,G d=some (mk kvs)->kvs.length<sizeLine->setR G (.ref d) (enc x) v=some (gup G d (mk (putT kvs (key x) v)))
 get:∀(G:Gp) d kvs x,G d=some (mk kvs)->ixR G (.ref d) (enc x)=valT kvs (key x)
 len:∀(G:Gp) d kvs,G d=some (mk kvs)->lenG G (.ref d)=some kvs.length
end
theorem dicN:Dic (λkvs=> .dck kvs) keyN (λn:Nat=>T.int n) where
 inj:=λx y h=>by have:((x:Nat):Int)=(y:Nat):=Sum.inl.inj h;omega
 has:=λG d kvs x h=>by
  have h1:seqT G (.ref d)=none:=by simp only[seqT,h,asL]
  have h2:dAt G (.ref d) (.int (x:Nat))=some (valT kvs (keyN x)):=by simp only[dAt,h,jQ6];rfl
  unfold inR;rw[h1,h2]
 put:=λG d kvs x v h hz=>kY9 h hz
 get:=λG d kvs x h=>by
  have h1:seqT G (.ref d)=none:=by simp only[seqT,h,asL]
  have h2:dAt G (.ref d) (.int (x:Nat))=some (valT kvs (keyN x)):=by simp only[dAt,h,jQ6];rfl
  unfold ixR;rw[h1,h2]
 len:=λG d kvs h=>by simp only[lenG,h]
theorem dicT{κ:Type}[DecidableEq κ]{key:κ->L2.TKey}{enc:κ->List T}(hi:∀x y,key x=key y->x=y)(hk:∀x,jKx (enc x)=some (key x)):Dic (λkvs=> .dct kvs) key (λx=>T.tup (enc x)) where
 inj:=hi
 has:=λG d kvs x h=>by
  have h1:seqT G (.ref d)=none:=by simp only[seqT,h,asL]
  have h2:=kYo h (hk x);unfold inR;rw[h1,h2]
 put:=λG d kvs x v h hz=>kY8 h (hk x) hz
 get:=λG d kvs x h=>by
  have h1:seqT G (.ref d)=none:=by simp only[seqT,h,asL]
  have h2:=kYo h (hk x);unfold ixR;rw[h1,h2]
 len:=λG d kvs h=>by simp only[lenG,h]
def keyP(e:Nat×Nat):L2.K2:= .inr [.inl (.inl (e.1:Nat)),.inl (.inl (e.2:Nat))]
def keyR(t:List (Nat×Nat)):L2.TKey:=t.map keyP
theorem qYx{a b:Nat×Nat}(h:keyP a=keyP b):a=b:=by
 have h:=Sum.inr.inj h;simp only[lVa,Sum.inl.injEq,lXm] at h;obtain⟨a1,a2⟩:=a;obtain⟨b1,b2⟩:=b;simp only at h;rw[show a1=b1 by omega,show a2=b2 by omega]
theorem kZs:∀{a b:List (Nat×Nat)},keyR a=keyR b->a=b
 | [],[],_=>rfl
 | [],_::_,h=>by simp[keyR] at h
 | _::_,[],h=>by simp[keyR] at h
 | x::a,y::b,h=>by
  simp only[keyR,lJq,lVa] at h;rw[qYx h.1,kZs (show keyR a=keyR b from h.2)]
theorem kZr:∀t:List (Nat×Nat),jKx (t.map encE)=some (keyR t)
 | []=>rfl
 | e::t=>by
  show allK key2 (encE e::t.map encE)=_
  unfold allK;rw[show allK key2 (t.map encE)=some (keyR t) from kZr t,show key2 (encE e)=some (keyP e) from rfl];rfl
theorem dicR:Dic (λkvs=> .dct kvs) keyR encR:=dicT (λ_ _ h=>kZs h) kZr
def uY6(us:List T)(m:List Nat):Prop:=(∃ls:List Nat,us=jJj ls/\ls.length<=1000/\m=num ls)\/∃ls:List (List (Nat×Nat)),us=ls.map encR/\ls.length<=1000/\m=num ls
noncomputable def jUs:Sp3:=λxs G Q=>∃(p:Addr)(us:List T)(m:List Nat),xs=[.ref p]/\G p=some (.lst us)/\uY6 us m/\∀q G',G q=none->G' q=some (.lst (jJj m))->Sub G G'->Q (.ref q) G'
def qKp:List Str:=["looks","numbers","look"]
noncomputable def jV5:TS3:=
 (tSeq (tAsg jX8 D1)
 (tSeq (tFor (iSeq B0) D2 (tIfS (jJx (tOp jK4 B2 B1)) (tAsg (tCB qX5 C1) (gSub B1 B2 jQh)) jKm))
 (tRet (jQb [fF,fF,tT] (iSeq B0) D2 jUf (tOp rIxF B1 B2)))))
noncomputable def kXp:TS3:=(tSeq (tFor (iSeq B0) D2 (tIfS (jJx (tOp jK4 B2 B1)) (tAsg (tCB qX5 C1) (gSub B1 B2 jQh)) jKm)) (tRet (jQb [fF,fF,tT] (iSeq B0) D2 jUf (tOp rIxF B1 B2))))
theorem jVs{κ:Type}[DecidableEq κ]{ls:List κ}:(jJr ls).length<=ls.length:=by
 have:∀(ms F:List κ),(ms.foldl fst1 F).length<=F.length+ms.length:=by
  intro ms
  induction ms with
  | nil=>intro F;simp
  | cons m ms ih=>
   intro F;rw[lVr];have h1:=ih (fst1 F m);have h2:(fst1 F m).length<=F.length+1:=by unfold fst1;split<;>simp
   simp;omega
 have:=this ls []
 simpa[jJr] using this
theorem kUy{κ K:Type}[DecidableEq κ][DecidableEq K]{mk:List (K×T)->GO}{key:κ->K}{enc:κ->T}(D:Dic mk key enc){G G1:Gp}{p d:Addr}{ls:List κ}{Q:VK3}(hl:ls.length<=1000)(hd:G d=none)(hp:G1 p=some (.lst (ls.map enc)))(h1:G1 d=some (mk (dkv key ([]:List κ))))(hs:Sub G G1)(hpd:p≠d)
  (kk:∀q G',G q=none->G' q=some (.lst (jJj (num ls)))->Sub G G'->Q (.ref q) G'):kXp {nx:=λ_ G'=>Q .non G',rt:=Q} [some (.ref p),some (.ref d),none] G1:=by
 have hz:=sz
 exists kXp,jJt,iSeq
 refine⟨_,jJn hp,?_⟩;refine⟨λi τ G'=>∃v2:Option T,τ=[some (.ref p),some (.ref d),v2]/\G' p=some (.lst (ls.map enc))/\G' d=some (mk (dkv key (jJr (ls.take i))))/\Sub G G',?_,?_,?_,?_⟩
 .exact⟨none,rfl,hp,by rw[List.take_zero];exact h1,hs⟩
 .intro i τ G' hi h_;apply xe1 h_;clear h_;intro v2;refine ae3 ?_;intro i1 i2 i3;exact jJn i1
 .intro i y τ G2 hy h_;apply xe1 h_;clear h_;intro v2;refine ae3 ?_;intro i1 i2 i3;obtain⟨x,hx,rfl⟩:=jKd hy;have hfl:(jJr (ls.take i)).length<=1000:=lKc jVs (by rw[lQ6];omega)
  exists jK4,D.has _ _ _ x i2,kYm D.inj
  by_cases hm:x∈jJr (ls.take i)
  .exists if_pos hm,Option.isSome_some
   refine⟨i1,?_,i3⟩;rw[jUx hx,fst1,lJc hm];exact i2
  .exists if_neg hm,Option.isSome_none,qX5,D.len _ _ _ i2
   rw[qVm];refine⟨_,D.put _ _ _ x _ i2 (by rw[qVm];omega),?_,?_,i3.over hd⟩
   .rw[jJm hpd];exact i1
   .rw[jJh,uQ4 D.inj hm,jUx hx]
 .intro τ G2 h_;apply xe1 h_;clear h_;intro v2;refine ae3 ?_;intro i1 i2 i3;rw[lJg,lQz] at i2
  exists iSeq,jJn i1
  refine jKw (es:=ls) (enc:=enc) (λx=>T.int ((jJr ls).idxOf x:Nat)) (by omega) (λG' s=>jJn (s _ _ i1)) ?_ ?_
  .intro i x hx G' K' K0 s hk;have hm:x∈jJr ls:=firsts_mem.mpr (lJk hx)
   exists D.get _ _ _ x (s _ _ i2),kYm D.inj,if_pos hm
   exact hk G' (.refl _)
  .intro q G3 hq h3 s3;refine kk q G3 (jQe i3 hq) ?_ (i3.trans s3);rw[h3,num,jJj,lJr];rfl
theorem kQo:RdOk jUs jV5 qKp:=by
 intro xs G Q h_;apply xe3 h_;clear h_;intro p us m;refine ae3 ?_;intro hp hn kk;show jV5 _ [some (.ref p),none,none] G
 rw[show jV5=tSeq (tAsg jX8 D1) kXp from rfl]
 exists jX8
 rcases hn with ⟨ls,rfl,hl,rfl⟩ | ⟨ls,rfl,hl,rfl⟩
 .refine .inr λd hd=> ?_
  have hpd:p≠d:=jJf hp hd;exact kUy dicN hl hd (by rw[jJm hpd];exact hp) jJh (.new hd) hpd kk
 .refine .inl λd hd=> ?_
  have hpd:p≠d:=jJf hp hd;exact kUy dicR hl hd (by rw[jJm hpd];exact hp) jJh (.new hd) hpd kk
theorem okI:∀w:List Nat,jQd (jJj w)=true/\PyData.canLayAll0 (tds (jJj w))=true/\PyData.depthAll (tds (jJj w))<=1
 | []=>⟨rfl,by simp[jJj,tds,PyData.canLayAll0],by simp[jJj,tds,PyData.depthAll]⟩
 | a::w=>by
  obtain⟨a1,a2,a3⟩:=okI w;refine⟨?_,?_,?_⟩
  .show (tree (.int a)&&jQd (jJj w))=true;rw[a1];rfl
  .show PyData.canLayAll0 (td (.int a)::tds (jJj w))=true;rw[PyData.canLayAll0,a2];rfl
  .show PyData.depthAll (td (.int a)::tds (jJj w))<=1;rw[PyData.depthAll];simp[td,PyData.depth];exact a3
theorem kJn:∀a b:List Nat,eqTs (jJj a) (jJj b)=decide (a=b)
 | [],[]=>rfl
 | [],_::_=>rfl
 | _::_,[]=>rfl
 | x::a,y::b=>by
  show (eqT (.int x) (.int y)&&eqTs (jJj a) (jJj b))=_
  rw[kJn a b]
  by_cases h:x=y
  .subst h
   by_cases h2:a=b
   .subst h2;simp[eqT]
   .simp[eqT,h2]
  .have:¬ (x:Int)=y:=by omega
   simp[eqT,h,this]
theorem qVf{G:Gp}{p q:Addr}{a b:List Nat}(h1:G p=some (.lst (jJj a)))(h2:G q=some (.lst (jJj b))):eqG G (.ref p) (.ref q)=some (decide (a=b)):=by
 have ok:∀F:List Nat,jYu (jJj F)=true:=by
  intro F;obtain⟨a1,a2,a3⟩:=okI F;unfold jYu;rw[a1,a2,lKf (show (PyData.list (tds (jJj F))).depth<=50 by rw[PyData.depth];omega)];rfl
 have:eqG G (.ref p) (.ref q)=if jYu (jJj a)=true/\jYu (jJj b)=true then some (eqTs (jJj a) (jJj b)) else none:=by simp only[eqG,h1,h2]
 rw[this,lJc ⟨ok a,ok b⟩,kJn]
def jQf:Sp3:=λxs G Q=>∃(W:Web)(n:Nat),xs=[encW W,.int n]/\Fine W/\n<=1000/\∀q G',G q=none->G' q=some (.lst (jJj (marks W n)))->Sub G G'->Q (.ref q) G'
def kKj:List Str:=["web","steps","marks","step","finer","ends","end"]
noncomputable def jQ5:TS3:=
 (tSeq (tAsg (jJs jUs (jJc (jQb [fF,fF,fF,fF,fF,tT,fF] (iSeq B0) D5 jUf (tCB rLen C5)) tNil)) D2)
 (tSeq (tFor (jJ1 C1) D3 (tSeq (tAsg (jJs jUs (jJc (jQb [fF,fF,fF,fF,fF,tT,fF] (iSeq B0) D5 jUf (tCB jJ6 (jJc (jQb [fF,fF,fF,fF,fF,fF,tT] (iSeq B5) D6 jUf (tTup (jJc (tOp rIxF B6 tI1) (jJc (tOp rIxF B2 (tOp rIxF B6 tI0)) tNil)))) tNil))) tNil)) D4)
 (tSeq (tIfS (jJx (tOp rEqA B4 B2)) (tRet B2) jKm)
 (tAsg B4 D2))))
 (tRet B2)))
theorem getD_at{m:List Nat}{x:Nat}(h:x<m.length):L2.atI (jJj m) (x:Int)=some (.int (m.getD x 0:Nat)):=by
 rw[atN];simp[jJj,List.getD,lJf h]
theorem jYe:RdOk jQf jQ5 kKj:=by
 intro xs G Q h_;apply xe2 h_;clear h_;intro W n;refine ae3 ?_;intro fine hn kk;show jQ5 _ [some (.tup (W.map encR)),some (.int n),none,none,none,none,none] G
 have hs:=sz;have hl:=fine.len
 exists jQ5,jJt,jJ1,iSeq
 refine jKw (es:=W) (enc:=encR) (λes=>T.int (es.length:Nat)) (by omega) (λ_ _=>trivial) ?_ ?_
 .intro i es he G' K K0 s hk
  exists encR,List.length_map
  exact hk G' (.refl _)
 .intro p G1 hp h1 s1;refine⟨p,_,marks W 0,rfl,h1,.inl ⟨W.map List.length,by simp[jJj,lJr],by simp;omega,rfl⟩,λq0 G2 hq0 h2 s2=> ?_⟩
  refine⟨by omega,by omega,?_⟩
  rw[show ((n:Nat):Int).toNat=n by omega]
  refine⟨λk τ G'=>∃(q:Addr)(v3 v4:Option T),τ=[some (.tup (W.map encR)),some (.int n),some (.ref q),v3,v4,none,none]/\G q=none/\G' q=some (.lst (jJj (marks W k)))/\Sub G G',?_,?_,?_,?_⟩
  .exact⟨q0,none,none,rfl,jQe s1 hq0,h2,s1.trans s2⟩
  .intros;trivial
  .intro k y τ G3 hy h_;apply xe3 h_;clear h_;intro q v3 v4;refine ae3 ?_;intro i1 i2 i3;obtain⟨hk,rfl⟩:=jKs hy
   exists iSeq
   have hml:∀x,x<W.length->x<(marks W k).length:=λx hx=>by rw[jJ8];exact hx
   refine jKw (es:=W) (enc:=encR) (λes=>encR (es.map λe=>(e.2,(marks W k).getD e.1 0))) (by omega) (λ_ _=>trivial) ?_ ?_
   .intro r es he G' K K0 s hK;have hes:=fine.row r es he
    exists encR,iSeq
    refine jKw (es:=es) (enc:=encE) (λe=>encE (e.2,(marks W k).getD e.1 0)) (by omega) (λ_ _=>trivial) ?_ ?_
    .intro i e hi G'' K' K0' s' hK';have hlt:=fine.rng r i e.1 e.2 (jKu he hi)
     exists encE,jJy ((s.trans s') _ _ i2),getD_at (hml _ hlt)
     rw[encE] at hK';exact⟨by omega,hK' G'' (.refl _)⟩
    .intro D G'' hD q1 q2;refine⟨_,jJn q1,?_⟩;have:=hK G'' q2;rw[encR,lJr] at this;exact this
   .intro p' G4 hp' h4 s4;refine⟨p',_,marks W (k+1),rfl,h4,.inr ⟨tups W (marks W k),by simp[tups,lJr],by simp[tups];omega,rfl⟩,λq' G5 hq' h5 s5=> ?_⟩
    have hq5:=s5 _ _ (s4 _ _ i2)
    exists rEqA,qVf h5 hq5
    by_cases he:marks W (k+1)=marks W k
    .rw[lJc he];have:=jYp he (n-k);rw[show k+(n-k)=n by omega] at this
     exact kk q G5 i1 (by rw[this];exact hq5) ((i3.trans s4).trans s5)
    .rw[lJb he];exact⟨jQe i3 (jQe s4 hq'),h5,(i3.trans s4).trans s5⟩
  .intro τ G3 h_;apply xe3 h_;clear h_;intro q v3 v4;refine ae3 ?_;intro i1 i2 i3;rw[jKc] at i2
   exists tSeq
   exact kk q G3 i1 i2 i3
def Cnt(m:List Nat)(k c:Nat):Prop:=(∀i v,i<k->m[i]? =some v->v<c)/\∀n,n<c->∃i,i<k/\m[i]? =some n
theorem Cnt.unique{m:List Nat}{k c c':Nat}(h:Cnt m k c)(h':Cnt m k c'):c=c':=by
 rcases lQl c c' with z | z | z
 .obtain⟨i,h1,h2⟩:=h'.2 c z;exact absurd (h.1 i c h1 h2) (lKx _)
 .exact z
 .obtain⟨i,h1,h2⟩:=h.2 c' z;exact absurd (h'.1 i c' h1 h2) (lKx _)
theorem qZv{m:List Nat}:Cnt m 0 0:=⟨λi v h=>absurd h (lKd _),λn h=>absurd h (lKd _)⟩
theorem Cnt.next{m:List Nat}{k c v:Nat}(cn:uUl m)(h:Cnt m k c)(hv:m[k]? =some v):(v<c/\Cnt m (k+1) c)\/(v=c/\Cnt m (k+1) (c+1)):=by
 rcases lQl v c with z | z | z
 .refine .inl ⟨z,λi u hi hu=> ?_,λn hn=>let ⟨i,h1,h2⟩:=h.2 n hn;⟨i,by omega,h2⟩⟩
  rcases lVn (lQb hi) with q | rfl
  .exact h.1 i u q hu
  .rw[hv] at hu;cases hu;exact z
 .subst z;refine .inr ⟨rfl,λi u hi hu=> ?_,λn hn=> ?_⟩
  .rcases lVn (lQb hi) with q | rfl
   .exact lZl (h.1 i u q hu)
   .rw[hv] at hu;cases hu;exact lX1 _
  .rcases lVn (lQb hn) with q | rfl
   .obtain⟨i,h1,h2⟩:=h.2 n q;exact⟨i,by omega,h2⟩
   .exact⟨k,lX1 _,hv⟩
 .obtain⟨i,h1,h2⟩:=cn k v hv c z;exact absurd (h.1 i c h1 h2) (lKx _)
def grp(m:List Nat)(k n:Nat):List Nat:=(List.range k).filter λr=>m[r]? == some n
theorem kUf{m:List Nat}{k n v:Nat}(h:m[k]? =some v):grp m (k+1) n=if v=n then grp m k n++[k] else grp m k n:=by
 unfold grp;rw[lKr,lZm]
 by_cases e:v=n
 .subst e;rw[lJc rfl];simp[h]
 .rw[lJb e];have:(m[k]? == some n)=false:=by rw[h];simp[e]
  simp[this]
theorem qZf{m:List Nat}{k n:Nat}(h:∀i,i<k->m[i]? ≠some n):grp m k n=[]:=by
 unfold grp;rw[List.filter_eq_nil_iff];intro r hr;have:=h r (lJw.mp hr)
 simpa using this
def grps(m:List Nat)(k c:Nat):List (List Nat):=(List.range c).map (grp m k)
theorem qZd{m:List Nat}{k c v:Nat}(h:m[k]? =some v)(hv:v<c):grps m (k+1) c=(grps m k c).set v (grp m k v++[k]):=by
 apply lKh;intro n;unfold grps;rw[List.getElem?_set]
 by_cases hn:n<c
 .rw[lJj,lQn hn,lK4,kUf h]
  by_cases e:v=n
  .subst e;simp[hn]
  .simp[e,hn]
 .rw[lJy (by simp;omega)]
  rw[lJb (by omega),lJy (by simp;omega)]
theorem qZe{m:List Nat}{k c:Nat}(h:m[k]? =some c)(hc:Cnt m k c):grps m (k+1) (c+1)=grps m k c++[[k]]:=by
 unfold grps;rw[lKr,lKe]
 congr 1
 .apply lXe;intro n hn;have:=lJw.mp hn;rw[kUf h,lJb (by omega)]
 .show [grp m (k+1) c]=[[k]]
  rw[kUf h,lJc rfl,qZf λi hi e=>absurd (hc.1 i c hi e) (lKx _)];rfl
def LsN(L:List (List Nat)):List (List T):=L.map jJj
noncomputable def jV3:Sp3:=λxs G Q=>∃(W:Web)(n:Nat),xs=[encW W,.int n]/\Fine W/\n<=1000/\∀q c rs G',G q=none->(∀r,r∈rs->G r=none)->(q::rs).Nodup->Cnt (marks W n) (marks W n).length c->RowsT G' q (LsN (grps (marks W n) (marks W n).length c)) rs->Sub G G'->Q (.ref q) G'
def qKs:List Str:=["web","steps","told","room","number"]
noncomputable def jV8:TS3:=
 (tSeq (tAsg (tLst tNil) D2)
 (tSeq (tFor (jX0 (jJc (jJs jQf (jJc B0 C1)) tNil)) (gTup 2 (jKa D3 (jKa D4 gNil))) (tSeq (tIfS (jJx (tOp rEqA B4 (tCB rLen C2))) (jQg (tBM "list" jJ5 B2 (jJc (tLst tNil) tNil))) jKm)
 (jQg (tBM "list" jJ5 (tOp rIxF B2 B4) C3))))
 (tRet B2)))
theorem kX4{W:Web}:∀n,uUl (marks W n)
 | 0=>kVg _
 | _+1=>kVg _
theorem kQr:RdOk jV3 jV8 qKs:=by
 intro xs G Q h_;apply xe2 h_;clear h_;intro W n;refine ae3 ?_;intro fine hn kk;show jV8 _ [some (encW W),some (.int n),none,none,none] G
 have hs:=sz;have hl:=fine.len
 exists jV8,jJt,jX0
 refine⟨by omega,λt ht=> ?_⟩
 refine⟨W,n,rfl,fine,hn,λq G2 hq h2 s2=> ?_⟩
 have hql:=(jKf hq);have cn:=kX4 (W:=W) n;have hml:=jJ8 (W:=W) n
 generalize marks W n=m at h2 cn hml kk
 refine⟨jJj m,by simp only[jQ7,h2,asL],?_⟩
 refine⟨λk τ G'=>∃(v3 v4:Option T)(c:Nat)(rs:List Addr),τ=[some (encW W),some (.int n),some (.ref t),v3,v4]/\c<=k/\Cnt m k c/\RowsT G' t (LsN (grps m k c)) rs/\(t::rs).Nodup/\(∀r,r∈rs->G r=none)/\q∉rs/\G' q=some (.lst (jJj m))/\Sub G G',?_,?_,?_,?_⟩
 .exact⟨none,none,0,[],rfl,lJh _,qZv,⟨s2 _ _ jJh,rfl,by simp⟩,by simp,by simp,by simp,h2,(Sub.new ht).trans s2⟩
 .intro k τ G' hk h_;apply xe4 h_;clear h_;intro v3 v4 c rs;refine ae8 ?_;intro i0 i1 i2 i3 i4 i5 i6 i7;simp only[jQ7,i6,asL]
 .intro k y τ G3 hy h_;apply xe4 h_;clear h_;intro v3 v4 c rs;refine ae8 ?_;intro i0 i1 i2 i3 i4 i5 i6 i7;obtain⟨z,hz,rfl⟩:=kQ7 hy;obtain⟨v,hv,rfl⟩:=jKd hz;have hkl:k<m.length:=(lJe.mp hv).1;have hrl:rs.length=c:=by have:=i2.2.1;simpa[LsN,grps] using this
  have htq:t≠q:=jJf (jJh (G:=G) (a:=t) (o:= .lst [])) hq;have hqt:q≠t:=htq.symm
  exists rEqA,jJn i2.1,List.length_map,hrl,jKq
  rcases i1.next cn hv with ⟨z,cnt'⟩ | ⟨z,cnt'⟩
  .rw[lJb (by omega)]
   have hM:(LsN (grps m k c))[v]? =some (jJj (grp m k v)):=by simp[LsN,grps,z]
   obtain⟨a,a1,a2,a3⟩:=i2.get hM;have ham:=lJk a1;have hgl:(grp m k v).length<=k:=by unfold grp;exact lKc (lVx _ _) (by simp)
   have R:=i2.set (ts:=jJj (grp m k v)++[.int (k:Nat)]) i3 a1;refine⟨.ref a,(jJy i2.1).trans a2,by rw[jJ4 a3];trivial,a,rfl,_,a3,by simp[jJj];omega,c,by omega,cnt',rs,?_,i3,i4,i5,?_,i7.over (i4 a ham)⟩
   .rw[qZd hv z]
    have:LsN ((grps m k c).set v (grp m k v++[k]))=(LsN (grps m k c)).set v (jJj (grp m k v)++[.int (k:Nat)]):=by
     unfold LsN;rw[List.map_set];simp[jJj]
    rw[this];exact R
   .rw[jJm (show q≠a from λe=>i5 (by rw[e];exact ham))];exact i6
  .subst z;rw[lJc rfl];refine⟨by rw[jJ4 i2.1];trivial,by omega,λp hp=> ?_⟩
   have htp:t≠p:=jJf i2.1 hp;have hqp:q≠p:=jJf i6 hp
   have hpr:p∉rs:=λhm=>by
    obtain⟨j,hj⟩:=lJ1 (id hm);obtain⟨ts,_,z2⟩:=i2.2.2 j p hj;rw[hp] at z2;cases z2
   have hpG:G p=none:=jQe i7 hp;refine⟨rs.map T.ref,by rw[jJm htp];exact i2.1,by simp;omega,.ref p,by rw[atN];simp[hrl],?_,p,rfl,[],?_,by simp;omega,v+1,by omega,cnt',rs++[p],?_,?_,?_,?_,?_,?_⟩
   .rw[jJ4 (by rw[jJm htp.symm];exact jJh)];trivial
   .rw[jJm htp.symm];exact jJh
   .rw[qZe hv i1];refine⟨by rw[jJm htp,jJh];simp,by simp[LsN,hrl,grps],λi r hi=> ?_⟩
    by_cases hil:i<rs.length
    .rw[lJ9 hil] at hi;obtain⟨ts,z1,z2⟩:=i2.2.2 i r hi;have hrm:=lJk hi;have hrt:r≠t:=λe=>(lKn.mp i3).1 (e▸hrm)
     have hrp:r≠p:=λe=>hpr (e▸hrm)
     refine⟨ts,?_,by rw[jJm hrp,jJm hrt,jJm hrp];exact z2⟩
     have hlt:i<(LsN (grps m k v)).length:=(lJe.mp z1).1;unfold LsN at z1 hlt ⊢;rw[lKe,lJ9 hlt];exact z1
    .have hi2:=(lJe.mp hi).1;simp at hi2;have e:i=rs.length:=by omega
     subst e;rw[lQe (lJh _)] at hi;simp at hi;subst hi;refine⟨[.int (k:Nat)],?_,by rw[jJh];rfl⟩
     unfold LsN;rw[lKe,lQe (by simp[grps,hrl])]
     simp[grps,hrl,jJj]
   .rw[lKn] at i3 ⊢;refine⟨λhm=> ?_,?_⟩
    .rcases (lKb.mp hm) with h | h
     .exact i3.1 h
     .exact htp (lJ0.mp h)
    .rw[lQ8];exact⟨i3.2,by simp,λa ha b hb=>by rw[lJ0.mp hb];rintro rfl;exact hpr ha⟩
   .intro r hr
    rcases (lKb.mp hr) with h | h
    .exact i4 r h
    .rw[lJ0.mp h];exact hpG
   .intro hm
    rcases (lKb.mp hm) with h | h
    .exact i5 h
    .exact hqp (lJ0.mp h)
   .rw[jJm hqp,jJm hqt,jJm hqp];exact i6
   .exact ((i7.over hpG).over ht).over hpG
 .intro τ G3 h_;apply xe4 h_;clear h_;intro v3 v4 c rs;refine ae8 ?_;intro i0 i1 i2 i3 i4 i5 i6 i7;rw[jJ2,show (jJj m).length=m.length by simp[jJj]] at i1 i2
  exists tSeq
  exact kk t c rs G3 ht i4 i3 i1 i2 i7
section
variable {κ:Type}
end
theorem kVh{κ:Type}[DecidableEq κ]{ls:List κ}:num (num ls)=num ls:=by
 conv=>lhs;rw[num]
 exact kJb (f:=λx=>(jJr ls).idxOf x) λx y hx _ h=>jYs (firsts_mem.mpr hx) h
theorem jK7{W:Web}:∀k,num (marks W k)=marks W k
 | 0=>kVh
 | _+1=>kVh
theorem kUg{m:List Nat}{r v:Nat}(h:m[r]? =some v):m.getD r 0=v:=by simp[List.getD,h]
def LL(m:List Nat):List (List Nat):=(jJr m).map (grp m m.length)
theorem qVs{m:List Nat}:Cnt (num m) (num m).length (jJr m).length:=by
 refine⟨λi v hi hv=> ?_,λn hn=> ?_⟩
 .have hil:i<m.length:=by rwa [kQ5] at hi
  have hx:m[i]? =some m[i]:=lJf hil;rw[jQn hx] at hv;cases hv;exact lVb (firsts_mem.mpr (lJk hx))
 .have hx:(jJr m)[n]? =some (jJr m)[n]:=lJf hn
  generalize (jJr m)[n]=x at hx
  obtain⟨i,hi⟩:=lJ1 (firsts_mem.mp (lJk hx));refine⟨i,by rw[kQ5];exact (lJe.mp hi).1,?_⟩
  rw[jQn hi];have hm:=lJk hx;have h1:=lVb hm;have e1:(jJr m)[(jJr m).idxOf x]? =some x:=by rw[lJf h1,lVy]
  rw[(lQ9 h1 (jX2 m)).mp (e1.trans hx.symm)]
theorem kZx{m:List Nat}:grps (num m) (num m).length (jJr m).length=LL m:=by
 apply lKh;intro n;unfold grps LL
 by_cases hn:n<(jJr m).length
 .have hx:(jJr m)[n]? =some (jJr m)[n]:=lJf hn
  generalize (jJr m)[n]=x at hx
  rw[lJj,lQn hn,lJj,hx];simp only[lK4]
  congr 1
  unfold grp;rw[kQ5];apply List.filter_congr;intro r hr;have hrl:=lJw.mp hr;have hy:m[r]? =some m[r]:=lJf hrl
  generalize m[r]=y at hy
  rw[jQn hy,hy];have hm:=lJk hx;have h1:=lVb hm;have e1:(jJr m)[(jJr m).idxOf x]? =some x:=by rw[lJf h1,lVy]
  have e2:(jJr m).idxOf x=n:=(lQ9 h1 (jX2 m)).mp (e1.trans hx.symm)
  by_cases e:y=x
  .subst e;simp[e2]
  .have hne:(jJr m).idxOf y≠n:=λz=>e (jYs (firsts_mem.mpr (lJk hy)) (z.trans e2.symm))
   rw[show (some ((jJr m).idxOf y) == some n)=false from beq_eq_false_iff_ne.mpr (λz=>hne (lJ3 z)),show (some y == some x)=false from beq_eq_false_iff_ne.mpr (λz=>e (lJ3 z))]
 .rw[lJy (by simp;omega),lJy (by simp;omega)]
noncomputable def kQf:Sp3:=λxs G Q=>∃(W:Web),xs=[encW W]/\Fine W/\∀q rs G',G q=none->(∀r,r∈rs->G r=none)->(q::rs).Nodup->RowsT G' q (LsN (LL (marks W W.length))) rs->Sub G G'->Q (.ref q) G'
def uUi:List Str:=["web"]
noncomputable def kQy:TS3:=
 (tRet (jJs jV3 (jJc B0 (jJc (tCB rLen C0) tNil))))
theorem qJx:RdOk kQf kQy uUi:=by
 intro xs G Q h_;apply xe1 h_;clear h_;intro W;refine ae2 ?_;intro fine kk;show kQy _ [some (.tup (W.map encR))] G
 have hl:=fine.len
 exists kQy,List.length_map
 refine⟨W,W.length,rfl,fine,hl,λq c rs G' h1 h2 h3 h4 h5 h6=> ?_⟩
 have e:=qVs (m:=marks W W.length);rw[jK7] at e;obtain rfl:=h4.unique e;have g:=kZx (m:=marks W W.length);rw[jK7] at g;rw[g] at h5;exact kk q rs G' h1 h2 h3 h5 h6
section
variable {κ:Type}[DecidableEq κ]
end
theorem kJt{W:Web}{k:Nat}:Cnt (marks W k) W.length (jJr (marks W k)).length:=by
 have:=qVs (m:=marks W k);rw[jK7,jJ8] at this;exact this
theorem qJ9{W:Web}(f:Fine W)(k:Nat):marks W (k+1)=marks W k\/(jJr (marks W k)).length<(jJr (marks W (k+1))).length:=by
 obtain⟨a1,a2⟩:=kJt (W:=W) (k:=k);obtain⟨b1,b2⟩:=kJt (W:=W) (k:=k+1)
 generalize (jJr (marks W k)).length=c at a1 a2 ⊢
 generalize (jJr (marks W (k+1))).length=c' at b1 b2 ⊢
 by_cases hc:c<c'
 .exact .inr hc
 refine .inl ?_;have at_:∀(k r:Nat),r<W.length->∃v,(marks W k)[r]? =some v:=λk r hr=>⟨(marks W k)[r]'(by rw[jJ8];exact hr),lJf _⟩
 have fin:∀(a b v:Nat),(marks W (k+1))[a]? =some v->(marks W (k+1))[b]? =some v->(marks W k)[a]? =(marks W k)[b]? :=by
  intro a b v ha hb;have la:a<W.length:=by rw[<-jJ8 (k+1)];exact (lJe.mp ha).1
  have lb:b<W.length:=by rw[<-jJ8 (k+1)];exact (lJe.mp hb).1
  have ea:W[a]? =some W[a]:=lJf la;have eb:W[b]? =some W[b]:=lJf lb;exact finer f k a b _ _ ea eb (kQ6 (jK6 ea) (jK6 eb) (ha.trans hb.symm))
 let g:Nat->Nat:=λu=>if h:u<c then ((marks W (k+1)).getD (Classical.choose (a2 u h)) 0) else 0
 have gat:∀u,u<c->∃i:Nat,(marks W k)[i]? =some u/\(marks W (k+1))[i]? =some (g u)/\g u<c':=by
  intro u hu;obtain⟨hi,hv⟩:=Classical.choose_spec (a2 u hu);obtain⟨v,hv'⟩:=at_ (k+1) _ hi
  have:g u=v:=by show (if h:u<c then _ else 0)=v;rw[dif_pos hu];exact kUg hv'
  exact⟨_,hv,by rw[this];exact hv',by rw[this];exact b1 _ v hi hv'⟩
 have ginj:∀u u',u<c->u'<c->g u=g u'->u=u':=by
  intro u u' hu hu' e;obtain⟨i,i1,i2,_⟩:=gat u hu;obtain⟨j,j1,j2,_⟩:=gat u' hu';rw[<-e] at j2;have:=fin i j _ i2 j2;rw[i1,j1] at this;cases this;rfl
 have hnd:((List.range c).map g).Nodup:=by
  unfold List.Nodup;rw[lVk];refine List.Pairwise.imp_of_mem ?_ (lXc (n:=c));intro a b ha hb hab e;exact hab (ginj a b (lJw.mp ha) (lJw.mp hb) e)
 have hlt:∀x,x∈(List.range c).map g->x<c':=λx hx=>by
  obtain⟨u,hu,rfl⟩:=lJi.mp hx;obtain⟨_,_,_,h⟩:=gat u (lJw.mp hu);exact h
 have hle:=jQk hnd hlt;rw[lJg,lKq] at hle;have hcc:c=c':=by omega
 subst hcc;have onto:=kJd hnd hlt (by rw[lJg,lKq])
 have inj:∀(a b v:Nat),(marks W k)[a]? =some v->(marks W k)[b]? =some v->(marks W (k+1))[a]? =(marks W (k+1))[b]? :=by
  intro a b v ha hb;have la:a<W.length:=by rw[<-jJ8 k];exact (lJe.mp ha).1
  have lb:b<W.length:=by rw[<-jJ8 k];exact (lJe.mp hb).1
  obtain⟨p,hp⟩:=at_ (k+1) a la
  obtain⟨q,hq⟩:=at_ (k+1) b lb
  obtain⟨u,hu,eu⟩:=lJi.mp (onto p (b1 a p la hp));obtain⟨w,hw,ew⟩:=lJi.mp (onto q (b1 b q lb hq));obtain⟨i,i1,i2,_⟩:=gat u (lJw.mp hu);obtain⟨j,j1,j2,_⟩:=gat w (lJw.mp hw);have e1:=fin a i p hp (by rw[i2,eu])
  have e2:=fin b j q hq (by rw[j2,ew])
  rw[ha,i1] at e1;cases e1;rw[hb,j1] at e2;cases e2;rw[hp,hq,<-eu,<-ew]
 let φ:Nat->Nat:=λv=> @dite _ (∃i:Nat,(marks W (k+1))[i]? =some v) (Classical.propDecidable _) (λh=>(marks W k).getD (Classical.choose h) 0) λ_=>0
 have hmap:(marks W (k+1)).map φ=marks W k:=by
  apply lKh;intro r;rw[lJj]
  by_cases hr:r<W.length
  .obtain⟨v,hv⟩:=at_ (k+1) r hr
   obtain⟨u,hu⟩:=at_ k r hr
   rw[hv,hu,lK4];have hex:∃i:Nat,(marks W (k+1))[i]? =some v:=⟨r,hv⟩
   have:φ v=(marks W k).getD (Classical.choose hex) 0:=dif_pos hex;rw[this];have e:=fin _ r v (Classical.choose_spec hex) hv;rw[hu] at e;rw[kUg e]
  .rw[lJy (by rw[jJ8];omega),lJy (by rw[jJ8];omega)];rfl
 rw[<-jK7 (k+1),<-jK7 k,<-hmap]
 symm
 refine kJb λx y hx hy e=> ?_
 obtain⟨a,ha⟩:=lJ1 hx;obtain⟨b,hb⟩:=lJ1 hy;have la:a<W.length:=by rw[<-jJ8 (k+1)];exact (lJe.mp ha).1
 have lb:b<W.length:=by rw[<-jJ8 (k+1)];exact (lJe.mp hb).1
 have ga:(marks W k)[a]? =some (φ x):=by rw[<-hmap,lJj,ha];rfl
 have gb:(marks W k)[b]? =some (φ y):=by rw[<-hmap,lJj,hb];rfl
 rw[<-e] at gb;have:=inj a b _ ga gb;rw[ha,hb] at this;cases this;rfl
theorem qUm{W:Web}(f:Fine W):∃k,k<W.length+1/\∀n,k<=n->marks W n=marks W k:=by
 suffices h:∀n,(∃k,k<n/\marks W (k+1)=marks W k)\/n<=(jJr (marks W n)).length by
  rcases h (W.length+1) with ⟨k,h1,h2⟩ | h
  .exact⟨k,h1,λn hn=>by have:=jYp h2 (n-k);rwa [show k+(n-k)=n by omega] at this⟩
  .have:=jVs (ls:=marks W (W.length+1));rw[jJ8] at this;omega
 intro n
 induction n with
 | zero=>exact .inr (lJx _)
 | succ n ih=>
  rcases ih with ⟨k,h1,h2⟩ | h
  .exact .inl ⟨k,by omega,h2⟩
  .rcases qJ9 f n with z | z
   .exact .inl ⟨n,by omega,z⟩
   .exact .inr (by omega)
def mk(W:Web):List Nat:=marks W W.length
def nk(W:Web):Nat:=(jJr (mk W)).length
def fr(W:Web)(n:Nat):Nat:=(mk W).idxOf n
theorem jYy{W:Web}:(mk W).length=W.length:=jJ8 _
theorem uQa{W:Web}(f:Fine W){n:Nat}(h:W.length<=n):marks W n=mk W:=by
 obtain⟨k,h1,h2⟩:=qUm f;unfold mk;rw[h2 n (by omega),h2 W.length (by omega)]
theorem uV4{W:Web}(f:Fine W):num (tups W (mk W))=mk W:=uQa f (Nat.le_succ _)
theorem mk_cnt{W:Web}:Cnt (mk W) W.length (nk W):=kJt
theorem kJe{W:Web}{r:Nat}(h:r<W.length):∃v,(mk W)[r]? =some v/\v<nk W:=by
 have hl:r<(mk W).length:=by rw[jYy];exact h
 exact⟨(mk W)[r],lJf hl,mk_cnt.1 r _ h (lJf hl)⟩
theorem uQy{W:Web}{n:Nat}(h:n<nk W):(mk W)[fr W n]? =some n/\fr W n<W.length/\∀i,i<fr W n->(mk W)[i]? ≠some n:=by
 obtain⟨i,h1,h2⟩:=mk_cnt.2 n h;have hm:=lJk h2;have hl:=lVb hm;refine⟨by unfold fr;rw[lJf hl,lVy],by rw[<-jYy];exact hl,λi hi hv=> ?_⟩
 unfold fr at hi;have hil:=(lJe.mp hv);obtain⟨h3,h4⟩:=hil;have:=List.not_of_lt_findIdx (show i<(mk W).findIdx (· == n) from hi)
 simp[h4] at this
theorem uY8{W:Web}:LL (mk W)=(List.range (nk W)).map (grp (mk W) W.length):=by
 have:=kZx (m:=mk W);rw[show num (mk W)=mk W from jK7 _,jYy] at this
 exact this.symm
theorem jXf{W:Web}(f:Fine W){a b i s j:Nat}(ha:a<W.length)(hb:b<W.length)(h:(mk W)[a]? =(mk W)[b]?)(he:en W a i=some (s,j)):∃s',en W b i=some (s',j)/\(mk W)[s']? =(mk W)[s]? :=by
 have ea:W[a]? =some W[a]:=lJf ha;have eb:W[b]? =some W[b]:=lJf hb;rw[<-uV4 f] at h;have e:=kQ6 (jK6 ea) (jK6 eb) h;obtain⟨es,q1,q2⟩:=jKo he;rw[ea] at q1;cases q1;have e2:=lJs (λl=>l[i]?) e
 simp only[lJj,q2,lK4] at e2;cases q3:(W[b])[i]? with
 | none=>rw[q3] at e2;cases e2
 | some p=>
  rw[q3] at e2;simp only[lK4,lQi,lX5] at e2;have hp:=jKu eb q3;refine⟨p.1,by rw[hp];exact lJs some (Prod.ext rfl e2.1.symm),?_⟩
  have l1:=f.rng _ _ _ _ he;have l2:=f.rng b i p.1 p.2 hp;obtain⟨v,hv,_⟩:=kJe l1;obtain⟨u,hu,_⟩:=kJe l2;rw[hv,hu];have:=e2.2;rw[kUg hv,kUg hu] at this;rw[this]
theorem uJ1{W:Web}(h:1<=W.length):1<=nk W:=by
 obtain⟨v,_,hv⟩:=kJe (W:=W) (r:=0) h;omega
section
variable {κ μ:Type}[DecidableEq κ][DecidableEq μ]
theorem uK9{ls:List κ}{ms:List μ}(hl:ls.length=ms.length)(h:∀(i j:Nat)(a b:κ)(c d:μ),ls[i]? =some a->ls[j]? =some b->ms[i]? =some c->ms[j]? =some d->(a=b↔c=d)):num ls=num ms:=by
 have e1:ls=(ls.zip ms).map Prod.fst:=(List.map_fst_zip (lXr hl)).symm;have e2:ms=(ls.zip ms).map Prod.snd:=(List.map_snd_zip (lXr hl.symm)).symm
 have key:∀x y,x∈ls.zip ms->y∈ls.zip ms->(x.1=y.1↔x.2=y.2):=by
  intro x y hx hy;obtain⟨i,hi⟩:=lJ1 hx;obtain⟨j,hj⟩:=lJ1 hy;rw[lXt] at hi hj;exact h i j x.1 y.1 x.2 y.2 hi.1 hj.1 hi.2 hj.2
 have n1:num ((ls.zip ms).map Prod.fst)=num (ls.zip ms):=kJb (f:=Prod.fst) λx y hx hy e=>Prod.ext e ((key x y hx hy).mp e)
 have n2:num ((ls.zip ms).map Prod.snd)=num (ls.zip ms):=kJb (f:=Prod.snd) λx y hx hy e=>Prod.ext ((key x y hx hy).mpr e) e
 rw[e1,n1,<-n2,<-e2]
theorem qYj{ls:List κ}{ms:List μ}(h:num ls=num ms){i j:Nat}{a b:κ}{c d:μ}(ha:ls[i]? =some a)(hb:ls[j]? =some b)(hc:ms[i]? =some c)(hd:ms[j]? =some d):a=b↔c=d:=by
 have e1:=lJs (λl=>l[i]?) h
 have e2:=lJs (λl=>l[j]?) h
 simp only[jQn ha,jQn hc,jQn hb,jQn hd,lQi] at e1 e2
 constructor
 .intro z;subst z;exact jYs (firsts_mem.mpr (lJk hc)) (e1.symm.trans e2)
 .intro z;subst z;exact jYs (firsts_mem.mpr (lJk ha)) (e1.trans e2.symm)
end
abbrev Row:=Nat×List (Nat×Nat)
def kJ4(M:List Nat)(r:Nat)(es:List (Nat×Nat)):Row:=(M.getD r 0,es.map λe=>(e.2,M.getD e.1 0))
def jU1(W:Web)(M:List Nat):List Row:=(List.range W.length).map λr=>kJ4 M r (row W r)
theorem qQf{W:Web}{M:List Nat}{r:Nat}{es:List (Nat×Nat)}(h:W[r]? =some es):(jU1 W M)[r]? =some (kJ4 M r es):=by
 have hr:r<W.length:=(lJe.mp h).1;unfold jU1;rw[lJj,lQn hr];show some (kJ4 M r (row W r))=_
 rw[show row W r=es by unfold row;rw[h];rfl]
theorem jZg{W:Web}{M:List Nat}:(jU1 W M).length=W.length:=by unfold jU1;rw[lJg,lKq]
theorem qXs{W:Web}(f:Fine W){M:List Nat}{k:Nat}(hl:M.length=W.length)(hm:num M=marks W k):num (jU1 W M)=marks W (k+1):=by
 show _=num (tups W (marks W k))
 have jYy:=jJ8 (W:=W) k
 have mm:∀i,i<W.length->M[i]? =some (M.getD i 0)/\(marks W k)[i]? =some ((marks W k).getD i 0):=by
  intro i hi;exact⟨by rw[lX2,lJf (by omega)];rfl,by rw[lX2,lJf (by omega)];rfl⟩
 have hm':num M=num (marks W k):=by rw[jK7];exact hm
 have same:∀i j,i<W.length->j<W.length->(M.getD i 0=M.getD j 0↔(marks W k).getD i 0=(marks W k).getD j 0):=λi j hi hj=>qYj hm' (mm i hi).1 (mm j hj).1 (mm i hi).2 (mm j hj).2
 refine uK9 (by rw[jZg];simp[tups]) λi j a b c d ha hb hc hd=> ?_
 have hi:i<W.length:=by rw[<-jZg (W:=W) (M:=M)];exact (lJe.mp ha).1
 have hj:j<W.length:=by rw[<-jZg (W:=W) (M:=M)];exact (lJe.mp hb).1
 have hei:W[i]? =some W[i]:=lJf hi;have hej:W[j]? =some W[j]:=lJf hj
 generalize W[i]=es at hei
 generalize W[j]=fs at hej
 rw[qQf hei] at ha;rw[qQf hej] at hb;rw[jK6 hei] at hc;rw[jK6 hej] at hd;cases ha;cases hb;cases hc;cases hd
 have inner:(es.map λe=>(e.2,M.getD e.1 0))=(fs.map λe=>(e.2,M.getD e.1 0))↔(es.map λe=>(e.2,(marks W k).getD e.1 0))=(fs.map λe=>(e.2,(marks W k).getD e.1 0)):=by
  have go:∀(g g':List Nat),(∀i j,i<W.length->j<W.length->g.getD i 0=g.getD j 0->g'.getD i 0=g'.getD j 0)->(es.map λe=>(e.2,g.getD e.1 0))=(fs.map λe=>(e.2,g.getD e.1 0))->(es.map λe=>(e.2,g'.getD e.1 0))=(fs.map λe=>(e.2,g'.getD e.1 0)):=by
   intro g g' hg h;apply lKh;intro x;have hx:=lJs (λl=>l[x]?) h
   simp only[lJj] at hx ⊢;cases e1:es[x]? with
   | none=>
    rw[e1] at hx;cases e2:fs[x]? with
    | none=>rfl
    | some q=>rw[e2] at hx;cases hx
   | some p=>
    rw[e1] at hx;cases e2:fs[x]? with
    | none=>rw[e2] at hx;cases hx
    | some q=>
     rw[e2] at hx;simp only[lK4,lQi,lX5] at hx ⊢;exact⟨hx.1,hg _ _ (f.rng i x p.1 p.2 (jKu hei e1)) (f.rng j x q.1 q.2 (jKu hej e2)) hx.2⟩
  exact⟨go M (marks W k) λa b ha hb=>(same a b ha hb).mp,go (marks W k) M λa b ha hb=>(same a b ha hb).mpr⟩
 constructor
 .intro z;exact inner.mp (Prod.mk.inj z).2
 .intro z;have fin:=finer f k i j es fs hei hej z;rw[(mm i hi).2,(mm j hj).2] at fin;unfold kJ4;rw[(same i j hi hj).mpr (lJ3 fin),inner.mpr z]
def rowT(x:Row):List T:=[.int x.1,.tup (x.2.map λp=> .tup [.int p.1,.int p.2])]
def rowK(x:Row):L2.TKey:=[.inl (.inl x.1),.inr (x.2.map λp=> .inr [.inl p.1,.inl p.2])]
theorem kU8:∀ps:List (Nat×Nat),allK key1 (ps.map λp=>T.tup [.int p.1,.int p.2])=some (ps.map λp=> .inr [.inl p.1,.inl p.2])
 | []=>rfl
 | p::ps=>by
  rw[lJq];unfold allK;rw[kU8 ps];rfl
theorem kQl(x:Row):jKx (rowT x)=some (rowK x):=by
 have e:key2 (T.tup (x.2.map λp=>T.tup [.int p.1,.int p.2]))=some (.inr (x.2.map λp=> .inr [.inl p.1,.inl p.2])):=by
  show (allK key1 _).map Sum.inr=_
  rw[kU8];rfl
 unfold jKx rowT;unfold allK;rw[show allK key2 [T.tup (x.2.map λp=>T.tup [.int p.1,.int p.2])]=some [.inr (x.2.map λp=> .inr [.inl p.1,.inl p.2])] by unfold allK;rw[e];rfl]
 rfl
theorem qXt(x:Row):SKey true (rowT x) (rowK x):=by
 refine⟨kQl x,rfl,?_⟩;show ((true:Bool)&&((x.2.map λp=>(Sum.inr [Sum.inl (p.1:Int),Sum.inl (p.2:Int)]:L2.K1)).all (intS intK)&&true))=true
 rw[Bool.true_and,Bool.and_true,lVh];intro k hk;obtain⟨p,_,rfl⟩:=lJi.mp hk;rfl
theorem kZe:∀ps qs:List (Nat×Nat),(L3.lexLt (ltS ltI) (ps.map λp=>(Sum.inr [Sum.inl (p.1:Int),Sum.inl (p.2:Int)]:L2.K1)) (qs.map λp=>Sum.inr [Sum.inl (p.1:Int),Sum.inl (p.2:Int)])).isSome=true
 | [],[]=>rfl
 | [],_::_=>rfl
 | _::_,[]=>rfl
 | p::ps,q::qs=>by
  rw[lJq,lJq];unfold L3.lexLt;split
  .exact kZe ps qs
  .show (L3.lexLt ltI [Sum.inl (p.1:Int),Sum.inl (p.2:Int)] [Sum.inl (q.1:Int),Sum.inl (q.2:Int)]).isSome=true
   unfold L3.lexLt;split
   .unfold L3.lexLt;split
    .rfl
    .rfl
   .rfl
theorem uU4(x y:Row):(ltK (rowK x) (rowK y)).isSome=true:=by
 unfold ltK rowK L3.lexLt;split
 .unfold L3.lexLt;split
  .rfl
  .exact kZe x.2 y.2
 .rfl
theorem uKv{x y:Row}(h:rowK x=rowK y):x=y:=by
 obtain⟨a,ps⟩:=x;obtain⟨b,qs⟩:=y;unfold rowK at h;simp only[lVa,Sum.inl.injEq,Sum.inr.injEq,lXm] at h
 have e1:a=b:=by
  have:=h.1;exact lX3 this
 subst e1
 have:∀ps qs:List (Nat×Nat),(ps.map λp=>(Sum.inr [Sum.inl (p.1:Int),Sum.inl (p.2:Int)]:L2.K1))=(qs.map λp=>Sum.inr [Sum.inl (p.1:Int),Sum.inl (p.2:Int)])->ps=qs:=by
  intro ps
  induction ps with
  | nil=>intro qs e;cases qs with | nil=>rfl | cons _ _=>cases e
  | cons p ps ih=>
   intro qs e;cases qs with
   | nil=>cases e
   | cons q qs=>
    rw[lJq,lJq,lVa] at e;have e1:=e.1;simp only[Sum.inr.injEq,lVa,Sum.inl.injEq,lXm] at e1;rw[ih qs e.2];have h1:p.1=q.1:=lX3 e1.1;have h2:p.2=q.2:=lX3 e1.2;rw[Prod.ext h1 h2]
 rw[this ps qs h.2]
def lnB(n:Nat):Web:=(List.range n).map λr=>if r=0 then [(1,0)] else (r-1,if r>1 then 1 else 0)::if r<n-1 then [(r+1,0)] else []
theorem jXd{n:Nat}:(lnB n).length=n:=by simp[lnB]
theorem kJf{n r:Nat}(h:r<n):(lnB n)[r]? =some (if r=0 then [(1,0)] else (r-1,if r>1 then 1 else 0)::if r<n-1 then [(r+1,0)] else []):=by simp[lnB,h]
theorem uQg{n:Nat}(h:2<=n):en (lnB n) 0 0=some (1,0):=jKu (kJf (show 0<n by omega)) (by simp)
theorem kX8{n r:Nat}(h:r<n)(h1:1<=r):en (lnB n) r 0=some (r-1,if r>1 then 1 else 0):=jKu (kJf h) (by rw[lJb (by omega)];rfl)
theorem uQf{n r:Nat}(h:r<n-1)(h1:1<=r):en (lnB n) r 1=some (r+1,0):=jKu (kJf (show r<n by omega)) (by rw[lJb (by omega),lJc h];rfl)
theorem uXn{n r i s j:Nat}(h:en (lnB n) r i=some (s,j)):(r=0/\i=0/\s=1/\j=0)\/(1<=r/\i=0/\s=r-1/\j=(if r>1 then 1 else 0))\/(1<=r/\r<n-1/\i=1/\s=r+1/\j=0):=by
 have hr:=kJo h;rw[jXd] at hr;obtain⟨es,h1,h2⟩:=jKo h;rw[kJf hr] at h1
 by_cases h0:r=0
 .rw[lJc h0] at h1;cases h1;have hi:=(lJe.mp h2).1;simp at hi;subst hi;cases h2;exact .inl ⟨h0,rfl,rfl,rfl⟩
 .rw[lJb h0] at h1
  by_cases hl:r<n-1
  .rw[lJc hl] at h1;cases h1
   match i,h2 with
   | 0,h2=>cases h2;exact .inr (.inl ⟨by omega,rfl,rfl,rfl⟩)
   | 1,h2=>cases h2;exact .inr (.inr ⟨by omega,hl,rfl,rfl,rfl⟩)
   | _+2,h2=>simp at h2
  .rw[lJb hl] at h1;cases h1
   match i,h2 with
   | 0,h2=>cases h2;exact .inr (.inl ⟨by omega,rfl,rfl,rfl⟩)
   | _+1,h2=>simp at h2
theorem uV8{n:Nat}(hn:2<=n):WebOk n 2 (lnB n) where
 len:=jXd
 sym:=by
  intro r i s j h;have hr:=kJo h;rw[jXd] at hr
  rcases uXn h with ⟨rfl,rfl,rfl,rfl⟩ | ⟨h1,rfl,rfl,rfl⟩ | ⟨h1,h2,rfl,rfl,rfl⟩
  .exact kX8 (by omega) (lJh _)
  .by_cases h2:r>1
   .rw[lJc h2,uQf (by omega) (by omega)];congr 2;omega
   .have:r=1:=by omega
    subst this;exact uQg hn
  .rw[kX8 (by omega) (by omega),lJc (by omega)];rfl
 deg:=λr es h=>by
  have hr:r<n:=by have:=(lJe.mp h).1;rwa [jXd] at this
  rw[kJf hr] at h;cases h;split
  .simp
  .rw[lJ7];have:(if r<n-1 then [(r+1,0)] else ([]:List (Nat×Nat))).length<=1:=by split<;>simp
   omega
 low:=λr h1 h2=>⟨0,r-1,_,kX8 h2 h1,by omega⟩
def sm(f:Nat->Nat):Nat->Nat
 | 0=>0
 | n+1=>sm f n+f n
theorem uJj{f:Nat->Nat}:∀n,((List.range n).map λr=>((f r:Nat):Int)).sum=(sm f n:Nat)
 | 0=>rfl
 | n+1=>by rw[lKr,lKe,List.sum_append,uJj n,sm];simp
theorem uUy{f g:Nat->Nat}:∀n,(∀r,r<n->f r<=g r)->sm f n<=sm g n
 | 0,_=>lJh _
 | n+1,h=>by
  have:=uUy n λr hr=>h r (by omega)
  have:=h n (by omega)
  unfold sm;omega
theorem uUx{f g:Nat->Nat}:∀n,(∀r,r<n->f r<=g r)->∀a,a<n->f a<g a->sm f n<sm g n
 | 0,_,a,ha,_=>absurd ha (lKd _)
 | n+1,h,a,ha,hlt=>by
  have h1:=h n (by omega)
  unfold sm
  by_cases e:a=n
  .subst e;have:=uUy a λr hr=>h r (by omega)
   omega
  .have:=uUx n (λr hr=>h r (by omega)) a (by omega) hlt
   omega
theorem uJi{f:Nat->Nat}:∀n,0<sm f n->∃r,r<n/\0<f r
 | 0,h=>absurd h (lKx _)
 | n+1,h=>by
  have h:0<sm f n+f n:=h
  by_cases e:0<f n
  .exact⟨n,lX1 _,e⟩
  .obtain⟨r,h1,h2⟩:=uJi (f:=f) n (by omega)
   exact⟨r,by omega,h2⟩
theorem kY6{f:Nat->Nat}{d:Nat}:∀n,(∀r,r<n->f r<=d)->sm f n<=n*d
 | 0,_=>lJx _
 | n+1,h=>by
  have:=kY6 n λr hr=>h r (by omega)
  have:=h n (by omega)
  unfold sm;rw[lQx];omega
abbrev Plan:=List (Option Nat)
def nxM(W:Web)(r:Nat)(m:Option Nat):Nat:=match m with
 | none=>r
 | some i=>((en W r i).map Prod.fst).getD 0
def atM(W:Web)(r:Nat)(ms:Plan)(k:Nat):Nat:=(ms.take k).foldl (nxM W) r
theorem jQl{W:Web}{r k:Nat}{ms:Plan}{m:Option Nat}(h:ms[k]? =some m):atM W r ms (k+1)=nxM W (atM W r ms k) m:=by
 unfold atM;rw[lQh,h,lXg];rfl
def PosM(W:Web)(r:Nat)(ms:Plan):Prop:=∀k i,ms[k]? =some (some i)->∃e,en W (atM W r ms k) i=some e
theorem jY3{W:Web}(f:Fine W){r:Nat}{ms:Plan}(h:PosM W r ms)(hr:r<W.length):∀k,k<=ms.length->atM W r ms k<W.length
 | 0,_=>hr
 | k+1,hk=>by
  have e:ms[k]? =some ms[k]:=lJf (by omega)
  rw[jQl e];cases q:ms[k] with
  | none=>exact jY3 f h hr k (by omega)
  | some i=>
   rw[q] at e;obtain⟨p,hp⟩:=h k i e;show ((en W _ i).map Prod.fst).getD 0<_
   rw[hp];exact f.rng _ _ _ _ hp
theorem kQ2{W:Web}(f:Fine W){a b:Nat}{ms:Plan}(ha:a<W.length)(hb:b<W.length)(e:(mk W)[a]? =(mk W)[b]?)(h:PosM W a ms):PosM W b ms:=by
 have key:∀k,k<=ms.length->atM W b ms k<W.length/\(mk W)[atM W a ms k]? =(mk W)[atM W b ms k]? :=by
  intro k
  induction k with
  | zero=>exact λ_=>⟨hb,e⟩
  | succ k ih=>
   intro hk;obtain⟨i1,i2⟩:=ih (by omega)
   have hm:ms[k]? =some ms[k]:=lJf (by omega)
   rw[jQl hm,jQl hm];cases q:ms[k] with
   | none=>exact⟨i1,i2⟩
   | some i=>
    rw[q] at hm;obtain⟨p,hp⟩:=h k i hm;obtain⟨s,s1,s2⟩:=jXf f (jY3 f h ha k (by omega)) i1 i2 (s:=p.1) (j:=p.2) hp
    show ((en W _ i).map Prod.fst).getD 0<_/\(mk W)[((en W _ i).map Prod.fst).getD 0]? =(mk W)[((en W _ i).map Prod.fst).getD 0]?
    rw[hp,s1];exact⟨f.rng _ _ _ _ s1,s2.symm⟩
 intro k i hk;have hkl:=(lJe.mp hk).1;obtain⟨p,hp⟩:=h k i hk;obtain⟨i1,i2⟩:=key k (by omega)
 obtain⟨s,s1,_⟩:=jXf f (jY3 f h ha k (by omega)) i1 i2 (s:=p.1) (j:=p.2) hp
 exact⟨_,s1⟩
def metM(W:Web)(a b:Nat)(p q:Plan)(L:Nat):Option Nat:=(List.range (L+1)).find? λk=>atM W a p k == atM W b q k
theorem kQ9{W:Web}{a b L:Nat}{p q:Plan}(h:∀j,j<=L->atM W a p j≠atM W b q j):metM W a b p q L=none:=by
 unfold metM;rw[lXy];intro x hx;have:=h x (by have:=lJw.mp hx;omega)
 simpa using this
theorem uV5{W:Web}{a b L k:Nat}{p q:Plan}(hk:k<=L)(h:∀j,j<k->atM W a p j≠atM W b q j)(e:atM W a p k=atM W b q k):metM W a b p q L=some k:=by
 unfold metM;rw[List.find?_range_eq_some];exact⟨by simpa using e,by simp;omega,λj hj=>by simpa using h j hj⟩
theorem kQ1{W:Web}{r:Nat}{ms:Plan}{m:Option Nat}(h:PosM W r ms)(hm:∀i,m=some i->∃e,en W (atM W r ms ms.length) i=some e):PosM W r (ms++[m])/\∀k,k<=ms.length->atM W r (ms++[m]) k=atM W r ms k:=by
 have key:∀k,k<=ms.length->atM W r (ms++[m]) k=atM W r ms k:=λk hk=>by
  unfold atM;rw[mJe hk]
 refine⟨λk i hk=> ?_,key⟩
 have hkl:=(lJe.mp hk).1;rw[lJv,lQw] at hkl;rw[key k (by omega)]
 by_cases hlt:k<ms.length
 .rw[lJ9 hlt] at hk;exact h k i hk
 .have:k=ms.length:=by omega
  subst this;rw[lQe (lJh _),Nat.sub_self] at hk;exact hm i (lJ3 hk)
def optT:Option Nat->T
 | none=> .non
 | some k=> .int (k:Nat)
def encP(p:Plan):T:= .tup (p.map optT)
def jXk:Sp3:=λxs G Q=>∃n:Nat,xs=[.int n]/\2<=n/\n<=1000/\∀G',Sub G G'->Q (encW (lnB n)) G'
def uJa:List Str:=["_law_many","_law_made","_law_room","_law_ends_here"]
noncomputable def jZ4:TS3:=
 (tSeq (tAsg (tLst (jJc (tTup (jJc (tTup (jJc tI1 (jJc tI0 tNil))) tNil)) tNil)) D1)
 (tSeq (tFor (kVn (jJc tI1 C0)) D2 (tSeq (tAsg (tLst (jJc (tTup (jJc (tOp rSub B2 tI1) (jJc (tCB kKp (jJc (tOp rGt B2 tI1) tNil)) tNil))) (jJc (tTup (jJc (tOp jJ7 B2 tI1) (jJc tI0 tNil))) tNil))) D3)
 (jQg (tBM "list" jJ5 B1 (jJc (tCB jJ6 (jJc (tSl rSlF B3 jZr (kV8 (tOp jJ7 tI1 (tCB kKp (jJc (tOp rLt B2 (tOp rSub B0 tI1)) tNil))))) tNil)) tNil)))))
 (tRet (tCB jJ6 C1))))
theorem kXl:RdOk jXk jZ4 uJa:=by
 intro xs G Q h_;apply xe1 h_;clear h_;intro n;refine ae3 ?_;intro hn1 hn kk;show jZ4 _ [some (.int n),none,none,none] G
 have hs:=sz
 exists jZ4,jJt,kVn
 refine⟨by omega,by omega,by omega,λp hp=>⟨by omega,by omega,by omega,by omega,?_⟩⟩
 rw[show ((n:Int)-1).toNat=n-1 by omega,show rngT 1 (n-1)=rngT ((1:Nat):Int) (n-1) from rfl,jZy]
 let J1:Nat->St3->Gp->Prop:=λk τ G'=>∃(v2 v3:Option T),τ=[some (.int n),some (.ref p),v2,v3]/\G' p=some (.lst (((lnB n).take (k+1)).map encR))/\Sub G G'
 refine⟨J1,?_,?_,?_,?_⟩
 .refine xi2 none none rfl ⟨?_,.new hp⟩;rw[jJh,lQh,List.take_zero,kJf (show 0<n by omega)];rfl
 .intros;trivial
 .intro k x τ G1 hx0 h_;apply xe2 h_;clear h_;intro v2 v3;refine ae2 ?_;intro i1 i2;obtain⟨e,hx,rfl⟩:=jKd hx0
  obtain⟨hk,rfl⟩:k<n-1/\k=e:=by
   rw[lJe] at hx;obtain⟨q1,q2⟩:=hx;simp at q1 q2;exact⟨q1,q2⟩
  exists tSl,rSlF,slR,jZr,kV8,jJh
  refine⟨by omega,by omega,by omega,λq hq=> ?_⟩
  have hpq:=jJf i1 hq
  generalize hL:[T.tup [T.int (((1+k:Nat):Int)-1),T.int (if 1<((1+k:Nat):Int) then 1 else 0)],T.tup [T.int (((1+k:Nat):Int)+1),T.int 0]]=L
  have i1':gup G1 q (GO.lst L) p=some (GO.lst (((lnB n).take (k+1)).map encR)):=by rw[jJm hpq];exact i1
  refine⟨by rw[jJ4 i1'];trivial,?_⟩
  have e1:(if 1<((1+k:Nat):Int) then (1:Int) else 0)=((if 1+k>1 then 1 else 0:Nat):Int):=by
   split<;>split<;>omega
  have e2:(1+if ((1+k:Nat):Int)<(n:Int)-1 then 1 else 0:Int)=((if 1+k<n-1 then 2 else 1:Nat):Int):=by
   split<;>split<;>omega
  have e3:(((1+k:Nat):Int)-1)=((1+k-1:Nat):Int):=by omega
  have e4:(((1+k:Nat):Int)+1)=((1+k+1:Nat):Int):=by omega
  have hcut:cutT L none (some (1+if ((1+k:Nat):Int)<(n:Int)-1 then 1 else 0))=((1+k-1,if 1+k>1 then 1 else 0)::if 1+k<n-1 then [(1+k+1,0)] else []).map encE:=by
   rw[<-hL,e1,e2,e3,e4]
   generalize (if 1+k>1 then 1 else 0)=j
   by_cases h1:1+k<n-1
   .rw[lJc h1,lJc h1];rfl
   .rw[lJb h1,lJb h1];rfl
  rw[hcut];intro q2 hq2;obtain⟨hqq,hq20⟩:=jKf hq2;have hpq2:=jJf i1' hq2;refine⟨_,by rw[jJm hpq2];exact i1',by rw[lJg,lQ6,jXd];omega,xi2 _ _ rfl ⟨?_,(((i2.trans (.new hq)).trans (.new hq2)).over hp)⟩⟩
  rw[jJh,lQh (i:=k+1),kJf (show k+1<n by omega),lKe,show k+1=1+k by omega,lJb (show ¬ 1+k=0 by omega)]
  rfl
 .intro τ G1 h_;apply xe2 h_;clear h_;intro v2 v3;refine ae2 ?_;intro i1 i2;rw[lJg,lKq,lZb (by rw[jXd];omega)] at i1
  exists tSeq
  exact⟨_,jJn i1,kk G1 i2⟩
theorem uY3{E:Ends3}{G2:Gp}{u:Addr}{n:Nat}{f:Nat->Nat}{es:List Nat}{stay:Gp->Prop}{w0 w1 w2 w4 w5 w6 w7 w8 w9 w10:Option T}(hu:G2 u=some (.lst (jKl n f)))(hst:∀G',(∀c,c≠u->G' c=G2 c)->stay G')(hes:∀e,e∈es->e<n)(hc:∀r,es.count r<=f r)
  (kk:∀G' v7,G' u=some (.lst (jKl n λr=>f r-es.count r))->(∀c,c≠u->G' c=G2 c)->E.nx [w0,w1,w2,some (.ref u),w4,w5,w6,v7,w8,w9,w10] G'):
  uJd D7 (tAsg (tOp (rI0 λi j=>T.int (i-j)) (tOp rIxF B3 B7) tI1) (gSub B3 B7 jQh)) E [w0,w1,w2,some (.ref u),w4,w5,w6,w7,w8,w9,w10] (es.map λe=>T.int (e:Nat)) stay G2:=by
 refine⟨λj τ G'=>∃v7,τ=[w0,w1,w2,some (.ref u),w4,w5,w6,v7,w8,w9,w10]/\G' u=some (.lst (jKl n λr=>f r-(es.take j).count r))/\(∀c,c≠u->G' c=G2 c),?_,?_,?_,?_⟩
 .exact⟨w7,rfl,by simpa using hu,λ_ _=>rfl⟩
 .intro j τ G' hj h_;apply xe1 h_;clear h_;intro v7;refine ae2 ?_;intro h1 h2;exact hst G' h2
 .intro j x τ G' hx0 h_;apply xe1 h_;clear h_;intro v7;refine ae2 ?_;intro h1 h2;obtain⟨e,hx,rfl⟩:=jKd hx0;have he:=hes e (lJk hx);have hix:L2.ixN (jKl n λr=>f r-(es.take j).count r).length (e:Int)=some e:=kJi (by rw[jXh];exact he)
  have tk:∀r,(es.take (j+1)).count r=(es.take j).count r+if r=e then 1 else 0:=λr=>by
   rw[lQh,hx,Option.toList_some,List.count_append]
   by_cases hr:r=e
   .subst hr;simp
   .have:¬ e=r:=λz=>hr z.symm
    simp[hr,this]
  have le:(es.take (j+1)).count e<=f e:=lKc ((lY7 _ _).count_le e) (hc e);rw[tk e,lJc rfl] at le
  exists jJy h1,jQz he,jUa h1 hix
  refine⟨?_,λc hc=>by rw[jJm hc];exact h2 c hc⟩
  rw[show T.int (((f e-(es.take j).count e:Nat):Int)-1)=T.int ((f e-((es.take j).count e+1):Nat):Int) by congr 1;omega,jXg]
  congr 1
  funext r
  rw[tk r]
  by_cases hr:r=e
  .subst hr;simp
  .simp[hr]
 .intro τ G' h_;apply xe1 h_;clear h_;intro v7;refine ae2 ?_;intro h1 h2;rw[lJg,lQz] at h1;exact kk G' v7 h1 h2
theorem qXw{n d:Nat}:(List.replicate n [T.int (d:Nat)]).flatten=jKl n λ_=>d:=by
 have:(List.replicate n [T.int (d:Nat)]).flatten=List.replicate n (T.int (d:Nat)):=by
  induction n with
  | zero=>rfl
  | succ n ih=>rw[lK2,lQv,ih];rfl
 rw[this];apply lKh;intro i
 by_cases h:i<n
 .simp[jKl,h]
 .rw[lJy (by simp;omega),lJy (by simp[jKl];omega)]
theorem jYq{f:Nat->Nat}{l:List Nat}:l.filterMap (λr=>if 0<f r then some (T.int (r:Nat)) else none)=(l.filter λr=>decide (0<f r)).map λr=>T.int (r:Nat):=by
 induction l with
 | nil=>rfl
 | cons a as ih=>
  rw[lQ4,lXf]
  by_cases h:0<f a<;>simp[h,ih]
noncomputable def jXl:Sp3:=λxs G Q=>∃(b:Addr)(n d m:Nat),xs=[.ref b,.int n,.int d]/\BoxAt G b m/\m+600<2^40/\1<=n/\n<=24/\2<=d/\d<=6/\∀W G',WebOk n d W->BoxAt G' b (m+600)->Keep b G G'->Q (encW W) G'
def uJb:List Str:=["_law_box_here","_law_many","_law_doors","_law_left","_law_pairs","_law_room","_law_free","_law_end","_law_one","_law_some","_law_other"]
noncomputable def jZ5:TS3:=
 (tSeq (tAsg (tOp jQv (tLst C2) B1) D3)
 (tSeq (tAsg (tLst tNil) D4)
 (tSeq (tFor (kVn (jJc tI1 C1)) D5 (tSeq (tAsg (jQb [fF,fF,fF,fF,fF,fF,fF,fF,tT,fF,fF] (jJ1 C5) D8 (jJx (tOp rGt (tOp rIxF B3 B8) tI0)) B8) D6)
 (tSeq (jQg (tBM "list" jJ5 B4 (jJc (tTup (jJc (tOp rIxF B6 (jJs jJp (jJc B0 (jJc (tCB rLen C6) tNil)))) C5)) tNil)))
 (tFor (iSeq (tOp rIxF B4 (tUn rNeg tI1))) D7 (tAsg (tOp rSub (tOp rIxF B3 B7) tI1) (gSub B3 B7 jQh))))))
 (tSeq (jUz (jJx (tOp rGt (tCB qX1 C3) tI0)) (tSeq (tAsg (tOp rIxF (jQb [fF,fF,fF,fF,fF,tT,fF,fF,fF,fF,fF] (jJ1 C1) D5 (jJx (tOp rGt (tOp rIxF B3 B5) tI0)) B5) tI0) D8)
 (tSeq (tAsg (tOp rSub (tOp rIxF B3 B8) tI1) (gSub B3 B8 jQh))
 (tSeq (tAsg (tOp jJ7 (jQb [fF,fF,fF,fF,fF,tT,fF,fF,fF,fF,fF] (jJ1 C1) D5 (jJx (tOp rGt (tOp rIxF B3 B5) tI0)) B5) (tLst C1)) D9)
 (tSeq (tAsg (tOp rIxF B9 (jJs jJp (jJc B0 (jJc (tCB rLen C9) tNil)))) D10)
 (tSeq (jQg (tBM "list" jJ5 B4 (jJc (tTup (jJc B8 C10)) tNil)))
 (tIfS (jJx (tOp rLt B10 B1)) (tAsg (tOp rSub (tOp rIxF B3 B10) tI1) (gSub B3 B10 jQh)) jKm)))))))
 (tRet (jJs jK2 (jJc B0 (jJc B4 C1))))))))
noncomputable def uJn:TS3:=(tIfS (jJx (tOp rLt B10 B1)) (tAsg (tOp rSub (tOp rIxF B3 B10) tI1) (gSub B3 B10 jQh)) jKm)
noncomputable def uJo:TS3:=tSeq (jQg (tBM "list" jJ5 B4 (jJc (tTup (jJc B8 C10)) tNil))) uJn
noncomputable def uJp:TS3:=tSeq (tAsg (tOp rIxF B9 (jJs jJp (jJc B0 (jJc (tCB rLen C9) tNil)))) D10) uJo
noncomputable def uJq:TS3:=tSeq (tAsg (tOp jJ7 (jQb [fF,fF,fF,fF,fF,tT,fF,fF,fF,fF,fF] (jJ1 C1) D5 (jJx (tOp rGt (tOp rIxF B3 B5) tI0)) B5) (tLst C1)) D9) uJp
noncomputable def uJr:TS3:=tSeq (tAsg (tOp rSub (tOp rIxF B3 B8) tI1) (gSub B3 B8 jQh)) uJq
theorem qJz:jZ5=tSeq (tAsg (tOp jQv (tLst C2) B1) D3) (tSeq (tAsg (tLst tNil) D4) (tSeq (tFor (kVn (jJc tI1 C1)) D5 (tSeq (tAsg (jQb [fF,fF,fF,fF,fF,fF,fF,fF,tT,fF,fF] (jJ1 C5) D8 (jJx (tOp rGt (tOp rIxF B3 B8) tI0)) B8) D6)
 (tSeq (jQg (tBM "list" jJ5 B4 (jJc (tTup (jJc (tOp rIxF B6 (jJs jJp (jJc B0 (jJc (tCB rLen C6) tNil)))) C5)) tNil)))
 (tFor (iSeq (tOp rIxF B4 (tUn rNeg tI1))) D7 (tAsg (tOp rSub (tOp rIxF B3 B7) tI1) (gSub B3 B7 jQh)))))) (tSeq (jUz (jJx (tOp rGt (tCB qX1 C3) tI0)) (tSeq (tAsg (tOp rIxF (jQb [fF,fF,fF,fF,fF,tT,fF,fF,fF,fF,fF] (jJ1 C1) D5 (jJx (tOp rGt (tOp rIxF B3 B5) tI0)) B5) tI0) D8) uJr)) (tRet (jJs jK2 (jJc B0 (jJc B4 C1))))))):=rfl
theorem kXm:RdOk jXl jZ5 uJb:=by
 intro xs G Q h_;apply xe4 h_;clear h_;intro b n d m;refine ae7 ?_;intro hb hm hn1 hn2 hd1 hd2 kk;show jZ5 _ [some (.ref b),some (.int n),some (.int d),none,none,none,none,none,none,none,none] G
 have hs:=sz;rw[qJz]
 exists jJt,jJ1,kVn
 refine⟨by omega,λz hz=> ?_⟩
 have e1:mulR (gup G z (GO.lst [T.int (d:Nat)])) (.ref z) (.int n)=some (.newL (jKl n λ_=>d)):=by
  rw[<-qXw];simp only[mulR,jJh];rw[lJc];congr;refine⟨?_,?_,?_⟩<;>simp<;>omega
 exists e1
 intro u hu;obtain⟨huz,hu0⟩:=jKf hu;refine⟨lJx _,λpr hpr=> ?_⟩
 obtain⟨hpu,hpr1⟩:=jKf hpr;obtain⟨hpz,hpr0⟩:=jKf hpr1;obtain⟨bo,hbo⟩:=hb.some;have hbu:=jJf hbo hu0;have hbp:=jJf hbo hpr0;have hbz:=jJf hbo hz;refine⟨by omega,by omega,by omega,by omega,?_⟩
 rw[show ((n:Int)-1).toNat=n-1 by omega,show rngT 1 (n-1)=rngT ((1:Nat):Int) (n-1) from rfl,jZy]
 let J1:Nat->St3->Gp->Prop:=λk τ G'=>∃(v5 v6 v7:Option T)(P:List (Nat×Nat)),τ=[some (.ref b),some (.int n),some (.int d),some (.ref u),some (.ref pr),v5,v6,v7,none,none,none]/\P.length=k/\POk P n d (k+1)/\(∀p,p∈P->p.1<k+1/\p.2<k+1)/\G' u=some (.lst (jKl n λr=>d-dgr P n r))/\G' pr=some (.lst (P.map encE))/\BoxAt G' b (m+k)/\Keep b G G'
 refine⟨J1,?_,?_,?_,?_⟩
 .refine xi4 none none none [] rfl ⟨rfl,⟨by intro p h;simp at h,λr _=>by simp[dgr,hvs],λr h1 h2=>by omega⟩,by intro p h;simp at h,by rw[jJm hpu.symm,jJh];rfl,jJh,((hb.gup hbz).gup hbu).gup hbp,(((Keep.new hz).over hu0).over hpr0)⟩
 .intros;trivial
 .intro k x τ G1 hx0 h_;apply xe4 h_;clear h_;intro v5 v6 v7 P;refine ae7 ?_;intro hPl hP hlt hgu hgp hbx hkp;obtain⟨e,hx,rfl⟩:=jKd hx0
  obtain⟨hk,rfl⟩:k<n-1/\k=e:=by
   rw[lJe] at hx;obtain⟨q1,q2⟩:=hx;simp at q1 q2;exact⟨q1,q2⟩
  exists iSeq,jJ1,jJt
  refine⟨by omega,by omega,?_⟩
  rw[show (((1+k:Nat)):Int).toNat=1+k by omega,jUb]
  refine jVt (λr=>if 0<d-dgr P n r then some (T.int (r:Nat)) else none) (by simp;omega) (λ_ _=>trivial) ?_ ?_
  .intro i r hr G2 K K0 s2 hK hK0
   obtain⟨hr1,rfl⟩:i<1+k/\i=r:=by
    rw[lJe] at hr;obtain⟨q1,q2⟩:=hr;simp at q1 q2;exact⟨q1,q2⟩
   exists jJy (s2 _ _ hgu),jQz (show i<n by omega)
   by_cases hdg:0<d-dgr P n i
   .rw[lJc (by omega)]
    exact hK _ _ (by rw[lJc hdg]) (.refl _)
   .rw[lJb (by omega)]
    exact hK0 (by rw[lJb hdg]) _ (.refl _)
  .intro fr G2 hfr hfr2 s2;rw[jYq (f:=λr=>d-dgr P n r)] at hfr2
   have hF2:∀r,r∈(List.range (1+k)).filter (λr=>decide (0<d-dgr P n r))↔r<1+k/\dgr P n r<d:=λr=>by
    rw[lQs,lJw,lK7];omega
   have hFl:((List.range (1+k)).filter λr=>decide (0<d-dgr P n r)).length<=1+k:=by have:=lVx (λr=>decide (0<d-dgr P n r)) (List.range (1+k));rw[lKq] at this;exact this
   generalize (List.range (1+k)).filter (λr=>decide (0<d-dgr P n r))=F at hfr2 hF2 hFl
   have hF0:1<=F.length:=by
    obtain⟨r,q1,q2⟩:=kVo (P:=P) (n:=n) (d:=d) (k:=1+k) hd1 (by omega)
    exact lYq ((hF2 r).mpr ⟨q1,q2⟩)
   have hgp2:=s2 _ _ hgp
   exists jJ4 hgp2,jJn hfr2,List.length_map
   refine⟨b,_,m+k,rfl,hbx.sub s2,by omega,by omega,by omega,λc G3 c0 c1 bx kp=> ?_⟩
   have hfb:fr≠b:=by rintro rfl;obtain⟨o,ho⟩:=hbx.some;rw[ho] at hfr;cases hfr
   have hcF:c.toNat<F.length:=by omega
   have hca:L2.atI (F.map λr=>T.int (r:Nat)) c=some (.int (F[c.toNat]:Nat)):=by rw[atZ c0];simp[hcF]
   have hmem:F[c.toNat]∈F:=lVl hcF
   generalize F[c.toNat]=a at hca hmem
   obtain⟨ha1,ha2⟩:=(hF2 a).mp hmem;have hgp3:=kp _ _ hbp.symm hgp2;have hgu3:=kp _ _ hbu.symm (s2 _ _ hgu)
   exists jJy (kp _ _ hfb hfr2),hca,hgp3
   refine⟨by omega,by simp;omega,_,kYs,[T.int (a:Nat),T.int ((1+k:Nat):Int)],rfl,?_⟩
   have hne:u≠pr:=hpu.symm;have hE:jKp n (a,1+k)=[a,1+k]:=by unfold jKp;rw[lJb (show ¬ (1+k)=n by omega)]
   have hz1:=qJb (n:=n) (r:=1+k) hlt (by omega)
   have hcnt:∀r,[a,1+k].count r=if r=a then 1 else if r=1+k then 1 else 0:=λr=>by
    by_cases h1:r=a
    .subst h1;have:¬ 1+k=r:=by omega
     simp[this]
    .have h1':¬ a=r:=λz=>h1 z.symm
     by_cases h2:r=1+k
     .subst h2;simp[h1,h1']
     .have h2':¬ 1+k=r:=λz=>h2 z.symm
      simp[h1,h1',h2,h2']
   refine uY3 (es:=[a,1+k]) (n:=n) (f:=λr=>d-dgr P n r) (by rw[jJm hne];exact hgu3) (λ_ _=>rfl) (by simp;omega) (λr=> ?_) ?_
   .rw[hcnt r];split
    .rename_i h1;subst h1;omega
    .split
     .rename_i h1;subst h1;omega
     .omega
   intro G4 v7 hu4 hk4
   have hlt':∀p,p∈P++[(a,1+k)]->p.1<k+1+1/\p.2<k+1+1:=by
    intro p hp;rw[lKb,lJ0] at hp
    rcases hp with hp | rfl
    .have:=hlt p hp;omega
    .exact⟨by show a<_;omega,by show 1+k<_;omega⟩
   refine xi4 _ _ _ (P++[(a,1+k)]) rfl ⟨by simp[hPl],⟨?_,?_,?_⟩,hlt',?_,?_,?_,?_⟩
   .intro p hp;have:=hlt' p hp;omega
   .intro r hr;rw[jK5,hE,hcnt r];have h0:=hP.deg r hr;split
    .rename_i h1;subst h1;omega
    .split
     .rename_i h1;subst h1;omega
     .omega
   .intro r h1 h2
    by_cases h3:r<k+1
    .obtain⟨p,q1,q2⟩:=hP.low r h1 h3;exact⟨p,lK1 _ q1,q2⟩
    .exact⟨(a,1+k),by simp,by show 1+k=r;omega,by show a<r;omega⟩
   .rw[hu4,show (λr=>d-dgr P n r-List.count r [a,1+k])=λr=>d-dgr (P++[(a,1+k)]) n r from funext λr=>by rw[jK5,hE];omega]
   .rw[hk4 pr hpu,jJh];simp[encE]
   .obtain⟨x,y,w,z1,z2⟩:=bx;exact⟨x,y,w,by rw[hk4 b hbu,jJm hbp];exact z1,z2⟩
   .intro c o hc he;have hcu:=jJf he hu0;have hcp:=jJf he hpr0;rw[hk4 c hcu,jJm hcp];exact kp _ _ hc (s2 _ _ (hkp _ _ hc he))
 .intro τ G1 h_;apply xe4 h_;clear h_;intro v5 v6 v7 P;refine ae7 ?_;intro hPl hP hlt hgu hgp hbx hkp;rw[lJg,lKq] at hPl hP hbx;rw[show n-1+1=n by omega] at hP
  exists jUz,jJ1
  let Wh:Nat->St3->Gp->Prop:=λμ τ G'=>∃(v5 v6 v7 v8 v9 v10:Option T)(P:List (Nat×Nat)),τ=[some (.ref b),some (.int n),some (.int d),some (.ref u),some (.ref pr),v5,v6,v7,v8,v9,v10]/\μ=sm (λr=>d-dgr P n r) n/\P.length+μ<=n+n*d/\POk P n d n/\G' u=some (.lst (jKl n λr=>d-dgr P n r))/\G' pr=some (.lst (P.map encE))/\BoxAt G' b (m+P.length)/\Keep b G G'
  have hnd:n*d<=24*6:=lXi hn2 hd2;refine⟨Wh,⟨_,_,_,_,_,_,_,P,rfl,rfl,?_,hP,hgu,hgp,by rw[hPl];exact hbx,hkp⟩,?_⟩
  .have:=kY6 (f:=λr=>d-dgr P n r) (d:=d) n (λr _=>by omega)
   omega
  clear hgu hgp hbx hkp hPl hP hlt;intro μ τ G2 h_;apply xe7 h_;clear h_;intro v5 v6 v7 v8 v9 v10 P;refine ae7 ?_;intro hμ hPl hP hgu hgp hbx hkp
  exists qX1
  have hsum:jKl n (λr=>d-dgr P n r)=((List.range n).map λr=>((d-dgr P n r:Nat):Int)).map T.int:=by unfold jKl;rw[lJr];rfl
  refine⟨_,by rw[hgu,hsum],?_⟩
  rw[uJj,<-hμ]
  by_cases hpos:0<μ
  .rw[lJc (by omega)]
   let Nx:St3->Gp->Prop:=λτ' G'=>∃ μ',μ'<μ/\Wh μ' τ' G'
   refine⟨Nx,λτ' G' h=>h,?_⟩
   refine⟨by omega,by omega,?_⟩
   rw[show ((n:Nat):Int).toNat=n by omega,jUb]
   refine jVt (λr=>if 0<d-dgr P n r then some (T.int (r:Nat)) else none) (by simp;omega) (λ_ _=>trivial) ?_ ?_
   .intro i r hr G3 K K0 s2 hK hK0
    obtain⟨hr1,rfl⟩:i<n/\i=r:=by
     rw[lJe] at hr;obtain⟨q1,q2⟩:=hr;simp at q1 q2;exact⟨q1,q2⟩
    exists jJy (s2 _ _ hgu),jQz hr1
    by_cases hdg:0<d-dgr P n i
    .rw[lJc (by omega)]
     exact hK _ _ (by rw[lJc hdg]) (.refl _)
    .rw[lJb (by omega)]
     exact hK0 (by rw[lJb hdg]) _ (.refl _)
   intro fr G3 hfr hfr3 s3;rw[jYq (f:=λr=>d-dgr P n r)] at hfr3
   obtain⟨r0,hr0,hr0'⟩:=uJi n (show 0<sm (λr=>d-dgr P n r) n by rw[<-hμ];exact hpos)
   have hF1:∀r,r∈(List.range n).filter (λr=>decide (0<d-dgr P n r))↔r<n/\0<d-dgr P n r:=λr=>by
    rw[lQs,lJw,lK7]
   generalize (List.range n).filter (λr=>decide (0<d-dgr P n r))=F1 at hfr3 hF1
   have hF0:0<F1.length:=lYq ((hF1 r0).mpr ⟨hr0,hr0'⟩);obtain⟨ha,ha'⟩:=(hF1 F1[0]).mp (lVl hF0)
   have hca:L2.atI (F1.map λr=>T.int (r:Nat)) 0=some (.int (F1[0]:Nat)):=by
    rw[show (0:Int)=((0:Nat):Int) from rfl,atN];simp[hF0]
   generalize F1[0]=a at ha ha' hca
   have hgu3:=s3 _ _ hgu;have hix:L2.ixN (jKl n λr=>d-dgr P n r).length (a:Int)=some a:=kJi (by rw[jXh];exact ha)
   refine⟨_,by rw[jJy hfr3];exact hca,?_⟩
   exists uJr
   refine⟨_,by rw[jJy hgu3];exact jQz ha,_,rfl,_,jUa hgu3 hix,?_⟩
   exists uJq,jJ1
   refine⟨by omega,by omega,?_⟩
   rw[show ((n:Nat):Int).toNat=n by omega,jUb]
   rw[show T.int (((d-dgr P n a:Nat):Int)-1)=T.int ((d-dgr P n a-1:Nat):Int) by congr 1;omega,jXg]
   have hgp3:gup G3 u (GO.lst (jKl n λx=>if x=a then d-dgr P n a-1 else d-dgr P n x)) pr=some (.lst (P.map encE)):=by rw[jJm hpu];exact s3 _ _ hgp
   have hbx3:=(hbx.sub s3).gup (o:=GO.lst (jKl n λx=>if x=a then d-dgr P n a-1 else d-dgr P n x)) hbu
   have hkp3:Keep b G (gup G3 u (GO.lst (jKl n λx=>if x=a then d-dgr P n a-1 else d-dgr P n x))):=(hkp.trans (.sub s3)).over hu0
   have hgu4:gup G3 u (GO.lst (jKl n λx=>if x=a then d-dgr P n a-1 else d-dgr P n x)) u=some (.lst (jKl n λx=>if x=a then d-dgr P n a-1 else d-dgr P n x)):=jJh
   generalize gup G3 u (GO.lst (jKl n λx=>if x=a then d-dgr P n a-1 else d-dgr P n x))=G4 at hgp3 hbx3 hkp3 hgu4 ⊢
   refine jVt (λr=>if 0<(if r=a then d-dgr P n a-1 else d-dgr P n r) then some (T.int (r:Nat)) else none) (by simp;omega) (λ_ _=>trivial) ?_ ?_
   .intro i r hr G3 K K0 s2 hK hK0
    obtain⟨hr1,rfl⟩:i<n/\i=r:=by
     rw[lJe] at hr;obtain⟨q1,q2⟩:=hr;simp at q1 q2;exact⟨q1,q2⟩
    exists jJy (s2 _ _ hgu4),jQz hr1
    by_cases hdg:0<(if i=a then d-dgr P n a-1 else d-dgr P n i)
    .rw[lJc (by omega)]
     exact hK _ _ (by rw[lJc hdg]) (.refl _)
    .rw[lJb (by omega)]
     exact hK0 (by rw[lJb hdg]) _ (.refl _)
   intro fr2 G5 hfr2 hfr5 s5;rw[jYq (f:=λr=>if r=a then d-dgr P n a-1 else d-dgr P n r)] at hfr5
   have hF2:∀r,r∈(List.range n).filter (λr=>decide (0<(if r=a then d-dgr P n a-1 else d-dgr P n r)))↔r<n/\0<(if r=a then d-dgr P n a-1 else d-dgr P n r):=λr=>by
    rw[lQs,lJw,lK7]
   have hFl:=lVx (λr=>decide (0<(if r=a then d-dgr P n a-1 else d-dgr P n r))) (List.range n)
   rw[lKq] at hFl
   generalize (List.range n).filter (λr=>decide (0<(if r=a then d-dgr P n a-1 else d-dgr P n r)))=F2 at hfr5 hF2 hFl
   refine⟨by omega,λpn hpn=> ?_⟩
   have hfp:=jJf hfr5 hpn;refine⟨_,qJg (by rw[jJm hfp];exact hfr5) jJh (by simp;omega),?_⟩
   simp only[fin3];intro pl hpl;obtain⟨hlp,hpl0⟩:=jKf hpl;have hgp5:=s5 _ _ hgp3;have hgu5:=s5 _ _ hgu4;have hkp5:Keep b G (gup (gup G5 pn (GO.lst [T.int (n:Nat)])) pl (GO.lst ((F2.map λr=>T.int (r:Nat))++[T.int (n:Nat)]))):=((hkp3.trans (.sub s5)).trans (.new hpn)).trans (.new hpl)
   have sub6:Sub G5 (gup (gup G5 pn (GO.lst [T.int (n:Nat)])) pl (GO.lst ((F2.map λr=>T.int (r:Nat))++[T.int (n:Nat)]))):=(Sub.new hpn).trans (.new hpl)
   have hl6:gup (gup G5 pn (GO.lst [T.int (n:Nat)])) pl (GO.lst ((F2.map λr=>T.int (r:Nat))++[T.int (n:Nat)])) pl=some (.lst ((F2.map λr=>T.int (r:Nat))++[T.int (n:Nat)])):=jJh
   generalize gup (gup G5 pn (GO.lst [T.int (n:Nat)])) pl (GO.lst ((F2.map λr=>T.int (r:Nat))++[T.int (n:Nat)]))=G6 at hkp5 sub6 hl6 ⊢
   exists uJp
   refine⟨_,jJn hl6,b,_,m+P.length,rfl,(hbx3.sub s5).sub sub6,by omega,by simp;omega,by simp;omega,λc G7 c0 c1 bx7 kp7=> ?_⟩
   obtain⟨c,rfl⟩:=lKo c0
   have hplb:pl≠b:=by
    rintro rfl;obtain⟨o,ho⟩:=(hbx3.sub s5).some;rw[ho] at hpl0;cases hpl0
   have hl7:=kp7 _ _ hplb hl6;have hgp7:=kp7 _ _ hbp.symm (sub6 _ _ hgp5);have hgu7:=kp7 _ _ hbu.symm (sub6 _ _ hgu5);have hcl:c<=F2.length:=by simp at c1;omega
   obtain⟨y,hy,hyn,hy2⟩:∃y:Nat,L2.atI ((F2.map λr=>T.int (r:Nat))++[T.int (n:Nat)]) (c:Int)=some (.int (y:Nat))/\y<=n/\(y<n->0<(if y=a then d-dgr P n a-1 else d-dgr P n y)):=by
    by_cases hc:c<F2.length
    .have hm:=(hF2 F2[c]).mp (lVl hc);refine⟨F2[c],?_,by omega,λ_=>hm.2⟩
     rw[atN,lJ9 (by simpa using hc)];simp[hc]
    .refine⟨n,?_,lJh _,λz=>absurd z (lKx _)⟩
     rw[atN,lQe (by simp;omega)]
     have:c-F2.length=0:=by omega
     simp[this]
   refine⟨_,by rw[jJy hl7];exact hy,?_⟩
   exists uJo
   refine⟨by rw[jJ4 hgp7];trivial,by omega,_,hgp7,by simp;omega,?_⟩
   exists uJn
   have hPok:kJz (P++[(a,y)]) n:=by
    intro p hp;rw[lKb,lJ0] at hp
    rcases hp with hp | rfl
    .exact hP.ok p hp
    .exact⟨ha,hyn⟩
   have hlow:∀r,1<=r->r<n->∃p,p∈P++[(a,y)]/\p.2=r/\p.1<r:=by
    intro r h1 h2;obtain⟨p,q1,q2⟩:=hP.low r h1 h2;exact⟨p,lK1 _ q1,q2⟩
   have fin:∀(G8:Gp)(v10:Option T),(∀r,r<n->dgr (P++[(a,y)]) n r<=d)->G8 u=some (.lst (jKl n λr=>d-dgr (P++[(a,y)]) n r))->G8 pr=some (.lst ((P++[(a,y)]).map encE))->BoxAt G8 b (m+P.length+1)->Keep b G G8->Nx [some (.ref b),some (.int n),some (.int d),some (.ref u),some (.ref pr),v5,v6,v7,some (.int (a:Nat)),some (.ref pl),v10] G8:=by
    intro G8 v10 hdg h1 h2 h3 h4
    have hlt:sm (λr=>d-dgr (P++[(a,y)]) n r) n<μ:=by
     rw[hμ];refine uUx n (λr _=> ?_) a ha ?_
     .show d-dgr (P++[(a,y)]) n r<=d-dgr P n r
      rw[jK5];omega
     .show d-dgr (P++[(a,y)]) n a<d-dgr P n a
      rw[jK5]
      have:1<=(jKp n (a,y)).count a:=by
       refine List.one_le_count_iff.mpr ?_;unfold jKp;split<;>simp
      omega
    refine⟨_,hlt,_,_,_,_,_,_,P++[(a,y)],rfl,rfl,?_,⟨hPok,hdg,hlow⟩,h1,h2,?_,h4⟩
    .rw[lJv,lQw];omega
    .rw[lJv,lQw];exact h3
   have hcnt:∀r,y<n->(jKp n (a,y)).count r=(if r=a then 1 else 0)+if r=y then 1 else 0:=λr hyl=>by
    unfold jKp;rw[lJb (show ¬ y=n by omega)]
    by_cases h1:r=a
    .subst h1
     by_cases h2:r=y
     .subst h2;simp
     .have h2':¬ y=r:=λz=>h2 z.symm
      simp[h2,h2']
    .have h1':¬ a=r:=λz=>h1 z.symm
     by_cases h2:r=y
     .subst h2;simp[h1,h1']
     .have h2':¬ y=r:=λz=>h2 z.symm
      simp[h1,h1',h2,h2']
   have hgp8:gup G7 pr (GO.lst ((P.map encE)++[T.tup [T.int (a:Nat),T.int (y:Nat)]])) pr=some (.lst ((P++[(a,y)]).map encE)):=by rw[jJh];simp[encE]
   have hbx8:BoxAt (gup G7 pr (GO.lst ((P.map encE)++[T.tup [T.int (a:Nat),T.int (y:Nat)]]))) b (m+P.length+1):=bx7.gup hbp;have hgu8:gup G7 pr (GO.lst ((P.map encE)++[T.tup [T.int (a:Nat),T.int (y:Nat)]])) u=some (.lst (jKl n λx=>if x=a then d-dgr P n a-1 else d-dgr P n x)):=by rw[jJm hpu.symm];exact hgu7
   have hkp8:Keep b G (gup G7 pr (GO.lst ((P.map encE)++[T.tup [T.int (a:Nat),T.int (y:Nat)]]))):=(hkp5.trans kp7).over hpr0
   generalize gup G7 pr (GO.lst ((P.map encE)++[T.tup [T.int (a:Nat),T.int (y:Nat)]]))=G8 at hgp8 hbx8 hgu8 hkp8 ⊢
   by_cases hyl:y<n
   .rw[lJc (by omega)]
    have hpy:=hy2 hyl;have hix:L2.ixN (jKl n λx=>if x=a then d-dgr P n a-1 else d-dgr P n x).length (y:Int)=some y:=kJi (by rw[jXh];exact hyl)
    refine⟨_,by rw[jJy hgu8];exact jQz hyl,_,rfl,_,jUa hgu8 hix,?_⟩
    refine fin _ _ (λr hr=> ?_) ?_ (by rw[jJm hpu];exact hgp8) (hbx8.gup hbu) (hkp8.over hu0)
    .rw[jK5,hcnt r hyl];have h0:=hP.deg r hr
     by_cases h1:r=a
     .subst h1
      by_cases h2:r=y
      .subst h2;rw[lJc rfl] at hpy;rw[lJc rfl];omega
      .rw[lJc rfl,lJb h2];omega
     .rw[lJb h1]
      by_cases h2:r=y
      .subst h2;rw[lJb h1] at hpy;rw[lJc rfl];omega
      .rw[lJb h2];omega
    .rw[jJh]
     congr 2
     rw[show T.int ((((if y=a then d-dgr P n a-1 else d-dgr P n y):Nat):Int)-1)=T.int (((if y=a then d-dgr P n a-1 else d-dgr P n y)-1:Nat):Int) by congr 1;omega,jXg]
     congr 1
     funext r
     rw[jK5,hcnt r hyl]
     by_cases h1:r=a
     .subst h1
      by_cases h2:r=y
      .subst h2;simp;omega
      .simp[h2];omega
     .by_cases h2:r=y
      .subst h2;simp[h1];omega
      .simp[h1,h2]
   .rw[lJb (by omega)]
    have hyn':y=n:=by omega
    have hE:∀r,(jKp n (a,y)).count r=if r=a then 1 else 0:=λr=>by
     unfold jKp;rw[lJc hyn']
     by_cases h1:r=a
     .subst h1;simp
     .have h1':¬ a=r:=λz=>h1 z.symm
      simp[h1,h1']
    refine fin _ _ (λr hr=> ?_) ?_ hgp8 hbx8 hkp8
    .rw[jK5,hE r];have h0:=hP.deg r hr
     by_cases h1:r=a
     .subst h1;rw[lJc rfl];omega
     .rw[lJb h1];omega
    .rw[hgu8]
     congr 3
     funext r
     rw[jK5,hE r]
     by_cases h1:r=a
     .subst h1;simp;omega
     .simp[h1]
  .rw[lJb (by omega)]
   refine⟨b,pr,P,n,_,rfl,hbx,by omega,hbp.symm,hgp,hP.ok,by omega,by omega,λW G4 mw bx4 kp4=> ?_⟩
   exact kk W G4 (hP.web mw) (bx4.mono (by omega)) (hkp.trans kp4)
def jQ9:Sp3:=λxs G Q=>∃i:Int,xs=[.int i]/\∀G',Sub G G'->Q (.bl true) G'
def kYz:List Str:=["thing"]
noncomputable def jVe:TS3:=
 (tRet (uKn (tCB rIsi (jJc B0 (jJc (tC (.ty "int")) tNil))) (uKm (tCB rIsi (jJc B0 (jJc (tC (.ty "bool")) tNil))))))
theorem kKa:RdOk jQ9 jVe kYz:=by
 intro xs G Q h_;apply xe1 h_;clear h_;intro i kk;show jVe _ [some (.int i)] G
 exists jVe,rIsi,show isiT G (.int i) (.ty "int")=some true from rfl,show isiT G (.int i) (.ty "bool")=some false from rfl
 exact kk G (.refl _)
def jQ3:Sp3:=λxs G Q=>∃W:Web,xs=[encW W]/\Fine W/\∀G',Sub G G'->Q (.tup (jJj (mk W))) G'
def qKt:List Str:=["web"]
noncomputable def jV9:TS3:=
 (tRet (tCB jJ6 (jJc (jJs jQf (jJc B0 (jJc (tCB rLen C0) tNil))) tNil)))
theorem kQs:RdOk jQ3 jV9 qKt:=by
 intro xs G Q h_;apply xe1 h_;clear h_;intro W;refine ae2 ?_;intro fine kk;show jV9 _ [some (.tup (W.map encR))] G
 have hl:=fine.len
 exists jV9,List.length_map
 exact⟨W,W.length,rfl,fine,hl,λq G1 hq hG1 s1=>⟨_,jJn hG1,kk G1 s1⟩⟩
theorem kVm{κ:Type}[DecidableEq κ]{ks:List κ}{k:κ}(h:k∈ks):ks[ix1 ks k]? =some k/\∀m,m<ix1 ks k->ks[m]? ≠some k:=by
 unfold ix1;have hi:=lVb h;refine⟨by rw[lJf hi,lVy],λm hm e=> ?_⟩
 obtain⟨hm',e'⟩:=lJe.mp e;have:=List.not_of_lt_findIdx (p:=(· == k)) (xs:=ks) hm
 rw[e'] at this;simp at this
noncomputable def jYa:Sp3:=λxs G Q=>∃W:Web,xs=[encW W]/\Fine W/\W.length<=60/\∀q G' M,G q=none->G' q=some (.lst (jJj M))->M.length=W.length->num M=marks W W.length->Sub G G'->Q (.ref q) G'
def qXc:List Str:=["_law_web_here","_law_numbers_here","_law_turn_here","_law_rows","_law_room","_law_some","_law_doors","_law_other","_law_door","_law_row"]
noncomputable def jYi:TS3:=
 (tSeq (tAsg (jQb [fF,fF,fF,fF,fF,fF,tT,fF,fF,fF] (iSeq B0) D6 jUf (tCB rLen C6)) D1)
 (tSeq (tFor (jJ1 (jJc (tCB rLen C0) tNil)) D2 (tSeq (tAsg (tLst tNil) D3)
 (tSeq (tFor (jJ1 (jJc (tCB rLen C0) tNil)) D4 (jQg (tBM "list" jJ5 B3 (jJc (tTup (jJc (tOp rIxF B1 B4) (jJc (tCB jJ6 (jJc (jQb [fF,fF,fF,fF,fF,fF,fF,tT,tT,fF] (iSeq (tOp rIxF B0 B4)) (gTup 2 (jKa D7 (jKa D8 gNil))) jUf (tTup (jJc B8 (jJc (tOp rIxF B1 B7) tNil)))) tNil)) tNil))) tNil))))
 (tSeq (tAsg (uKl C3) D5)
 (tAsg (jQb [fF,fF,fF,fF,fF,fF,fF,fF,fF,tT] (iSeq B3) D9 jUf (tBM "list" kXt B5 C9)) D1)))))
 (tRet B1)))
theorem kU1:RdOk jYa jYi qXc:=by
 intro xs G Q h_;apply xe1 h_;clear h_;intro W;refine ae3 ?_;intro fine hl kk;show jYi _ [some (.tup (W.map encR)),none,none,none,none,none,none,none,none,none] G
 have hs:=sz
 exists jYi,jJt,jJ1,iSeq
 refine jKw (es:=W) (enc:=encR) (λes=>T.int (es.length:Nat)) (by omega) (λ_ _=>trivial) ?_ ?_
 .intro i es he G' K K0 s hk
  exists encR,List.length_map
  exact hk G' (.refl _)
 intro p0 G1 hp0 h1 s1;rw[lJg];refine⟨by omega,by omega,?_⟩
 rw[show ((W.length:Nat):Int).toNat=W.length by omega]
 let J1:Nat->St3->Gp->Prop:=λk τ G'=>∃(q:Addr)(M:List Nat)(v2 v3 v4 v5:Option T),τ=[some (.tup (W.map encR)),some (.ref q),v2,v3,v4,v5,none,none,none,none]/\G q=none/\G' q=some (.lst (jJj M))/\M.length=W.length/\num M=marks W k/\Sub G G'
 refine⟨J1,?_,?_,?_,?_⟩
 .exact⟨p0,W.map List.length,none,none,none,none,rfl,hp0,by rw[h1];simp[jJj,lJr],by simp,rfl,s1⟩
 .intros;trivial
 .intro k y τ G3 hy h_;apply xe6 h_;clear h_;intro q M v2 v3 v4 v5;refine ae5 ?_;intro i1 i2 i3 i4 i5;obtain⟨hk,rfl⟩:=jKs hy
  exists jJt,jJ1,List.length_map
  refine⟨by omega,λp3 hp3=>⟨by omega,by omega,?_⟩⟩
  rw[show ((W.length:Nat):Int).toNat=W.length by omega]
  have hq3:=jJf i2 hp3
  let J2:Nat->St3->Gp->Prop:=λj τ G'=>∃(v4:Option T),τ=[some (.tup (W.map encR)),some (.ref q),some (.int (k:Nat)),some (.ref p3),v4,v5,none,none,none,none]/\G' p3=some (.lst ((List.range j).map λr=>T.tup (rowT (kJ4 M r (row W r)))))/\G' q=some (.lst (jJj M))/\Sub G3 G'
  refine⟨J2,?_,?_,?_,?_⟩
  .exact xi1 _ rfl ⟨jJh,by rw[jJm hq3];exact i2,.new hp3⟩
  .intros;trivial
  .intro r y τ G4 hy h_;apply xe1 h_;clear h_;intro v4;refine ae3 ?_;intro j1 j2 j3;obtain⟨hr',rfl⟩:=jKs hy;have hes:W[r]? =some (row W r):=by unfold row;rw[lJf hr'];rfl
   have hsucc:((List.range (r+1)).map λr=>T.tup (rowT (kJ4 M r (row W r))))=((List.range r).map λr=>T.tup (rowT (kJ4 M r (row W r))))++[T.tup (rowT (kJ4 M r (row W r)))]:=by rw[lKr,lKe];rfl
   exists iSeq,jJ4 j1,jJy j2,getD_at (show r<M.length by omega)
   generalize row W r=es at hes hsucc
   refine⟨encR es,by rw[atN,lJj,hes];rfl,es.map encE,rfl,?_⟩
   have hel:=fine.row r es hes;refine jKw (es:=es) (enc:=encE) (λe=>T.tup [.int (e.2:Nat),.int (M.getD e.1 0:Nat)]) (by omega) (λ_ _=>rfl) ?_ ?_
   .intro i e hi G'' K' K0' s' hK';have hlt:=fine.rng r i e.1 e.2 (jKu hes hi)
    exists encE,jJy (s' _ _ j2),getD_at (show e.1<M.length by omega)
    exact⟨by omega,hK' G'' (.refl _)⟩
   .intro D G'' hD q1 q2;refine⟨_,jJn q1,by omega,_,q2 _ _ j1,by rw[lJg,lKq];omega,xi1 _ rfl ⟨?_,by rw[jJm hq3];exact q2 _ _ j2,(j3.trans q2).over hp3⟩⟩
    rw[jJh,hsucc,kJ4,rowT,lJr];rfl
  .intro τ G4 h_;apply xe1 h_;clear h_;intro v4;refine ae3 ?_;intro h4' j2 j3;rw[jKc] at h4';have h4:=h4';have s4:=j3
   have hrows:((List.range W.length).map λr=>T.tup (rowT (kJ4 M r (row W r))))=(jU1 W M).map λx=>T.tup (rowT x):=by
    unfold jU1;rw[lJr];rfl
   rw[hrows] at h4;have hrl:=jZg (W:=W) (M:=M)
   exists uKl,iSeq
   refine⟨true,(jU1 W M).map λx=>(rowT x,rowK x),?_,⟨(jU1 W M).map rowK,by rw[lJg];omega,λe he=>by obtain⟨x,hx,rfl⟩:=lJi.mp he;exact lJi.mpr ⟨x,hx,rfl⟩⟩,?_,?_,λp4 ys kys hp4 ris=> ?_⟩
   .simp only[jQ7,h4,asL,lJr];rfl
   .intro e he;obtain⟨x,_,rfl⟩:=lJi.mp he;exact qXt x
   .intro e he e' he';obtain⟨x,_,rfl⟩:=lJi.mp he;obtain⟨x',_,rfl⟩:=lJi.mp he';exact uU4 x x'
   have hkeys:∀x,x∈jU1 W M->rowK x∈kys.map (·.2):=by
    intro x hx;have:=(ris.mem (.tup (rowT x))).mpr (lJi.mpr ⟨(rowT x,rowK x),lJi.mpr ⟨x,hx,rfl⟩,rfl⟩);rw[ris.eq] at this;obtain⟨e,he,ee⟩:=lJi.mp this;have e1:e.1=rowT x:=T.tup.inj ee;have e2:=ris.keys e he;rw[e1,kQl] at e2;exact lJi.mpr ⟨e,he,(lJ3 e2).symm⟩
   have h43:=jJf h4 hp4;refine⟨_,jJn (by rw[jJm h43];exact h4),?_⟩
   refine jKw (es:=jU1 W M) (enc:=λx=>T.tup (rowT x)) (λx=>T.int (ix1 (kys.map (·.2)) (rowK x):Nat)) (by omega) (λG' s=>jJn (s _ _ (by rw[jJm h43];exact h4))) ?_ ?_
   .intro i x hx G' K K0 s hK;have hm:=hkeys x (lJk hx)
    exists kXt
    obtain⟨f1,f2⟩:=kVm hm;have hG4:G' p4=some (.lst (kys.map λe=> .tup e.1)):=by rw[<-ris.eq];exact s _ _ jJh
    refine⟨by rw[jJ4 hG4];trivial,kys,hG4,ris.keys,rowK x,kQl x,_,f1,f2,hK G' (.refl _)⟩
   .intro D G5 hD q1 q2
    have hDG:G D=none:=jQe (i5.trans s4) (by
     by_cases e:D=p4
     .subst e;rw[jJh] at hD;cases hD
     .rw[jJm e] at hD;exact hD)
    refine⟨D,(jU1 W M).map λx=>ix1 (kys.map (·.2)) (rowK x),_,_,_,_,rfl,hDG,by rw[q1];simp[jJj,lJr],by rw[lJg,hrl],?_,((i5.trans s4).trans (.new hp4)).trans q2⟩
    rw[<-qXs fine i3 i4];exact kJb λx y hx hy e=>uKv (jYs (hkeys x hx) e)
 .intro τ G3 h_;apply xe6 h_;clear h_;intro q M v2 v3 v4 v5;refine ae5 ?_;intro i1 i2 i3 i4 i5;rw[jKc] at i4
  exists tSeq
  exact kk q G3 M i1 i2 i3 i4 i5
def jU8:Sp3:=λxs G Q=>∃W:Web,xs=[encW W]/\Fine W/\W.length<=60/\∀q G',G q=none->G' q=some (.lst (jJj (mk W)))->Sub G G'->Q (.ref q) G'
def kYx:List Str:=["_law_web_here","_law_some","_law_order","_law_kind"]
noncomputable def jVc:TS3:=
 (tSeq (tAsg (jJs jYa C0) D1)
 (tSeq (tAsg (tLst tNil) D2)
 (tSeq (tFor (iSeq B1) D3 (tIfS (jJx (tOp jK4 B3 B2)) (jQg (tBM "list" jJ5 B2 C3)) jKm))
 (tRet (jQb [fF,fF,fF,tT] (iSeq B1) D3 jUf (tBM "list" kKq B2 C3))))))
theorem kJ8:RdOk jU8 jVc kYx:=by
 intro xs G Q h_;apply xe1 h_;clear h_;intro W;refine ae3 ?_;intro fine hl kk;show jVc _ [some (.tup (W.map encR)),none,none,none] G
 have hs:=sz
 exists jVc,jJt,iSeq
 refine⟨W,rfl,fine,hl,λq0 G1 M hq0 h1 hM hnum s1=> ?_⟩
 refine⟨by omega,λp hp=> ?_⟩
 have hqp:=jJf h1 hp;refine⟨_,jJn (by rw[jJm hqp];exact h1),?_⟩
 have hfl:∀k,(jJr (M.take k)).length<=60:=by
  intro k;have h1:(jJr (M.take k)).length<=(M.take k).length:=(jX2 _).length_le_of_subset λx hx=>firsts_mem.mp hx
  rw[lQ6] at h1;omega
 let J1:Nat->St3->Gp->Prop:=λk τ G'=>∃(v3:Option T),τ=[some (.tup (W.map encR)),some (.ref q0),some (.ref p),v3]/\G' p=some (.lst (jJj (jJr (M.take k))))/\Sub G1 G'
 refine⟨J1,?_,?_,?_,?_⟩
 .exact⟨none,rfl,jJh,.new hp⟩
 .intro k τ G' hk h_;apply xe1 h_;clear h_;intro v3;refine ae2 ?_;intro i1 i2;exact jJn (i2 _ _ h1)
 .intro k x τ G2 hx0 h_;apply xe1 h_;clear h_;intro v3;refine ae2 ?_;intro i1 i2;obtain⟨m,hm,rfl⟩:=jKd hx0;have hstep:jJr (M.take (k+1))=fst1 (jJr (M.take k)) m:=jUx hm;have:=hfl k
  exists jK4,kZv i1,jJ4 i1,i1
  by_cases hin:m∈jJr (M.take k)
  .rw[lJb (by simp[hin])]
   refine xi1 _ rfl ⟨?_,i2⟩;rw[hstep];unfold fst1;rw[lJc hin];exact i1
  .rw[lJc (by simp[hin])]
   refine⟨by rw[jJj,lJg];omega,xi1 _ rfl ⟨?_,i2.over hp⟩⟩
   rw[hstep,jJh];unfold fst1;rw[lJb hin];simp[jJj]
 .intro τ G2 h_;apply xe1 h_;clear h_;intro v3;refine ae2 ?_;intro i1 i2;rw[show (jJj M).length=M.length by simp[jJj],lQz] at i1
  exists iSeq
  refine⟨_,jJn (i2 _ _ h1),?_⟩;refine jKw (es:=M) (enc:=λ(m:Nat)=>T.int m) (λm=>T.int (ix1 (jJr M) m:Nat)) (by omega) (λG' s=>jJn (s _ _ (i2 _ _ h1))) ?_ ?_
  .intro i m hm G' K K0 s hK;have hmem:m∈jJr M:=firsts_mem.mpr (lJk hm)
   exists kKq
   have hG':=s _ _ i1;obtain⟨f1,f2⟩:=kVm hmem;refine⟨by rw[jJ4 hG'];trivial,_,hG',rfl,jX1,.int (m:Nat),ix1 (jJr M) m,by simp[jJj,f1],by simp[eqT],λj t hj ht=> ?_,hK G' (.refl _)⟩
   obtain⟨y,hy,rfl⟩:=jKd ht;have ne:y≠m:=λz=>f2 j hj (by rw[hy,z])
   have ne':¬ (y:Int)=m:=by omega
   simp[eqT,ne']
  .intro D G3 hD q1 q2;have hDG:G D=none:=jQe (s1.trans i2) hD;refine kk D G3 hDG ?_ ((s1.trans i2).trans q2);rw[q1,show mk W=num M from hnum.symm]
   unfold num ix1;simp[jJj,lJr]
def stL(W:Web)(r:Nat)(ms:Plan)(k:Nat):List Nat:=(List.range k).map (atM W r ms)
theorem kQd{W:Web}{r k:Nat}{ms:Plan}:stL W r ms (k+1)=stL W r ms k++[atM W r ms k]:=by unfold stL;rw[lKr,lKe];rfl
theorem uJh{W:Web}{r k j:Nat}{ms:Plan}(h:j<k):(stL W r ms k)[j]? =some (atM W r ms j):=by unfold stL;rw[lJj,lQn h];rfl
theorem kXb{W:Web}{r k:Nat}{ms:Plan}:(stL W r ms k).length=k:=by unfold stL;rw[lJg,lKq]
noncomputable def jVm:Sp3:=λxs G Q=>∃(W:Web)(r:Nat)(ms:Plan),xs=[encW W,.int r,encP ms]/\Fine W/\r<W.length/\PosM W r ms/\ms.length<=20000/\∀q G',G q=none->G' q=some (.lst (jJj (stL W r ms (ms.length+1))))->Sub G G'->Q (.ref q) G'
def uUf:List Str:=["web","room","plan","here","rooms","door"]
noncomputable def kQt:TS3:=
 (tSeq (tAsg B1 D3)
 (tSeq (tAsg (tLst C1) D4)
 (tSeq (tFor (iSeq B2) D5 (tSeq (tIfS (jJx (tOp jZ7 B5 (tC .non))) (tSeq (tIfS (tOr (tNot (jJx (jJs jQ9 C5))) (tNot (jJx (kKl rLeF rLt tI0 B5 (tCB rLen (jJc (tOp rIxF B0 B3) tNil)))))) (tRet (tC .non)) jKm)
 (tAsg (tOp rIxF (tOp rIxF (tOp rIxF B0 B3) B5) tI0) D3)) jKm)
 (jQg (tBM "list" jJ5 B4 C3))))
 (tRet B4))))
noncomputable def qQj:TS3:=(jQg (tBM "list" jJ5 B4 C3))
noncomputable def uJl:TS3:=(tAsg (tOp rIxF (tOp rIxF (tOp rIxF B0 B3) B5) tI0) D3)
theorem kXo:kQt=(tSeq (tAsg B1 D3)
 (tSeq (tAsg (tLst C1) D4)
 (tSeq (tFor (iSeq B2) D5 (tSeq (tIfS (jJx (tOp jZ7 B5 (tC .non))) (tSeq (tIfS (tOr (tNot (jJx (jJs jQ9 C5))) (tNot (jJx (kKl rLeF rLt tI0 B5 (tCB rLen (jJc (tOp rIxF B0 B3) tNil)))))) (tRet (tC .non)) jKm)
 uJl) jKm)
 qQj))
 (tRet B4)))):=rfl
theorem qJu:RdOk jVm kQt uUf:=by
 intro xs G Q h_;apply xe3 h_;clear h_;intro W r ms;refine ae5 ?_;intro fine hr pos hl kk;show kQt _ [some (.tup (W.map encR)),some (.int r),some (.tup (ms.map optT)),none,none,none] G
 have hs:=sz;rw[kXo]
 exists jJt,iSeq
 refine⟨by omega,λq hq=> ?_⟩
 let J1:Nat->St3->Gp->Prop:=λk τ G'=>∃(v5:Option T),τ=[some (.tup (W.map encR)),some (.int r),some (.tup (ms.map optT)),some (.int (atM W r ms k:Nat)),some (.ref q),v5]/\G' q=some (.lst (jJj (stL W r ms (k+1))))/\Sub G G'
 refine⟨J1,?_,?_,?_,?_⟩
 .exact xi1 _ rfl ⟨jJh,.new hq⟩
 .intros;trivial
 .intro k x τ G1 hx0 h_;apply xe1 h_;clear h_;intro v5;refine ae2 ?_;intro i1 i2;obtain⟨m,hm,rfl⟩:=jKd hx0;have hkl:=(lJe.mp hm).1;have hat:=jY3 fine pos hr k (by omega)
  have hrow:W[atM W r ms k]? =some W[atM W r ms k]:=lJf hat;have hsu:=jQl (W:=W) (r:=r) hm;have hlen:(jJj (stL W r ms (k+1))).length<sizeLine:=by rw[jJj,lJg,kXb];omega
  cases m with
  | none=>
   exists optT,jZ7,qQj,jJ4 i1,i1
   have hsu:atM W r ms (k+1)=atM W r ms k:=hsu;exact⟨hlen,xi1 _ (by rw[hsu]) ⟨by rw[jJh,kQd (k:=k+1),hsu];simp[jJj],i2.over hq⟩⟩
  | some i=>
   obtain⟨e,he⟩:=pos k i hm;obtain⟨es,q1,q2⟩:=jKo he;rw[hrow] at q1;cases q1;have hil:=(lJe.mp q2).1;have at2:L2.atI (W[atM W r ms k].map encE) (i:Int)=some (encE e):=by rw[atN,lJj,q2];rfl
   have hsu:atM W r ms (k+1)=e.1:=by rw[hsu];show ((en W _ i).map Prod.fst).getD 0=_;rw[he];rfl
   exists optT,jZ7,jKr hrow,kKl,rLeF,encR,List.length_map
   refine⟨i,rfl,λG2 s2=>⟨true,rfl,?_⟩⟩
   rw[lJb (by decide),lJc (by omega),lJb (by simp;omega)]
   have h2:=s2 _ _ i1
   exists uJl,qQj,jKr hrow,encR
   refine⟨.int (e.1:Nat),rfl,by rw[jJ4 h2];trivial,_,h2,hlen,xi1 _ (by rw[hsu]) ⟨by rw[jJh,kQd (k:=k+1),hsu];simp[jJj],(i2.trans s2).over hq⟩⟩
 .intro τ G1 h_;apply xe1 h_;clear h_;intro v5;refine ae2 ?_;intro i1 i2;rw[lJg] at i1
  exists tSeq
  exact kk q G1 hq i1 i2
noncomputable def jQ2:Sp3:=λxs G Q=>∃(W:Web)(a b:Nat)(pls:List Plan)(pa pb:Plan)(L:Nat),xs=[encW W,.int a,.int b,.tup (pls.map encP)]/\Fine W/\a<W.length/\b<W.length/\pls[nuF (mk W) a]? =some pa/\pls[nuF (mk W) b]? =some pb/\pa.length=L/\pb.length=L/\L<=20000/\PosM W a pa/\PosM W b pb/\∀G',Sub G G'->Q (optT (metM W a b pa pb L)) G'
def qXb:List Str:=["web","a","b","rule","numbers","others","step","room"]
noncomputable def jYh:TS3:=
 (tSeq (tAsg (jJs jQ3 C0) D4)
 (tSeq (tAsg (jJs jVm (jJc B0 (jJc B2 (jJc (tOp rIxF B3 (tOp rIxF B4 B2)) tNil)))) D5)
 (tSeq (tFor (jX0 (jJc (jJs jVm (jJc B0 (jJc B1 (jJc (tOp rIxF B3 (tOp rIxF B4 B1)) tNil)))) tNil)) (gTup 2 (jKa D6 (jKa D7 gNil))) (tIfS (jJx (tOp rEqA B7 (tOp rIxF B5 B6))) (tRet B6) jKm))
 (tRet (tC .non)))))
theorem jU2{W:Web}{r:Nat}(h:r<W.length):L2.atI (jJj (mk W)) (r:Int)=some (.int (nuF (mk W) r:Nat)):=by
 obtain⟨v,h1,_⟩:=kJe h;rw[atN];simp[jJj,h1,kJc h1]
theorem kU0:RdOk jQ2 jYh qXb:=by
 intro xs G Q h_;apply xe7 h_;clear h_;intro W a b pls pa pb L;refine ae11 ?_;intro fine ha hb hpa hpb hla hlb hL posa posb kk;show jYh _ [some (encW W),some (.int a),some (.int b),some (.tup (pls.map encP)),none,none,none,none] G
 have hs:=sz;have ata:L2.atI (pls.map encP) (nuF (mk W) a:Int)=some (encP pa):=by rw[atN,lJj,hpa];rfl
 have atb:L2.atI (pls.map encP) (nuF (mk W) b:Int)=some (encP pb):=by rw[atN,lJj,hpb];rfl
 exists jYh,jJt,jX0
 refine⟨W,rfl,fine,λG1 s1=> ?_⟩
 exists jU2 ha,jU2 hb,ata,atb
 refine⟨W,b,pb,rfl,fine,hb,posb,by omega,λq G2 hq h2 s2=> ?_⟩
 refine⟨W,a,pa,rfl,fine,ha,posa,by omega,λp G3 hp h3 s3=> ?_⟩
 have h2':=s3 _ _ h2;rw[hla] at h3;rw[hlb] at h2';refine⟨jJj (stL W a pa (L+1)),by simp only[jQ7,h3,asL],?_⟩
 let J1:Nat->St3->Gp->Prop:=λk τ G'=>∃(v6 v7:Option T),τ=[some (encW W),some (.int a),some (.int b),some (.tup (pls.map encP)),some (.tup (jJj (mk W))),some (.ref q),v6,v7]/\(∀j,j<k->atM W a pa j≠atM W b pb j)/\G'=G3
 refine⟨J1,?_,?_,?_,?_⟩
 .exact xi2 _ _ rfl ⟨λj hj=>absurd hj (lKd _),rfl⟩
 .intro k τ G' hk h_;apply xe2 h_;clear h_;intro v6 v7;refine ae2 ?_;intro i1 e1_;subst e1_;simp only[jQ7,h3,asL]
 .intro k x τ G4 hx h_;apply xe2 h_;clear h_;intro v6 v7;refine ae2 ?_;intro i1 e1_;subst e1_;obtain⟨z,hz,rfl⟩:=kQ7 hx;obtain⟨y,hy,rfl⟩:=jKd hz;have hk:k<L+1:=by have:=(lJe.mp hy).1;rwa [kXb] at this
  rw[uJh hk] at hy;cases hy;have at2:L2.atI (jJj (stL W b pb (L+1))) (k:Int)=some (.int (atM W b pb k:Nat)):=by rw[atN];simp[jJj,uJh hk]
  exists rEqA,jJy h2',at2,jKq
  by_cases c:atM W a pa k=atM W b pb k
  .rw[lJc (by simpa using c)]
   have:=kk G4 ((s1.trans s2).trans s3);rw[uV5 (by omega) i1 c] at this
   exact this
  .rw[lJb (by simpa using c)]
   exact xi2 _ _ rfl ⟨λj hj=>by
    by_cases e:j=k
    .subst e;exact c
    .exact i1 j (by omega),rfl⟩
 .intro τ G4 h_;apply xe2 h_;clear h_;intro v6 v7;refine ae2 ?_;intro i1 e1_;subst e1_;rw[show (numT (jJj (stL W a pa (L+1)))).length=L+1 by simp[numT,jJj,kXb]] at i1
  exists tSeq
  have:=kk G4 ((s1.trans s2).trans s3);rw[kQ9 λj hj=>i1 j (by omega)] at this
  exact this
theorem uV3{W:Web}{n:Nat}(h:n<nk W):fr W n<W.length/\(jJj (mk W))[fr W n]? =some (.int (n:Nat))/\∀(j:Nat)(t:T),j<fr W n->(jJj (mk W))[j]? =some t->eqT t (.int (n:Nat))=false:=by
 obtain⟨q1,q2,q3⟩:=uQy h;refine⟨q2,by simp[jJj,q1],λj t hj ht=> ?_⟩
 obtain⟨y,hy,rfl⟩:=jKd ht;have ne:y≠n:=λz=>q3 j hj (by rw[hy,z])
 have ne':¬ (y:Int)=n:=by omega
 simp[eqT,ne']
theorem uV2{W:Web}(h:1<=W.length):∃i is,jJj (mk W)=(i::is).map T.int/\jUu i is+1=(nk W:Nat):=by
 obtain⟨m,ms,e⟩:∃m ms,mk W=m::ms:=by
  cases q:mk W with
  | nil=>have:=jYy (W:=W);rw[q] at this;simp at this;omega
  | cons m ms=>exact⟨m,ms,rfl⟩
 refine⟨(m:Nat),ms.map λ(x:Nat)=>(x:Int),by rw[e];simp[jJj],?_⟩
 have hk:=uJ1 h
 have le:jUu (m:Int) (ms.map λ(x:Nat)=>(x:Int))<(nk W:Nat):=by
  have all:∀x,x∈mk W->x<nk W:=by
   intro x hx;obtain⟨r,hr⟩:=lJ1 hx;have hrl:r<W.length:=by rw[<-jYy (W:=W)];exact (lJe.mp hr).1
   obtain⟨v,h1,h2⟩:=kJe hrl;rw[hr] at h1;cases h1;exact h2
  rcases qUl (ms.map λ(x:Nat)=>(x:Int)) (m:Int) with z | z
  .rw[z];have:=all m (by rw[e];exact lJ2 ..);omega
  .obtain⟨x,hx,ex⟩:=lJi.mp z;have:=all x (by rw[e];exact lJ5 _ hx)
   rw[<-ex];omega
 have ge:((nk W-1:Nat):Int)<=jUu (m:Int) (ms.map λ(x:Nat)=>(x:Int)):=by
  obtain⟨q1,_,_⟩:=uQy (W:=W) (n:=nk W-1) (by omega)
  have hm:=lJk q1;obtain⟨b1,b2⟩:=qYq (ms.map λ(x:Nat)=>(x:Int)) (m:Int)
  rw[e] at hm
  rcases (lJp.mp hm) with z | z
  .have:((nk W-1:Nat):Int)=(m:Nat):=by omega
   omega
  .exact b2 _ (lJi.mpr ⟨_,z,rfl⟩)
 omega
noncomputable def jZw:Sp3:=λxs G Q=>∃(b:Addr)(W:Web)(q:Addr)(L n:Nat),xs=[.ref b,encW W,.ref q,.int L]/\BoxAt G b n/\n+4000<2^40/\AnyWeb W/\G q=some (.lst (jJj (mk W)))/\q≠b/\L<=40/\∀(pls:List Plan) G',pls.length=nk W->(∀K pl,pls[K]? =some pl->pl.length=L/\PosM W (fr W K) pl)->BoxAt G' b (n+2000)->Keep b G G'->Q (.tup (pls.map encP)) G'
def qZ8:List Str:=["_law_box_here","_law_web_here","_law_numbers_here","_law_long","_law_made","_law_kind","_law_room","_law_plan","_law_turn_here","_law_move"]
noncomputable def jZ2:TS3:=
 (tSeq (tAsg (tLst tNil) D4)
 (tSeq (tFor (jJ1 (jJc (tOp jJ7 (tCB qX4 C2) tI1) tNil)) D5 (tSeq (tAsg (tBM "list" kKq B2 C5) D6)
 (tSeq (tAsg (tLst tNil) D7)
 (tSeq (tFor (jJ1 C3) D8 (tSeq (tAsg (tC .non) D9)
 (tSeq (tIfS (tAnd (jJx (tOp rGt (tCB rLen (jJc (tOp rIxF B1 B6) tNil)) tI0)) (jJx (tOp rGt (jJs jJp (jJc B0 (jJc (tC (.int 4)) tNil))) tI0))) (tSeq (tAsg (jJs jJp (jJc B0 (jJc (tCB rLen (jJc (tOp rIxF B1 B6) tNil)) tNil))) D9)
 (tAsg (tOp rIxF (tOp rIxF (tOp rIxF B1 B6) B9) tI0) D6)) jKm)
 (jQg (tBM "list" jJ5 B7 C9)))))
 (jQg (tBM "list" jJ5 B4 (jJc (tCB jJ6 C7) tNil)))))))
 (tRet (tCB jJ6 C4))))
noncomputable def qQk:TS3:=(jQg (tBM "list" jJ5 B7 C9))
theorem qJy:jZ2=(tSeq (tAsg (tLst tNil) D4)
 (tSeq (tFor (jJ1 (jJc (tOp jJ7 (tCB qX4 C2) tI1) tNil)) D5 (tSeq (tAsg (tBM "list" kKq B2 C5) D6)
 (tSeq (tAsg (tLst tNil) D7)
 (tSeq (tFor (jJ1 C3) D8 (tSeq (tAsg (tC .non) D9)
 (tSeq (tIfS (tAnd (jJx (tOp rGt (tCB rLen (jJc (tOp rIxF B1 B6) tNil)) tI0)) (jJx (tOp rGt (jJs jJp (jJc B0 (jJc (tC (.int 4)) tNil))) tI0))) (tSeq (tAsg (jJs jJp (jJc B0 (jJc (tCB rLen (jJc (tOp rIxF B1 B6) tNil)) tNil))) D9)
 (tAsg (tOp rIxF (tOp rIxF (tOp rIxF B1 B6) B9) tI0) D6)) jKm)
 qQk)))
 (jQg (tBM "list" jJ5 B4 (jJc (tCB jJ6 C7) tNil)))))))
 (tRet (tCB jJ6 C4)))):=rfl
theorem kXj:RdOk jZw jZ2 qZ8:=by
 intro xs G Q h_;apply xe5 h_;clear h_;intro b W q L n;refine ae7 ?_;intro hb hn any hq hqb hL kk;show jZ2 _ [some (.ref b),some (.tup (W.map encR)),some (.ref q),some (.int L),none,none,none,none,none,none] G
 have hs:=sz;have fine:=any.fine;have hWl:=any.len;rw[qJy]
 exists jJt,jJ1,qX4
 refine⟨by omega,λp hp=> ?_⟩
 have hqp:=jJf hq hp;have hbp:b≠p:=by obtain⟨o,ho⟩:=hb.some;exact jJf ho hp
 obtain⟨i,is,hmx,hmx1⟩:=uV2 any.pos
 have hnk:nk W<=W.length:=by
  unfold nk;have:=jVs (ls:=mk W);rw[jYy] at this;exact this
 refine⟨i,is,by rw[jJm hqp,hq,hmx],by omega,by omega,?_⟩
 rw[hmx1,show (((nk W:Nat):Int)).toNat=nk W by omega]
 let J1:Nat->St3->Gp->Prop:=λK τ G'=>∃(v5 v6 v7 v8 v9:Option T)(pls:List Plan),τ=[some (.ref b),some (.tup (W.map encR)),some (.ref q),some (.int L),some (.ref p),v5,v6,v7,v8,v9]/\pls.length=K/\(∀J pl,pls[J]? =some pl->pl.length=L/\PosM W (fr W J) pl)/\G' p=some (.lst (pls.map encP))/\G' q=some (.lst (jJj (mk W)))/\BoxAt G' b (n+K*(2*L))/\Keep b G G'
 refine⟨J1,?_,?_,?_,?_⟩
 .refine xi6 _ _ _ _ _ [] rfl ⟨rfl,λJ pl h=>by simp at h,jJh,by rw[jJm hqp];exact hq,by rw[Nat.zero_mul];exact hb.gup hbp,.new hp⟩
 .intros;trivial
 .intro K x τ G1 hx h_;apply xe6 h_;clear h_;intro v5 v6 v7 v8 v9 pls;refine ae6 ?_;intro i1 i2 i3 i4 i5 i6;obtain⟨hK,rfl⟩:=jKs hx;obtain⟨f1,f2,f3⟩:=uV3 hK;have hKL:K*(2*L)<=24*80:=lXi (by omega) (by omega)
  exists jJt,jJ1,kKq,jJ4 i4,i4
  refine⟨rfl,jX1,.int (K:Nat),fr W K,f2,by simp[eqT],f3,by omega,λr7 hr7=>⟨by omega,by omega,?_⟩⟩
  rw[show (((L:Nat):Int)).toNat=L by omega]
  have hpr:=jJf i3 hr7;have hqr:=jJf i4 hr7;have hbr:b≠r7:=by obtain⟨o,ho⟩:=i5.some;exact jJf ho hr7
  have hr7G:G r7=none:=Keep.none (b:=b) i6 (Ne.symm hbr) hr7
  let J2:Nat->St3->Gp->Prop:=λk τ G'=>∃(v8 v9:Option T)(ms:Plan),τ=[some (.ref b),some (.tup (W.map encR)),some (.ref q),some (.int L),some (.ref p),some (.int (K:Nat)),some (.int (atM W (fr W K) ms k:Nat)),some (.ref r7),v8,v9]/\ms.length=k/\PosM W (fr W K) ms/\G' r7=some (.lst (ms.map optT))/\G' p=some (.lst (pls.map encP))/\G' q=some (.lst (jJj (mk W)))/\BoxAt G' b (n+K*(2*L)+2*k)/\Keep b G G'
  refine⟨J2,?_,?_,?_,?_⟩
  .refine xi3 _ _ [] rfl ⟨rfl,λk i h=>by simp at h,jJh,by rw[jJm hpr];exact i3,by rw[jJm hqr];exact i4,i5.gup hbr,i6.trans (.new hr7)⟩
  .intros;trivial
  .intro k x τ G2 hx h_;apply xe3 h_;clear h_;intro v8 v9 ms;refine ae7 ?_;intro j1 j2 j3 j4 j5 j6 j7;obtain⟨hk,rfl⟩:=jKs hx;have hat:=jY3 fine j2 f1 k (by omega)
   have hrow:W[atM W (fr W K) ms k]? =some W[atM W (fr W K) ms k]:=lJf hat
   have add:∀(G':Gp)(m:Option Nat),Keep b G2 G'->BoxAt G' b (n+K*(2*L)+2*(k+1))->(∀i,m=some i->∃e,en W (atM W (fr W K) ms k) i=some e)->tyT G' "list" (.ref r7)/\∃x,G' r7=some (GO.lst x)/\x.length<sizeLine/\J2 (k+1) [some (.ref b),some (.tup (W.map encR)),some (.ref q),some (.int L),some (.ref p),some (.int (K:Nat)),some (.int (nxM W (atM W (fr W K) ms k) m:Nat)),some (.ref r7),some (.int (k:Nat)),some (optT m)] (gup G' r7 (GO.lst (x++[optT m]))):=by
    intro G' m kp bx hm;have h7:=kp _ _ (Ne.symm hbr) j3;obtain⟨ps,pk⟩:=kQ1 j2 (m:=m) (by rw[j1];exact hm)
    have he:(ms++[m])[k]? =some m:=by rw[<-j1,lQe (lJh _),Nat.sub_self];rfl
    have hsu:=jQl (W:=W) (r:=fr W K) he;rw[pk k (by omega)] at hsu
    refine⟨by rw[jJ4 h7];trivial,_,h7,by rw[lJg];omega,xi3 _ _ (ms++[m]) (by rw[hsu]) ⟨by rw[lJv,j1];rfl,ps,by rw[jJh];simp,?_,?_,bx.gup hbr,(j7.trans kp).over hr7G⟩⟩
    .rw[jJm hpr];exact kp _ _ (Ne.symm hbp) j4
    .rw[jJm hqr];exact kp _ _ hqb j5
   have add':∀(E:Ends3)(G':Gp)(m:Option Nat),E.nx=J2 (k+1)->Keep b G2 G'->BoxAt G' b (n+K*(2*L)+2*(k+1))->(∀i,m=some i->∃e,en W (atM W (fr W K) ms k) i=some e)->qQk E [some (.ref b),some (.tup (W.map encR)),some (.ref q),some (.int L),some (.ref p),some (.int (K:Nat)),some (.int (nxM W (atM W (fr W K) ms k) m:Nat)),some (.ref r7),some (.int (k:Nat)),some (optT m)] G':=by
    intro E G' m hE kp bx hm;have:=add G' m kp bx hm
    exists qQk,hE
    exact this
   exists jKr hrow,encR,List.length_map
   by_cases h0:0<W[atM W (fr W K) ms k].length
   .rw[lJc (by omega)]
    refine⟨b,4,_,rfl,j6,by omega,by decide,by decide,λc G3 c0 c1 b3 k3=>⟨_,rfl,?_⟩⟩
    by_cases hc:0<c
    .rw[lJc hc];have hdg:=fine.row _ _ hrow;refine⟨b,_,_,rfl,b3,by omega,by omega,by omega,λe G4 e0 e1 b4 k4=> ?_⟩
     obtain⟨e,rfl⟩:=lKo e0;have hel:e<W[atM W (fr W K) ms k].length:=by omega
     have q2:W[atM W (fr W K) ms k][e]? =some W[atM W (fr W K) ms k][e]:=lJf hel
     generalize W[atM W (fr W K) ms k][e]=z at q2
     have hz:=jKu hrow q2;have at2:L2.atI (W[atM W (fr W K) ms k].map encE) (e:Int)=some (encE z):=by rw[atN,lJj,q2];rfl
     refine⟨encE z,at2,.int (z.1:Nat),rfl,?_⟩;have hn:nxM W (atM W (fr W K) ms k) (some e)=z.1:=by show ((en W _ e).map Prod.fst).getD 0=_;rw[hz];rfl
     rw[<-hn];exact add' _ G4 (some e) rfl (k3.trans k4) (b4.mono (by omega)) (λi hi=>by cases hi;exact⟨z,hz⟩)
    .rw[lJb hc];exact add' _ G3 none rfl k3 (b3.mono (by omega)) (λi hi=>by cases hi)
   .rw[lJb (by omega)]
    exact add' _ G2 none rfl (.refl _ _) (j6.mono (by omega)) (λi hi=>by cases hi)
  .intro τ G2 h_;apply xe3 h_;clear h_;intro v8 v9 ms;refine ae7 ?_;intro j1 j2 j3 j4 j5 j6 j7;rw[jKc] at j1 j6
   exists jJ4 j4,j4
   refine⟨_,jJn j3,by rw[lJg];omega,xi6 _ _ _ _ _ (pls++[ms]) rfl ⟨by rw[lJv,i1];rfl,λJ pl hJ=> ?_,by rw[jJh];simp[encP],by rw[jJm hqp];exact j5,(j6.gup hbp).mono (by rw[lQx];omega),j7.over hp⟩⟩
   by_cases hlt:J<pls.length
   .rw[lJ9 hlt] at hJ;exact i2 J pl hJ
   .have hJl:=(lJe.mp hJ).1;rw[lJv,lQw] at hJl;have:J=K:=by omega
    subst this;rw[<-i1,lQe (lJh _),Nat.sub_self] at hJ;cases hJ;exact⟨j1,j2⟩
 .intro τ G1 h_;apply xe6 h_;clear h_;intro v5 v6 v7 v8 v9 pls;refine ae6 ?_;intro i1 i2 i3 i4 i5 i6;rw[jKc] at i1 i5
  exists tSeq
  have hKL:nk W*(2*L)<=24*80:=lXi (by omega) (by omega)
  refine⟨_,jJn i3,?_⟩;exact kk pls G1 i1 i2 (i5.mono (by omega)) i6
def jYb:Sp3:=λxs G Q=>∃(b:Addr)(n:Nat),xs=[.ref b]/\BoxAt G b n/\n+3000<2^40/\∀W G',AnyWeb W->W.length<=8->BoxAt G' b (n+2000)->Keep b G G'->Q (encW W) G'
def qXd:List Str:=["_law_box_here","_law_way","_law_base"]
noncomputable def jYj:TS3:=
 (tSeq (tAsg (jJs jJp (jJc B0 (jJc (tC (.int 7)) tNil))) D1)
 (tSeq (tIfS (jJx (tOp rEqA B1 (tC (.int 6)))) (tRet (jJs jXk (jJc (tOp jJ7 tI2 (jJs jJp (jJc B0 (jJc (tC (.int 7)) tNil)))) tNil))) jKm)
 (tSeq (tIfS (jJx (tOp rEqA B1 tI0)) (tRet (jJs jVo (jJc B0 (jJc (tOp jJ7 tI1 (jJs jJp (jJc B0 (jJc (tC (.int 8)) tNil)))) (jJc (tOp jJ7 tI2 (jJs jJp (jJc B0 (jJc (tC (.int 5)) tNil)))) tNil))))) jKm)
 (tSeq (tIfS (jJx (tOp rEqA B1 tI1)) (tRet (jJs jXj (jJc (tOp jJ7 tI1 (jJs jJp (jJc B0 (jJc (tC (.int 8)) tNil)))) tNil))) jKm)
 (tSeq (tIfS (jJx (tOp rEqA B1 tI2)) (tRet (jJs jXl (jJc B0 (jJc (tOp jJ7 tI2 (jJs jJp (jJc B0 (jJc (tC (.int 7)) tNil)))) (jJc (tOp jJ7 tI2 (jJs jJp (jJc B0 (jJc tI2 tNil)))) tNil))))) jKm)
 (tSeq (tAsg (jJs jVo (jJc B0 (jJc (tOp jJ7 tI1 (jJs jJp (jJc B0 (jJc (tC (.int 4)) tNil)))) (jJc (tOp jJ7 tI2 (jJs jJp (jJc B0 (jJc (tC (.int 3)) tNil)))) tNil)))) D2)
 (tRet (jJs jQ8 (jJc B0 (jJc B2 (jJc (tOp rSub (tOp rIxF (tLst (jJc (tC (.int 8)) (jJc (tC (.int 4)) (jJc tI2 (jJc tI2 tNil))))) (tOp rSub (tCB rLen C2) tI1)) (jJs jJp (jJc B0 (jJc (tOp rIxF (tLst (jJc (tC (.int 5)) (jJc tI2 (jJc tI1 (jJc tI1 tNil))))) (tOp rSub (tCB rLen C2) tI1)) tNil)))) tNil)))))))))))
noncomputable def uU6:TS3:=(tSeq (tAsg (jJs jVo (jJc B0 (jJc (tOp jJ7 tI1 (jJs jJp (jJc B0 (jJc (tC (.int 4)) tNil)))) (jJc (tOp jJ7 tI2 (jJs jJp (jJc B0 (jJc (tC (.int 3)) tNil)))) tNil)))) D2)
 (tRet (jJs jQ8 (jJc B0 (jJc B2 (jJc (tOp rSub (tOp rIxF (tLst (jJc (tC (.int 8)) (jJc (tC (.int 4)) (jJc tI2 (jJc tI2 tNil))))) (tOp rSub (tCB rLen C2) tI1)) (jJs jJp (jJc B0 (jJc (tOp rIxF (tLst (jJc (tC (.int 5)) (jJc tI2 (jJc tI1 (jJc tI1 tNil))))) (tOp rSub (tCB rLen C2) tI1)) tNil)))) tNil))))))
noncomputable def uU7:TS3:=tSeq (tIfS (jJx (tOp rEqA B1 tI2)) (tRet (jJs jXl (jJc B0 (jJc (tOp jJ7 tI2 (jJs jJp (jJc B0 (jJc (tC (.int 7)) tNil)))) (jJc (tOp jJ7 tI2 (jJs jJp (jJc B0 (jJc tI2 tNil)))) tNil))))) jKm) uU6
noncomputable def uU8:TS3:=tSeq (tIfS (jJx (tOp rEqA B1 tI1)) (tRet (jJs jXj (jJc (tOp jJ7 tI1 (jJs jJp (jJc B0 (jJc (tC (.int 8)) tNil)))) tNil))) jKm) uU7
noncomputable def uU9:TS3:=tSeq (tIfS (jJx (tOp rEqA B1 tI0)) (tRet (jJs jVo (jJc B0 (jJc (tOp jJ7 tI1 (jJs jJp (jJc B0 (jJc (tC (.int 8)) tNil)))) (jJc (tOp jJ7 tI2 (jJs jJp (jJc B0 (jJc (tC (.int 5)) tNil)))) tNil))))) jKm) uU8
theorem kXq:jYj=tSeq (tAsg (jJs jJp (jJc B0 (jJc (tC (.int 7)) tNil))) D1) (tSeq (tIfS (jJx (tOp rEqA B1 (tC (.int 6)))) (tRet (jJs jXk (jJc (tOp jJ7 tI2 (jJs jJp (jJc B0 (jJc (tC (.int 7)) tNil)))) tNil))) jKm) uU9):=rfl
theorem kU2:RdOk jYb jYj qXd:=by
 intro xs G Q h_;apply xe2 h_;clear h_;intro b n;refine ae3 ?_;intro hb hn kk;show jYj _ [some (.ref b),none,none] G
 have hs:=sz;rw[kXq]
 exists rEqA
 refine⟨b,_,n,rfl,hb,by omega,by omega,by omega,λw G1 w0 w1 b1 k1=> ?_⟩
 obtain⟨w,rfl⟩:=lKo w0;have e0:eqG G1 (T.int (w:Nat)) (T.int 0)=some (decide (w=0)):=jKq (c:=0);have e1:eqG G1 (T.int (w:Nat)) (T.int 1)=some (decide (w=1)):=jKq (c:=1);have e2:eqG G1 (T.int (w:Nat)) (T.int 2)=some (decide (w=2)):=jKq (c:=2);have e6:eqG G1 (T.int (w:Nat)) (T.int 6)=some (decide (w=6)):=jKq (c:=6)
 exists e6
 split
 .refine⟨b,_,_,rfl,b1,by omega,by omega,by omega,λr G2 r0 r1 b2 k2=> ?_⟩
  exists tSeq
  obtain⟨r,rfl⟩:=lKo r0;refine⟨2+r,by simp,by omega,by omega,λG3 s3=> ?_⟩
  exact kk _ G3 ((uV8 (n:=2+r) (by omega)).any (by omega) (by omega) (by omega)) (by rw[jXd];omega) ((b2.sub s3).mono (by omega)) ((k1.trans k2).trans (.sub s3))
 exists uU9,rEqA,e0
 split
 .refine⟨b,_,_,rfl,b1,by omega,by omega,by omega,λr G2 r0 r1 b2 k2=> ?_⟩
  exists tSeq
  refine⟨b,_,_,rfl,b2,by omega,by omega,by omega,λq G3 q0 q1 b3 k3=> ?_⟩
  exists tSeq
  obtain⟨r,rfl⟩:=lKo r0;obtain⟨q,rfl⟩:=lKo q0;refine⟨b,1+r,2+q,_,by simp,b3,by omega,by omega,by omega,by omega,by omega,λW G4 ok b4 k4=> ?_⟩
  exact kk W G4 (ok.any (by omega) (by omega) (by omega)) (by rw[ok.len];omega) (b4.mono (by omega)) (((k1.trans k2).trans k3).trans k4)
 exists uU8,rEqA,e1
 split
 .refine⟨b,_,_,rfl,b1,by omega,by omega,by omega,λr G2 r0 r1 b2 k2=> ?_⟩
  exists tSeq
  obtain⟨r,rfl⟩:=lKo r0;refine⟨1+r,by simp,by omega,by omega,λG3 s3=> ?_⟩
  exact kk _ G3 ((qQg (n:=1+r) (by omega)).any (by omega) (by omega) (by omega)) (by rw[(qQg (n:=1+r) (by omega)).len];omega) ((b2.sub s3).mono (by omega)) ((k1.trans k2).trans (.sub s3))
 exists uU7,rEqA,e2
 split
 .refine⟨b,_,_,rfl,b1,by omega,by omega,by omega,λr G2 r0 r1 b2 k2=> ?_⟩
  exists tSeq
  refine⟨b,_,_,rfl,b2,by omega,by omega,by omega,λq G3 q0 q1 b3 k3=> ?_⟩
  exists tSeq
  obtain⟨r,rfl⟩:=lKo r0;obtain⟨q,rfl⟩:=lKo q0;refine⟨b,2+r,2+q,_,by simp,b3,by omega,by omega,by omega,by omega,by omega,λW G4 ok b4 k4=> ?_⟩
  exact kk W G4 (ok.any (by omega) (by omega) (by omega)) (by rw[ok.len];omega) (b4.mono (by omega)) (((k1.trans k2).trans k3).trans k4)
 exists uU6
 refine⟨b,_,_,rfl,b1,by omega,by omega,by omega,λr G2 r0 r1 b2 k2=> ?_⟩
 exists tSeq
 refine⟨b,_,_,rfl,b2,by omega,by omega,by omega,λq G3 q0 q1 b3 k3=> ?_⟩
 exists tSeq
 obtain⟨r,rfl⟩:=lKo r0;obtain⟨q,rfl⟩:=lKo q0;refine⟨b,1+r,2+q,_,by simp,b3,by omega,by omega,by omega,by omega,by omega,λW G4 ok b4 k4=> ?_⟩
 exists encW,List.length_map
 have hWl:=ok.len;have hfine:=ok.fine (by omega) (by omega)
 have hends:=qZp ok.deg
 obtain⟨c,d,hc,hd,hd1,hd2,hdc,hcm⟩:∃c d:Nat,L2.atI [T.int 8,T.int 4,T.int 2,T.int 2] ((W.length:Int)-1)=some (.int (c:Nat))/\L2.atI [T.int 5,T.int 2,T.int 1,T.int 1] ((W.length:Int)-1)=some (.int (d:Nat))/\1<=d/\d<=5/\d+1<=c/\c<=8/\c*W.length<=8:=by
  have:W.length=1\/W.length=2\/W.length=3\/W.length=4:=by omega
  rcases this with h | h | h | h<;>rw[h]
  .exact⟨8,5,rfl,rfl,by decide,by decide,by decide,by decide,by decide⟩
  .exact⟨4,2,rfl,rfl,by decide,by decide,by decide,by decide,by decide⟩
  .exact⟨2,1,rfl,rfl,by decide,by decide,by decide,by decide,by decide⟩
  .exact⟨2,1,rfl,rfl,by decide,by decide,by decide,by decide,by decide⟩
 refine⟨by omega,λp1 hp1=>⟨_,hc,by omega,λp2 hp2=>⟨_,hd,?_⟩⟩⟩
 have sub5:Sub G4 (gup (gup G4 p1 (GO.lst [T.int 8,T.int 4,T.int 2,T.int 2])) p2 (GO.lst [T.int 5,T.int 2,T.int 1,T.int 1])):=(Sub.new hp1).trans (.new hp2)
 generalize gup (gup G4 p1 (GO.lst [T.int 8,T.int 4,T.int 2,T.int 2])) p2 (GO.lst [T.int 5,T.int 2,T.int 1,T.int 1])=G5 at sub5 ⊢
 refine⟨b,(d:Nat),_,rfl,b4.sub sub5,by omega,by omega,by omega,λx G6 x0 x1 b6 k6=> ?_⟩
 obtain⟨x,rfl⟩:=lKo x0;refine⟨_,rfl,_,rfl,?_⟩;have hm:(c-x)*W.length<=8:=lKc (lXh _ (by omega)) hcm.2
 have hcost:(jK0 W).length*(c-x)<=16*8:=lXi (lKc hends (by rw[hWl];exact lXi (show 1+r<=4 by omega) (show 2+q<=4 by omega))) (by omega)
 refine⟨b,W,c-x,_,by rw[show (((c:Nat):Int)-(x:Nat))=((c-x:Nat):Int) by omega];rfl,b6,by omega,hfine,ok.sym,by omega,by omega,by omega,λV G7 cov b7 k7=> ?_⟩
 have h8V:V.length<=8:=by
  rcases cov with z | ⟨sh,cn⟩
  .rw[z,hWl];omega
  .rw[sh.len];exact hm
 refine kk V G7 ?_ h8V (b7.mono (by omega)) (((((k1.trans k2).trans k3).trans k4).trans (.sub sub5)).trans k6 |>.trans k7)
 rcases cov with rfl | ⟨sh,cn⟩
 .exact ok.any (by omega) (by omega) (by omega)
 .refine⟨by rw[sh.len];exact Nat.mul_pos (by omega) (by omega),by rw[sh.len];exact lKc hm (by decide),sh.sym,λy es hy=> ?_,cn⟩
  obtain⟨es',h1,h2⟩:=sh.row y es hy;have:=ok.deg _ _ h1;omega
def lx:List Nat->List Nat->Prop
 | [],_=>False
 | _::_,[]=>False
 | a::u,b::v=>a<b\/(a=b/\lx u v)
def slt(u v:List Nat):Prop:=u.length<v.length\/(u.length=v.length/\lx u v)
theorem uJ3:∀u:List Nat,¬ lx u u
 | []=>λh=>h
 | a::u=>λh=>by
  rcases h with h | ⟨_,h⟩
  .exact lKx _ h
  .exact uJ3 u h
theorem kZm:∀{u v w:List Nat},lx u v->lx v w->lx u w
 | [],_,_,h,_=>(show False from h).elim
 | _::_,[],_,h,_=>(show False from h).elim
 | _::_,_::_,[],_,h=>(show False from h).elim
 | a::u,b::v,c::w,h,k=>by
  rcases h with h | ⟨rfl,h⟩<;>rcases k with k | ⟨rfl,k⟩
  .exact .inl (lXq h k)
  .exact .inl h
  .exact .inl k
  .exact .inr ⟨rfl,kZm h k⟩
theorem uJ4{x y:List Nat}:∀{u v:List Nat},u.length=v.length->lx u v->lx (u++x) (v++y)
 | [],_,_,h=>(show False from h).elim
 | _::_,[],_,h=>(show False from h).elim
 | a::u,b::v,e,h=>by
  rcases h with h | ⟨rfl,h⟩
  .exact .inl h
  .exact .inr ⟨rfl,uJ4 (by simpa using e) h⟩
theorem qUo{a b:Nat}(h:a<b):∀u:List Nat,lx (u++[a]) (u++[b])
 | []=> .inl h
 | _::u=> .inr ⟨rfl,qUo h u⟩
theorem kQh{u:List Nat}(h:slt u u):False:=by
 rcases h with h | h
 .exact lKx _ h
 .exact uJ3 u h.2
theorem jUl{u v w:List Nat}(h:slt u v)(k:slt v w):slt u w:=by
 rcases h with h | ⟨h,h'⟩<;>rcases k with k | ⟨k,k'⟩
 .exact .inl (lXq h k)
 .exact .inl (by omega)
 .exact .inl (by omega)
 .exact .inr ⟨h.trans k,kZm h' k'⟩
theorem kQg{u v:List Nat}{a b:Nat}(h:slt u v):slt (u++[a]) (v++[b]):=by
 rcases h with h | ⟨h,h'⟩
 .exact .inl (by simp;exact h)
 .exact .inr ⟨by simp;exact h,uJ4 h h'⟩
theorem kY7{u:List Nat}{a b:Nat}(h:a<b):slt (u++[a]) (u++[b]):= .inr ⟨by simp,qUo h u⟩
def sle(u v:List Nat):Prop:=u=v\/slt u v
theorem kUu{u v w:List Nat}(h:sle u v)(k:sle v w):sle u w:=by
 rcases h with rfl | h
 .exact k
 .rcases k with rfl | k
  .exact .inr h
  .exact .inr (jUl h k)
theorem kQj{u v:List Nat}{d:Nat}(h:sle u v):sle (u++[d]) (v++[d]):=by
 rcases h with rfl | h
 .exact .inl rfl
 .exact .inr (kQg h)
theorem qXl{u v:List Nat}(h:sle u v)(k:sle v u):u=v:=by
 rcases h with h | h
 .exact h
 .rcases k with k | k
  .exact k.symm
  .exact (kQh (jUl h k)).elim
def jZc(W:Web):Nat->List Nat->Nat->Prop
 | r,[],x=>r=x
 | r,d::u,x=>∃s j,en W r d=some (s,j)/\jZc W s u x
theorem kKu{W:Web}{x d y j:Nat}(h:en W x d=some (y,j)):∀{u:List Nat}{r:Nat},jZc W r u x->jZc W r (u++[d]) y
 | [],r,e=>by cases (show r=x from e);exact⟨y,j,h,rfl⟩
 | c::u,r,⟨s,k,e,l⟩=>⟨s,k,e,kKu h l⟩
theorem jYr{W:Web}{d y:Nat}:∀{u:List Nat}{r:Nat},jZc W r (u++[d]) y->∃x j,jZc W r u x/\en W x d=some (y,j)
 | [],r,⟨s,j,e,l⟩=>by cases (show s=y from l);exact⟨r,j,rfl,e⟩
 | c::u,r,⟨s,k,e,l⟩=>by
  obtain⟨x,j,h1,h2⟩:=jYr l;exact⟨x,j,⟨s,k,e,h1⟩,h2⟩
structure Least (W:Web) (r x:Nat) (w:List Nat):Prop where
 to:jZc W r w x
 le:∀u,jZc W r u x->sle w u
theorem Least.unique{W:Web}{r x:Nat}{w w':List Nat}(h:Least W r x w)(h':Least W r x w'):w=w':=qXl (h.le _ h'.to) (h'.le _ h.to)
abbrev PE:=Nat×Option (Nat×Nat)×List Nat
structure Tr (W:Web) (r0 a j:Nat) (P:List PE):Prop where
 nd:(P.map Prod.fst).Nodup
 zero:P[0]? =some (r0,none,[])
 to:∀p,p∈P->jZc W r0 p.2.2 p.1
 par:∀p,p∈P->p=(r0,none,[])\/∃(i:Nat)(q:PE)(d:Nat),(i<a\/(i=a/\d<j))/\P[i]? =some q/\p.2.1=some (q.1,d)/\p.2.2=q.2.2++[d]
 inc:∀(i k:Nat)(p q:PE),i<k->P[i]? =some p->P[k]? =some q->slt p.2.2 q.2.2
 cl:∀(i:Nat)(p:PE)(d y k:Nat),(i<a\/(i=a/\d<j))->P[i]? =some p->en W p.1 d=some (y,k)->∃q,q∈P/\q.1=y/\sle q.2.2 (p.2.2++[d])
theorem kY2{W:Web}{r0:Nat}:Tr W r0 0 0 [(r0,none,[])] where
 nd:=by simp
 zero:=rfl
 to:=λp hp=>by rw[lJ0.mp hp];rfl
 par:=λp hp=> .inl (lJ0.mp hp)
 inc:=λi k p q h h1 h2=>by
  have:=(lJe.mp h2).1;simp at this;omega
 cl:=λi p d y k h=>by omega
theorem Tr.old{W:Web}{r0 a j:Nat}{P:List PE}{x:PE}(h:Tr W r0 a j P)(hx:P[a]? =some x):∀p,p∈P->slt p.2.2 (x.2.2++[j]):=by
 intro p hp
 rcases h.par p hp with rfl | ⟨i,q,d,hi,hq,_,e⟩
 .exact .inl (by simp)
 .rw[e]
  rcases hi with hi | ⟨rfl,hd⟩
  .exact kQg (h.inc i a q x hi hq hx)
  .rw[hx] at hq;cases hq;exact kY7 hd
theorem Tr.skip{W:Web}{r0 a j y k:Nat}{P:List PE}{x:PE}(h:Tr W r0 a j P)(hx:P[a]? =some x)(he:en W x.1 j=some (y,k))(hy:y∈P.map Prod.fst):Tr W r0 a (j+1) P where
 nd:=h.nd
 zero:=h.zero
 to:=h.to
 par:=λp hp=>by
  rcases h.par p hp with e | ⟨i,q,d,hi,r⟩
  .exact .inl e
  .exact .inr ⟨i,q,d,by omega,r⟩
 inc:=h.inc
 cl:=λi p d z k' hi hp hz=>by
  by_cases hh:i=a/\d=j
  .obtain⟨rfl,rfl⟩:=hh;rw[hx] at hp;cases hp;rw[he] at hz;cases hz;obtain⟨q,hq,rfl⟩:=lJi.mp hy;exact⟨q,hq,rfl,.inr (h.old hx q hq)⟩
  .exact h.cl i p d z k' (by omega) hp hz
theorem Tr.add{W:Web}{r0 a j y k:Nat}{P:List PE}{x:PE}(h:Tr W r0 a j P)(hx:P[a]? =some x)(he:en W x.1 j=some (y,k))(hy:y∉P.map Prod.fst):Tr W r0 a (j+1) (P++[(y,some (x.1,j),x.2.2++[j])]):=by
 have hal:a<P.length:=(lJe.mp hx).1
 have lf:∀{i:Nat}{q:PE},P[i]? =some q->(P++[(y,some (x.1,j),x.2.2++[j])])[i]? =some q:=λ{i q} hq=>by
  rw[lJ9 (lJe.mp hq).1];exact hq
 have rt:∀{i:Nat}{q:PE},(P++[(y,some (x.1,j),x.2.2++[j])])[i]? =some q->P[i]? =some q\/(i=P.length/\q=(y,some (x.1,j),x.2.2++[j])):=λ{i q} hq=>by
  by_cases hi:i<P.length
  .rw[lJ9 hi] at hq;exact .inl hq
  .have:=(lJe.mp hq).1;simp at this;have e:i=P.length:=by omega
   subst e;rw[lQe (lJh _)] at hq;simp at hq;exact .inr ⟨rfl,hq.symm⟩
 refine⟨?_,lf h.zero,λp hp=> ?_,λp hp=> ?_,λi m p q him hp hq=> ?_,λi p d z k' hi hp hz=> ?_⟩
 .rw[lKe,lQ8];refine⟨h.nd,by simp,λu hu v hv=> ?_⟩
  have:v=y:=by simpa using hv
  subst this;rintro rfl;exact hy hu
 .rcases (lKb.mp hp) with hp | hp
  .exact h.to p hp
  .rw[lJ0.mp hp];exact kKu he (h.to x (lJk hx))
 .rcases (lKb.mp hp) with hp | hp
  .rcases h.par p hp with e | ⟨i,q,d,hi,hq,r⟩
   .exact .inl e
   .exact .inr ⟨i,q,d,by omega,lf hq,r⟩
  .rw[lJ0.mp hp];exact .inr ⟨a,x,j,by omega,lf hx,rfl,rfl⟩
 .rcases rt hp with hp | ⟨rfl,rfl⟩<;>rcases rt hq with hq | ⟨rfl,rfl⟩
  .exact h.inc i m p q him hp hq
  .exact h.old hx p (lJk hp)
  .have:=(lJe.mp hq).1;omega
  .omega
 .rcases rt hp with hpo | ⟨rfl,rfl⟩
  .by_cases hh:i=a/\d=j
   .obtain⟨rfl,rfl⟩:=hh;rw[hx] at hpo;cases hpo;rw[he] at hz;cases hz;exact⟨_,lKs _ (List.mem_singleton_self _),rfl,.inl rfl⟩
   .obtain⟨q,h1,h2⟩:=h.cl i p d z k' (by omega) hpo hz
    exact⟨q,lK1 _ h1,h2⟩
  .omega
theorem Tr.next{W:Web}{r0 a n:Nat}{P:List PE}{x:PE}(h:Tr W r0 a n P)(hx:P[a]? =some x)(hn:∀d e,en W x.1 d=some e->d<n):Tr W r0 (a+1) 0 P where
 nd:=h.nd
 zero:=h.zero
 to:=h.to
 par:=λp hp=>by
  rcases h.par p hp with e | ⟨i,q,d,hi,r⟩
  .exact .inl e
  .exact .inr ⟨i,q,d,by omega,r⟩
 inc:=h.inc
 cl:=λi p d z k' hi hp hz=>by
  refine h.cl i p d z k' ?_ hp hz
  by_cases hh:i=a
  .subst hh;rw[hx] at hp;cases hp;exact .inr ⟨rfl,hn d _ hz⟩
  .exact .inl (by omega)
theorem Tr.all{W:Web}{r0:Nat}{P:List PE}(h:Tr W r0 P.length 0 P):∀(n:Nat)(u:List Nat)(y:Nat),u.length=n->jZc W r0 u y->∃q,q∈P/\q.1=y/\sle q.2.2 u
 | 0,u,y,hn,hl=>by
  have:u=[]:=lQg.mp hn;subst this;cases (show r0=y from hl)
  exact⟨_,lJk h.zero,rfl,.inl rfl⟩
 | n+1,u,y,hn,hl=>by
  rcases List.eq_nil_or_concat u with rfl | ⟨u',d,rfl⟩
  .simp at hn
  .rw[List.concat_eq_append] at hl hn ⊢;obtain⟨x,j,h1,h2⟩:=jYr hl;obtain⟨q,hq,rfl,hs⟩:=h.all n u' x (by simpa using hn) h1
   obtain⟨i,hi⟩:=lJ1 hq;obtain⟨q',a1,a2,a3⟩:=h.cl i q d y j (.inl (lJe.mp hi).1) hi h2;exact⟨q',a1,a2,kUu a3 (kQj hs)⟩
theorem kZk{α β:Type}{f:α->β}:∀{P:List α},(P.map f).Nodup->∀{p q:α},p∈P->q∈P->f p=f q->p=q
 | [],_,_,_,h,_,_=>by simp at h
 | a::P,nd,p,q,hp,hq,e=>by
  rw[lJq,lKn] at nd
  rcases (lJp.mp hp) with ep | hp'<;>rcases lJp.mp hq with eq | hq'
  .rw[ep,eq]
  .exact absurd (lJi.mpr ⟨q,hq',by rw[<-e,ep]⟩) nd.1
  .exact absurd (lJi.mpr ⟨p,hp',by rw[e,eq]⟩) nd.1
  .exact kZk nd.2 hp' hq' e
theorem Tr.least{W:Web}{r0:Nat}{P:List PE}(h:Tr W r0 P.length 0 P){p:PE}(hp:p∈P):Least W r0 p.1 p.2.2:=by
 refine⟨h.to p hp,λu hu=> ?_⟩
 obtain⟨q,hq,e,hs⟩:=h.all _ u _ rfl hu;rw[kZk h.nd hq hp e] at hs;exact hs
def encO:Option (Nat×Nat)->T
 | none=> .non
 | some e=>encE e
def jU4(P:List PE):List (L2.Key×T):=P.map λp=>(keyN p.1,encO p.2.1)
theorem qYu{P:List PE}:(jU4 P).map Prod.fst=(P.map Prod.fst).map keyN:=by
 unfold jU4;rw[lJr,lJr];rfl
theorem qYy{x y:Nat}(h:keyN x=keyN y):x=y:=by
 have:((x:Nat):Int)=(y:Nat):=Sum.inl.inj h;omega
theorem kY1{α:Type}{f:α->Nat}{g:α->T}:∀{P:List α},(P.map f).Nodup->∀{p:α},p∈P->valT (P.map λp=>(keyN (f p),g p)) (keyN (f p))=some (g p)
 | [],_,_,h=>by simp at h
 | a::P,nd,p,hp=>by
  rw[lJq,lKn] at nd;rw[lJq];unfold valT;rw[lQf]
  by_cases hh:f a=f p
  .rcases (lJp.mp hp) with rfl | hp
   .simp
   .exact absurd (lJi.mpr ⟨p,hp,hh.symm⟩) nd.1
  .have hp':p∈P:=by
    rcases (lJp.mp hp) with rfl | hp
    .exact absurd rfl hh
    .exact hp
   have:decide (keyN (f a)=keyN (f p))=false:=lJ4 λe=>hh (qYy e)
   simp only[this];exact kY1 nd.2 hp'
theorem qUy{G:Gp}{d:Addr}{kvs:List (L2.Key×T)}{x:Nat}(h:G d=some (.dck kvs)):ixR G (.ref d) (.int (x:Nat))=valT kvs (keyN x):=by
 have h1:seqT G (.ref d)=none:=by simp only[seqT,h,asL]
 have h2:dAt G (.ref d) (.int (x:Nat))=some (valT kvs (keyN x)):=by simp only[dAt,h,jQ6];rfl
 unfold ixR;rw[h1,h2]
noncomputable def jQr:Sp3:=λxs G Q=>∃(W:Web)(r0:Nat),xs=[encW W,.int r0]/\Fine W/\r0<W.length/\∀d G' P,G d=none->G' d=some (.dck (jU4 P))->P.map Prod.fst=bfs W r0->Tr W r0 P.length 0 P->Sub G G'->Q (.ref d) G'
def kJ2:List Str:=["web","room","comings","level","further","here","door","end"]
noncomputable def jQu:TS3:=
 (tSeq (tAsg (qK2 B1 (tC .non)) D2)
 (tSeq (tAsg (tLst C1) D3)
 (tSeq (jUz (tTru rTru B3) (tSeq (tAsg (tLst tNil) D4)
 (tSeq (tFor (iSeq B3) D5 (tFor (iEnT (jJc (tOp rIxF B0 B5) tNil)) (gTup 2 (jKa D6 (jKa D7 gNil))) (tIfS (jJx (tOp jK4 (tOp rIxF B7 tI0) B2)) (tSeq (tAsg (tTup (jJc B5 C6)) (gSub B2 (tOp rIxF B7 tI0) jQh))
 (jQg (tBM "list" jJ5 B4 (jJc (tOp rIxF B7 tI0) tNil)))) jKm)))
 (tAsg B4 D3))))
 (tRet B2))))
theorem jXr:RdOk jQr jQu kJ2:=by
 intro xs G Q h_;apply xe2 h_;clear h_;intro W r0;refine ae3 ?_;intro fine hr0 kk;show jQu _ [some (.tup (W.map encR)),some (.int r0),none,none,none,none,none,none] G
 have hs:=sz;have hl:=fine.len
 exists jQu,jUz,jJt,qK2,iSeq,iEnT
 intro d hd;refine⟨keyN r0,rfl,by omega,λl hl0=> ?_⟩
 have hdl:d≠l:=jJf (jJh (G:=G) (a:=d) (o:= .dck [(keyN r0,T.non)])) hl0;refine⟨λm τ G'=>∃(a:Nat)(l:Addr)(v4 v5 v6 v7:Option T)(F:List Nat)(P:List PE),τ=[some (.tup (W.map encR)),some (.int r0),some (.ref d),some (.ref l),v4,v5,v6,v7]/\d≠l/\G l=none/\G' d=some (.dck (jU4 P))/\P.map Prod.fst=F/\Tr W r0 a 0 P/\G' l=some (.lst (jJj (F.drop a)))/\a<=F.length/\Bfs W a F/\bfs W r0=bfsN W (W.length-a) a F/\Sub G G'/\m=W.length-a,?_,?_⟩
 .refine⟨_,0,l,none,none,none,none,[r0],[(r0,none,[])],rfl,hdl,?_,?_,rfl,kY2,jJh,lJx _,⟨by simp,by simpa using hr0,λi x e hi=>absurd hi (lKd _)⟩,rfl,(Sub.new hd).trans (.new hl0),rfl⟩
  .rw[jJm hdl.symm] at hl0;exact hl0
  .rw[jJm hdl];exact jJh
 intro m τ G1 h_;apply xe8 h_;clear h_;intro a l v4 v5 v6 v7 F P;refine ae11 ?_;intro hdl hl0 h1 hk hT h2 haF hB hb hs1 e10_;subst e10_;have hFl:=jQk hB.nd hB.lt
 exists h2
 split
 .rename_i hne
  have haF':a<F.length:=by
   rcases lQr a F.length with z | z
   .exact z
   .rw[List.drop_of_length_le z] at hne;simp[jJj] at hne
  refine⟨λτ' G'=>∃(l':Addr)(v4 v5 v6 v7:Option T)(F':List Nat)(P':List PE),τ'=[some (.tup (W.map encR)),some (.int r0),some (.ref d),some (.ref l'),v4,v5,v6,v7]/\d≠l'/\G l'=none/\G' d=some (.dck (jU4 P'))/\P'.map Prod.fst=F'/\Tr W r0 F.length 0 P'/\G' l'=some (.lst (jJj (F'.drop F.length)))/\F.length<=F'.length/\Bfs W F.length F'/\bfs W r0=bfsN W (W.length-F.length) F.length F'/\Sub G G',?_,by omega,λp hp=> ?_⟩
  .intro τ' G' h_;apply xe7 h_;clear h_;intro l' v4 v5 v6 v7 F' P';refine ae10 ?_;intro i1 i2 i3 i4 iT i5 i6 i7 i8 i9;exact⟨W.length-F.length,by omega,F.length,l',v4,v5,v6,v7,rfl,i1,i2,F',P',i3,i4,iT,i5,i6,i7,i8,i9,rfl⟩
  .have hpd:d≠p:=jJf h1 hp;have hpl:l≠p:=jJf h2 hp;have hp0:=jQe hs1 hp;refine⟨jJj (F.drop a),jJn (by rw[jJm hpl];exact h2),?_⟩
   refine⟨λi τ G'=>∃(v5 v6 v7:Option T)(F':List Nat)(P':List PE),τ=[some (.tup (W.map encR)),some (.int r0),some (.ref d),some (.ref l),some (.ref p),v5,v6,v7]/\G' d=some (.dck (jU4 P'))/\P'.map Prod.fst=F'/\Tr W r0 (a+i) 0 P'/\G' l=some (.lst (jJj (F.drop a)))/\G' p=some (.lst (jJj (F'.drop F.length)))/\(∃E,F'=F++E)/\Bfs W (a+i) F'/\bfs W r0=bfsN W (W.length-(a+i)) (a+i) F'/\Sub G G',?_,?_,?_,?_⟩
   .exact⟨v5,v6,v7,F,P,rfl,by rw[jJm hpd];exact h1,hk,hT,by rw[jJm hpl];exact h2,by rw[List.drop_length];exact jJh,⟨[],by simp⟩,hB,hb,hs1.trans (.new hp)⟩
   .intro i τ G' hi h_;apply xe5 h_;clear h_;intro v5 v6 v7 F' P';refine ae9 ?_;intro j1 jk jT j2 j3 jE jB jb js;exact jJn j2
   .intro i y τ G2 hy h_;apply xe5 h_;clear h_;intro v5 v6 v7 F' P';refine ae9 ?_;intro j1 jk jT j2 j3 q5_ jB jb js;obtain⟨E,jE⟩:=q5_;obtain⟨x,hx,rfl⟩:=jKd hy;rw[List.getElem?_drop] at hx;have hai:a+i<F.length:=(lJe.mp hx).1;have hx':F'[a+i]? =some x:=by rw[jE,lJ9 hai];exact hx
    have hxW:=jB.lt x (lJk hx');have hW:W[x]? =some W[x]:=lJf hxW
    generalize W[x]=es at hW
    exists iEnT,jKr hW,encR,jJt
    refine⟨λj τ G'=>∃(v6 v7:Option T)(F2:List Nat)(P2:List PE),τ=[some (.tup (W.map encR)),some (.int r0),some (.ref d),some (.ref l),some (.ref p),some (.int x),v6,v7]/\G' d=some (.dck (jU4 P2))/\P2.map Prod.fst=F2/\Tr W r0 (a+i) j P2/\G' l=some (.lst (jJj (F.drop a)))/\G' p=some (.lst (jJj (F2.drop F.length)))/\F2=vis F' (es.take j)/\Sub G G',?_,?_,?_,?_⟩
    .exact⟨v6,v7,F',P',rfl,j1,jk,jT,j2,j3,rfl,js⟩
    .intros;trivial
    .intro j y τ G3 hy h_;apply xe4 h_;clear h_;intro v6 v7 F2 P2;refine ae7 ?_;intro q1 qk qT q2 q3 q4 q5;obtain⟨z,hz,rfl⟩:=kQ7 hy;obtain⟨e,he,rfl⟩:=jKd hz;have hF2n:F2.Nodup:=by rw[q4];exact vis_sub.2.2.2 jB.nd
     have hF2l:∀y,y∈F2->y<W.length:=by rw[q4];exact uUn fine hW jB.lt j
     have hF2:=jQk hF2n hF2l;have hkl:(jU4 P2).length=F2.length:=by rw[<-qk];simp[jU4]
     obtain⟨⟨E',e1⟩,_⟩:=vis_sub (F:=F') (es:=es.take j)
     have hFF:F.length<=F2.length:=by
      rw[q4,e1,jE];simp only[lJv];omega
     have hx2:F2[a+i]? =some x:=by
      rw[q4,e1,lJ9 (lJe.mp hx').1];exact hx'
     rw[<-qk] at hx2;obtain⟨px,hpx,hpx1⟩:=jKd hx2;have hee:en W px.1 j=some (e.1,e.2):=by rw[<-hpx1];exact jKu hW he
     have qk':(jU4 P2).map Prod.fst=F2.map keyN:=by rw[qYu,qk]
     exists encE,jK4,uQt q1 qk'
     by_cases hm:e.1∈F2
     .rw[lJb (by simp[hm])]
      exact⟨F2,P2,q1,qk,qT.skip hpx hee (by rw[qk];exact hm),q2,q3,by rw[jZd he,<-q4,lJc (by simpa using hm)],q5⟩
     .rw[lJc (by simp[hm])]
      exists kY9 q1 (show (jU4 P2).length<sizeLine by omega)
      have hgp:gup G3 d (.dck (putT (jU4 P2) (keyN e.1) (.tup [.int x,.int j]))) p=some (.lst (jJj (F2.drop F.length))):=by rw[jJm hpd.symm];exact q3
      refine⟨by omega,by rw[jJ4 hgp];trivial,_,hgp,by simp[jJj];omega,F2++[e.1],P2++[(e.1,some (px.1,j),px.2.2++[j])],?_,?_,?_,?_,?_,?_,?_⟩
      .rw[jJm hpd,jJh,qX7 (by rw[qk',kZt];exact hm),<-hpx1]
       simp only[jU4,lKe];rfl
      .rw[lKe,qk];rfl
      .exact qT.add hpx hee (by rw[qk];exact hm)
      .rw[jJm hpl,jJm hdl.symm];exact q2
      .rw[mJf hFF];simp[jJj]
      .rw[jZd he,<-q4,lJb (by simpa using hm)]
      .exact (q5.over hd).over hp0
    .intro τ G3 h_;apply xe4 h_;clear h_;intro v6 v7 F2 P2;refine ae7 ?_;intro q1 qk qT q2 q3 q4 q5;rw[jJ2,lJg] at qT;rw[jJ2,lJg,lQz] at q4;obtain⟨⟨E',e1⟩,_⟩:=vis_sub (F:=F') (es:=es)
     have hx2:F2[a+i]? =some x:=by
      rw[q4,e1,lJ9 (lJe.mp hx').1];exact hx'
     rw[<-qk] at hx2;obtain⟨px,hpx,hpx1⟩:=jKd hx2;refine⟨_,_,_,rfl,F2,P2,q1,qk,qT.next hpx (λd' e he=> ?_),q2,q3,⟨E++E',by rw[q4,e1,jE,lQ7]⟩,?_,?_,q5⟩
     .rw[<-hpx1] at he;obtain⟨es',z1,z2⟩:=jKo he;rw[hW] at z1;cases z1;exact (lJe.mp z2).1
     .have:=jB.step fine hx';rw[jVy hW,<-q4] at this;exact this
     .rw[jb,show W.length-(a+i)=W.length-(a+(i+1))+1 by omega,kJv hx',jVy hW,<-q4];rfl
   .intro τ G2 h_;apply xe5 h_;clear h_;intro v5 v6 v7 F' P';refine ae9 ?_;intro j1 jk jT j2 j3 q5_ jB jb js;obtain⟨E,jE⟩:=q5_;have hlen:(jJj (F.drop a)).length=F.length-a:=by simp[jJj]
    rw[hlen,show a+(F.length-a)=F.length by omega] at jB jb jT
    exists tSeq
    exact⟨hpd,hp0,F',P',j1,jk,jT,j3,by rw[jE,lJv];omega,jB,jb,js⟩
 .rename_i hne
  have he:F.length<=a:=by
   have:jJj (F.drop a)=[]:=by simpa using hne
   have:=lJs List.length this;simp[jJj] at this;omega
  have hPl:P.length=a:=by have:=lJs List.length hk;simp at this;omega
  rw[kJw he] at hb;exact kk d G1 P hd h1 (by rw[hk,hb]) (by rw[hPl];exact hT) hs1
theorem qVj{z d:Nat}:encO (some (z,d))= .tup [.int (z:Nat),.int (d:Nat)]:=rfl
theorem qVk:encO none= .non:=rfl
noncomputable def jZt:Sp3:=λxs G Q=>∃(W:Web)(r x:Nat),xs=[encW W,.int r,.int x]/\AnyWeb W/\r<W.length/\x<W.length/\∀G' w,Least W r x w->w.length<=24->Sub G G'->Q (.tup (jJj w)) G'
def qZ5:List Str:=["web","one","other","comings","doors","end"]
noncomputable def jZz:TS3:=
 (tSeq (tAsg (jJs jQr (jJc B0 C1)) D3)
 (tSeq (tAsg (tLst tNil) D4)
 (tSeq (tAsg (tOp rIxF B3 B2) D5)
 (tSeq (jUz (jJx (tOp jZ7 B5 (tC .non))) (tSeq (jQg (tBM "list" jJ5 B4 (jJc (tOp rIxF B5 tI1) tNil)))
 (tAsg (tOp rIxF B3 (tOp rIxF B5 tI0)) D5)))
 (tRet (uKk C4))))))
theorem uUt{W:Web}{r0:Nat}{P:List PE}(h:Tr W r0 P.length 0 P):∀(i:Nat)(p:PE),P[i]? =some p->p.2.2.length<=i:=by
 intro i
 induction i using Nat.strongRecOn with
 | ind i ih=>
  intro p hp
  rcases h.par p (lJk hp) with rfl | ⟨k,q,d,_,hq,_,e⟩
  .simp
  .rw[e,lJv]
   have hki:k<i:=by
    rcases lQl k i with z | z | z
    .exact z
    .subst z;rw[hp] at hq;cases hq;have:=lJs List.length e;simp at this
    .have:=h.inc i k p q z hp hq;rw[e] at this
     rcases this with this | ⟨this,_⟩<;>simp at this
     omega
   have:=ih k hki q hq;simp;omega
theorem kXg:RdOk jZt jZz qZ5:=by
 intro xs G Q h_;apply xe3 h_;clear h_;intro W r x;refine ae4 ?_;intro any hr hx kk;show jZz _ [some (encW W),some (.int r),some (.int x),none,none,none] G
 have hs:=sz
 exists jZz,jUz,uKk
 refine⟨W,r,rfl,any.fine,hr,λd G1 P hd h1 hF hT s1=> ?_⟩
 have hxF:x∈P.map Prod.fst:=by rw[hF];exact (any.order hr).all x hx
 obtain⟨px,hpx,hpx1⟩:=lJi.mp hxF
 have hPl:P.length<=24:=by
  have h1:=lJs List.length hF;rw[(any.order hr).len] at h1;have:=any.len;simp at h1;omega
 have wl:∀p,p∈P->p.2.2.length<=24:=λp hp=>by
  obtain⟨i,hi⟩:=lJ1 hp;have:=uUt hT i p hi;have:=(lJe.mp hi).1;omega
 refine⟨by omega,λl hl=> ?_⟩
 have hdl:d≠l:=jJf h1 hl;have h1':gup G1 l (.lst []) d=some (.dck (jU4 P)):=by rw[jJm hdl];exact h1
 have hv:∀p,p∈P->valT (jU4 P) (keyN p.1)=some (encO p.2.1):=λp hp=>kY1 hT.nd hp
 have hv0:=hv px hpx;rw[hpx1] at hv0;refine⟨encO px.2.1,(qUy h1').trans hv0,?_⟩;refine⟨λm τ G'=>∃(p:PE)(ds:List Nat),τ=[some (encW W),some (.int r),some (.int x),some (.ref d),some (.ref l),some (encO p.2.1)]/\p∈P/\p.2.2++ds.reverse=px.2.2/\G' d=some (.dck (jU4 P))/\G' l=some (.lst (jJj ds))/\Sub G G'/\m=p.2.2.length,?_,?_⟩
 .exact⟨_,px,[],rfl,hpx,by simp,h1',jJh,s1.trans (.new hl),rfl⟩
 intro m τ G2 h_;apply xe2 h_;clear h_;intro p ds;refine ae6 ?_;intro hp hw h2 h3 s2 e5_;subst e5_;have hlG:G l=none:=jQe s1 hl
 exists jZ7
 rcases hT.par p hp with rfl | ⟨i,q,c,hi,hq,ho,hpw⟩
 .exists qVk,kKg
  refine⟨jJj ds,by simp only[jQ7,h3,asL],?_⟩
  have e1:(jJj ds).reverse=jJj px.2.2:=by rw[<-hw];simp[jJj]
  rw[e1];exact kk G2 px.2.2 (by rw[<-hpx1];exact hT.least hpx) (wl px hpx) s2
 .have hqm:=lJk hq;have hpl:=wl px hpx
  have hdl2:ds.length<=24:=by
   have:=lJs List.length hw;simp at this;omega
  rw[ho]
  exists qVj,kKg
  refine⟨λτ' G'=>∃(p':PE)(ds:List Nat),τ'=[some (encW W),some (.int r),some (.int x),some (.ref d),some (.ref l),some (encO p'.2.1)]/\p'∈P/\p'.2.2.length<p.2.2.length/\p'.2.2++ds.reverse=px.2.2/\G' d=some (.dck (jU4 P))/\G' l=some (.lst (jJj ds))/\Sub G G',?_,?_⟩
  .intro τ' G' h_;apply xe2 h_;clear h_;intro p' ds';refine ae6 ?_;intro i1 i2 i3 i4 i5 i6;exact⟨_,i2,p',rfl,i1,ds',i3,i4,i5,i6,rfl⟩
  .exists h3
   have h2':gup G2 l (.lst (jJj ds++[.int (c:Nat)])) d=some (.dck (jU4 P)):=by rw[jJm hdl];exact h2
   refine⟨by rw[jJ4 h3];trivial,by simp[jJj];omega,encO q.2.1,(qUy h2').trans (hv q hqm),q,rfl,hqm,by rw[hpw];simp,ds++[c],?_,h2',by simp[jJj],s2.over hlG⟩
   rw[<-hw,hpw];simp
structure OkD (d:Nat) (x:T):Prop where
 tr:tree x=true
 lay:(td x).canLay0=true
 dep:(td x).depth<=d
 eq:eqT x x=true
theorem uK6{i:Int}:OkD 0 (.int i):=⟨rfl,rfl,lXr (by simp[td,PyData.depth]),by simp[eqT]⟩
theorem kXz{d:Nat}:∀xs:List T,(∀x,x∈xs->OkD d x)->jQd xs=true/\PyData.canLayAll0 (tds xs)=true/\PyData.depthAll (tds xs)<=d/\eqTs xs xs=true
 | [],_=>⟨rfl,by simp[tds,PyData.canLayAll0],by simp[tds,PyData.depthAll],rfl⟩
 | x::xs,h=>by
  obtain⟨a1,a2,a3,a4⟩:=kXz xs λy hy=>h y (lJ5 _ hy)
  obtain⟨b1,b2,b3,b4⟩:=h x (lJ2 ..);refine⟨?_,?_,?_,?_⟩
  .show (tree x&&jQd xs)=true;rw[a1,b1];rfl
  .rw[tds,PyData.canLayAll0,a2,b2];rfl
  .rw[tds,PyData.depthAll];omega
  .show (eqT x x&&eqTs xs xs)=true;rw[a4,b4];rfl
theorem uK5{d:Nat}{xs:List T}(h:∀x,x∈xs->OkD d x):OkD (d+1) (.tup xs):=by
 obtain⟨a1,a2,a3,a4⟩:=kXz xs h;exact⟨a1,by rw[td,PyData.canLay0];exact a2,by rw[td,PyData.depth];omega,a4⟩
def plF(W:Web)(pls:List Plan)(a:Nat):Plan:=(pls[nuF (mk W) a]?).getD []
def endF(W:Web)(pls:List Plan)(a:Nat):Nat:=atM W a (plF W pls a) (plF W pls a).length
noncomputable def wayF(W:Web)(x y:Nat):List Nat:=Classical.epsilon λw=>Least W x y w
theorem uKh{W:Web}{x y:Nat}{w:List Nat}(h:Least W x y w):wayF W x y=w:=
 (Classical.epsilon_spec (p:=λw=>Least W x y w) ⟨w,h⟩).unique h
def kKe(n:Nat)(w:List Nat)(K:Nat):Plan:=if K=n then w.map some else List.replicate w.length none
def goF(W:Web)(pls:List Plan)(a:Nat)(w:List Nat):List Plan:=pls.zipIdx.map λpK=>pK.1++kKe (nuF (mk W) a) w pK.2
noncomputable def stF(W:Web)(pls:List Plan)(a b:Nat):List Plan:=
 if nuF (mk W) a≠nuF (mk W) b/\metM W a b (plF W pls a) (plF W pls b) (plF W pls a).length=none then goF W pls a (wayF W (endF W pls a) (endF W pls b)) else pls
def inF(W:Web)(a:Nat)(pls:List Plan)(k:Nat):List Plan:=(List.range k).foldl (λp b=>stF W p a b) pls
def ouF(W:Web)(k:Nat):List Plan:=(List.range k).foldl (λp a=>inF W a p a) (List.replicate (nk W) [])
theorem qY6{W:Web}{a k:Nat}{pls:List Plan}:inF W a pls (k+1)=stF W (inF W a pls k) a k:=by
 unfold inF;rw[lKr,lXg];rfl
theorem kQ4{W:Web}{k:Nat}:ouF W (k+1)=inF W k (ouF W k) k:=by
 unfold ouF;rw[lKr,lXg];rfl
theorem qV3{W:Web}{r k:Nat}{p x:Plan}(h:k<=p.length):atM W r (p++x) k=atM W r p k:=by
 unfold atM;rw[mJe h]
theorem qQ0{W:Web}{r y:Nat}:∀{w:List Nat}{p:Plan},PosM W r p->jZc W (atM W r p p.length) w y->PosM W r (p++w.map some)/\atM W r (p++w.map some) (p.length+w.length)=y
 | [],p,h,l=>by
  rw[lYe,lQ2];exact⟨h,l⟩
 | d::w,p,h,⟨s,j,e,l⟩=>by
  obtain⟨q1,q2⟩:=kQ1 (m:=some d) h λi hi=>by cases hi;exact⟨_,e⟩
  have hat:atM W r (p++[some d]) (p++[some d]).length=s:=by
   rw[lJv,lQw,jQl (m:=some d) (by simp),q2 _ (lJh _)]
   show ((en W _ d).map Prod.fst).getD 0=s
   rw[e];rfl
  obtain⟨z1,z2⟩:=qQ0 (w:=w) q1 (by rw[hat];exact l)
  rw[lQ7] at z1 z2;refine⟨z1,?_⟩;rw[<-z2];rw[lJv,lQw,lJ7,show p.length+(w.length+1)=p.length+1+w.length by omega]
  rfl
theorem kQ0{W:Web}{r:Nat}:∀{n:Nat}{p:Plan},PosM W r p->PosM W r (p++List.replicate n none)/\atM W r (p++List.replicate n none) (p.length+n)=atM W r p p.length
 | 0,p,h=>by
  rw[List.replicate_zero,lQ2];exact⟨h,rfl⟩
 | n+1,p,h=>by
  obtain⟨q1,q2⟩:=kQ1 (m:=none) h λi hi=>nomatch hi
  have hat:atM W r (p++[none]) (p++[none]).length=atM W r p p.length:=by
   rw[lJv,lQw,jQl (m:=none) (by simp),q2 _ (lJh _)]
   rfl
  obtain⟨z1,z2⟩:=kQ0 (n:=n) q1;rw[lQ7] at z1 z2;refine⟨z1,?_⟩;rw[hat] at z2;rw[<-z2,lJv,lQw,show p.length+(n+1)=p.length+1+n by omega]
  rfl
theorem met_iff{W:Web}{a b L:Nat}{p q:Plan}:metM W a b p q L≠none↔∃k,k<=L/\atM W a p k=atM W b q k:=by
 constructor
 .intro h
  by_cases c:∃k,k<=L/\atM W a p k=atM W b q k
  .exact c
  .exact absurd (kQ9 λj hj e=>c ⟨j,hj,e⟩) h
 .rintro⟨k,h1,h2⟩ h;unfold metM at h;rw[lXy] at h;exact absurd h2 (by simpa using h k (lJw.mpr (by omega)))
structure RuOk (W:Web) (pls:List Plan) (L:Nat):Prop where
 len:pls.length=nk W
 long:∀(K:Nat)(p:Plan),pls[K]? =some p->p.length=L
 pos:∀a,a<W.length->PosM W a (plF W pls a)
theorem jV4{W:Web}{pls:List Plan}{L a:Nat}(h:RuOk W pls L)(ha:a<W.length):pls[nuF (mk W) a]? =some (plF W pls a)/\(plF W pls a).length=L:=by
 obtain⟨v,h1,h2⟩:=kJe ha;have e:pls[nuF (mk W) a]? =some (pls[v]'(by rw[h.len];exact h2)):=by rw[kJc h1];exact lJf _
 have e2:plF W pls a=pls[v]'(by rw[h.len];exact h2):=by unfold plF;rw[e];rfl
 rw[e2];exact⟨e,h.long _ _ e⟩
theorem kZa{W:Web}:RuOk W (List.replicate (nk W) []) 0:=by
 refine⟨by simp,λK p hp=> ?_,λa _=> ?_⟩
 .have:=lJk hp;rw[List.mem_replicate] at this;rw[this.2];rfl
 .have:plF W (List.replicate (nk W) []) a=[]:=by
   unfold plF;rw[lXp];split<;>rfl
  rw[this];intro k i hk;simp at hk
def MetAll(W:Web)(pls:List Plan)(D:Nat->Nat->Prop):Prop:=∀x y,D x y->x<W.length->y<W.length->nuF (mk W) x≠nuF (mk W) y->∃k,k<=(plF W pls x).length/\atM W x (plF W pls x) k=atM W y (plF W pls y) k
theorem uXh{W:Web}{pls:List Plan}{L a b:Nat}{w:List Nat}{D:Nat->Nat->Prop}(f:Fine W)(h:RuOk W pls L)(ha:a<W.length)(hb:b<W.length)(hab:nuF (mk W) a≠nuF (mk W) b)(hw:Least W (endF W pls a) (endF W pls b) w)(hm:MetAll W pls D):
  RuOk W (goF W pls a w) (L+w.length)/\MetAll W (goF W pls a w) (λx y=>D x y\/(x=a/\y=b)):=by
 have row:∀r,r<W.length->plF W (goF W pls a w) r=plF W pls r++kKe (nuF (mk W) a) w (nuF (mk W) r):=λr hr=>by
  obtain⟨q1,q2⟩:=jV4 h hr
  have:(goF W pls a w)[nuF (mk W) r]? =some (plF W pls r++kKe (nuF (mk W) a) w (nuF (mk W) r)):=by
   unfold goF;rw[lJj,lYr,q1];simp
  unfold plF at this ⊢;rw[this];rfl
 have ml:∀K,(kKe (nuF (mk W) a) w K).length=w.length:=λK=>by unfold kKe;split<;>simp
 obtain⟨pa1,pa2⟩:=qQ0 (h.pos a ha) hw.to;have same:∀r,r<W.length->nuF (mk W) r=nuF (mk W) a->plF W pls r=plF W pls a:=λr _ e=>by unfold plF;rw[e]
 refine⟨⟨by unfold goF;simp[h.len],λK p hp=> ?_,λr hr=> ?_⟩,?_⟩
 .unfold goF at hp;rw[lJj,lYr] at hp;cases q:pls[K]? with
  | none=>rw[q] at hp;cases hp
  | some p0=>
   rw[q] at hp;cases hp;rw[lJv,ml,h.long K p0 q]
 .rw[row r hr]
  by_cases e:nuF (mk W) r=nuF (mk W) a
  .unfold kKe;rw[lJc e,same r hr e];obtain⟨v,h1,_⟩:=kJe ha;obtain⟨u,h2,_⟩:=kJe hr;rw[kJc h1,kJc h2] at e;exact kQ2 f ha hr (by rw[h1,h2,e]) pa1
  .unfold kKe;rw[lJb e];exact (kQ0 (h.pos r hr)).1
 .intro x y hD hx hy hxy
  rcases hD with hD | ⟨rfl,rfl⟩
  .obtain⟨k,h1,h2⟩:=hm x y hD hx hy hxy;refine⟨k,by rw[row x hx,lJv];omega,?_⟩
   rw[row x hx,row y hy,qV3 h1,qV3 (by have e1:=(jV4 h hy).2;have e2:=(jV4 h hx).2;omega)]
   exact h2
  .refine⟨L+w.length,by rw[row x hx,lJv,ml,(jV4 h hx).2];omega,?_⟩
   rw[row x hx,row y hy];unfold kKe;rw[lJc rfl,lJb (λe=>hab e.symm)]
   have z:=(kQ0 (n:=w.length) (h.pos y hy)).2;rw[(jV4 h hx).2] at pa2;rw[(jV4 h hy).2] at z;rw[pa2,z];unfold endF;rw[(jV4 h hy).2]
theorem MetAll.mono{W:Web}{pls:List Plan}{D D':Nat->Nat->Prop}(h:MetAll W pls D)(k:∀x y,D' x y->nuF (mk W) x≠nuF (mk W) y->D x y):MetAll W pls D':=λx y hD hx hy hxy=>h x y (k x y hD hxy) hx hy hxy
theorem never{W:Web}(f:Fine W)(sy:Sym W){a b:Nat}{p:Plan}(ha:a<W.length)(hb:b<W.length)(hab:a≠b)(e:(mk W)[a]? =(mk W)[b]?)(h:PosM W a p):∀k,k<=p.length->atM W a p k≠atM W b p k/\atM W b p k<W.length/\(mk W)[atM W a p k]? =(mk W)[atM W b p k]? :=by
 intro k
 induction k with
 | zero=>exact λ_=>⟨hab,hb,e⟩
 | succ k ih=>
  intro hk;obtain⟨i0,i1,i2⟩:=ih (by omega)
  have hm:p[k]? =some p[k]:=lJf (by omega)
  rw[jQl hm,jQl hm];cases q:p[k] with
  | none=>exact⟨i0,i1,i2⟩
  | some i=>
   rw[q] at hm;obtain⟨pe,hp⟩:=h k i hm;obtain⟨s,s1,s2⟩:=jXf f (jY3 f h ha k (by omega)) i1 i2 (s:=pe.1) (j:=pe.2) hp
   show ((en W _ i).map Prod.fst).getD 0≠((en W _ i).map Prod.fst).getD 0/\((en W _ i).map Prod.fst).getD 0<_/\(mk W)[((en W _ i).map Prod.fst).getD 0]? =(mk W)[((en W _ i).map Prod.fst).getD 0]?
   rw[hp,s1];refine⟨λz=> ?_,f.rng _ _ _ _ s1,s2.symm⟩
   have z:pe.1=s:=z;have b1:=sy _ _ _ _ (show en W (atM W a p k) i=some (pe.1,pe.2) from hp)
   have b2:=sy _ _ _ _ s1;rw[z,b2] at b1;exact i0 (lJs Prod.fst (lJ3 b1)).symm
theorem qQd{W:Web}{pls:List Plan}{L:Nat}(any:AnyWeb W)(h:RuOk W pls L):1<=pls.length/\pls.length<=24:=by
 rw[h.len];refine⟨uJ1 any.pos,?_⟩;have h1:nk W<=(mk W).length:=jVs;rw[jYy] at h1;have:=any.len;omega
noncomputable def jYc:Sp3:=λxs G Q=>∃(W:Web)(pls:List Plan)(L a b:Nat),xs=[encW W,.tup (pls.map encP),.int a,.int b]/\AnyWeb W/\RuOk W pls L/\L<=20000/\a<W.length/\b<W.length/\endF W pls a≠endF W pls b/\∀w G',Least W (endF W pls a) (endF W pls b) w->w.length<=24->Sub G G'->Q (.tup ((goF W pls a w).map encP)) G'
def qXe:List Str:=["web","rule","a","b","numbers","goes","way","waits","kind","plan"]
noncomputable def jYk:TS3:=
 (tSeq (tAsg (jJs jQ3 C0) D4)
 (tSeq (tAsg (tOp rIxF B4 B2) D5)
 (tSeq (tAsg (jJs jZt (jJc B0 (jJc (tOp rIxF (jJs jVm (jJc B0 (jJc B2 (jJc (tOp rIxF B1 B5) tNil)))) (tUn rNeg tI1)) (jJc (tOp rIxF (jJs jVm (jJc B0 (jJc B3 (jJc (tOp rIxF B1 (tOp rIxF B4 B3)) tNil)))) (tUn rNeg tI1)) tNil)))) D6)
 (tSeq (tAsg (tOp qQq (tTup (jJc (tC .non) tNil)) (tCB rLen C6)) D7)
 (tRet (tCB jJ6 (jJc (jQb [fF,fF,fF,fF,fF,fF,fF,fF,tT,tT] (iEnT C1) (gTup 2 (jKa D8 (jKa D9 gNil))) jUf (tOp qJ0 B9 (tIf (jJx (tOp rEqA B8 B5)) B6 B7))) tNil)))))))
theorem uKb{W:Web}{pls:List Plan}{L a:Nat}(h:RuOk W pls L)(ha:a<W.length):L2.atI (jJj (stL W a (plF W pls a) ((plF W pls a).length+1))) (-1)=some (.int (endF W pls a:Nat)):=by
 rw[kQd];unfold jJj;rw[lKe];exact kYs
theorem kV3{p m:Plan}{G:Gp}{K:VK3}(h:p.length+m.length<=sizeLine)(k:K (encP (p++m)) G):qJ0 (encP p) (.tup (m.map optT)) G K:=by
 cases p with
 | nil=>exact .inr ⟨_,rfl,rfl,k⟩
 | cons o p=>
  refine .inl ⟨.val (encP (o::p++m)),?_,k⟩;simp only[addR,encP];rw[lJc ⟨by simp,by simpa using h⟩,lKe]
theorem kU3:RdOk jYc jYk qXe:=by
 intro xs G Q h_;apply xe5 h_;clear h_;intro W pls L a b;refine ae7 ?_;intro any ru hL ha hb hab kk;show jYk _ [some (encW W),some (.tup (pls.map encP)),some (.int a),some (.int b),none,none,none,none,none,none] G
 have hs:=sz;have fine:=any.fine;obtain⟨l1,l2⟩:=qQd any ru;obtain⟨a1,a2⟩:=jV4 ru ha;obtain⟨b1,b2⟩:=jV4 ru hb;have ata:L2.atI (pls.map encP) (nuF (mk W) a:Int)=some (encP (plF W pls a)):=by rw[atN,lJj,a1];rfl
 have atb:L2.atI (pls.map encP) (nuF (mk W) b:Int)=some (encP (plF W pls b)):=by rw[atN,lJj,b1];rfl
 exists jYk,iEnT
 refine⟨W,rfl,fine,λG1 s1=> ?_⟩
 exists jU2 ha,jU2 hb,ata,atb
 refine⟨W,a,_,rfl,fine,ha,ru.pos a ha,by omega,λq1 G2 hq1 h2 s2=> ?_⟩
 exists jJy h2,uKb ru ha
 refine⟨W,b,_,rfl,fine,hb,ru.pos b hb,by omega,λq2 G3 hq2 h3 s3=> ?_⟩
 exists jJy h3,uKb ru hb
 have lta:endF W pls a<W.length:=jY3 fine (ru.pos a ha) ha _ (lJh _);have ltb:endF W pls b<W.length:=jY3 fine (ru.pos b hb) hb _ (lJh _);refine⟨W,_,_,rfl,any,lta,ltb,λG4 w hw hwl s4=> ?_⟩
 have hw0:1<=w.length:=by
  cases w with
  | nil=>exact absurd hw.to hab
  | cons d w=>simp
 exists qQq,qX3
 have hwL:(jJj w).length=w.length:=by simp[jJj]
 refine⟨by omega,.inr ⟨by simp,by omega,by omega,by simp;omega,?_⟩⟩
 rw[hwL]
 have hwait:(List.replicate (w.length:Int).toNat [T.non]).flatten=(List.replicate w.length none).map optT:=by
  rw[show (w.length:Int).toNat=w.length by omega,List.map_replicate]
  generalize w.length=n
  induction n with
  | zero=>rfl
  | succ n ih=>rw[lK2,lQv,ih,lK2];rfl
 have hway:jJj w=(w.map some).map optT:=by rw[lJr];rfl
 rw[hwait,hway]
 have hz:numT (pls.map encP)=pls.zipIdx.map λe=>T.tup [.int (e.2:Nat),encP e.1]:=by
  apply lKh;intro i;cases q:pls[i]? with
  | none=>rw[lJy (by rw[jJ2,lJg];simpa using q),lJy (by simpa using q)]
  | some pl=>rw[jUd (x:=encP pl) (by rw[lJj,q];rfl),lJj,lYr,q];simp
 rw[hz];refine jKw (es:=pls.zipIdx) (enc:=λe=>T.tup [.int (e.2:Nat),encP e.1]) (λe=>encP (e.1++kKe (nuF (mk W) a) w e.2)) (by simp;omega) (λ_ _=>trivial) ?_ ?_
 .intro i e he G' K K0 s hK
  have hel:e.1.length=L:=by
   rw[lYr] at he;cases q:pls[i]? with
   | none=>rw[q] at he;cases he
   | some p0=>rw[q] at he;cases he;exact ru.long i p0 q
  exists rEqA,jKq
  have hk:=hK G' (.refl _);unfold kKe at hk;split
  .rename_i c
   rw[lJc c] at hk;exact kV3 (by rw[hel];simp;omega) hk
  .rename_i c
   rw[lJb c] at hk;exact kV3 (by rw[hel];simp;omega) hk
 .intro D G5 hD d1 s5;refine⟨_,jJn d1,?_⟩;have:=kk w G5 hw hwl ((((s1.trans s2).trans s3).trans s4).trans s5);unfold goF at this;rw[lJr] at this;exact this
noncomputable def jKt:Sp3:=λxs G Q=>∃(W:Web),xs=[encW W]/\AnyWeb W/\∀L G',RuOk W (ouF W W.length) L->L<=20000->MetAll W (ouF W W.length) (λx y=>y<x)->Sub G G'->Q (.tup ((ouF W W.length).map encP)) G'
def kKi:List Str:=["web","numbers","rule","a","b"]
noncomputable def jQ4:TS3:=
 (tSeq (tAsg (jJs jQ3 C0) D1)
 (tSeq (tAsg (tOp qQq (tTup (jJc (tTup tNil) tNil)) (tCB rLen (jJc (jJs kQf C0) tNil))) D2)
 (tSeq (tFor (jJ1 (jJc (tCB rLen C0) tNil)) D3 (tFor (jJ1 C3) D4 (tIfS (tAnd (jJx (tOp rNeA (tOp rIxF B1 B3) (tOp rIxF B1 B4))) (jJx (tOp rIsN (jJs jQ2 (jJc B0 (jJc B3 (jJc B4 C2)))) (tC .non)))) (tAsg (jJs jYc (jJc B0 (jJc B2 (jJc B3 C4)))) D2) jKm)))
 (tRet B2))))
theorem jYd:RdOk jKt jQ4 kKi:=by
 intro xs G Q h_;apply xe1 h_;clear h_;intro W;refine ae2 ?_;intro any kk;show jQ4 _ [some (encW W),none,none,none,none] G
 have hs:=sz;have fine:=any.fine;have hW2:=any.len;have hnk:1<=nk W/\nk W<=24:=by have:=qQd any (kZa (W:=W));simpa using this
 exists jQ4,jJt,jJ1
 refine⟨W,rfl,fine,λG1 s1=> ?_⟩
 refine⟨by omega,by omega,W,rfl,fine,λq rs G2 hq hrs hnd R s2=> ?_⟩
 have hrl:rs.length=nk W:=by
  rw[R.2.1,show marks W W.length=mk W from rfl,uY8];simp[LsN]
 exists jJn R.1,qQq,qX3,List.length_map,hrl
 have hst:(List.replicate ((nk W:Nat):Int).toNat [T.tup []]).flatten=(ouF W 0).map encP:=by
  rw[show ((nk W:Nat):Int).toNat=nk W by omega]
  show _=(List.replicate (nk W) ([]:Plan)).map encP
  generalize nk W=n
  induction n with
  | zero=>rfl
  | succ n ih=>rw[lK2,lQv,ih,lK2];rfl
 refine .inr ⟨by simp,by omega,by omega,by omega,W.map encR,rfl,by omega,by rw[lJg];omega,?_⟩
 rw[hst,lJg,show (((W.length:Nat):Int)).toNat=W.length by omega]
 let J1:Nat->St3->Gp->Prop:=λk τ G'=>∃(v3 v4:Option T)(L:Nat),τ=[some (encW W),some (.tup (jJj (mk W))),some (.tup ((ouF W k).map encP)),v3,v4]/\RuOk W (ouF W k) L/\L<=600*k/\MetAll W (ouF W k) (λx y=>y<x/\x<k)/\Sub G G'
 refine⟨J1,?_,?_,?_,?_⟩
 .exact⟨none,none,0,rfl,kZa,lJh _,λx y h=>absurd h.2 (lKd _),s1.trans s2⟩
 .intros;trivial
 .intro a x τ G3 hx h_;apply xe3 h_;clear h_;intro v3 v4 L;refine ae4 ?_;intro i1 i2 i3 i4;obtain⟨ha,rfl⟩:=jKs hx
  exists jJt,jJ1
  refine⟨by omega,by omega,?_⟩
  rw[show (((a:Nat):Int)).toNat=a by omega]
  let J2:Nat->St3->Gp->Prop:=λc τ G'=>∃(v4:Option T)(L:Nat),τ=[some (encW W),some (.tup (jJj (mk W))),some (.tup ((inF W a (ouF W a) c).map encP)),some (.int (a:Nat)),v4]/\RuOk W (inF W a (ouF W a) c) L/\L<=600*a+24*c/\MetAll W (inF W a (ouF W a) c) (λx y=>(y<x/\x<a)\/(x=a/\y<c))/\Sub G G'
  refine⟨J2,?_,?_,?_,?_⟩
  .exact⟨_,L,rfl,i1,i2,i3.mono λx y h _=>h.resolve_right λz=>absurd z.2 (lKd _),i4⟩
  .intros;trivial
  .intro c x τ G4 hx h_;apply xe2 h_;clear h_;intro v4 L;refine ae4 ?_;intro j1 j2 j3 j4;obtain⟨hc,rfl⟩:=jKs hx;have hcw:c<W.length:=by omega
   have hsu:inF W a (ouF W a) (c+1)=stF W (inF W a (ouF W a) c) a c:=qY6
   generalize inF W a (ouF W a) c=pls at j1 j3 hsu
   obtain⟨a1,a2⟩:=jV4 j1 ha;obtain⟨b1,b2⟩:=jV4 j1 hcw;unfold stF at hsu
   exists jU2 ha,jU2 hcw,rNeA,jKq
   by_cases c0:nuF (mk W) a=nuF (mk W) c
   .rw[lJb (by simp[c0])]
    rw[lJb (λz=>z.1 c0)] at hsu
    refine⟨_,L,by rw[hsu],by rw[hsu];exact j1,by omega,?_,j4⟩
    rw[hsu];refine j3.mono λx y h ne=> ?_
    rcases h with h | ⟨h1,h2⟩
    .exact .inl h
    .refine .inr ⟨h1,?_⟩
     rcases lVn (lQb h2) with z | z
     .exact z
     .subst h1;subst z;exact absurd c0 ne
   rw[lJc (by simp[c0])]
   refine⟨W,a,c,pls,_,_,L,rfl,fine,ha,hcw,a1,b1,a2,b2,by omega,j1.pos a ha,j1.pos c hcw,λG5 s5=> ?_⟩
   rw[a2] at hsu;cases hm:metM W a c (plF W pls a) (plF W pls c) L with
   | some n=>
    rw[lJb (λz=>by rw[hm] at z;cases z.2)] at hsu
    exists optT,rIsN
    refine⟨_,L,by rw[hsu],by rw[hsu];exact j1,by omega,?_,j4.trans s5⟩
    rw[hsu];obtain⟨kk1,k1,k2⟩:=met_iff.mp (by rw[hm];simp:metM W a c (plF W pls a) (plF W pls c) L≠none)
    intro x y h hx hy ne
    rcases h with h | ⟨h1,h2⟩
    .exact j3 x y (.inl h) hx hy ne
    .rcases lVn (lQb h2) with z | z
     .exact j3 x y (.inr ⟨h1,z⟩) hx hy ne
     .subst h1;subst z;exact⟨kk1,by rw[a2];exact k1,k2⟩
   | none=>
    rw[lJc ⟨c0,hm⟩] at hsu
    exists optT,rIsN
    have he:endF W pls a≠endF W pls c:=λe=>by
     unfold endF at e;rw[a2,b2] at e;exact met_iff.mpr ⟨L,lJh _,e⟩ hm
    refine⟨W,pls,L,a,c,rfl,any,j1,by omega,ha,hcw,he,λw G6 hw hwl s6=> ?_⟩
    rw[uKh hw] at hsu;obtain⟨g1,g2⟩:=uXh fine j1 ha hcw c0 hw j3;refine⟨_,L+w.length,by rw[hsu],by rw[hsu];exact g1,by omega,?_,(j4.trans s5).trans s6⟩
    rw[hsu];refine g2.mono λx y h ne=> ?_
    rcases h with h | ⟨h1,h2⟩
    .exact .inl (.inl h)
    .rcases lVn (lQb h2) with z | z
     .exact .inl (.inr ⟨h1,z⟩)
     .exact .inr ⟨h1,z⟩
  .intro τ G4 h_;apply xe2 h_;clear h_;intro v4 L;refine ae4 ?_;intro j1 j2 j3 j4;rw[jKc] at j1 j2 j3 ⊢;refine⟨_,_,L,by rw[kQ4],by rw[kQ4];exact j1,by omega,?_,j4⟩
   rw[kQ4];refine j3.mono λx y h _=> ?_
   rcases lVn (lQb h.2) with z | z
   .exact .inl ⟨h.1,z⟩
   .exact .inr ⟨z,by omega⟩
 .intro τ G3 h_;apply xe3 h_;clear h_;intro v3 v4 L;refine ae4 ?_;intro i1 i2 i3 i4;rw[jKc] at i1 i2 i3 ⊢
  exists tSeq
  exact kk L G3 i1 (by omega) (λx y h hx hy ne=>i3 x y ⟨h,hx⟩ hx hy ne) i4
theorem okW:∀w:List Nat,jQd (jJj w)=true/\PyData.canLayAll0 (tds (jJj w))=true/\PyData.depthAll (tds (jJj w))<=1/\eqTs (jJj w) (jJj w)=true
 | []=>⟨rfl,by simp[jJj,tds,PyData.canLayAll0],by simp[jJj,tds,PyData.depthAll],rfl⟩
 | a::w=>by
  obtain⟨a1,a2,a3,a4⟩:=okW w;refine⟨?_,?_,?_,?_⟩
  .show (tree (.int a)&&jQd (jJj w))=true;rw[a1];rfl
  .show PyData.canLayAll0 (td (.int a)::tds (jJj w))=true;rw[PyData.canLayAll0,a2];rfl
  .show PyData.depthAll (td (.int a)::tds (jJj w))<=1;rw[PyData.depthAll];simp[td,PyData.depth];exact a3
  .show (eqT (.int a) (.int a)&&eqTs (jJj w) (jJj w))=true;rw[a4];simp[eqT]
def wayT(p:List Nat):T:= .tup (jJj p)
def oWay:Option (List Nat)->T
 | none=> .non
 | some p=>wayT p
def Alk(W:Web)(k r s:Nat):Prop:=(marks W k)[r]? =(marks W k)[s]?
theorem kKt{κ:Type}[DecidableEq κ]{ls:List κ}{a b:Nat}{x y:κ}(ha:ls[a]? =some x)(hb:ls[b]? =some y):(num ls)[a]? =(num ls)[b]? ↔x=y:=by
 refine⟨kQ6 ha hb,λe=> ?_⟩
 subst e;rw[jQn ha,jQn hb]
theorem qZz{W:Web}{r s:Nat}{es fs:List (Nat×Nat)}(hr:W[r]? =some es)(hs:W[s]? =some fs):Alk W 0 r s↔es.length=fs.length:=by
 unfold Alk;rw[show marks W 0=num (W.map List.length) from rfl]
 exact kKt (by simp[hr]) (by simp[hs])
theorem qZ0{W:Web}{k r s:Nat}{es fs:List (Nat×Nat)}(hr:W[r]? =some es)(hs:W[s]? =some fs):Alk W (k+1) r s↔(es.map λe=>(e.2,(marks W k).getD e.1 0))=fs.map λe=>(e.2,(marks W k).getD e.1 0):=by
 unfold Alk;rw[show marks W (k+1)=num (tups W (marks W k)) from rfl]
 exact kKt (jK6 hr) (jK6 hs)
theorem kJx{W:Web}{k r s:Nat}(hr:r<W.length)(hs:s<W.length):(marks W k).getD r 0=(marks W k).getD s 0↔Alk W k r s:=by
 unfold Alk;have l:=jJ8 (W:=W) k;rw[lX2,lX2,lJf (show r<(marks W k).length by omega),lJf (show s<(marks W k).length by omega)]
 simp
theorem qV6{W:Web}(f:Fine W){k r s:Nat}{es fs:List (Nat×Nat)}(hr:W[r]? =some es)(hs:W[s]? =some fs):Alk W (k+1) r s↔es.length=fs.length/\∀(i:Nat)(e g:Nat×Nat),es[i]? =some e->fs[i]? =some g->e.2=g.2/\Alk W k e.1 g.1:=by
 rw[qZ0 hr hs]
 constructor
 .intro h;have hl:es.length=fs.length:=by have:=lJs List.length h;simpa using this
  refine⟨hl,λi e g he hg=> ?_⟩
  have h2:=lJs (λl=>l[i]?) h
  simp only[lJj,he,hg,lK4,lQi,lX5] at h2;exact⟨h2.1,(kJx (f.rng r i e.1 e.2 (jKu hr he)) (f.rng s i g.1 g.2 (jKu hs hg))).mp h2.2⟩
 .rintro⟨hl,h⟩;apply lKh;intro i;rw[lJj,lJj]
  by_cases hi:i<es.length
  .have he:=lJf hi;have hg:=lJf (show i<fs.length by omega)
   obtain⟨h1,h2⟩:=h i _ _ he hg;rw[he,hg];simp only[lK4,lQi,lX5];exact⟨h1,(kJx (f.rng r i _ _ (jKu hr he)) (f.rng s i _ _ (jKu hs hg))).mpr h2⟩
  .rw[lJy (by omega),lJy (by omega)]
noncomputable def PW(W:Web):List Nat->Nat->Nat->Prop
 | [],r,s=>(row W r).length≠(row W s).length
 | d::p,r,s=>(row W r).length=(row W s).length/\∃e g,en W r d=some e/\en W s d=some g/\((e.2≠g.2/\p=[])\/(e.2=g.2/\PW W p e.1 g.1))
theorem jY4{W:Web}{r:Nat}{es:List (Nat×Nat)}(h:W[r]? =some es):row W r=es:=by rw[row,h];rfl
theorem uUe{W:Web}(f:Fine W):∀(k r s:Nat),r<W.length->s<W.length->(Alk W k r s↔∀p:List Nat,p.length<=k->¬ PW W p r s):=by
 intro k
 induction k with
 | zero=>
  intro r s hr hs;have h1:=lJf hr;have h2:=lJf hs;rw[qZz h1 h2]
  constructor
  .intro h p hp;have:p=[]:=lZc (by omega)
   subst this;rw[PW,jY4 h1,jY4 h2];exact λz=>z h
  .intro h;have:=h [] (lJh _);rw[PW,jY4 h1,jY4 h2] at this;exact lZq.mp this
 | succ k ih=>
  intro r s hr hs;have h1:=lJf hr;have h2:=lJf hs;rw[qV6 f h1 h2]
  constructor
  .rintro⟨hl,h⟩ p hp;cases p with
   | nil=>rw[PW,jY4 h1,jY4 h2];exact λz=>z hl
   | cons d q=>
    rw[PW];rintro⟨_,e,g,he,hg,z⟩;obtain⟨es,q1,q2⟩:=jKo he;obtain⟨fs,q3,q4⟩:=jKo hg;rw[h1] at q1;cases q1;rw[h2] at q3;cases q3;obtain⟨a1,a2⟩:=h d e g q2 q4
    rcases z with ⟨z,_⟩ | ⟨_,z⟩
    .exact z a1
    .exact (ih e.1 g.1 (f.rng r d e.1 e.2 he) (f.rng s d g.1 g.2 hg)).mp a2 q (by simp at hp;omega) z
  .intro h
   have hl:(W[r]).length=(W[s]).length:=by
    have:=h [] (lJx _);rw[PW,jY4 h1,jY4 h2] at this;exact lZq.mp this
   refine⟨hl,λi e g he hg=> ?_⟩
   have he':=jKu h1 he;have hg':=jKu h2 hg
   have a1:e.2=g.2:=by
    apply lQc;intro z;refine h [i] (by simp) ?_
    rw[PW,jY4 h1,jY4 h2];exact⟨hl,e,g,he',hg',.inl ⟨z,rfl⟩⟩
   refine⟨a1,(ih e.1 g.1 (f.rng r i e.1 e.2 he') (f.rng s i g.1 g.2 hg')).mpr λq hq z=> ?_⟩
   refine h (i::q) (by simp;omega) ?_
   rw[PW,jY4 h1,jY4 h2];exact⟨hl,e,g,he',hg',.inr ⟨a1,z⟩⟩
noncomputable def PW2(U V:Web):List Nat->Nat->Nat->Prop
 | [],r,s=>(row U r).length≠(row V s).length
 | d::p,r,s=>(row U r).length=(row V s).length/\∃e g,en U r d=some e/\en V s d=some g/\((e.2≠g.2/\p=[])\/(e.2=g.2/\PW2 U V p e.1 g.1))
theorem dm{e g n:Nat}(h:g<n):(e*n+g) / n=e/\(e*n+g)%n=g:=by
 rw[lQy];exact⟨by rw[Nat.mul_add_div (by omega),lXx h];omega,by rw[Nat.mul_add_mod,lQo h]⟩
theorem jX4{W:Web}{r d:Nat}:en W r d=(row W r)[d]? :=by
 unfold en row;cases W[r]? with
 | none=>rfl
 | some es=>rfl
theorem uJ2:∀u v:List Nat,u.length=v.length->lx u v\/u=v\/lx v u
 | [],[],_=> .inr (.inl rfl)
 | [],_::_,h=>by simp at h
 | _::_,[],h=>by simp at h
 | a::u,b::v,h=>by
  rcases lQl a b with z | z | z
  .exact .inl (.inl z)
  .subst z
   rcases uJ2 u v (by simpa using h) with y | y | y
   .exact .inl (.inr ⟨rfl,y⟩)
   .exact .inr (.inl (by rw[y]))
   .exact .inr (.inr (.inr ⟨rfl,y⟩))
  .exact .inr (.inr (.inl z))
theorem uKq(u v:List Nat):slt u v\/u=v\/slt v u:=by
 rcases lQl u.length v.length with z | z | z
 .exact .inl (.inl z)
 .rcases uJ2 u v z with y | y | y
  .exact .inl (.inr ⟨z,y⟩)
  .exact .inr (.inl y)
  .exact .inr (.inr (.inr ⟨z.symm,y⟩))
 .exact .inr (.inr (.inl z))
def kU6(U V:Web):Web:=(List.range (U.length*V.length)).map λx=>((row U (x / V.length)).zip (row V (x%V.length))).map λp=>(p.1.1*V.length+p.2.1,0)
theorem qQx{U V:Web}{x:Nat}(h:x<U.length*V.length):(kU6 U V)[x]? =some (((row U (x / V.length)).zip (row V (x%V.length))).map λp=>(p.1.1*V.length+p.2.1,0)):=by simp[kU6,h]
theorem kUi{U V:Web}{x d:Nat}{e g:Nat×Nat}(h:x<U.length*V.length)(he:en U (x / V.length) d=some e)(hg:en V (x%V.length) d=some g):en (kU6 U V) x d=some (e.1*V.length+g.1,0):=by
 rw[jX4] at he hg;refine jKu (qQx h) ?_;rw[lJj,lXt (z:=(e,g)) |>.mpr ⟨he,hg⟩];rfl
theorem kYi{U V:Web}{x d y j:Nat}(h:en (kU6 U V) x d=some (y,j)):∃e g,en U (x / V.length) d=some e/\en V (x%V.length) d=some g/\y=e.1*V.length+g.1/\x<U.length*V.length:=by
 obtain⟨es,h1,h2⟩:=jKo h;have hx:x<U.length*V.length:=by have:=(lJe.mp h1).1;simpa[kU6] using this
 rw[qQx hx] at h1;cases h1;rw[lJj] at h2;obtain⟨p,hp,e⟩:=lK3.mp h2;obtain⟨z1,z2⟩:=lXt.mp hp;exact⟨p.1,p.2,by rw[jX4];exact z1,by rw[jX4];exact z2,(lJs Prod.fst e).symm,hx⟩
noncomputable def PX(X:Nat->Nat->Prop)(U V:Web):List Nat->Nat->Nat->Prop
 | [],r,s=>X r s
 | d::p,r,s=>¬ X r s/\∃e g,en U r d=some e/\en V s d=some g/\((e.2≠g.2/\p=[])\/(e.2=g.2/\PX X U V p e.1 g.1))
def XL(U V:Web)(r s:Nat):Prop:=(row U r).length≠(row V s).length
theorem uKg{U V:Web}:∀(p:List Nat)(r s:Nat),PX (XL U V) U V p r s↔PW2 U V p r s
 | [],r,s=>by rw[PX,PW2,XL]
 | d::p,r,s=>by
  rw[PX,PW2,XL];simp only[ne_eq,Decidable.not_not,uKg p]
def Bad(X:Nat->Nat->Prop)(U V:Web)(r s d:Nat):Prop:=∃e g,en U r d=some e/\en V s d=some g/\(e.2≠g.2\/X e.1 g.1)
noncomputable def Go(X:Nat->Nat->Prop)(U V:Web):List Nat->Nat->Nat->Nat->Nat->Prop
 | [],a,b,r,s=>a=r/\b=s/\¬ X a b
 | d::u,a,b,r,s=>¬ X a b/\∃e g,en U a d=some e/\en V b d=some g/\e.2=g.2/\Go X U V u e.1 g.1 r s
theorem qU5{X:Nat->Nat->Prop}{U V:Web}{r s d:Nat}{e g:Nat×Nat}(he:en U r d=some e)(hg:en V s d=some g)(h2:e.2=g.2)(hX:¬ X e.1 g.1):∀{u:List Nat}{a b:Nat},Go X U V u a b r s->Go X U V (u++[d]) a b e.1 g.1
 | [],a,b,h=>by
  obtain⟨rfl,rfl,h0⟩:=h;exact⟨h0,e,g,he,hg,h2,rfl,rfl,hX⟩
 | c::u,a,b,h=>by
  obtain⟨h0,e',g',h1,h3,h4,h5⟩:=h;exact⟨h0,e',g',h1,h3,h4,qU5 he hg h2 hX h5⟩
theorem uXg{X:Nat->Nat->Prop}{U V:Web}{r s d:Nat}(hb:Bad X U V r s d):∀{u:List Nat}{a b:Nat},Go X U V u a b r s->PX X U V (u++[d]) a b
 | [],a,b,h=>by
  obtain⟨rfl,rfl,h0⟩:=h;obtain⟨e,g,he,hg,z⟩:=hb;refine⟨h0,e,g,he,hg,?_⟩
  by_cases y:e.2=g.2
  .exact .inr ⟨y,z.resolve_left λq=>q y⟩
  .exact .inl ⟨y,rfl⟩
 | c::u,a,b,h=>by
  obtain⟨h0,e',g',h1,h3,h4,h5⟩:=h;exact⟨h0,e',g',h1,h3,.inr ⟨h4,uXg hb h5⟩⟩
theorem qQw{U V:Web}(fU:Fine U)(fV:Fine V){x d:Nat}{e g:Nat×Nat}(he:en U (x / V.length) d=some e)(hg:en V (x%V.length) d=some g):e.1*V.length+g.1<U.length*V.length/\(e.1*V.length+g.1) / V.length=e.1/\(e.1*V.length+g.1)%V.length=g.1:=by
 have h1:=fU.rng _ _ e.1 e.2 he;have h2:=fV.rng _ _ g.1 g.2 hg;refine⟨?_,dm h2⟩
 calc e.1*V.length+g.1<e.1*V.length+V.length:=by omega
  _=(e.1+1)*V.length:=by rw[Nat.add_mul,Nat.one_mul]
  _<=U.length*V.length:=lXh _ h1
theorem kQz{X:Nat->Nat->Prop}{U V:Web}(fU:Fine U)(fV:Fine V):∀(p:List Nat)(x:Nat),x<U.length*V.length->PX X U V p (x / V.length) (x%V.length)->¬ X (x / V.length) (x%V.length)->∃u d y,p=u++[d]/\jZc (kU6 U V) x u y/\Bad X U V (y / V.length) (y%V.length) d
 | [],x,hx,h,hn=>absurd h hn
 | d::q,x,hx,h,hn=>by
  obtain⟨_,e,g,he,hg,z⟩:=h
  rcases z with ⟨z1,rfl⟩ | ⟨z1,z2⟩
  .exact⟨[],d,x,rfl,rfl,e,g,he,hg,.inl z1⟩
  .by_cases hX:X e.1 g.1
   .cases q with
    | nil=>exact⟨[],d,x,rfl,rfl,e,g,he,hg,.inr hX⟩
    | cons c q=>exact absurd hX z2.1
   .obtain⟨l1,l2,l3⟩:=qQw fU fV he hg;obtain⟨u,c,y,h1,h2,h3⟩:=kQz fU fV q (e.1*V.length+g.1) l1 (by rw[l2,l3];exact z2) (by rw[l2,l3];exact hX)
    exact⟨d::u,c,y,by rw[h1];rfl,⟨_,_,kUi hx he hg,h2⟩,h3⟩
structure Wk (X:Nat->Nat->Prop) (U V:Web) (a b i j:Nat) (P:List PE):Prop where
 tr:Tr (kU6 U V) (a*V.length+b) i j P
 go:∀q,q∈P->q.1<U.length*V.length/\Go X U V q.2.2 a b (q.1 / V.length) (q.1%V.length)
 ok:∀(k:Nat)(q:PE)(d:Nat),(k<i\/(k=i/\d<j))->P[k]? =some q->¬ Bad X U V (q.1 / V.length) (q.1%V.length) d
theorem qXf{X:Nat->Nat->Prop}{U V:Web}{a b:Nat}(ha:a<U.length)(hb:b<V.length)(h:¬ X a b):Wk X U V a b 0 0 [(a*V.length+b,none,[])] where
 tr:=kY2
 go:=λq hq=>by
  rw[(lJ0.mp hq)];obtain⟨d1,d2⟩:=dm (e:=a) hb;refine⟨?_,by rw[d1,d2];exact⟨rfl,rfl,h⟩⟩
  calc a*V.length+b<a*V.length+V.length:=by omega
   _=(a+1)*V.length:=by rw[Nat.add_mul,Nat.one_mul]
   _<=U.length*V.length:=lXh _ ha
 ok:=λk q d h=>by omega
theorem Wk.ok_step{X:Nat->Nat->Prop}{U V:Web}{a b i j:Nat}{P:List PE}{x:PE}(w:Wk X U V a b i j P)(hx:P[i]? =some x)(hb:¬ Bad X U V (x.1 / V.length) (x.1%V.length) j):∀(k:Nat)(q:PE)(d:Nat),(k<i\/(k=i/\d<j+1))->P[k]? =some q->¬ Bad X U V (q.1 / V.length) (q.1%V.length) d:=by
 intro k q d h hq
 by_cases z:k=i/\d=j
 .obtain⟨rfl,rfl⟩:=z;rw[hx] at hq;cases hq;exact hb
 .exact w.ok k q d (by omega) hq
theorem Wk.skip{X:Nat->Nat->Prop}{U V:Web}{a b i j:Nat}{P:List PE}{x:PE}{e g:Nat×Nat}(w:Wk X U V a b i j P)(hx:P[i]? =some x)(he:en U (x.1 / V.length) j=some e)(hg:en V (x.1%V.length) j=some g)(hb:¬ Bad X U V (x.1 / V.length) (x.1%V.length) j)(hy:e.1*V.length+g.1∈P.map Prod.fst):Wk X U V a b i (j+1) P where
 tr:=w.tr.skip hx (kUi (w.go x (lJk hx)).1 he hg) hy
 go:=w.go
 ok:=w.ok_step hx hb
theorem Wk.add{X:Nat->Nat->Prop}{U V:Web}(fU:Fine U)(fV:Fine V){a b i j:Nat}{P:List PE}{x:PE}{e g:Nat×Nat}(w:Wk X U V a b i j P)(hx:P[i]? =some x)(he:en U (x.1 / V.length) j=some e)(hg:en V (x.1%V.length) j=some g)(hb:¬ Bad X U V (x.1 / V.length) (x.1%V.length) j)(hy:e.1*V.length+g.1∉P.map Prod.fst):Wk X U V a b i (j+1) (P++[(e.1*V.length+g.1,some (x.1,j),x.2.2++[j])]) where
 tr:=w.tr.add hx (kUi (w.go x (lJk hx)).1 he hg) hy
 go:=λq hq=>by
  rcases (lKb.mp hq) with hq | hq
  .exact w.go q hq
  .rw[lJ0.mp hq];obtain⟨l1,l2,l3⟩:=qQw fU fV he hg;refine⟨l1,?_⟩;show Go X U V (x.2.2++[j]) a b ((e.1*V.length+g.1) / V.length) ((e.1*V.length+g.1)%V.length)
   rw[l2,l3];refine qU5 he hg (lQc λz=>hb ⟨e,g,he,hg,.inl z⟩) (λz=>hb ⟨e,g,he,hg,.inr z⟩) (w.go x (lJk hx)).2
 ok:=λk q d h hq=>by
  have hi:i<P.length:=(lJe.mp hx).1;rw[lJ9 (by omega)] at hq
  exact w.ok_step hx hb k q d h hq
theorem Wk.next{X:Nat->Nat->Prop}{U V:Web}{a b i n:Nat}{P:List PE}{x:PE}(w:Wk X U V a b i n P)(hx:P[i]? =some x)(hn:(row U (x.1 / V.length)).length<=n):Wk X U V a b (i+1) 0 P where
 tr:=w.tr.next hx λd e h=>by
  obtain⟨e',g,h1,_⟩:=kYi (j:=e.2) (y:=e.1) h;rw[jX4] at h1;have:=(lJe.mp h1).1;omega
 go:=w.go
 ok:=λk q d h hq=>by
  by_cases z:k=i
  .subst z;rw[hx] at hq;cases hq
   by_cases y:d<n
   .exact w.ok k x d (.inr ⟨rfl,y⟩) hx
   .rintro⟨e,g,h1,_⟩;rw[jX4] at h1;have:=(lJe.mp h1).1;omega
  .exact w.ok k q d (by omega) hq
theorem Wk.seen{X:Nat->Nat->Prop}{U V:Web}{a b i j:Nat}{P:List PE}{x:PE}(w:Wk X U V a b i j P)(hx:P[i]? =some x):∀(n:Nat)(u:List Nat)(d y:Nat),u.length=n->jZc (kU6 U V) (a*V.length+b) u y->slt (u++[d]) (x.2.2++[j])->∃(k:Nat)(q:PE),(k<i\/(k=i/\d<j))/\P[k]? =some q/\q.1=y/\sle q.2.2 u:=by
 intro n
 have place:∀(u:List Nat)(d y:Nat)(q:PE),q∈P->q.1=y->sle q.2.2 u->slt (u++[d]) (x.2.2++[j])->∃(k:Nat)(q:PE),(k<i\/(k=i/\d<j))/\P[k]? =some q/\q.1=y/\sle q.2.2 u:=by
  intro u d y q hq h1 h2 h3;obtain⟨k,hk⟩:=lJ1 hq;refine⟨k,q,?_,hk,h1,h2⟩
  have h4:slt (q.2.2++[d]) (x.2.2++[j]):=by
   rcases kQj (d:=d) h2 with z | z
   .rw[z];exact h3
   .exact jUl z h3
  rcases lQl k i with z | z | z
  .exact .inl z
  .subst z;rw[hx] at hk;cases hk;refine .inr ⟨rfl,?_⟩
   rcases lQl d j with y | y | y
   .exact y
   .subst y;exact (kQh h4).elim
   .exact (kQh (jUl h4 (kY7 y))).elim
  .exact (kQh (jUl h4 (kQg (w.tr.inc i k x q z hx hk)))).elim
 induction n with
 | zero=>
  intro u d y hn hl h;have:u=[]:=lQg.mp hn;subst this;exact place [] d y _ (lJk w.tr.zero) (show a*V.length+b=y from hl) (.inl rfl) h
 | succ n ih=>
  intro u d y hn hl h
  rcases List.eq_nil_or_concat u with rfl | ⟨u',c,rfl⟩
  .simp at hn
  .rw[List.concat_eq_append] at hl hn h ⊢;obtain⟨z,m,h1,h2⟩:=jYr hl;have h3:slt (u'++[c]) (x.2.2++[j]):=jUl (.inl (by simp)) h
   obtain⟨k,q,hk,hq,rfl,hs⟩:=ih u' c z (by simpa using hn) h1 h3
   obtain⟨q',a1,a2,a3⟩:=w.tr.cl k q c y m hk hq h2;exact place _ d y q' a1 a2 (kUu a3 (kQj hs)) h
def Lst(X:Nat->Nat->Prop)(U V:Web)(a b:Nat):Option (List Nat)->Prop
 | none=>∀p,¬ PX X U V p a b
 | some p=>PX X U V p a b/\∀q,PX X U V q a b->sle p q
theorem Wk.found{X:Nat->Nat->Prop}{U V:Web}(fU:Fine U)(fV:Fine V){a b i j:Nat}{P:List PE}{x:PE}(ha:a<U.length)(hb:b<V.length)(w:Wk X U V a b i j P)(hx:P[i]? =some x)(hbad:Bad X U V (x.1 / V.length) (x.1%V.length) j):Lst X U V a b (some (x.2.2++[j])):=by
 refine⟨uXg hbad (w.go x (lJk hx)).2,λp hp=> ?_⟩
 obtain⟨d1,d2⟩:=dm (e:=a) hb;have h0:=(w.go _ (lJk w.tr.zero));rw[d1,d2] at h0;obtain⟨u,d,y,rfl,hl,hB⟩:=kQz fU fV p (a*V.length+b) h0.1 (by rw[d1,d2];exact hp) (by rw[d1,d2];exact h0.2.2.2)
 by_cases z:slt (u++[d]) (x.2.2++[j])
 .obtain⟨k,q,hk,hq,rfl,_⟩:=w.seen hx _ u d y rfl hl z;exact absurd hB (w.ok k q d hk hq)
 .rcases uKq (x.2.2++[j]) (u++[d]) with h | h | h
  .exact .inr h
  .exact .inl h
  .exact absurd h z
theorem Wk.none{X:Nat->Nat->Prop}{U V:Web}(fU:Fine U)(fV:Fine V){a b:Nat}{P:List PE}(ha:a<U.length)(hb:b<V.length)(w:Wk X U V a b P.length 0 P):Lst X U V a b none:=by
 intro p hp;obtain⟨d1,d2⟩:=dm (e:=a) hb;have h0:=(w.go _ (lJk w.tr.zero));rw[d1,d2] at h0;obtain⟨u,d,y,rfl,hl,hB⟩:=kQz fU fV p (a*V.length+b) h0.1 (by rw[d1,d2];exact hp) (by rw[d1,d2];exact h0.2.2.2)
 obtain⟨q,hq,rfl,_⟩:=w.tr.all _ u y rfl hl;obtain⟨k,hk⟩:=lJ1 hq;exact w.ok k q d (.inl (lJe.mp hk).1) hk hB
theorem Wk.len{X:Nat->Nat->Prop}{U V:Web}{a b i j:Nat}{P:List PE}(w:Wk X U V a b i j P):P.length<=U.length*V.length:=by
 have:=jQk w.tr.nd (n:=U.length*V.length) λy hy=>by
  obtain⟨q,hq,rfl⟩:=lJi.mp hy;exact (w.go q hq).1
 simpa using this
theorem Wk.wlen{X:Nat->Nat->Prop}{U V:Web}{a b i' j':Nat}{P:List PE}(w:Wk X U V a b i' j' P):∀(i:Nat)(p:PE),P[i]? =some p->p.2.2.length<=i:=by
 intro i
 induction i using Nat.strongRecOn with
 | ind i ih=>
  intro p hp
  rcases w.tr.par p (lJk hp) with rfl | ⟨k,q,d,_,hq,_,e⟩
  .simp
  .rw[e,lJv]
   have hki:k<i:=by
    rcases lQl k i with z | z | z
    .exact z
    .subst z;rw[hp] at hq;cases hq;have:=lJs List.length e;simp at this
    .have:=w.tr.inc i k p q z hp hq;rw[e] at this
     rcases this with this | ⟨this,_⟩<;>simp at this
     omega
   have:=ih k hki q hq;simp;omega
theorem qZm{G:Gp}{a b:List Nat}:eqG G (.tup (jJj a)) (.tup (jJj b))=some (decide (a=b)):=by
 have ok:∀w:List Nat,eqOk (.tup (jJj w))=true:=λw=>by
  obtain⟨a1,a2,a3,a4⟩:=okW w;unfold eqOk;rw[show tree (.tup (jJj w))=true from a1,show (td (.tup (jJj w))).canLay0=true by rw[td,PyData.canLay0];exact a2,lKf (show (td (.tup (jJj w))).depth<=50 by rw[td,PyData.depth];omega)];rfl
 show (if eqOk (.tup (jJj a))=true/\eqOk (.tup (jJj b))=true then some (eqT (.tup (jJj a)) (.tup (jJj b))) else none)=_
 rw[lJc ⟨ok a,ok b⟩,<-kJn];rfl
def kUa(st:Bool)(w:Web)(f:Nat)(e:Nat×Nat):List Nat:=if st=true then [e.2,(row w e.1).length,if e.1=f then 1 else 0] else [e.2,(row w e.1).length]
noncomputable def jZu:Sp3:=λxs G Q=>∃(w:Web)(f:Nat)(e:Nat×Nat)(st:Bool),xs=[encW w,.int f,encE e,.bl st]/\e.1<w.length/\w.length<=1000/\(∀(r:Nat)(es:List (Nat×Nat)),w[r]? =some es->es.length<=1000)/\∀G',Sub G G'->Q (.tup (jJj (kUa st w f e))) G'
def uX4:List Str:=["web","first","end","stone"]
noncomputable def kQv:TS3:=
 (tSeq (tIfS (tTru rTru B3) (tRet (tTup (jJc (tOp rIxF B2 tI1) (jJc (tCB rLen (jJc (tOp rIxF B0 (tOp rIxF B2 tI0)) tNil)) (jJc (tIf (jJx (tOp rEqA (tOp rIxF B2 tI0) B1)) tI1 tI0) tNil))))) jKm)
 (tRet (tTup (jJc (tOp rIxF B2 tI1) (jJc (tCB rLen (jJc (tOp rIxF B0 (tOp rIxF B2 tI0)) tNil)) tNil)))))
theorem qQi:RdOk jZu kQv uX4:=by
 intro xs G Q h_;apply xe4 h_;clear h_;intro w f e st;refine ae4 ?_;intro he hw hd kk;show kQv _ [some (encW w),some (.int f),some (encE e),some (.bl st)] G
 have hs:=sz;obtain⟨es,h1⟩:∃es,w[e.1]? =some es:=⟨_,lJf he⟩
 have h2:=hd _ _ h1;have hk:=kk G (.refl G);rw[kUa,row,h1] at hk;cases st with
 | false=>
  exists kQv,encE,encW
  refine⟨encR es,L2.atI_nat (by rw[lJj,h1];rfl),es.map encE,rfl,by omega,?_⟩
  simpa[jJj] using hk
 | true=>
  exists kQv,encE,encW,rEqA
  refine⟨encR es,L2.atI_nat (by rw[lJj,h1];rfl),es.map encE,rfl,?_⟩
  refine⟨decide (e.1=f),jKq,?_⟩
  by_cases z:e.1=f
  .rw[lJc (lKf z)];rw[lJc z] at hk;exact⟨by omega,by simpa[jJj] using hk⟩
  .rw[lJb (by simpa using z)]
   rw[lJb z] at hk;exact⟨by omega,by simpa[jJj] using hk⟩
theorem uJ9{X:Nat->Nat->Prop}{U V:Web}{r s:Nat}:∀{u:List Nat}{a b:Nat},Go X U V u a b r s->¬ X r s
 | [],_,_,h=>by obtain⟨rfl,rfl,h⟩:=h;exact h
 | _::_,_,_,h=>by obtain⟨_,_,_,_,_,_,h⟩:=h;exact uJ9 h
theorem qV7{G:Gp}{u:List Nat}{j:Nat}{Q:VK3}(h:u.length+1<=sizeLine)(q:Q (wayT (u++[j])) G):qJ0 (.tup (jJj u)) (.tup [.int (j:Nat)]) G Q:=by
 cases u with
 | nil=>exact .inr ⟨[.int j],rfl,rfl,q⟩
 | cons c u=>
  refine .inl ⟨.val (wayT (c::u++[j])),?_,q⟩;have:u.length+1+1<=sizeLine:=h;simp[addR,jJj,wayT,this]
def XS(st:Bool)(U V:Web)(a b r s:Nat):Prop:=(row U r).length≠(row V s).length\/(st=true/\¬ (r=a↔s=b))
theorem qZ3{st:Bool}{U V:Web}{a b:Nat}:XS st U V a b a b↔(row U a).length≠(row V b).length:=by simp[XS]
theorem qZ4{U V:Web}{a b:Nat}:XS false U V a b=XL U V:=by
 funext r s;simp[XS,XL]
theorem uQe{st:Bool}{U V:Web}{a b:Nat}{e g:Nat×Nat}:kUa st U a e=kUa st V b g↔¬ (e.2≠g.2\/XS st U V a b e.1 g.1):=by
 unfold kUa XS;cases st with
 | false=>simp
 | true=>
  by_cases z:e.1=a<;>by_cases y:g.1=b<;>simp[z,y]
def prs(n:Nat)(p:PE):Nat×Nat:=(p.1 / n,p.1%n)
def pkv(n:Nat)(P:List PE):List (L2.TKey×T):=P.map λp=>(keyE (prs n p),T.bl true)
def lvT(n:Nat)(p:PE):T:= .tup [encE (prs n p),wayT p.2.2]
theorem qJj{K:Type}[DecidableEq K]{kvs:List (K×T)}{k:K}:(valT kvs k).isSome=true↔k∈kvs.map Prod.fst:=by
 unfold valT;rw[lYh,List.find?_isSome,lJi];exact⟨λ⟨a,h1,h2⟩=>⟨a,h1,by simpa using h2⟩,λ⟨a,h1,h2⟩=>⟨a,h1,by simpa using h2⟩⟩
theorem uKz{n r s:Nat}{P:List PE}(hs:s<n):keyE (r,s)∈(pkv n P).map Prod.fst↔r*n+s∈P.map Prod.fst:=by
 rw[pkv,lJr,lJi,lJi]
 constructor
 .rintro⟨p,hp,e⟩;have:=jZj e;refine⟨p,hp,?_⟩;have h1:p.1 / n=r:=lJs Prod.fst this;have h2:p.1%n=s:=lJs Prod.snd this;rw[<-h1,<-h2,lQy];exact (Nat.div_add_mod p.1 n).symm
 .rintro⟨p,hp,e⟩;refine⟨p,hp,?_⟩;obtain⟨d1,d2⟩:=dm (e:=r) hs;show keyE (p.1 / n,p.1%n)=_
  rw[e,d1,d2]
theorem dicE:Dic (λkvs=> .dct kvs) keyE (λe:Nat×Nat=>T.tup [.int e.1,.int e.2]):=dicT (λ_ _ h=>jZj h) (λ_=>jVq)
noncomputable def jUg:Sp3:=λxs G Q=>∃(U V:Web)(a b:Nat)(st:Bool),xs=[encW U,.int a,encW V,.int b,.bl st]/\Fine U/\Fine V/\a<U.length/\b<V.length/\U.length*V.length<=5000/\∀o d P G',Lst (XS st U V a b) U V a b o->G d=none->G' d=some (.dct (pkv V.length P))->(o=none->Wk (XS st U V a b) U V a b P.length 0 P)->Sub G G'->Q (.tup [oWay o,.ref d]) G'
def kUn:List Str:=["one","a","other","b","stone","pairs","level","further","pair","way","door","left","right","come_to"]
noncomputable def jUh:TS3:=
 (tSeq (tAsg (kV9 (tTup (jJc B1 C3)) (tC (.bl true))) D5)
 (tSeq (tIfS (jJx (tOp rNeA (tCB rLen (jJc (tOp rIxF B0 B1) tNil)) (tCB rLen (jJc (tOp rIxF B2 B3) tNil)))) (tRet (tTup (jJc (tTup tNil) C5))) jKm)
 (tSeq (tAsg (tLst (jJc (tTup (jJc (tTup (jJc B1 C3)) (jJc (tTup tNil) tNil))) tNil)) D6)
 (tSeq (jUz (tTru rTru B6) (tSeq (tAsg (tLst tNil) D7)
 (tSeq (tFor (iSeq B6) (gTup 2 (jKa D8 (jKa D9 gNil))) (tFor (iEnT (jJc (tOp rIxF B0 (tOp rIxF B8 tI0)) tNil)) (gTup 2 (jKa D10 (jKa D11 gNil))) (tSeq (tAsg (tOp rIxF (tOp rIxF B2 (tOp rIxF B8 tI1)) B10) D12)
 (tSeq (tIfS (jJx (tOp rNeA (jJs jZu (jJc B0 (jJc B1 (jJc B11 C4)))) (jJs jZu (jJc B2 (jJc B3 (jJc B12 C4)))))) (tRet (tTup (jJc (tOp qJ0 B9 (tTup C10)) C5))) jKm)
 (tSeq (tAsg (tTup (jJc (tOp rIxF B11 tI0) (jJc (tOp rIxF B12 tI0) tNil))) D13)
 (tIfS (jJx (tOp jK4 B13 B5)) (tSeq (tAsg (tC (.bl true)) (gSub B5 B13 jQh))
 (jQg (tBM "list" jJ5 B7 (jJc (tTup (jJc B13 (jJc (tOp qJ0 B9 (tTup C10)) tNil))) tNil)))) jKm))))))
 (tAsg B7 D6))))
 (tRet (tTup (jJc (tC .non) C5)))))))
theorem jY5:RdOk jUg jUh kUn:=by
 intro xs G Q h_;apply xe5 h_;clear h_;intro U V a b st;refine ae6 ?_;intro fU fV ha hb huv kk;show jUh _ [some (encW U),some (.int a),some (encW V),some (.int b),some (.bl st),none,none,none,none,none,none,none,none,none] G
 have hs:=sz;obtain⟨es,hU⟩:∃es,U[a]? =some es:=⟨_,lJf ha⟩
 obtain⟨fs,hV⟩:∃fs,V[b]? =some fs:=⟨_,lJf hb⟩
 have hul:=fU.row _ _ hU;have hvl:=fV.row _ _ hV
 exists jUh,jUz,jJt,kV9,iSeq,iEnT,encW,rNeA
 intro d hd;refine⟨by omega,keyE (a,b),jVq,encR es,jKr hU,es.map encE,rfl,encR fs,jKr hV,fs.map encE,rfl,?_⟩
 simp only[lJg];refine⟨decide (es.length=fs.length),jKq,?_⟩;have hX:XS st U V a b a b↔es.length≠fs.length:=by rw[qZ3,jVy hU,jVy hV]
 by_cases hX0:¬ es.length=fs.length
 .rw[lJc (by simpa using hX0)]
  refine⟨by omega,by omega,kk (some []) d [(a*V.length+b,none,[])] _ ⟨hX.mpr hX0,λq hq=> ?_⟩ hd ?_ (λz=>by cases z) (.new hd)⟩
  .cases q with
   | nil=>exact .inl rfl
   | cons c q=>exact .inr (.inl (by simp))
  .rw[jJh];simp[pkv,prs,dm hb]
 replace hX0:=Decidable.not_not.mp hX0
 rw[lJb (by simpa using hX0)]
 refine⟨by omega,by omega,by omega,by omega,λl hl0=> ?_⟩
 have hdl:d≠l:=jJf jJh hl0;have wk0:Wk (XS st U V a b) U V a b 0 0 [(a*V.length+b,none,[])]:=qXf ha hb (λz=>hX.mp z hX0)
 let J1:Nat->St3->Gp->Prop:=λm τ G'=>∃(i:Nat)(l:Addr)(v7 v8 v9 v10 v11 v12 v13:Option T)(P:List PE),τ=[some (.tup (U.map encR)),some (.int a),some (.tup (V.map encR)),some (.int b),some (.bl st),some (.ref d),some (.ref l),v7,v8,v9,v10,v11,v12,v13]/\d≠l/\G l=none/\G' d=some (.dct (pkv V.length P))/\Wk (XS st U V a b) U V a b i 0 P/\G' l=some (.lst ((P.drop i).map (lvT V.length)))/\i<=P.length/\Sub G G'/\m=U.length*V.length-i
 refine⟨J1,?_,?_⟩
 .refine⟨_,xi10 0 l none none none none none none none _ rfl ⟨hdl,?_,?_,wk0,?_,lJx _,(Sub.new hd).trans (.new hl0),rfl⟩⟩
  .rw[jJm hdl.symm] at hl0;exact hl0
  .rw[jJm hdl,jJh];simp[pkv,prs,dm hb]
  .rw[jJh];simp[lvT,prs,dm hb,encE,wayT,jJj]
 intro m τ G1 h_;apply xe10 h_;clear h_;intro i l v7 v8 v9 v10 v11 v12 v13 P;refine ae8 ?_;intro hdl hl0 h1 hW h2 hiP hs1 e7_;subst e7_;have hPl:=hW.len
 exists h2
 split
 .rename_i hne
  have hiP':i<P.length:=by
   rcases lQr i P.length with z | z
   .exact z
   .rw[List.drop_of_length_le z] at hne;simp at hne
  let J2:St3->Gp->Prop:=λτ' G'=>∃(l':Addr)(v7 v8 v9 v10 v11 v12 v13:Option T)(P':List PE),τ'=[some (.tup (U.map encR)),some (.int a),some (.tup (V.map encR)),some (.int b),some (.bl st),some (.ref d),some (.ref l'),v7,v8,v9,v10,v11,v12,v13]/\d≠l'/\G l'=none/\G' d=some (.dct (pkv V.length P'))/\Wk (XS st U V a b) U V a b P.length 0 P'/\G' l'=some (.lst ((P'.drop P.length).map (lvT V.length)))/\P.length<=P'.length/\Sub G G'
  refine⟨J2,?_,by omega,λp hp=> ?_⟩
  .intro τ' G' h_;apply xe9 h_;clear h_;intro l' v7 v8 v9 v10 v11 v12 v13 P';refine ae7 ?_;intro i1 i2 i3 i4 i5 i6 i7;exact⟨_,by omega,xi10 P.length l' v7 v8 v9 v10 v11 v12 v13 P' rfl ⟨i1,i2,i3,i4,i5,i6,i7,rfl⟩⟩
  .have hpd:d≠p:=jJf h1 hp;have hpl:l≠p:=jJf h2 hp;have hp0:=jQe hs1 hp;refine⟨(P.drop i).map (lvT V.length),jJn (by rw[jJm hpl];exact h2),?_⟩
   let J3:Nat->St3->Gp->Prop:=λk τ G'=>∃(v8 v9 v10 v11 v12 v13:Option T)(P':List PE),τ=[some (.tup (U.map encR)),some (.int a),some (.tup (V.map encR)),some (.int b),some (.bl st),some (.ref d),some (.ref l),some (.ref p),v8,v9,v10,v11,v12,v13]/\G' d=some (.dct (pkv V.length P'))/\Wk (XS st U V a b) U V a b (i+k) 0 P'/\G' l=some (.lst ((P.drop i).map (lvT V.length)))/\G' p=some (.lst ((P'.drop P.length).map (lvT V.length)))/\(∃E,P'=P++E)/\Sub G G'
   refine⟨J3,?_,?_,?_,?_⟩
   .exact xi7 v8 v9 v10 v11 v12 v13 P rfl ⟨by rw[jJm hpd];exact h1,hW,by rw[jJm hpl];exact h2,by rw[List.drop_length];exact jJh,⟨[],by simp⟩,hs1.trans (.new hp)⟩
   .intro k τ G' hi h_;apply xe7 h_;clear h_;intro v8 v9 v10 v11 v12 v13 P';refine ae6 ?_;intro j1 jW j2 j3 jE js;exact jJn j2
   .intro k y τ G2 hy h_;apply xe7 h_;clear h_;intro v8 v9 v10 v11 v12 v13 P';refine ae6 ?_;intro j1 jW j2 j3 q4_ js;obtain⟨E,jE⟩:=q4_;obtain⟨x,hx,rfl⟩:=jKd hy;rw[List.getElem?_drop] at hx;have hik:i+k<P.length:=(lJe.mp hx).1;have hx':P'[i+k]? =some x:=by rw[jE,lJ9 hik];exact hx
    obtain⟨gx1,gx2⟩:=jW.go x (lJk hx');have hV0:0<V.length:=by omega
    have hrU:x.1 / V.length<U.length:=Nat.div_lt_of_lt_mul (by rw[lQy];exact gx1)
    have hrV:x.1%V.length<V.length:=lQm _ hV0;obtain⟨es2,hU2⟩:∃es,U[x.1 / V.length]? =some es:=⟨_,lJf hrU⟩
    obtain⟨fs2,hV2⟩:∃fs,V[x.1%V.length]? =some fs:=⟨_,lJf hrV⟩
    have hlen2:es2.length=fs2.length:=by
     have:=uJ9 gx2;rw[XS,jVy hU2,jVy hV2] at this;exact lQc λz=>this (.inl z)
    have hul2:=fU.row _ _ hU2
    exists lvT,prs,encE,wayT,iEnT,jKr hU2,encR,jJt
    let J4:Nat->St3->Gp->Prop:=λj τ G'=>∃(v10 v11 v12 v13:Option T)(P2:List PE),τ=[some (.tup (U.map encR)),some (.int a),some (.tup (V.map encR)),some (.int b),some (.bl st),some (.ref d),some (.ref l),some (.ref p),some (.tup [.int (x.1 / V.length:Nat),.int (x.1%V.length:Nat)]),some (.tup (jJj x.2.2)),v10,v11,v12,v13]/\G' d=some (.dct (pkv V.length P2))/\Wk (XS st U V a b) U V a b (i+k) j P2/\G' l=some (.lst ((P.drop i).map (lvT V.length)))/\G' p=some (.lst ((P2.drop P.length).map (lvT V.length)))/\(∃E,P2=P++E)/\Sub G G'
    refine⟨J4,?_,?_,?_,?_⟩
    .exact xi5 v10 v11 v12 v13 P' rfl ⟨j1,jW,j2,j3,⟨E,jE⟩,js⟩
    .intros;trivial
    .intro j y τ G3 hy h_;apply xe5 h_;clear h_;intro v10 v11 v12 v13 P2;refine ae6 ?_;intro q1 qW q2 q3 q4_ q5;obtain⟨E2,qE⟩:=q4_;obtain⟨z,hz,rfl⟩:=kQ7 hy;obtain⟨e,he,rfl⟩:=jKd hz;have hj:j<fs2.length:=by have:=(lJe.mp he).1;omega
     obtain⟨g,hg⟩:∃g,fs2[j]? =some g:=⟨_,lJf hj⟩
     have hx2:P2[i+k]? =some x:=by rw[qE,lJ9 hik];exact hx
     have hee:en U (x.1 / V.length) j=some e:=jKu hU2 he;have hge:en V (x.1%V.length) j=some g:=jKu hV2 hg;have he1:=fU.rng _ _ e.1 e.2 hee;have hg1:=fV.rng _ _ g.1 g.2 hge;have hP2:=qW.len;have hwl:=qW.wlen _ _ hx2;have hkl:(pkv V.length P2).length=P2.length:=by simp[pkv]
     have hgat:L2.atI (fs2.map encE) (j:Int)=some (encE g):=L2.atI_nat (by rw[lJj,hg];rfl)
     have heE:encE e= .tup [.int e.1,.int e.2]:=rfl
     exists rNeA,jKr hV2,encR,hgat,jZu
     refine⟨U,rfl,a,rfl,e,rfl,he1,fU.len,fU.row,λG4 s4=>⟨V,rfl,b,rfl,g,rfl,hg1,fV.len,fV.row,λG5 s5=>⟨_,qZm,?_⟩⟩⟩
     have s35:=s4.trans s5;have q1':=s35 _ _ q1;have q2':=s35 _ _ q2;have q3':=s35 _ _ q3;have q5':=q5.trans s35
     have hbad:Bad (XS st U V a b) U V (x.1 / V.length) (x.1%V.length) j↔¬ kUa st U a e=kUa st V b g:=by
      rw[uQe,lZq]
      constructor
      .rintro⟨e',g',z1,z2,z⟩;rw[hee] at z1;rw[hge] at z2;cases z1;cases z2;exact z
      .exact λz=>⟨e,g,hee,hge,z⟩
     by_cases hlk:kUa st U a e=kUa st V b g
     .rw[lJb (by simp[hlk])]
      have hin:=dicE.has G5 d _ (e.1,g.1) q1';have hmem:=uKz (r:=e.1) (P:=P2) hg1;rw[<-qJj] at hmem;refine⟨.int e.1,rfl,.int g.1,rfl,by omega,_,hin,_,rfl,?_⟩
      by_cases hm:e.1*V.length+g.1∈P2.map Prod.fst
      .rw[lJb (by simp[hmem.mpr hm])]
       exact xi5 _ _ _ _ P2 rfl ⟨q1',qW.skip hx2 hee hge (λz=>hbad.mp z hlk) hm,q2',q3',⟨E2,qE⟩,q5'⟩
      .have hnn:valT (pkv V.length P2) (keyE (e.1,g.1))=none:=by
        cases hv:valT (pkv V.length P2) (keyE (e.1,g.1)) with
        | none=>rfl
        | some t=>exact absurd (hmem.mp (by rw[hv];rfl)) hm
       rw[lJc (by simp[hnn])]
       have hgp:gup G5 d (.dct (putT (pkv V.length P2) (keyE (e.1,g.1)) (.bl true))) p=some (.lst ((P2.drop P.length).map (lvT V.length))):=by rw[jJm hpd.symm];exact q3'
       refine⟨_,dicE.put G5 d _ (e.1,g.1) _ q1' (by omega),by rw[jJ4 hgp];trivial,by omega,qV7 (by omega) ?_⟩
       refine⟨by omega,_,hgp,by simp;omega,xi5 _ _ _ _ (P2++[(e.1*V.length+g.1,some (x.1,j),x.2.2++[j])]) rfl ⟨?_,?_,?_,?_,?_,?_⟩⟩
       .rw[jJm hpd,jJh,kU4 hnn,pkv,pkv,lKe];simp[prs,dm hg1]
       .exact qW.add fU fV hx2 hee hge (λz=>hbad.mp z hlk) hm
       .rw[jJm hpl,jJm hdl.symm];exact q2'
       .rw[jJh,mJf (by rw[qE,lJv];omega)]
        simp[lvT,prs,dm hg1,encE]
       .exact⟨E2++[(e.1*V.length+g.1,some (x.1,j),x.2.2++[j])],by rw[qE,lQ7]⟩
       .exact (q5'.over hd).over hp0
     .rw[lJc (by simpa using hlk)]
      refine⟨by omega,qV7 (by omega) ?_⟩
      exact⟨by omega,kk (some (x.2.2++[j])) d P2 G5 (qW.found fU fV ha hb hx2 (hbad.mpr hlk)) hd q1' (λz=>by cases z) q5'⟩
    .intro τ G3 h_;apply xe5 h_;clear h_;intro v10 v11 v12 v13 P2;refine ae6 ?_;intro q1 qW q2 q3 qE q5;rw[jJ2,lJg] at qW;obtain⟨E2,qE⟩:=qE;have hx2:P2[i+k]? =some x:=by rw[qE,lJ9 hik];exact hx
     exact xi7 _ _ _ _ _ _ P2 rfl ⟨q1,qW.next hx2 (by rw[jVy hU2];exact lJh _),q2,q3,⟨E2,qE⟩,q5⟩
   .intro τ G2 h_;apply xe7 h_;clear h_;intro v8 v9 v10 v11 v12 v13 P';refine ae6 ?_;intro j1 jW j2 j3 q4_ js;obtain⟨E,jE⟩:=q4_;have hlen:((P.drop i).map (lvT V.length)).length=P.length-i:=by simp
    rw[hlen,show i+(P.length-i)=P.length by omega] at jW
    exists tSeq
    exact xi9 p _ _ _ _ _ _ _ P' rfl ⟨hpd,hp0,j1,jW,j3,by rw[jE,lJv];omega,js⟩
 .rename_i hne
  have he:P.length<=i:=by
   have:(P.drop i).map (lvT V.length)=[]:=by simpa using hne
   have:=lJs List.length this;simp at this;omega
  have e:i=P.length:=by omega
  subst e;exact⟨by omega,kk none d P G1 (hW.none fU fV ha hb) hd h1 (λ_=>hW) hs1⟩
inductive Rch (U V:Web) (a b:Nat):Nat->Nat->Prop
 | nil:Rch U V a b a b
 | step {r s d:Nat} {e g:Nat×Nat} (h:Rch U V a b r s) (he:en U r d=some e) (hg:en V s d=some g):Rch U V a b e.1 g.1
theorem qQl{U V:Web}(fU:Fine U)(fV:Fine V){a b r s:Nat}(ha:a<U.length)(hb:b<V.length)(h:Rch U V a b r s):r<U.length/\s<V.length:=by
 induction h with
 | nil=>exact⟨ha,hb⟩
 | step h he hg ih=>exact⟨fU.rng _ _ _ _ he,fV.rng _ _ _ _ hg⟩
theorem uJ8{X:Nat->Nat->Prop}{U V:Web}{a b:Nat}:∀{u:List Nat}{a' b' r s:Nat},Go X U V u a' b' r s->Rch U V a b a' b'->Rch U V a b r s
 | [],_,_,_,_,h,z=>by obtain⟨rfl,rfl,_⟩:=h;exact z
 | _::_,_,_,_,_,h,z=>by
  obtain⟨_,e,g,h1,h2,_,h3⟩:=h;exact uJ8 h3 (.step z h1 h2)
theorem uJf{X:Nat->Nat->Prop}{U V:Web}(fU:Fine U)(fV:Fine V){a b:Nat}{P:List PE}(ha:a<U.length)(hb:b<V.length)(w:Wk X U V a b P.length 0 P)(r s:Nat):(r,s)∈P.map (prs V.length)↔Rch U V a b r s:=by
 constructor
 .intro h;obtain⟨q,hq,e⟩:=lJi.mp h;have e1:q.1 / V.length=r:=lJs Prod.fst e;have e2:q.1%V.length=s:=lJs Prod.snd e;have:=(w.go q hq).2;rw[e1,e2] at this;exact uJ8 this .nil
 .intro h
  suffices hm:∃q,q∈P/\q.1=r*V.length+s by
   obtain⟨q,hq,e⟩:=hm;obtain⟨d1,d2⟩:=dm (e:=r) (qQl fU fV ha hb h).2;exact lJi.mpr ⟨q,hq,by unfold prs;rw[e,d1,d2]⟩
  induction h with
  | nil=>exact⟨_,lJk w.tr.zero,rfl⟩
  | @step r s d e g h he hg ih=>
   obtain⟨q,hq,e1⟩:=ih;obtain⟨k,hk⟩:=lJ1 hq;obtain⟨d1,d2⟩:=dm (e:=r) (qQl fU fV ha hb h).2;obtain⟨q',h1,h2,_⟩:=w.tr.cl k q d (e.1*V.length+g.1) 0 (.inl (lJe.mp hk).1) hk (kUi (w.go q hq).1 (by rw[e1,d1];exact he) (by rw[e1,d2];exact hg))
   exact⟨q',h1,h2⟩
def ltP(a b:Nat×Nat):Prop:=a.1<b.1\/(a.1=b.1/\a.2<b.2)
structure RP (U V:Web) (a b:Nat) (L:List (Nat×Nat)):Prop where
 up:L.Pairwise ltP
 mem:∀r s,(r,s)∈L↔Rch U V a b r s
def pkk(e:Nat×Nat):List T×L2.TKey:=([.int e.1,.int e.2],keyE e)
theorem qUp(x y:Nat×Nat):L3.ltK (keyE x) (keyE y)=some (decide (x.1<y.1\/(x.1=y.1/\x.2<y.2))):=by
 unfold ltK keyE L3.lexLt
 by_cases h:x.1=y.1
 .rw[lJc (by rw[h])]
  unfold L3.lexLt
  by_cases h2:x.2=y.2
  .rw[lJc (by rw[h2])]
   unfold L3.lexLt;simp[h,h2]
  .rw[lJb (by simp only[Sum.inl.injEq];omega)]
   simp[ltS,ltI,h]
 .rw[lJb (by simp only[Sum.inl.injEq];omega)]
  simp only[ltS,ltI,lQi,decide_eq_decide];omega
theorem qK7(e:Nat×Nat):SKey true (pkk e).1 (pkk e).2:=⟨rfl,rfl,rfl⟩
theorem qJr{L:List (Nat×Nat)}{kys:List (List T×L2.TKey)}(hp:kys.Perm (L.map pkk))(hs:kys.Pairwise λx y=>L3.ltK x.2 y.2=some true):∃M:List (Nat×Nat),kys=M.map pkk/\M.Perm L/\M.Pairwise ltP:=by
 obtain⟨M,h1,h2⟩:=jXa hp L rfl;refine⟨M,h2,h1,?_⟩;rw[h2,lVk] at hs;refine hs.imp λ{x y} z1=> ?_
 rw[show L3.ltK (pkk x).2 (pkk y).2=_ from qUp x y] at z1
 have z2:=lJ3 z1;rw[lK7] at z2;exact z2
def PrV(U V:Web)(a b:Nat)(G G':Gp)(v:T):Prop:=(v= .non/\∃p,PX (XL U V) U V p a b)\/∃(q:Addr)(L:List (Nat×Nat)),v= .ref q/\(∀p,¬ PX (XL U V) U V p a b)/\G q=none/\G' q=some (.lst (L.map encE))/\RP U V a b L
noncomputable def jX9:Sp3:=λxs G Q=>∃(U V:Web)(a b:Nat),xs=[encW U,.int a,encW V,.int b]/\Fine U/\Fine V/\a<U.length/\b<V.length/\U.length*V.length<=5000/\((∀p,¬ PX (XL U V) U V p a b)->∀L:List (Nat×Nat),L.Nodup->(∀r s,(r,s)∈L->Rch U V a b r s)->L.length<64)/\∀v G',PrV U V a b G G' v->Sub G G'->Q v G'
def qV9:List Str:=["one","a","other","b","walked"]
noncomputable def jYf:TS3:=
 (tSeq (tAsg (jJs jUg (jJc B0 (jJc B1 (jJc B2 (jJc B3 (jJc (tC (.bl false)) tNil)))))) D4)
 (tSeq (tIfS (jJx (tOp jZ7 (tOp rIxF B4 tI0) (tC .non))) (tRet (tC .non)) jKm)
 (tRet (tCB qQo (jJc (tOp rIxF B4 tI1) tNil)))))
theorem qQe{U V:Web}{a b:Nat}{P:List (Nat×Nat)}{kys:List (List T×L2.TKey)}(hm:∀r s,(r,s)∈P↔Rch U V a b r s)(hp:kys.Perm (P.map pkk))(hs:kys.Pairwise λx y=>L3.ltK x.2 y.2=some true):∃L,RP U V a b L/\kys.map (λe=>T.tup e.1)=L.map encE:=by
 obtain⟨L,h1,h2,h3⟩:=qJr hp hs;refine⟨L,⟨h3,λr s=>(h2.mem_iff).trans (hm r s)⟩,?_⟩
 rw[h1,lJr];rfl
def prk(P:List (Nat×Nat)):List (L2.TKey×T):=P.map λe=>(keyE e,T.bl true)
theorem uKy{n:Nat}{P:List PE}:pkv n P=prk (P.map (prs n)):=by unfold pkv prk;rw[lJr];rfl
theorem kXc{U V:Web}{a b:Nat}{G:Gp}{d:Addr}{P:List (Nat×Nat)}{Q:VK3}(hG:G d=some (.dct (prk P)))(hn:P.Nodup)(hm:∀r s,(r,s)∈P↔Rch U V a b r s)(hl:P.length<64)(k:∀q L,G q=none->RP U V a b L->Q (.ref q) (gup G q (.lst (L.map encE)))):qQo [.ref d] G Q:=by
 refine⟨d,_,true,P.map pkk,rfl,hG,by rw[prk,lJr,lJr];rfl,by rw[lJg];exact hl,?_,λe he=> ?_,λe he e' he'=> ?_,λq kys hq hp hs=> ?_⟩
 .rw[lJr,List.Nodup,lVk];exact List.Pairwise.imp (λ{x y} h z=>h (jZj z)) hn
 .obtain⟨x,_,rfl⟩:=lJi.mp he;exact qK7 x
 .obtain⟨x,_,rfl⟩:=lJi.mp he;obtain⟨y,_,rfl⟩:=lJi.mp he';rw[show L3.ltK (pkk x).2 (pkk y).2=_ from qUp x y];rfl
 .obtain⟨L,h1,h2⟩:=qQe hm hp hs;rw[h2];exact k q L hq h1
theorem kU5{n:Nat}:∀{P:List PE},(P.map Prod.fst).Nodup->(P.map (prs n)).Nodup:=λ{P} h=>by
 have e:(P.map (prs n)).map (λx=>x.1*n+x.2)=P.map Prod.fst:=by
  rw[lJr];refine lXe λp _=> ?_
  show p.1 / n*n+p.1%n=p.1
  rw[lQy];exact Nat.div_add_mod p.1 n
 rw[<-e] at h;exact List.Pairwise.of_map _ (λa b hab=>λz=>hab (by rw[z])) h
theorem kUx:RdOk jX9 jYf qV9:=by
 intro xs G Q h_;apply xe4 h_;clear h_;intro U V a b;refine ae7 ?_;intro fU fV ha hb huv hcnt kk;show jYf _ [some (encW U),some (.int a),some (encW V),some (.int b),none] G
 have hs:=sz
 exists jYf,jZ7
 refine xi5 U V a b false rfl ⟨fU,fV,ha,hb,huv,λo d P G' h1 h2 h3 h4 s=> ?_⟩
 rw[qZ4] at h1;cases o with
 | some p=>exact⟨wayT p,rfl,kk _ _ (.inl ⟨rfl,p,h1.1⟩) s⟩
 | none=>
  have w:=h4 rfl;refine⟨.non,rfl,.ref d,rfl,kXc (P:=P.map (prs V.length)) (by rw[h3,uKy]) (kU5 w.tr.nd) (uJf fU fV ha hb w) (hcnt h1 _ (kU5 w.tr.nd) λr s=>(uJf fU fV ha hb w r s).mp) λq L hq hL=> ?_⟩
  exact kk _ _ (.inr ⟨q,L,rfl,h1,jQe s hq,jJh,hL⟩) (s.trans (.new hq))
theorem qUi{W:Web}{a b:Nat}(ha:a<W.length)(hb:b<W.length):nuF (mk W) a=nuF (mk W) b↔(mk W)[a]? =(mk W)[b]? :=by
 obtain⟨v,h1,_⟩:=kJe ha;obtain⟨u,h2,_⟩:=kJe hb;rw[kJc h1,kJc h2,h1,h2,lQi]
theorem uKe{W:Web}(f:Fine W){a b:Nat}(ha:a<W.length)(hb:b<W.length)(h:(mk W)[a]? =(mk W)[b]?):(row W a).length=(row W b).length:=by
 have key:∀{a b:Nat},a<W.length->b<W.length->(mk W)[a]? =(mk W)[b]? ->¬ (row W b).length<(row W a).length:=by
  intro a b ha hb h hl;have he:en W a (row W b).length=some ((row W a)[(row W b).length]):=by rw[jX4];exact lJf hl
  obtain⟨s,h1,_⟩:=jXf f ha hb h (s:=((row W a)[(row W b).length]).1) (j:=((row W a)[(row W b).length]).2) he;rw[jX4,lJy (lJh _)] at h1;cases h1
 have h1:=key ha hb h;have h2:=key hb ha h.symm;omega
theorem uV0{W:Web}(f:Fine W):∀(p:List Nat){a b:Nat},a<W.length->b<W.length->(mk W)[a]? =(mk W)[b]? ->¬ PX (XL W W) W W p a b
 | [],_,_,ha,hb,h,z=>z (uKe f ha hb h)
 | d::p,_,_,ha,hb,h,z=>by
  obtain⟨_,e,g,he,hg,q⟩:=z;obtain⟨s,h1,h2⟩:=jXf f ha hb h (s:=e.1) (j:=e.2) he;rw[hg] at h1;cases h1
  rcases q with ⟨q,_⟩ | ⟨_,q⟩
  .exact q rfl
  .exact uV0 f p (f.rng _ _ _ _ he) (f.rng _ _ _ _ hg) h2.symm q
theorem uJu{W:Web}:∀(p:List Nat)(r s:Nat),PW2 W W p r s↔PW W p r s
 | [],_,_=>Iff.rfl
 | d::p,r,s=>by simp only[PW2,PW,uJu p]
theorem qQu{W:Web}(f:Fine W){a b:Nat}(ha:a<W.length)(hb:b<W.length):(∀p,¬ PX (XL W W) W W p a b)↔nuF (mk W) a=nuF (mk W) b:=by
 rw[qUi ha hb]
 constructor
 .intro h;exact (uUe f W.length a b ha hb).mpr λp _ q=>h p ((uKg p a b).mpr ((uJu p a b).mpr q))
 .exact λh p=>uV0 f p ha hb h
theorem qQm{W:Web}(f:Fine W)(sy:Sym W){a b r s:Nat}(ha:a<W.length)(hb:b<W.length)(h:(mk W)[a]? =(mk W)[b]?)(hab:a≠b)(hr:Rch W W a b r s):r<W.length/\s<W.length/\(mk W)[r]? =(mk W)[s]? /\r≠s:=by
 induction hr with
 | nil=>exact⟨ha,hb,h,hab⟩
 | @step r s d e g hr he hg ih=>
  obtain⟨i1,i2,i3,i4⟩:=ih;obtain⟨s',h1,h2⟩:=jXf f i1 i2 i3 (s:=e.1) (j:=e.2) he;rw[hg] at h1;cases h1;refine⟨f.rng _ _ _ _ he,f.rng _ _ _ _ hg,h2.symm,λz=>i4 ?_⟩
  have z:e.1=s':=z;have b1:=sy _ _ _ _ (show en W r d=some (e.1,e.2) from he)
  have b2:=sy _ _ _ _ hg;rw[z,b2] at b1;exact (lJs Prod.fst (lJ3 b1)).symm
theorem qYr{W:Web}{a b L t:Nat}{p q:Plan}(h:metM W a b p q L=some t):t<=L/\atM W a p t=atM W b q t/\∀j,j<t->atM W a p j≠atM W b q j:=by
 unfold metM at h;rw[List.find?_range_eq_some] at h;obtain⟨h1,h2,h3⟩:=h;exact⟨by have:=lJw.mp h2;omega,by simpa using h1,λj hj=>by simpa using h3 j hj⟩
theorem qXz{W:Web}{a r s:Nat}(h:Rch W W a a r s):r=s:=by
 induction h with
 | nil=>rfl
 | step h he hg ih=>
  subst ih;rw[he] at hg;cases hg;rfl
theorem qQ4{W:Web}(f:Fine W)(sy:Sym W)(h8:W.length<=8){a b:Nat}(ha:a<W.length)(hb:b<W.length)(h:∀p,¬ PX (XL W W) W W p a b)(L:List (Nat×Nat))(nd:L.Nodup)(hL:∀r s,(r,s)∈L->Rch W W a b r s):L.length<64:=by
 have key:∀P:Nat×Nat->Bool,(∀x,x∈L->P x=true/\x.1<8/\x.2<8)->L.length<=((((List.range 8).flatMap λr=>(List.range 8).map λs=>(r,s))).filter P).length:=λP hP=>by
  refine nd.length_le_of_subset λx hx=> ?_
  obtain⟨h1,h2,h3⟩:=hP x hx;exact lQs.mpr ⟨lX4.mpr ⟨x.1,lJw.mpr h2,lJi.mpr ⟨x.2,lJw.mpr h3,rfl⟩⟩,h1⟩
 by_cases e:a=b
 .subst e;refine lYi (key (λx=>x.1 == x.2) λx hx=> ?_) (by decide)
  have z:=hL x.1 x.2 hx;have q:=qQl f f ha hb z;exact⟨by simpa using qXz z,by omega,by omega⟩
 .refine lYi (key (λx=>x.1 != x.2) λx hx=> ?_) (by decide)
  have z:=hL x.1 x.2 hx;obtain⟨q1,q2,_,q4⟩:=qQm f sy ha hb ((qUi ha hb).mp ((qQu f ha hb).mp h)) e z;exact⟨by simpa using q4,by omega,by omega⟩
def strT(s:String):T:= .str (PySem.Str.ofString s)
def uY7(W:Web)(a b:Nat)(G G':Gp)(v:T):Prop:=
 ((a=b\/nuF (mk W) a≠nuF (mk W) b)/\∃L,RuOk W (ouF W W.length) L/\MetAll W (ouF W W.length) (λx y=>y<x)/\L<=20000/\v= .tup [strT "step",optT (metM W a b (plF W (ouF W W.length) a) (plF W (ouF W W.length) b) L)])\/
 (a≠b/\nuF (mk W) a=nuF (mk W) b/\∃(q:Addr)(L:List (Nat×Nat)),v= .tup [strT "never",.ref q]/\G q=none/\G' q=some (.lst (L.map encE))/\RP W W a b L)
def jVn:Sp3:=λxs G Q=>∃(W:Web)(a b:Nat),xs=[encW W,.int a,.int b]/\AnyWeb W/\W.length<=8/\a<W.length/\b<W.length/\∀v G',uY7 W a b G G' v->Sub G G'->Q v G'
def qXa:List Str:=["web","a","b","pairs"]
noncomputable def jYg:TS3:=
 (tSeq (tAsg (jJs jX9 (jJc B0 (jJc B1 (jJc B0 C2)))) D3)
 (tSeq (tIfS (tOr (jJx (tOp rEqA B1 B2)) (jJx (tOp rIsN B3 (tC .non)))) (tRet (tTup (jJc (tC (.str (PySem.Str.ofString "step"))) (jJc (jJs jQ2 (jJc B0 (jJc B1 (jJc B2 (jJc (jJs jKt C0) tNil))))) tNil)))) jKm)
 (tRet (tTup (jJc (tC (.str (PySem.Str.ofString "never"))) C3)))))
theorem kUz:RdOk jVn jYg qXa:=by
 intro xs G Q h_;apply xe3 h_;clear h_;intro W a b;refine ae5 ?_;intro any h8 ha hb kk;show jYg _ [some (encW W),some (.int a),some (.int b),none] G
 have hs:=sz;have fine:=any.fine;have hW2:=any.len
 exists jYg,rEqA,rIsN
 refine⟨W,W,a,b,rfl,fine,fine,ha,hb,lKc (lXi hW2 hW2) (by decide),qQ4 fine any.sym h8 ha hb,λv G1 hv s1=> ?_⟩
 have step:(a=b\/nuF (mk W) a≠nuF (mk W) b)->jKt [encW W] G1 λt G2=>jQ2 [encW W,.int (a:Nat),.int (b:Nat),t] G2 λu G3=>2<=sizeLine/\Q (.tup [.str (PySem.Str.ofString "step"),u]) G3:=λh=>
  ⟨W,rfl,any,λL G2 ru hL met s2=>by
   obtain⟨a1,a2⟩:=jV4 ru ha;obtain⟨b1,b2⟩:=jV4 ru hb;exact⟨W,a,b,_,_,_,L,rfl,fine,ha,hb,a1,b1,a2,b2,hL,ru.pos a ha,ru.pos b hb,λG3 s3=>⟨by omega,kk _ G3 (.inl ⟨h,L,ru,met,hL,rfl⟩) ((s1.trans s2).trans s3)⟩⟩⟩
 refine⟨_,jKq,?_⟩
 by_cases hab:a=b
 .rw[lJc (lKf hab)];exact step (.inl hab)
 .rw[lJb (by simpa using hab)]
  rcases hv with ⟨rfl,p,hp⟩ | ⟨q,L,rfl,h,hq,hq1,rp⟩
  .rw[lJc rfl];exact step (.inr λz=>(qQu fine ha hb).mpr z p hp)
  .rw[lJb (by simp)]
   exact⟨by omega,kk _ G1 (.inr ⟨hab,(qQu fine ha hb).mp h,q,L,rfl,hq,hq1,rp⟩) s1⟩
theorem uVt{e:Nat×Nat}:OkD 1 (encE e):=uK5 λx hx=>by
 simp only[lKp,lJp,lVd] at hx
 rcases hx with rfl | rfl<;>exact uK6
theorem uXl{e:Nat×Nat}:eqOk (encE e)=true:=by
 have h:=uVt (e:=e);unfold eqOk;rw[h.tr,h.lay,lKf (show (td (encE e)).depth<=50 by have:=h.dep;omega)];rfl
theorem qZl{S:List (Nat×Nat)}:jYu (S.map encE)=true:=by
 obtain⟨a1,a2,a3,_⟩:=kXz (d:=1) (S.map encE) λx hx=>by obtain⟨e,_,rfl⟩:=lJi.mp hx;exact uVt
 unfold jYu;rw[a1,a2,lKf (show (PyData.list (tds (S.map encE))).depth<=50 by rw[PyData.depth];omega)];rfl
theorem uYw{a b:Nat×Nat}:PyData.eqv (td (encE a)) (td (encE b))=decide (a=b):=by
 obtain⟨a1,a2⟩:=a;obtain⟨b1,b2⟩:=b;show (PyData.eqv (.int (a1:Nat)) (.int (b1:Nat))&&(PyData.eqv (.int (a2:Nat)) (.int (b2:Nat))&&true))=_
 by_cases c1:a1=b1
 .subst c1
  by_cases c2:a2=b2
  .subst c2;simp[PyData.eqv]
  .have:¬ (a2:Int)=b2:=by omega
   simp[PyData.eqv,c2,this]
 .have:¬ (a1:Int)=b1:=by omega
  simp[PyData.eqv,c1,this]
theorem uY4{S:List (Nat×Nat)}{e:Nat×Nat}:((tds (S.map encE)).any λz=>PyData.eqv z (td (encE e)))=S.contains e:=by
 induction S with
 | nil=>rfl
 | cons a S ih=>
  show (PyData.eqv (td (encE a)) (td (encE e))||(tds (S.map encE)).any λz=>PyData.eqv z (td (encE e)))=_
  rw[ih,uYw,List.contains_cons]
  congr 1
  rw[Bool.eq_iff_iff,lK7,beq_iff_eq];exact eq_comm
theorem uVy{S:List (Nat×Nat)}{x y:Nat}{p:Addr}{G:Gp}{Q:VK3}(h:G p=some (.lst (S.map encE)))(k:Q (.bl (!S.contains (x,y))) G):kXr (.tup [.int (x:Nat),.int (y:Nat)]) (.ref p) G Q:=by
 refine⟨p,_,rfl,h,uXl (e:=(x,y)),qZl,?_⟩;have:=uY4 (S:=S) (e:=(x,y));rw[show td (T.tup [.int (x:Nat),.int (y:Nat)])=td (encE (x,y)) from rfl,this]
 exact k
theorem qVe{G:Gp}{x:Str}(h:PyData.strOk x=true):eqG G (.str x) (.str x)=some true:=by
 have ok:eqOk (.str x)=true:=by
  unfold eqOk;rw[show tree (.str x)=true from rfl]
  simp[td,PyData.canLay0,PyData.depth,h]
 show (if eqOk (.str x)=true/\eqOk (.str x)=true then some (eqT (.str x) (.str x)) else none)=_
 rw[lJc ⟨ok,ok⟩];simp[eqT]
noncomputable def jQq:Sp3:=λxs G Q=>∃(b:Addr)(W:Web)(q:Addr)(a c n:Nat),xs=[.ref b,encW W,.ref q,.int a,.int c]/\BoxAt G b n/\n+100<2^40/\AnyWeb W/\W.length<=8/\G q=some (.lst (jJj (mk W)))/\q≠b/\a<W.length/\c<W.length/\a≠c/\nuF (mk W) a=nuF (mk W) c/\∀G',BoxAt G' b (n+40)->Keep b G G'->Q (.bl true) G'
def kJ1:List Str:=["_law_box_here","_law_web_here","_law_numbers_here","_law_a","_law_b","_law_found","_law_turn_here","_law_door","_law_came","_law_other"]
noncomputable def jQt:TS3:=
 (tSeq (tAsg (jJs jVn (jJc B1 (jJc B3 C4))) D5)
 (tSeq (tIfS (jJx (tOp rNeA (tOp rIxF B5 tI0) (tC (.str (PySem.Str.ofString "never"))))) (tRet (tC (.bl false))) jKm)
 (tSeq (tFor (jJ1 (jJc (tOp jQv (jJs jJp (jJc B0 (jJc (tC (.int 31)) tNil))) (tCB kKp (jJc (tOp rGt (tCB rLen (jJc (tOp rIxF B1 B3) tNil)) tI0) tNil))) tNil)) D6 (tSeq (tAsg (jJs jJp (jJc B0 (jJc (tCB rLen (jJc (tOp rIxF B1 B3) tNil)) tNil))) D7)
 (tSeq (tAsg (tTup (jJc (tOp rIxF (tOp rIxF B1 B3) B7) (jJc (tOp rIxF (tOp rIxF B1 B4) B7) tNil))) (gTup 2 (jKa (gTup 2 (jKa D3 (jKa D8 gNil))) (jKa (gTup 2 (jKa D4 (jKa D9 gNil))) gNil))))
 (tIfS (tOr (jJx (tOp rEqA B3 B4)) (tOr (jJx (tOp rNeA B8 B9)) (tOr (jJx (tOp rNeA (tOp rIxF B2 B3) (tOp rIxF B2 B4))) (jJx (tOp kXr (tTup (jJc B3 C4)) (tOp rIxF B5 tI1)))))) (tRet (tC (.bl false))) jKm))))
 (tRet (tC (.bl true))))))
theorem jXq:RdOk jQq jQt kJ1:=by
 intro xs G Q h_;apply xe6 h_;clear h_;intro b W q a c n;refine ae11 ?_;intro bx hn any h8 hq hqb ha hc hac hnu kk;show jQt _ [some (.ref b),some (.tup (W.map encR)),some (.ref q),some (.int a),some (.int c),none,none,none,none,none] G
 have hs:=sz;have fine:=any.fine
 exists jQt,jJt,jJ1,rNeA
 refine⟨W,a,c,rfl,any,h8,ha,hc,λv G1 hv s1=> ?_⟩
 rcases hv with ⟨h,_⟩ | ⟨_,_,p,L,rfl,hp,hp1,rp⟩
 .exact absurd hnu (h.resolve_left hac)
 obtain⟨ro,hro,hen⟩:∃es,W[a]? =some es/\row W a=es:=⟨_,lJf ha,jVy (lJf ha)⟩
 exists strT,jKr hro,encR,List.length_map
 refine⟨true,qVe (by decide +kernel),?_⟩
 rw[lJb (by decide)]
 refine⟨b,31,n,rfl,bx.sub s1,by omega,by decide,by decide,λm G2 m0 m1 b2 k2=> ?_⟩
 obtain⟨N,hN,hN2,hN3⟩:∃N:Nat,m*(if (0:Int)<(ro.length:Nat) then 1 else 0)=(N:Int)/\N<=30/\(N=0\/1<=(row W a).length):=by
  split
  .exact⟨m.toNat,by omega,by omega,.inr (by rw[hen];omega)⟩
  .exact⟨0,by omega,by omega,.inl rfl⟩
 refine⟨_,kZj,.inl ⟨by omega,by omega⟩,?_⟩
 rw[hN];refine⟨(N:Int),rfl,by omega,by omega,?_⟩
 have hal:=(qUi ha hc).mp hnu;have hpb:p≠b:=λe=>by rw[e] at hp;obtain⟨o,ho⟩:=bx.some;rw[ho] at hp;cases hp
 have hp2:=k2 _ _ hpb hp1;have hq2:=k2 _ _ hqb (s1 _ _ hq)
 let J1:Nat->St3->Gp->Prop:=λi τ G'=>∃(x y:Nat)(v6 v7 v8 v9:Option T),τ=[some (.ref b),some (.tup (W.map encR)),some (.ref q),some (.int (x:Nat)),some (.int (y:Nat)),some (.tup [.str (PySem.Str.ofString "never"),.ref p]),v6,v7,v8,v9]/\Rch W W a c x y/\(N=0\/1<=(row W x).length)/\BoxAt G' b (n+1+i)/\Keep b G2 G'
 refine⟨J1,?_,?_,?_,?_⟩
 .exact xi6 _ _ _ _ _ _ rfl ⟨.nil,hN3,b2,.refl _ _⟩
 .intros;trivial
 .intro i z τ G3 hz h_;apply xe6 h_;clear h_;intro x y v6 v7 v8 v9;refine ae4 ?_;intro rc hx1 b3 k3;obtain⟨hi,rfl⟩:=jKs hz;obtain⟨hx,hy,hxy,_⟩:=qQm fine any.sym ha hc hal hac rc;have ex:W[x]? =some (row W x):=by rw[row,lJf hx];rfl
  have ey:W[y]? =some (row W y):=by rw[row,lJf hy];rfl
  have hl:=uKe fine hx hy hxy;have hdg:=any.deg _ _ ex
  exists jKr ex,jKr ey,encR,List.length_map
  refine⟨b,_,_,rfl,b3,by omega,by omega,by omega,λd G4 d0 d1 b4 k4=> ?_⟩
  obtain⟨d,rfl⟩:=lKo d0;have hd:d<(row W x).length:=by omega
  have he:=jKu ex (lJf hd);obtain⟨s',hg,_⟩:=jXf fine hx hy hxy (s:=((row W x)[d]).1) (j:=((row W x)[d]).2) he;have he1:(row W x)[d]? =some (row W x)[d]:=lJf hd
  generalize (row W x)[d]=e at he hg he1
  have hg1:(row W y)[d]? =some (s',e.2):=by rw[<-jX4];exact hg
  have rc2:Rch W W a c e.1 s':= .step rc he hg;obtain⟨he2,hs2,hm,hne⟩:=qQm fine any.sym ha hc hal hac rc2;have K4:Keep b G2 G4:=k3.trans k4;have hq4:=K4 _ _ hqb hq2;have hp4:=K4 _ _ hpb hp2
  exists jYv he1,jYv hg1,encE
  refine⟨by omega,_,jKq,_,rfl,?_⟩
  (rw[lJb (by simpa using hne)])
  refine⟨_,jKq,_,rfl,?_⟩;rw[lJb (by simp)]
  refine⟨_,(jJy hq4).trans (jU2 he2),_,(jJy hq4).trans (jU2 hs2),_,jKq,_,rfl,?_⟩;rw[lJb (by simpa using (qUi he2 hs2).mpr hm)]
  refine⟨by omega,uVy hp4 ⟨_,rfl,?_⟩⟩
  rw[lJb (by simpa using (rp.mem _ _).mpr rc2)]
  have back:=any.sym _ _ _ _ (show en W x d=some (e.1,e.2) from he)
  rw[jX4] at back;exact xi6 _ _ _ _ _ _ rfl ⟨rc2,.inr (by have:=(lJe.mp back).1;omega),b4.mono (by omega),K4⟩
 .intro τ G3 h_;apply xe6 h_;clear h_;intro x y v6 v7 v8 v9;refine ae4 ?_;intro rc hx1 b3 k3
  exists tSeq
  rw[jKc] at b3;exact kk G3 (b3.mono (by omega)) (((Keep.sub s1).trans k2).trans k3)
noncomputable def jQp:Sp3:=λxs G Q=>∃(W:Web)(q:Addr)(a c L:Nat),xs=[encW W,.ref q,.int a,.int c,.tup ((ouF W W.length).map encP)]/\AnyWeb W/\W.length<=8/\G q=some (.lst (jJj (mk W)))/\a<W.length/\c<a/\nuF (mk W) a≠nuF (mk W) c/\RuOk W (ouF W W.length) L/\∀G',Sub G G'->Q (.bl true) G'
def kJ0:List Str:=["_law_web_here","_law_numbers_here","_law_a","_law_b","_law_made","_law_found","_law_plan","_law_other","_law_k"]
noncomputable def jQs:TS3:=
 (tSeq (tAsg (jJs jVn (jJc B0 (jJc B2 C3))) D5)
 (tSeq (tIfS (tOr (jJx (tOp rNeA (tOp rIxF B5 tI0) (tC (.str (PySem.Str.ofString "step"))))) (tNot (jJx (kKl rLt rLeF tI0 (tOp rIxF B5 tI1) (tCB rLen (jJc (tOp rIxF B4 tI0) tNil)))))) (tRet (tC (.bl false))) jKm)
 (tSeq (tPar 6 7 (jJc (tOp rIxF B4 (tOp rIxF B1 B2)) (jJc (tOp rIxF B4 (tOp rIxF B1 B3)) tNil)))
 (tSeq (tFor (jJ1 (jJc (tOp rIxF B5 tI1) tNil)) D8 (tSeq (tIfS (jJx (tOp rEqA B2 B3)) (tRet (tC (.bl false))) jKm)
 (tSeq (tAsg (tIf (jJx (tOp rIsN (tOp rIxF B6 B8) (tC .non))) B2 (tOp rIxF (tOp rIxF (tOp rIxF B0 B2) (tOp rIxF B6 B8)) tI0)) D2)
 (tAsg (tIf (jJx (tOp rIsN (tOp rIxF B7 B8) (tC .non))) B3 (tOp rIxF (tOp rIxF (tOp rIxF B0 B3) (tOp rIxF B7 B8)) tI0)) D3))))
 (tRet (tOp rEqA B2 B3))))))
theorem jXp:RdOk jQp jQs kJ0:=by
 intro xs G Q h_;apply xe5 h_;clear h_;intro W q a c L0;refine ae8 ?_;intro any h8 hq ha hca hnu ru0 kk;show jQs _ [some (.tup (W.map encR)),some (.ref q),some (.int a),some (.int c),some (.tup ((ouF W W.length).map encP)),none,none,none,none] G
 have hs:=sz;have fine:=any.fine;have hc:c<W.length:=by omega
 exists jQs,jJt,jJ1,rNeA,kKl
 refine⟨W,a,c,rfl,any,h8,ha,hc,λv G1 hv s1=> ?_⟩
 have hc':=hc
 rcases hv with ⟨_,L,ru,met,hL,rfl⟩ | ⟨_,h,_⟩
 rotate_left
 .exact absurd h hnu
 generalize ouF W W.length=pls at ru met ⊢
 obtain⟨k,hk1,hk2⟩:=met a c hca ha hc hnu;obtain⟨a1,a2⟩:=jV4 ru ha;obtain⟨c1,c2⟩:=jV4 ru hc;rw[a2] at hk1;cases hM:metM W a c (plF W pls a) (plF W pls c) L with
 | none=>exact absurd hM (met_iff.mpr ⟨k,hk1,hk2⟩)
 | some t=>
  obtain⟨t1,t2,t3⟩:=qYr hM
  have t0:0<t:=by
   rcases lXv t with rfl | h
   .exact absurd (show a=c from t2) (by omega)
   .exact h
  have hnk:1<=pls.length:=(qQd any ru).1;obtain⟨p0,hp0⟩:∃p0,pls[0]? =some p0:=⟨_,lJf hnk⟩
  have hp0l:=ru.long _ _ hp0
  have e0:L2.atI (pls.map encP) 0=some (encP p0):=by
   rw[show (0:Int)=((0:Nat):Int) from rfl,atN,lJj,hp0];rfl
  have eP:∀(r:Nat)(p:Plan),pls[nuF (mk W) r]? =some p->L2.atI (pls.map encP) ((nuF (mk W) r:Nat):Int)=some (encP p):=λr p h=>by rw[atN,lJj,h];rfl
  have hq1:=s1 _ _ hq
  exists strT,optT
  refine⟨true,qVe (by decide +kernel),?_⟩
  rw[lJb (by decide),lJc (by omega)]
  exists rLeF,e0,encP,jJy hq1,jU2 ha,jU2 hc,eP a _ a1,eP c _ c1,List.length_map
  rw[lJb (by simp;omega)]
  refine⟨by omega,by omega,?_⟩
  rw[show ((t:Nat):Int).toNat=t by omega]
  have stp:∀(r k:Nat)(p:Plan)(G2:Gp),r<W.length->PosM W r p->p.length=L->k<t->∃m,p[k]? =some m/\(m=none/\atM W r p (k+1)=atM W r p k\/∃(i:Nat)(e:Nat×Nat)(es:List (Nat×Nat)),m=some i/\W[atM W r p k]? =some es/\es[i]? =some e/\atM W r p (k+1)=e.1):=by
   intro r k p G2 hr hp hl hk;have hm:p[k]? =some p[k]:=lJf (by omega)
   refine⟨_,hm,?_⟩;rw[jQl hm];cases hq:p[k] with
   | none=>(exact .inl ⟨rfl,rfl⟩)
   | some i=>
    rw[hq] at hm;obtain⟨e,he⟩:=hp k i hm;obtain⟨es,h1,h2⟩:=jKo he;refine .inr ⟨i,e,es,rfl,h1,h2,?_⟩;show ((en W _ i).map Prod.fst).getD 0=_
    rw[he];rfl
  let J1:Nat->St3->Gp->Prop:=λk τ G'=>∃(v8:Option T),τ=[some (.tup (W.map encR)),some (.ref q),some (.int (atM W a (plF W pls a) k:Nat)),some (.int (atM W c (plF W pls c) k:Nat)),some (.tup (pls.map encP)),some (.tup [.str (PySem.Str.ofString "step"),.int (t:Nat)]),some (.tup ((plF W pls a).map optT)),some (.tup ((plF W pls c).map optT)),v8]/\Sub G1 G'
  refine⟨J1,?_,?_,?_,?_⟩
  .exact⟨none,rfl,.refl _⟩
  .intros;trivial
  .intro k x τ G2 hx h_;apply xe1 h_;clear h_;intro v8 k2;obtain⟨hk,rfl⟩:=jKs hx;obtain⟨m,hm,hm2⟩:=stp a k _ G2 ha (ru.pos a ha) a2 hk;obtain⟨m',hm',hm2'⟩:=stp c k _ G2 hc (ru.pos c hc) c2 hk;have e1:L2.atI ((plF W pls a).map optT) (k:Int)=some (optT m):=by rw[atN,lJj,hm];rfl
   have e2:L2.atI ((plF W pls c).map optT) (k:Int)=some (optT m'):=by rw[atN,lJj,hm'];rfl
   exists rEqA,rIsN,e1,e2
   refine⟨_,jKq,?_⟩;rw[lJb (by simpa using t3 k hk)]
   have fin:∀u u':Nat,atM W a (plF W pls a) (k+1)=u->atM W c (plF W pls c) (k+1)=u'->J1 (k+1) [some (.tup (W.map encR)),some (.ref q),some (.int (u:Nat)),some (.int (u':Nat)),some (.tup (pls.map encP)),some (.tup [.str (PySem.Str.ofString "step"),.int (t:Nat)]),some (.tup ((plF W pls a).map optT)),some (.tup ((plF W pls c).map optT)),some (.int k)] G2:=by
    rintro _ _ rfl rfl;exact⟨_,rfl,k2⟩
   rcases hm2 with ⟨rfl,ea⟩ | ⟨i,e,es,rfl,w1,w2,ea⟩
   .rw[lJc (by simp[optT])]
    rcases hm2' with ⟨rfl,ec⟩ | ⟨i',e',es',rfl,w1',w2',ec⟩
    .rw[lJc (by simp[optT])];exact fin _ _ ea ec
    .rw[lJb (by simp[optT])]
     exact⟨_,jKr w1',_,jYv w2',_,rfl,fin _ _ ea ec⟩
   .rw[lJb (by simp[optT])]
    refine⟨_,jKr w1,_,jYv w2,_,rfl,?_⟩
    rcases hm2' with ⟨rfl,ec⟩ | ⟨i',e',es',rfl,w1',w2',ec⟩
    .rw[lJc (by simp[optT])];exact fin _ _ ea ec
    .rw[lJb (by simp[optT])]
     exact⟨_,jKr w1',_,jYv w2',_,rfl,fin _ _ ea ec⟩
  .intro τ G2 h_;apply xe1 h_;clear h_;intro v8 k2;rw[jKc]
   exists rEqA
   refine⟨_,jKq,?_⟩;rw[lKf t2];exact kk G2 (s1.trans k2)
def qK6:Sp3:=λxs G Q=>∃ns:List Int,xs=[.scr (jQo ns)]/\ns.length<=63/\∀G',Q (.bl true) G'
def uX5:List Str:=["_law_script","_law_cells","_law_k","_law_box_here","_law_web_here","_law_numbers_here","_law_made","_law_some","_law_a","_law_b"]
noncomputable def kZc:TS3:=
 (tSeq (tAsg (jJs jV2 (jJc B0 (jJc (tC (.int 8)) tNil))) D1)
 (tSeq (tFor (jJ1 (jJc (tCB rMax (jJc (tC (.int 3)) (jJc (tCB rLen C1) tNil))) tNil)) D2 (tSeq (tAsg (jJs kQe (jJc B1 C2)) D3)
 (tSeq (tAsg (jJs jYb C3) D4)
 (tSeq (tAsg (jJs jU8 C4) D5)
 (tSeq (tAsg (jJs jKt C4) D6)
 (tSeq (tAsg (jJs jZw (jJc B3 (jJc B4 (jJc B5 (jJc (tC (.int 20)) tNil))))) D7)
 (tFor (jJ1 (jJc (tCB rLen C4) tNil)) D8 (tFor (jJ1 C8) D9 (tIfS (jJx (tOp rEqA (tOp rIxF B5 B8) (tOp rIxF B5 B9))) (tIfS (tOr (tNot (jJx (jJs jQq (jJc B3 (jJc B4 (jJc B5 (jJc B8 C9))))))) (jJx (tOp jZ7 (jJs jQ2 (jJc B4 (jJc B8 (jJc B9 C7)))) (tC .non)))) (tRet (tC (.bl false))) jKm) (tIfS (tNot (jJx (jJs jQp (jJc B4 (jJc B5 (jJc B8 (jJc B9 C6))))))) (tRet (tC (.bl false))) jKm))))))))))
 (tRet (tC (.bl true)))))
theorem qXy:RdOk qK6 kZc uX5:=by
 intro xs G Q h_;apply xe1 h_;clear h_;intro ns;refine ae2 ?_;intro hl kk;show kZc _ [some (.scr (jQo ns)),none,none,none,none,none,none,none,none,none] G
 have hs:=sz
 exists kZc,rMax,jJt,jJ1
 refine⟨ns,8,rfl,hl,by decide,by decide,λpc G1 ms hpc hpc1 hm1 hm2 s1=> ?_⟩
 refine⟨_,jJn hpc1,by split<;>omega,by simp only[lJg];split<;>omega,?_⟩
 let J1:Nat->St3->Gp->Prop:=λk τ G'=>∃(v2 v3 v4 v5 v6 v7 v8 v9:Option T),τ=[some (.scr (jQo ns)),some (.ref pc),v2,v3,v4,v5,v6,v7,v8,v9]/\G' pc=some (.lst (jQo ms))
 refine⟨J1,?_,?_,?_,?_⟩
 .exact⟨_,_,_,_,_,_,_,_,rfl,hpc1⟩
 .intros;trivial
 .intro k x τ G2 hx h_;apply xe8 h_;clear h_;intro v2 v3 v4 v5 v6 v7 v8 v9 hp2
  have hk:k<63/\x= .int (k:Nat):=by
   obtain⟨z1,z2⟩:=jKs hx;refine⟨?_,z2⟩;rw[lJg] at z1;split at z1<;>omega
  obtain⟨hk,rfl⟩:=hk
  exists jJt,jJ1
  refine⟨pc,ms,k,rfl,hp2,hm2,by omega,by omega,λb G3 hb3 bx3 s3=> ?_⟩
  have hpb:=jJf hp2 hb3;refine⟨b,0,rfl,bx3,by decide,λW G4 any h8 bx4 k4=> ?_⟩
  have hp4:=k4 _ _ hpb (s3 _ _ hp2);have fine:=any.fine;have hW1:=any.pos;have hW2:=any.len;refine⟨W,rfl,fine,by omega,λq G5 hq h5 s5=> ?_⟩
  have hqb:q≠b:=by
   rintro rfl;obtain⟨o,ho⟩:=bx4.some;rw[ho] at hq;cases hq
  refine⟨W,rfl,any,λL0 G6 ru hL0 met s6=> ?_⟩
  refine⟨b,W,q,20,_,rfl,(bx4.sub s5).sub s6,by omega,any,s6 _ _ h5,hqb,by decide,λpls G9 hpl hpls b9 k9=> ?_⟩
  have hpc9:=k9 _ _ hpb (s6 _ _ (s5 _ _ hp4));have hq9:=k9 _ _ hqb (s6 _ _ h5);refine⟨W.map encR,rfl,by omega,by rw[lJg];omega,?_⟩
  rw[lJg,show (((W.length:Nat):Int)).toNat=W.length by omega]
  have plan:∀a,a<W.length->∃pa,pls[nuF (mk W) a]? =some pa/\pa.length=20/\PosM W a pa:=by
   intro a ha;obtain⟨v,h1,h2⟩:=kJe ha;rw[kJc h1];have e:pls[v]? =some (pls[v]'(by rw[hpl];exact h2)):=lJf _
   obtain⟨q1,q2⟩:=hpls v _ e;obtain⟨f1,f2,_⟩:=uQy h2;exact⟨_,e,q1,kQ2 fine f2 ha (by rw[f1,h1]) q2⟩
  let J2:Nat->St3->Gp->Prop:=λa τ G'=>∃(v8 v9:Option T),τ=[some (.scr (jQo ns)),some (.ref pc),some (.int (k:Nat)),some (.ref b),some (encW W),some (.ref q),some (.tup ((ouF W W.length).map encP)),some (.tup (pls.map encP)),v8,v9]/\BoxAt G' b (4000+1000*a)/\Keep b G9 G'
  refine⟨J2,?_,?_,?_,?_⟩
  .exact xi2 _ _ rfl ⟨b9.mono (by omega),.refl _ _⟩
  .intros;trivial
  .intro a x τ G10 hx h_;apply xe2 h_;clear h_;intro v8 v9;refine ae2 ?_;intro j1 j2;obtain⟨ha,rfl⟩:=jKs hx
   exists jJt,jJ1
   refine⟨by omega,by omega,?_⟩
   rw[show (((a:Nat):Int)).toNat=a by omega]
   let J3:Nat->St3->Gp->Prop:=λc τ G'=>∃(v9:Option T),τ=[some (.scr (jQo ns)),some (.ref pc),some (.int (k:Nat)),some (.ref b),some (encW W),some (.ref q),some (.tup ((ouF W W.length).map encP)),some (.tup (pls.map encP)),some (.int (a:Nat)),v9]/\BoxAt G' b (4000+1000*a+40*c)/\Keep b G9 G'
   refine⟨J3,?_,?_,?_,?_⟩
   .exact⟨_,rfl,j1,j2⟩
   .intros;trivial
   .intro c x τ G11 hx h_;apply xe1 h_;clear h_;intro v9;refine ae2 ?_;intro m1 m2;obtain⟨hca,rfl⟩:=jKs hx;have hc:c<W.length:=by omega
    have hq11:=m2 _ _ hqb hq9
    exists rEqA,jZ7,jJy hq11,jU2 ha,jU2 hc
    refine⟨_,jKq,?_⟩
    by_cases hnu:nuF (mk W) a=nuF (mk W) c
    .rw[lJc (lKf hnu)];refine⟨b,W,q,a,c,_,rfl,m1,by omega,any,h8,hq11,hqb,ha,hc,by omega,hnu,λG12 b12 k12=>⟨true,rfl,?_⟩⟩
     rw[lJb (by decide)]
     obtain⟨pa,pa1,pa2,pa3⟩:=plan a ha;have pb1:pls[nuF (mk W) c]? =some pa:=by rw[<-hnu];exact pa1
     have hal:=(qUi ha hc).mp hnu;refine⟨W,a,c,pls,pa,pa,20,rfl,fine,ha,hc,pa1,pb1,pa2,pa2,by decide,pa3,kQ2 fine ha hc hal pa3,λG13 s13=> ?_⟩
     rw[kQ9 λj hj=>(never fine any.sym ha hc (by omega) hal pa3 j (by omega)).1]
     refine (lJb (by simp[optT])).mpr ?_
     exact⟨_,rfl,(b12.sub s13).mono (by omega),(m2.trans k12).trans (.sub s13)⟩
    .rw[lJb (by simpa using hnu)]
     refine⟨W,q,a,c,L0,rfl,any,h8,hq11,ha,hca,hnu,ru,λG12 s12=>⟨true,rfl,?_⟩⟩
     rw[lJb (by decide)]
     exact⟨_,rfl,(m1.sub s12).mono (by omega),m2.trans (.sub s12)⟩
   .intro τ G11 h_;apply xe1 h_;clear h_;intro v9;refine ae2 ?_;intro m1 m2;rw[jKc] at m1;exact xi2 _ _ rfl ⟨m1.mono (by omega),m2⟩
  .intro τ G10 h_;apply xe2 h_;clear h_;intro v8 v9;refine ae2 ?_;intro j1 j2;exact⟨_,_,_,_,_,_,_,_,rfl,j2 _ _ hpb hpc9⟩
 .intro τ G2 h_;apply xe8 h_;clear h_;intro v2 v3 v4 v5 v6 v7 v8 v9 hp2
  exists tSeq
  exact kk G2
end W
namespace W
open PySem PySem.Spec PyProof.Rows L2 L3
theorem ln1{α:Type}{us:List α}{C:List α->Prop}(h:us.length=1)(k:∀a0,C [a0]):C us:=by
 obtain⟨a0,us,rfl⟩:=lKz h
 replace h:=lKv h
 cases lQg.mp h;exact k a0
theorem ln2{α:Type}{us:List α}{C:List α->Prop}(h:us.length=2)(k:∀a0 a1,C [a0,a1]):C us:=by
 obtain⟨a0,us,rfl⟩:=lKz h
 replace h:=lKv h
 obtain⟨a1,us,rfl⟩:=lKz h
 replace h:=lKv h
 cases lQg.mp h;exact k a0 a1
theorem ln3{α:Type}{us:List α}{C:List α->Prop}(h:us.length=3)(k:∀a0 a1 a2,C [a0,a1,a2]):C us:=by
 obtain⟨a0,us,rfl⟩:=lKz h
 replace h:=lKv h
 obtain⟨a1,us,rfl⟩:=lKz h
 replace h:=lKv h
 obtain⟨a2,us,rfl⟩:=lKz h
 replace h:=lKv h
 cases lQg.mp h;exact k a0 a1 a2
theorem ln4{α:Type}{us:List α}{C:List α->Prop}(h:us.length=4)(k:∀a0 a1 a2 a3,C [a0,a1,a2,a3]):C us:=by
 obtain⟨a0,us,rfl⟩:=lKz h
 replace h:=lKv h
 obtain⟨a1,us,rfl⟩:=lKz h
 replace h:=lKv h
 obtain⟨a2,us,rfl⟩:=lKz h
 replace h:=lKv h
 obtain⟨a3,us,rfl⟩:=lKz h
 replace h:=lKv h
 cases lQg.mp h;exact k a0 a1 a2 a3
theorem ln5{α:Type}{us:List α}{C:List α->Prop}(h:us.length=5)(k:∀a0 a1 a2 a3 a4,C [a0,a1,a2,a3,a4]):C us:=by
 obtain⟨a0,us,rfl⟩:=lKz h
 replace h:=lKv h
 obtain⟨a1,us,rfl⟩:=lKz h
 replace h:=lKv h
 obtain⟨a2,us,rfl⟩:=lKz h
 replace h:=lKv h
 obtain⟨a3,us,rfl⟩:=lKz h
 replace h:=lKv h
 obtain⟨a4,us,rfl⟩:=lKz h
 replace h:=lKv h
 cases lQg.mp h;exact k a0 a1 a2 a3 a4
def top(i:Nat):Stmt:=PySem.Challenge.pw_stonewalker_k67_whole_alike_ones_never_m.main.body.getD i (.Pass ⟨0,0,0,0⟩)
def FnAt(K:PySem.W.Frag)(mg:Str->Option Value)(x:Str)(i:Nat):Prop:=∃f fd,mg x=some (.ref f)/\Fun K x x (top i) f fd
structure Txt (K:PySem.W.Frag) (mg:Str->Option Value):Prop where
 n_abs:mg "abs"=none
 n_all:mg "all"=none
 n_bool:mg "bool"=none
 n_divmod:mg "divmod"=none
 n_enumerate:mg "enumerate"=none
 n_int:mg "int"=none
 n_isinstance:mg "isinstance"=none
 n_len:mg "len"=none
 n_list:mg "list"=none
 n_max:mg "max"=none
 n_range:mg "range"=none
 n_reversed:mg "reversed"=none
 n_set:mg "set"=none
 n_sorted:mg "sorted"=none
 n_sum:mg "sum"=none
 n_tuple:mg "tuple"=none
 f_numbered:FnAt K mg "numbered" 1
 f_kind_numbers:FnAt K mg "kind_numbers" 2
 f_kinds_by:FnAt K mg "kinds_by" 3
 f_kinds:FnAt K mg "kinds" 4
 f_is_number:FnAt K mg "is_number" 6
 f_first_comings:FnAt K mg "first_comings" 7
 f_way_to:FnAt K mg "way_to" 8
 f_folds_by:FnAt K mg "folds_by" 10
 f_look:FnAt K mg "look" 12
 f_walked_both:FnAt K mg "walked_both" 13
 f_pairing:FnAt K mg "pairing" 15
 f_stood:FnAt K mg "stood" 17
 f_meet_at:FnAt K mg "meet_at" 18
 f_gone_on:FnAt K mg "gone_on" 19
 f_meeting_rule:FnAt K mg "meeting_rule" 20
 f_meeting:FnAt K mg "meeting" 21
 f_l_box:FnAt K mg "_law_box" 23
 f_l_take:FnAt K mg "_law_take" 24
 f_l_folded:FnAt K mg "_law_folded" 25
 f_l_joined:FnAt K mg "_law_joined" 26
 f_l_doors_put:FnAt K mg "_law_doors_put" 27
 f_l_web:FnAt K mg "_law_web" 28
 f_l_even:FnAt K mg "_law_even" 29
 f_l_ring:FnAt K mg "_law_ring" 30
 f_l_ends:FnAt K mg "_law_ends" 31
 f_l_reached:FnAt K mg "_law_reached" 32
 f_l_sheeted:FnAt K mg "_law_sheeted" 33
 f_l_turn:FnAt K mg "_law_turn" 34
 f_l_covered:FnAt K mg "_law_covered" 35
 f_l_kinds:FnAt K mg "_law_kinds" 36
 f_l_line:FnAt K mg "_law_line" 37
 f_l_eight:FnAt K mg "_law_eight" 38
 f_l_numbers:FnAt K mg "_law_numbers" 39
 f_l_rule:FnAt K mg "_law_rule" 40
 f_l_alike_right:FnAt K mg "_law_alike_right" 41
 f_l_apart_right:FnAt K mg "_law_apart_right" 42
 f_law:FnAt K mg "law" 43
variable {P:Program}{w:World}{K:PySem.W.Frag}{mg:Str->Option Value}{base:Heap}
theorem eX{X:Cx}{a b:Expr}{ta tb:TE3}{pos:Pos}(hu:X.A.units+20<cLine)(ha:PE3 X a ta)(hb:PE3 X b tb)(hs:qV8 b:=by exact λ_ _=>rfl):PE3 X (.Subscript a b pos) (tOp rIxF ta tb):=e_ix (ix_F hu) ha hb hs
theorem eC{X:Cx}{k n:Nat}{ps:List Str}{sp:Sp3}{x:Str}{p pos:Pos}{e:Expr}{es:List Expr}{t:TA3}(C:Cal X.prog X.w X.K X.mg X.base k x ps sp)(hr:Room n X.A)(ha:PA3 X (e::es) t)(hk:k<=n:=by decide)(hg:Gl X x:=by rfl)(hdb:(x == ("__debug__":Str))=false:=by decide)(he:starEach (e::es) X.env=(false,eval e X.env)::starEach es X.env:=by rfl)(hpl:(backTo pos (starEach es X.env)).any (·.1)=false:=by rfl):PE3 X (.Call (.Name x p) (e::es) [] pos) (jJs sp t):=uYz C (hr.mono hk) ha hg hdb he hpl
theorem eL{X:Cx}{a:Expr}{ta:TE3}{p pos:Pos}(hm:X.mg "len"=none)(ha:PE3 X a ta)(hg:Gl X "len":=by rfl)(he:starEach [a] X.env=[(false,eval a X.env)]:=by rfl):PE3 X (.Call (.Name "len" p) [a] [] pos) (tCB rLen (jJc ta tNil)):=jQw uXx hg hm PySem.boot_len (jJb ha jJe he) (by decide) (by decide) he
theorem cal3{x:Str}{i k:Nat}{N ps:List Str}{sp:Sp3}{t:TS3}(F:FnAt K mg x i)(h:∀xs G Q,sp xs G Q->t {nx:=λ_ G'=>Q .non G',rt:=Q} (jZs N xs) G)
  (d:∀{f:Addr}{cdv:Value}{A:Around}{outer:List Env}{s:Shared}{H:Hp}{E:XK},Room k (A.deeper (envOfC x (jKj (top i)) s.heap.objs.size f cdv))->(A.deeper (envOfC x (jKj (top i)) s.heap.objs.size f cdv)).units+20<cLine->N.Nodup->PSs3 (cxOf CX0 P w K mg base N x (jKj (top i)) f cdv A outer s H E).nox (jUy (top i)) t)
  (S:FnScope N ps (jKj (top i)):=by exact⟨rfl,rfl,rfl,by decide +kernel,rfl,by decide +kernel,by decide +kernel⟩)
  (b:∀(kV doc pm:Value)(an:Option Addr)(cdv ct:Value)(us:List Value),us.length=ps.length->bindArgs (PySem.W.fnOf x x (jYw (top i)) (jUy (top i)) (jKj (top i)) .none kV doc pm an cdv ct) ⟨us,[]⟩=pure (ps.zip us):=by (intro _ _ _ _ _ _ us hl;first | (apply ln1 hl;intros;rfl) | (apply ln2 hl;intros;rfl) | (apply ln3 hl;intros;rfl) | (apply ln4 hl;intros;rfl) | (apply ln5 hl;intros;rfl)))
  (m:Mono sp:=by (intro xs G Q Q' hq;(repeat' (first | (refine Exists.imp λ_=> ?_) | (refine And.imp_right ?_)));intro k;intros;apply hq;apply k<;>assumption))
  (n:∀xs G Q,sp xs G Q->xs.length=ps.length:=by (intro xs G Q h;repeat (first | exact (lJs List.length h.1).trans rfl | obtain⟨_,h⟩:=h))):Cal P w K mg base (k+1) x ps sp:=by
 obtain⟨f,fd,a,F⟩:=F;exact⟨⟨f,fd,fn3 F S λcdv A outer s H E hr=>⟨t,d hr (uXf hr) S.nd,h⟩,a,F.kp,F.binds b⟩,m,n⟩
theorem kJa(T:Txt K mg):Cal P w K mg base 1 "numbered" ["looks"] jUs:=
 cal3 T.f_numbered kQo λhr hu nd=>
  (jJd (jJu nd uXq)
   (jJd (jKn lJn rfl (jQ1 (jJa 0)) (jJo nd) (jJk (s_if (jKh (jVi hu) (jJa 2) (jJa 1) (jJq _)) (jJk (jU3 (jQw uXw (by rfl) T.n_len PySem.boot_len (jJb (jJa 1) jJe)) (jVk (jJa 1) (jJa 2) (s_F hu)))) jKb)))
   (jJk (jJ3 (jQy rfl ⟨rfl,rfl,rfl,rfl,rfl,rfl,rfl⟩ (jQ1 (jJa 0)) jKg (λC fp s H=>(jJo nd)) (λC fp s H=>jQx) (λC fp s H=>(eX hu (jJa 1) (jJa 2))))))))
theorem jVg(T:Txt K mg):Cal P w K mg base 2 "kind_numbers" ["web","steps"] jQf:=
 cal3 T.f_kind_numbers jYe λhr hu nd=>
  (jJd (jJu nd (eC (kJa T) hr (jJb (jQy rfl ⟨rfl,rfl,rfl,rfl,rfl,rfl,rfl⟩ (jQ1 (jJa 0)) jKg (λC fp s H=>(jJo nd)) (λC fp s H=>jQx) (λC fp s H=>(eL T.n_len (jJa 5)))) jJe)))
   (jJd (jKn lJn rfl (jJ0 rfl T.n_range (jJb (jJa 1) jJe)) (jJo nd) (jJd (jJu nd (eC (kJa T) hr (jJb (jQy rfl ⟨rfl,rfl,rfl,rfl,rfl,rfl,rfl⟩ (jQ1 (jJa 0)) jKg (λC fp s H=>(jJo nd)) (λC fp s H=>jQx) (λC fp s H=>(jJ9 jK8 (by rfl) T.n_tuple rfl (jJb (jQy rfl ⟨rfl,rfl,rfl,rfl,rfl,rfl,rfl⟩ (jQ1 (jJa 5)) jKg (λC fp s H=>(jJo nd)) (λC fp s H=>jQx) (λC fp s H=>(jKi (jJb (eX hu (jJa 6) jJl) (jJb (eX hu (jJa 2) (eX hu (jJa 6) jJl)) jJe))))) jJe)))) jJe)))
   (jJd (s_if (jKh (jVj hr.units) (jJa 4) (jJa 2) (jJq _)) (jJk (jJ3 (jJa 2))) jKb)
   (jJk (jJu nd (jJa 4))))))
   (jJk (jJ3 (jJa 2)))))
theorem kXy(T:Txt K mg):Cal P w K mg base 3 "kinds_by" ["web","steps"] jV3:=
 cal3 T.f_kinds_by kQr λhr hu nd=>
  (jJd (jJu nd (jK3 jJe))
   (jJd (jKn lJn rfl (kKx rfl T.n_enumerate rfl (jJb (eC (jVg T) hr (jJb (jJa 0) (jJb (jJa 1) jJe))) jJe)) (jUp rfl (jJw (jJo nd) (jJw (jJo nd) jQa))) (jJd (s_if (jKh (jVj hr.units) (jJa 4) (eL T.n_len (jJa 2)) (jJq _)) (jJk (jK9 (e_bm lJ8 lKj lKk jKe (jJa 2) (jJb (jK3 jJe) jJe)))) jKb)
   (jJk (jK9 (e_bm lJ8 lKj lKk jKe (eX hu (jJa 2) (jJa 4)) (jJb (jJa 3) jJe))))))
   (jJk (jJ3 (jJa 2)))))
theorem qYe(T:Txt K mg):Cal P w K mg base 4 "kinds" ["web"] kQf:=
 cal3 T.f_kinds qJx λhr hu nd=>
  (jJk (jJ3 (eC (kXy T) hr (jJb (jJa 0) (jJb (eL T.n_len (jJa 0)) jJe)))))
theorem kVf(T:Txt K mg):Cal P w K mg base 1 "is_number" ["thing"] jQ9:=
 cal3 T.f_is_number kKa λhr hu nd=>
  (jJk (jJ3 (uY0 (jQw uXy (by rfl) T.n_isinstance rfl (jJb (jJa 0) (jJb (e_ty rfl T.n_int rfl) jJe))) (uYx (uYy (jQw uXy (by rfl) T.n_isinstance rfl (jJb (jJa 0) (jJb (e_ty rfl T.n_bool rfl) jJe))))))))
theorem jY9(T:Txt K mg):Cal P w K mg base 1 "first_comings" ["web","room"] jQr:=
 cal3 T.f_first_comings jXr λhr hu nd=>
  (jJd (jJu nd (uQ2 (jJa 1) jVw))
   (jJd (jJu nd (jK3 (jJb (jJa 1) jJe)))
   (jJd (jZx lJn (qXj kQa (jJa 3)) (jJd (jJu nd (jK3 jJe))
   (jJd (jKn lJn rfl (jQ1 (jJa 3)) (jJo nd) (jJk (jKn lJn rfl (uQu rfl T.n_enumerate rfl (jJb (eX hu (jJa 0) (jJa 5)) jJe)) (jUp rfl (jJw (jJo nd) (jJw (jJo nd) jQa))) (jJk (s_if (jKh (jVi hu) (eX hu (jJa 7) jJl) (jJa 2) (jJq _)) (jJd (jU3 (jKi (jJb (jJa 5) (jJb (jJa 6) jJe))) (jVk (jJa 2) (eX hu (jJa 7) jJl) (s_F hu)))
   (jJk (jK9 (e_bm lJ8 lKj lKk jKe (jJa 4) (jJb (eX hu (jJa 7) jJl) jJe))))) jKb)))))
   (jJk (jJu nd (jJa 4))))))
   (jJk (jJ3 (jJa 2))))))
theorem qQ7(T:Txt K mg):Cal P w K mg base 2 "way_to" ["web","one","other"] jZt:=
 cal3 T.f_way_to kXg λhr hu nd=>
  (jJd (jJu nd (eC (jY9 T) hr (jJb (jJa 0) (jJb (jJa 1) jJe))))
   (jJd (jJu nd (jK3 jJe))
   (jJd (jJu nd (eX hu (jJa 3) (jJa 2)))
   (jJd (jZx lJn (jKh kZh (jJa 5) jVw (jJq _)) (jJd (jK9 (e_bm lJ8 lKj lKk jKe (jJa 4) (jJb (eX hu (jJa 5) jJl) jJe)))
   (jJk (jJu nd (eX hu (jJa 3) (eX hu (jJa 5) jJl))))))
   (jJk (jJ3 (uXo rfl rfl T.n_tuple rfl T.n_reversed rfl (jJb (jJa 4) jJe))))))))
theorem jXc(T:Txt K mg):Cal P w K mg base 3 "folds_by" ["web"] jQ3:=
 cal3 T.f_folds_by kQs λhr hu nd=>
  (jJk (jJ3 (jJ9 jK8 (by rfl) T.n_tuple rfl (jJb (eC (jVg T) hr (jJb (jJa 0) (jJb (eL T.n_len (jJa 0)) jJe))) jJe))))
theorem qQ8(T:Txt K mg):Cal P w K mg base 1 "look" ["web","first","end","stone"] jZu:=
 cal3 T.f_look qQi λhr hu nd=>
  (jJd (s_if (qXj kQa (jJa 3)) (jJk (jJ3 (jKi (jJb (eX hu (jJa 2) jJl) (jJb (eL T.n_len (eX hu (jJa 0) (eX hu (jJa 2) jJl))) (jJb (kJp (jKh (jVj hr.units) (eX hu (jJa 2) jJl) (jJa 1) (jJq _)) jJl jJl) jJe)))))) jKb)
   (jJk (jJ3 (jKi (jJb (eX hu (jJa 2) jJl) (jJb (eL T.n_len (eX hu (jJa 0) (eX hu (jJa 2) jJl))) jJe))))))
theorem kKb(T:Txt K mg):Cal P w K mg base 2 "walked_both" ["one","a","other","b","stone"] jUg:=
 cal3 T.f_walked_both jY5 λhr hu nd=>
  (jJd (jJu nd (qZr hu (jKi (jJb (jJa 1) (jJb (jJa 3) jJe))) e_bl))
   (jJd (s_if (jKh (kX0 hr.units) (eL T.n_len (eX hu (jJa 0) (jJa 1))) (eL T.n_len (eX hu (jJa 2) (jJa 3))) (jJq _)) (jJk (jJ3 (jKi (jJb (jKi jJe) (jJb (jJa 5) jJe))))) jKb)
   (jJd (jJu nd (jK3 (jJb (jKi (jJb (jKi (jJb (jJa 1) (jJb (jJa 3) jJe))) (jJb (jKi jJe) jJe))) jJe)))
   (jJd (jZx lJn (qXj kQa (jJa 6)) (jJd (jJu nd (jK3 jJe))
   (jJd (jKn lJn rfl (jQ1 (jJa 6)) (jUp rfl (jJw (jJo nd) (jJw (jJo nd) jQa))) (jJk (jKn lJn rfl (uQu rfl T.n_enumerate rfl (jJb (eX hu (jJa 0) (eX hu (jJa 8) jJl)) jJe)) (jUp rfl (jJw (jJo nd) (jJw (jJo nd) jQa))) (jJd (jJu nd (eX hu (eX hu (jJa 2) (eX hu (jJa 8) jJl)) (jJa 10)))
   (jJd (s_if (jKh (kX0 hr.units) (eC (qQ8 T) hr (jJb (jJa 0) (jJb (jJa 1) (jJb (jJa 11) (jJb (jJa 4) jJe))))) (eC (qQ8 T) hr (jJb (jJa 2) (jJb (jJa 3) (jJb (jJa 12) (jJb (jJa 4) jJe))))) (jJq _)) (jJk (jJ3 (jKi (jJb (e_op qUh (jJa 9) (jKi (jJb (jJa 10) jJe))) (jJb (jJa 5) jJe))))) jKb)
   (jJd (jJu nd (jKi (jJb (eX hu (jJa 11) jJl) (jJb (eX hu (jJa 12) jJl) jJe))))
   (jJk (s_if (jKh (jVi hu) (jJa 13) (jJa 5) (jJq _)) (jJd (jU3 e_bl (jVk (jJa 5) (jJa 13) (s_F hu)))
   (jJk (jK9 (e_bm lJ8 lKj lKk jKe (jJa 7) (jJb (jKi (jJb (jJa 13) (jJb (e_op qUh (jJa 9) (jKi (jJb (jJa 10) jJe))) jJe))) jJe))))) jKb))))))))
   (jJk (jJu nd (jJa 7))))))
   (jJk (jJ3 (jKi (jJb jVw (jJb (jJa 5) jJe)))))))))
theorem qJ3(T:Txt K mg):Cal P w K mg base 3 "pairing" ["one","a","other","b"] jX9:=
 cal3 T.f_pairing kUx λhr hu nd=>
  (jJd (jJu nd (eC (kKb T) hr (jJb (jJa 0) (jJb (jJa 1) (jJb (jJa 2) (jJb (jJa 3) (jJb e_bl jJe)))))))
   (jJd (s_if (jKh kZh (eX hu (jJa 4) jJl) jVw (jJq _)) (jJk (jJ3 jVw)) jKb)
   (jJk (jJ3 (jQw (uUb rfl hu) (by rfl) T.n_sorted rfl (jJb (eX hu (jJa 4) jJl) jJe))))))
theorem jZh(T:Txt K mg):Cal P w K mg base 2 "stood" ["web","room","plan"] jVm:=
 cal3 T.f_stood qJu λhr hu nd=>
  (jJd (jJu nd (jJa 1))
   (jJd (jJu nd (jK3 (jJb (jJa 1) jJe)))
   (jJd (jKn lJn rfl (jQ1 (jJa 2)) (jJo nd) (jJd (s_if (jKh kZh (jJa 5) jVw (jJq _)) (jJd (s_if (PW3.pt (w_or (qJn (qXi (eC (kVf T) hr (jJb (jJa 5) jJe)))) (qKw (qJn (qK1 (qYg hu) o_lt jJl (jJa 5) (eL T.n_len (eX hu (jJa 0) (jJa 3)))))))) (jJk (jJ3 jVw)) jKb)
   (jJk (jJu nd (eX hu (eX hu (eX hu (jJa 0) (jJa 3)) (jJa 5)) jJl)))) jKb)
   (jJk (jK9 (e_bm lJ8 lKj lKk jKe (jJa 4) (jJb (jJa 3) jJe))))))
   (jJk (jJ3 (jJa 4))))))
theorem jYm(T:Txt K mg):Cal P w K mg base 4 "meet_at" ["web","a","b","rule"] jQ2:=
 cal3 T.f_meet_at kU0 λhr hu nd=>
  (jJd (jJu nd (eC (jXc T) hr (jJb (jJa 0) jJe)))
   (jJd (jJu nd (eC (jZh T) hr (jJb (jJa 0) (jJb (jJa 2) (jJb (eX hu (jJa 3) (eX hu (jJa 4) (jJa 2))) jJe)))))
   (jJd (jKn lJn rfl (kKx rfl T.n_enumerate rfl (jJb (eC (jZh T) hr (jJb (jJa 0) (jJb (jJa 1) (jJb (eX hu (jJa 3) (eX hu (jJa 4) (jJa 1))) jJe)))) jJe)) (jUp rfl (jJw (jJo nd) (jJw (jJo nd) jQa))) (jJk (s_if (jKh (jVj hr.units) (jJa 7) (eX hu (jJa 5) (jJa 6)) (jJq _)) (jJk (jJ3 (jJa 6))) jKb)))
   (jJk (jJ3 jVw)))))
theorem qJ6(T:Txt K mg):Cal P w K mg base 4 "gone_on" ["web","rule","a","b"] jYc:=
 cal3 T.f_gone_on kU3 λhr hu nd=>
  (jJd (jJu nd (eC (jXc T) hr (jJb (jJa 0) jJe)))
   (jJd (jJu nd (eX hu (jJa 4) (jJa 2)))
   (jJd (jJu nd (eC (qQ7 T) hr (jJb (jJa 0) (jJb (eX hu (eC (jZh T) hr (jJb (jJa 0) (jJb (jJa 2) (jJb (eX hu (jJa 1) (jJa 5)) jJe)))) (e_un qXh jJl)) (jJb (eX hu (eC (jZh T) hr (jJb (jJa 0) (jJb (jJa 3) (jJb (eX hu (jJa 1) (eX hu (jJa 4) (jJa 3))) jJe)))) (e_un qXh jJl)) jJe)))))
   (jJd (jJu nd (e_op uJ0 (jKi (jJb jVw jJe)) (eL T.n_len (jJa 6))))
   (jJk (jJ3 (jJ9 jK8 (by rfl) T.n_tuple rfl (jJb (jQy rfl ⟨rfl,rfl,rfl,rfl,rfl,rfl,rfl⟩ (uQu rfl T.n_enumerate rfl (jJb (jJa 1) jJe)) (qU6 (jYt jKg jUw (jYt jKg jUw qU7 kKz) (kYe jUw kKz))) (λC fp s H=>(jUp rfl (jJw (jJo nd) (jJw (jJo nd) jQa)))) (λC fp s H=>jQx) (λC fp s H=>(e_op qUh (jJa 9) (kJp (jKh (jVj hr.units) (jJa 8) (jJa 5) (jJq _)) (jJa 6) (jJa 7))))) jJe))))))))
theorem jVf(T:Txt K mg):Cal P w K mg base 5 "meeting_rule" ["web"] jKt:=
 cal3 T.f_meeting_rule jYd λhr hu nd=>
  (jJd (jJu nd (eC (jXc T) hr (jJb (jJa 0) jJe)))
   (jJd (jJu nd (e_op uJ0 (jKi (jJb (jKi jJe) jJe)) (eL T.n_len (eC (qYe T) hr (jJb (jJa 0) jJe)))))
   (jJd (jKn lJn rfl (jJ0 rfl T.n_range (jJb (eL T.n_len (jJa 0)) jJe)) (jJo nd) (jJk (jKn lJn rfl (jJ0 rfl T.n_range (jJb (jJa 3) jJe)) (jJo nd) (jJk (s_if (PW3.pt (uUm (jKh (kX0 hr.units) (eX hu (jJa 1) (jJa 3)) (eX hu (jJa 1) (jJa 4)) (jJq _)) (uJg (jKh qYh (eC (jYm T) hr (jJb (jJa 0) (jJb (jJa 3) (jJb (jJa 4) (jJb (jJa 2) jJe))))) jVw (jJq _))))) (jJk (jJu nd (eC (qJ6 T) hr (jJb (jJa 0) (jJb (jJa 2) (jJb (jJa 3) (jJb (jJa 4) jJe))))))) jKb)))))
   (jJk (jJ3 (jJa 2))))))
theorem kKs(T:Txt K mg):Cal P w K mg base 6 "meeting" ["web","a","b"] jVn:=
 cal3 T.f_meeting kUz λhr hu nd=>
  (jJd (jJu nd (eC (qJ3 T) hr (jJb (jJa 0) (jJb (jJa 1) (jJb (jJa 0) (jJb (jJa 2) jJe))))))
   (jJd (s_if (PW3.pt (w_or (jKh (jVj hr.units) (jJa 1) (jJa 2) (jJq _)) (qKw (jKh qYh (jJa 3) jVw (jJq _))))) (jJk (jJ3 (jKi (jJb qZq (jJb (eC (jYm T) hr (jJb (jJa 0) (jJb (jJa 1) (jJb (jJa 2) (jJb (eC (jVf T) hr (jJb (jJa 0) jJe)) jJe))))) jJe))))) jKb)
   (jJk (jJ3 (jKi (jJb qZq (jJb (jJa 3) jJe)))))))
theorem qYd(T:Txt K mg):Cal P w K mg base 1 "_law_box" ["_law_script","_law_k"] kQe:=
 cal3 T.f_l_box qJw λhr hu nd=>
  (jJd (jJu nd (eX hu (e_op o_addF (jJa 0) (e_op o_mulF (jK3 (jJb jJl jJe)) (e_op o_addF (jJa 1) jJl))) (jJa 1)))
   (jJk (jJ3 (jK3 (jJb (e_op o_mulF (jQw uXz (by rfl) T.n_abs rfl (jJb (jJa 2) jJe)) (jJ9 qZx (by rfl) T.n_int rfl (jJb (kYl o_ge (jQw uXz (by rfl) T.n_abs rfl (jJb (jJa 2) jJe)) (e_op uYo jJl jJl) (jJq _)) jJe))) (jJb (e_op jYn (e_op o_mulF (e_op o_addF (e_op o_addF (e_op jYn (jJa 2) jJl) (e_op o_mulF jJl (jJa 1))) jJl) jJl) jJl) (jJb jJl jJe)))))))
theorem jJz(T:Txt K mg):Cal P w K mg base 1 "_law_take" ["_law_box_here","_law_many"] jJp:=
 cal3 T.f_l_take kXi λhr hu nd=>
  (jJd (s_if (jKh o_gt (eX hu (jJa 0) jJl) jJl (jJq _)) (jJd (jU3 (jQw qZy (by rfl) T.n_divmod rfl (jJb (eX hu (jJa 0) jJl) (jJb (jJa 1) jJe))) (jUp rfl (jJw (jVk (jJa 0) jJl (s_F hu)) (jJw (jJo nd) jQa))))
   (jJk (jJ3 (jJa 2)))) jKb)
   (jJd (jU3 (e_op o_addF (eX hu (jJa 0) jJl) jJl) (jVk (jJa 0) jJl (s_F hu)))
   (jJd (jJu nd (e_op jYn (e_op o_mulF (e_op o_addF (eX hu (jJa 0) jJl) (e_op o_mulF jJl (eX hu (jJa 0) jJl))) (e_op o_addF jJl (eX hu (jJa 0) jJl))) jJl))
   (jJd (jU3 (e_op jYn (e_op o_addF (e_op o_mulF (jJa 3) (e_op o_addF (e_op jYn (jJa 3) jJl) jJl)) (eX hu (jJa 0) jJl)) jJl) (jVk (jJa 0) jJl (s_F hu)))
   (jJk (jJ3 (e_op jYn (e_op uVv (e_op jYn (e_op o_mulF (eX hu (jJa 0) jJl) (e_op o_addF (e_op jYn (eX hu (jJa 0) jJl) jJl) jJl)) jJl) jJl) (jJa 1))))))))
theorem kXx(T:Txt K mg):Cal P w K mg base 1 "_law_folded" ["_law_script","_law_many"] jV2:=
 cal3 T.f_l_folded kQq λhr hu nd=>
  (jJd (jJu nd (jJ9 uUc (by rfl) T.n_list rfl (jJb (kYj sl_F (jJa 0) uJw (kZf (jJa 1))) jJe)))
   (jJd (jKn lJn rfl (kKx rfl T.n_enumerate rfl (jJb (kYj sl_F (jJa 0) (kZf (jJa 1)) (kZf jJl)) jJe)) (jUp rfl (jJw (jJo nd) (jJw (jJo nd) jQa))) (jJk (jU3 (e_op o_addF (eX hu (jJa 2) (e_op jYn (jJa 3) (jJa 1))) (e_op o_mulF (jJa 4) (e_op o_addF (jJa 3) jJl))) (jVk (jJa 2) (e_op jYn (jJa 3) (jJa 1)) (s_F hu)))))
   (jJk (jJ3 (jJa 2)))))
theorem kXw(T:Txt K mg):Cal P w K mg base 1 "_law_joined" ["_law_halves"] jV1:=
 cal3 T.f_l_joined kQp λhr hu nd=>
  (jJd (jJu nd uXq)
   (jJd (jKn lJn rfl (jJ0 rfl T.n_range (jJb (eL T.n_len (jJa 0)) jJe)) (jJo nd) (jJk (jKn lJn rfl (kKx rfl T.n_enumerate rfl (jJb (eX hu (jJa 0) (jJa 2)) jJe)) (jUp rfl (jJw (jJo nd) (jJw (jJo nd) jQa))) (jJk (jU3 (jKi (jJb (jJa 2) (jJb (jJa 3) jJe))) (jVk (jJa 1) (jJa 4) (s_F hu)))))))
   (jJd (jJu nd (jK3 jJe))
   (jJd (jKn lJn rfl (jQ1 (jJa 0)) (jJo nd) (jJk (jK9 (e_bm lJ8 lKj lKk jKe (jJa 5) (jJb (jJ9 jK8 (by rfl) T.n_tuple rfl (jJb (jQy rfl ⟨rfl,rfl,rfl,rfl,rfl,rfl,rfl⟩ (jQ1 (jJa 6)) (qU6 (jYt jKg jUw (jYt jKg jUw qU7 kKz) (kYe jUw kKz))) (λC fp s H=>(jUp rfl (jJw (jJo nd) (jJw (jJo nd) jQa)))) (λC fp s H=>jQx) (λC fp s H=>(eX hu (jJa 1) (jKi (jJb (jJa 7) (jJb (eX hu (jK3 (jJb jJl (jJb jJl (jJb jJl jJe)))) (jJa 8)) jJe)))))) jJe)) jJe)))))
   (jJk (jJ3 (jJ9 jK8 (by rfl) T.n_tuple rfl (jJb (jJa 5) jJe))))))))
theorem jV0(T:Txt K mg):Cal P w K mg base 2 "_law_doors_put" ["_law_box_here","_law_pairs","_law_many"] jK2:=
 cal3 T.f_l_doors_put jY6 λhr hu nd=>
  (jJd (kUv (i:=3) rfl nd ⟨rfl,rfl,rfl,rfl,rfl,rfl,rfl⟩ (jJ0 rfl T.n_range (jJb (jJa 2) jJe)) jKg (λC fp s H=>(jJo nd)) (λC fp s H=>jQx) (λC fp s H=>(jK3 jJe)))
   (jJd (jKn lJn rfl (kKx rfl T.n_enumerate rfl (jJb (jJa 1) jJe)) (jUp rfl (jJw (jJo nd) (jJw (jUp rfl (jJw (jJo nd) (jJw (jJo nd) jQa))) jQa))) (jJd (jJu nd (kJp (jKh (jVj hr.units) (jJa 6) (jJa 2) (jJq _)) (jK3 (jJb (jKi (jJb (jJa 5) (jJb jJl jJe))) jJe)) (jK3 (jJb (jKi (jJb (jJa 5) (jJb jJl jJe))) (jJb (jKi (jJb (jJa 6) (jJb jJl jJe))) jJe)))))
   (jJk (jKn lJn rfl (jQ1 (jJa 7)) (jUp rfl (jJw (jJo nd) (jJw (jJo nd) jQa))) (jJk (jK9 (e_bm lJ8 PySem.F.slot_list_insert PySem.F.type_list_insert kZl (eX hu (jJa 3) (jJa 8)) (jJb (eC (jJz T) hr (jJb (jJa 0) (jJb (e_op o_addF (eL T.n_len (eX hu (jJa 3) (jJa 8))) jJl) jJe))) (jJb (jKi (jJb (jJa 4) (jJb (jJa 9) jJe))) jJe)))))))))
   (jJk (jJ3 (eC (kXw T) hr (jJb (jJa 3) jJe))))))
theorem kZg(T:Txt K mg):Cal P w K mg base 3 "_law_web" ["_law_box_here","_law_many","_law_most"] jVo:=
 cal3 T.f_l_web qJv λhr hu nd=>
  (jJd (jJu nd (e_op o_mulF (jK3 (jJb jJl jJe)) (jJa 1)))
   (jJd (jJu nd (jK3 jJe))
   (jJd (jKn lJn rfl (kUc rfl T.n_range (jJb jJl (jJb (jJa 1) jJe))) (jJo nd) (jJd (kUv (i:=6) rfl nd ⟨rfl,rfl,rfl,rfl,rfl,rfl,rfl⟩ (jJ0 rfl T.n_range (jJb (jJa 5) jJe)) jKg (λC fp s H=>(jJo nd)) (λC fp s H=>(kVl (jKh o_lt (eX hu (jJa 3) (jJa 11)) (jJa 2) (jJq _)))) (λC fp s H=>(jJa 11)))
   (jJd (jK9 (e_bm lJ8 lKj lKk jKe (jJa 4) (jJb (jKi (jJb (eX hu (jJa 6) (eC (jJz T) hr (jJb (jJa 0) (jJb (eL T.n_len (jJa 6)) jJe)))) (jJb (jJa 5) jJe))) jJe)))
   (jJk (jKn lJn rfl (jQ1 (eX hu (jJa 4) (e_un qXh jJl))) (jJo nd) (jJk (jU3 (e_op o_addF (eX hu (jJa 3) (jJa 7)) jJl) (jVk (jJa 3) (jJa 7) (s_F hu)))))))))
   (jJd (jKn lJn rfl (jJ0 rfl T.n_range (jJb (eC (jJz T) hr (jJb (jJa 0) (jJb (e_op o_addF (jJa 1) jJl) jJe))) jJe)) (jJo nd) (jJd (jJu nd (jKi (jJb (eC (jJz T) hr (jJb (jJa 0) (jJb (jJa 1) jJe))) (jJb (eC (jJz T) hr (jJb (jJa 0) (jJb (e_op o_addF (jJa 1) jJl) jJe))) jJe))))
   (jJd (jJu nd (jQy rfl ⟨rfl,rfl,rfl,rfl,rfl,rfl,rfl⟩ (jQ1 (jJa 9)) jKg (λC fp s H=>(jJo nd)) (λC fp s H=>(kVl (jKh o_lt (jJa 7) (jJa 1) (jJq _)))) (λC fp s H=>(jJa 7))))
   (jJk (s_if (qXi (jQw (uY2 rfl) (by rfl) T.n_all rfl (jJb (jQy rfl ⟨rfl,rfl,rfl,rfl,rfl,rfl,rfl⟩ (jQ1 (jJa 10)) jKg (λC fp s H=>(jJo nd)) (λC fp s H=>jQx) (λC fp s H=>(kYl (qYg hu) (e_op o_addF (eX hu (jJa 3) (jJa 7)) (e_bm lJ8 PySem.F.slot_list_count PySem.F.type_list_count uQc (jJa 10) (jJb (jJa 7) jJe))) (jJa 2) (jJq _)))) jJe))) (jJd (jK9 (e_bm lJ8 lKj lKk jKe (jJa 4) (jJb (jJa 9) jJe)))
   (jJk (jKn lJn rfl (jQ1 (jJa 10)) (jJo nd) (jJk (jU3 (e_op o_addF (eX hu (jJa 3) (jJa 7)) jJl) (jVk (jJa 3) (jJa 7) (s_F hu))))))) jKb)))))
   (jJk (jJ3 (eC (jV0 T) hr (jJb (jJa 0) (jJb (jJa 4) (jJb (jJa 1) jJe))))))))))
theorem qUd(T:Txt K mg):Cal P w K mg base 3 "_law_even" ["_law_box_here","_law_many","_law_doors"] jXl:=
 cal3 T.f_l_even kXm λhr hu nd=>
  (jJd (jJu nd (e_op o_mulF (jK3 (jJb (jJa 2) jJe)) (jJa 1)))
   (jJd (jJu nd (jK3 jJe))
   (jJd (jKn lJn rfl (kUc rfl T.n_range (jJb jJl (jJb (jJa 1) jJe))) (jJo nd) (jJd (kUv (i:=6) rfl nd ⟨rfl,rfl,rfl,rfl,rfl,rfl,rfl⟩ (jJ0 rfl T.n_range (jJb (jJa 5) jJe)) jKg (λC fp s H=>(jJo nd)) (λC fp s H=>(kVl (jKh o_gt (eX hu (jJa 3) (jJa 8)) jJl (jJq _)))) (λC fp s H=>(jJa 8)))
   (jJd (jK9 (e_bm lJ8 lKj lKk jKe (jJa 4) (jJb (jKi (jJb (eX hu (jJa 6) (eC (jJz T) hr (jJb (jJa 0) (jJb (eL T.n_len (jJa 6)) jJe)))) (jJb (jJa 5) jJe))) jJe)))
   (jJk (jKn lJn rfl (jQ1 (eX hu (jJa 4) (e_un qXh jJl))) (jJo nd) (jJk (jU3 (e_op kKc (eX hu (jJa 3) (jJa 7)) jJl) (jVk (jJa 3) (jJa 7) (s_F hu)))))))))
   (jJd (jZx lJn (jKh o_gt (jQw (uXt rfl) (by rfl) T.n_sum rfl (jJb (jJa 3) jJe)) jJl (jJq _)) (jJd (jJu nd (eX hu (jQy rfl ⟨rfl,rfl,rfl,rfl,rfl,rfl,rfl⟩ (jJ0 rfl T.n_range (jJb (jJa 1) jJe)) jKg (λC fp s H=>(jJo nd)) (λC fp s H=>(kVl (jKh o_gt (eX hu (jJa 3) (jJa 5)) jJl (jJq _)))) (λC fp s H=>(jJa 5))) jJl))
   (jJd (jU3 (e_op kKc (eX hu (jJa 3) (jJa 8)) jJl) (jVk (jJa 3) (jJa 8) (s_F hu)))
   (jJd (jJu nd (e_op o_addF (jQy rfl ⟨rfl,rfl,rfl,rfl,rfl,rfl,rfl⟩ (jJ0 rfl T.n_range (jJb (jJa 1) jJe)) jKg (λC fp s H=>(jJo nd)) (λC fp s H=>(kVl (jKh o_gt (eX hu (jJa 3) (jJa 5)) jJl (jJq _)))) (λC fp s H=>(jJa 5))) (jK3 (jJb (jJa 1) jJe))))
   (jJd (jJu nd (eX hu (jJa 9) (eC (jJz T) hr (jJb (jJa 0) (jJb (eL T.n_len (jJa 9)) jJe)))))
   (jJd (jK9 (e_bm lJ8 lKj lKk jKe (jJa 4) (jJb (jKi (jJb (jJa 8) (jJb (jJa 10) jJe))) jJe)))
   (jJk (s_if (jKh o_lt (jJa 10) (jJa 1) (jJq _)) (jJk (jU3 (e_op kKc (eX hu (jJa 3) (jJa 10)) jJl) (jVk (jJa 3) (jJa 10) (s_F hu)))) jKb))))))))
   (jJk (jJ3 (eC (jV0 T) hr (jJb (jJa 0) (jJb (jJa 4) (jJb (jJa 1) jJe))))))))))
theorem qUb(T:Txt K mg):Cal P w K mg base 1 "_law_ring" ["_law_many"] jXj:=
 cal3 T.f_l_ring kXk λhr hu nd=>
  (jJk (jJ3 (jJ9 jK8 (by rfl) T.n_tuple rfl (jJb (jQy rfl ⟨rfl,rfl,rfl,rfl,rfl,rfl,rfl⟩ (jJ0 rfl T.n_range (jJb (jJa 0) jJe)) jKg (λC fp s H=>(jJo nd)) (λC fp s H=>jQx) (λC fp s H=>(jKi (jJb (jKi (jJb (e_op jYn (e_op o_addF (jJa 1) jJl) (jJa 0)) (jJb jJl jJe))) (jJb (jKi (jJb (e_op jYn (e_op kKc (jJa 1) jJl) (jJa 0)) (jJb jJl jJe))) jJe))))) jJe))))
theorem kVd(T:Txt K mg):Cal P w K mg base 1 "_law_ends" ["_law_web_here"] jU9:=
 cal3 T.f_l_ends kXn λhr hu nd=>
  (jJd (jJu nd (jK3 jJe))
   (jJd (jKn lJn rfl (jJ0 rfl T.n_range (jJb (eL T.n_len (jJa 0)) jJe)) (jJo nd) (jJk (jKn lJn rfl (jJ0 rfl T.n_range (jJb (eL T.n_len (eX hu (jJa 0) (jJa 2))) jJe)) (jJo nd) (jJk (s_if (jKh (qYg hu) (jKi (jJb (jJa 2) (jJb (jJa 3) jJe))) (eX hu (eX hu (jJa 0) (jJa 2)) (jJa 3)) (jJq _)) (jJk (jK9 (e_bm lJ8 lKj lKk jKe (jJa 1) (jJb (jKi (jJb (jKi (jJb (jJa 2) (jJb (jJa 3) jJe))) (jJb (eX hu (eX hu (jJa 0) (jJa 2)) (jJa 3)) jJe))) jJe)))) jKb)))))
   (jJk (jJ3 (jJa 1)))))
theorem kVb(T:Txt K mg):Cal P w K mg base 1 "_law_reached" ["_law_web_here","_law_room"] jU7:=
 cal3 T.f_l_reached kJ7 λhr hu nd=>
  (jJd (jJu nd (jK3 (jJb (jJa 1) jJe)))
   (jJd (jJu nd jJl)
   (jJd (jZx lJn (jKh o_lt (jJa 3) (eL T.n_len (jJa 2)) (jJq _)) (jJd (jKn lJn rfl (jQ1 (eX hu (jJa 0) (eX hu (jJa 2) (jJa 3)))) (jUp rfl (jJw (jJo nd) (jJw (jJo nd) jQa))) (jJk (s_if (jKh (jVi hu) (jJa 4) (jJa 2) (jJq _)) (jJk (jK9 (e_bm lJ8 lKj lKk jKe (jJa 2) (jJb (jJa 4) jJe)))) jKb)))
   (jJk (jJu nd (e_op o_addF (jJa 3) jJl)))))
   (jJk (jJ3 (jJa 2))))))
theorem kVa(T:Txt K mg):Cal P w K mg base 2 "_law_sheeted" ["_law_web_here","_law_turns","_law_many"] jU6:=
 cal3 T.f_l_sheeted kJ6 λhr hu nd=>
  (jJd (kUv (i:=3) rfl nd ⟨rfl,rfl,rfl,rfl,rfl,rfl,rfl⟩ (jJ0 rfl T.n_range (jJb (e_op o_mulF (jJa 2) (eL T.n_len (jJa 0))) jJe)) jKg (λC fp s H=>(jJo nd)) (λC fp s H=>jQx) (λC fp s H=>(e_op o_mulF (jK3 (jJb jVw jJe)) (eL T.n_len (eX hu (jJa 0) (e_op jYn (jJa 10) (eL T.n_len (jJa 0))))))))
   (jJd (jKn lJn rfl (kKx rfl T.n_enumerate rfl (jJb (eC (kVd T) hr (jJb (jJa 0) jJe)) jJe)) (jUp rfl (jJw (jJo nd) (jJw (jUp rfl (jJw (jJo nd) (jJw (jJo nd) jQa))) jQa))) (jJk (jKn lJn rfl (jJ0 rfl T.n_range (jJb (jJa 2) jJe)) (jJo nd) (jJd (jJu nd (e_op o_addF (eX hu (jJa 5) jJl) (e_op o_mulF (jJa 7) (eL T.n_len (jJa 0)))))
   (jJd (jJu nd (e_op o_addF (eX hu (jJa 6) jJl) (e_op o_mulF (eX hu (eX hu (jJa 1) (jJa 4)) (jJa 7)) (eL T.n_len (jJa 0)))))
   (jJd (jU3 (jKi (jJb (jJa 9) (jJb (eX hu (jJa 6) jJl) jJe))) (jVk (eX hu (jJa 3) (jJa 8)) (eX hu (jJa 5) jJl) (s_F hu)))
   (jJk (jU3 (jKi (jJb (jJa 8) (jJb (eX hu (jJa 5) jJl) jJe))) (jVk (eX hu (jJa 3) (jJa 9)) (eX hu (jJa 6) jJl) (s_F hu))))))))))
   (jJk (jJ3 (jJ9 jK8 (by rfl) T.n_tuple rfl (jJb (jQy rfl ⟨rfl,rfl,rfl,rfl,rfl,rfl,rfl⟩ (jQ1 (jJa 3)) jKg (λC fp s H=>(jJo nd)) (λC fp s H=>jQx) (λC fp s H=>(jJ9 jK8 (by rfl) T.n_tuple rfl (jJb (jJa 11) jJe)))) jJe))))))
theorem qQ9(T:Txt K mg):Cal P w K mg base 2 "_law_turn" ["_law_box_here","_law_many","_law_own"] jZv:=
 cal3 T.f_l_turn kXh λhr hu nd=>
  (jJd (jJu nd (jK3 jJe))
   (jJd (jKn lJn rfl (jJ0 rfl T.n_range (jJb (jJa 1) jJe)) (jJo nd) (jJk (jK9 (e_bm lJ8 PySem.F.slot_list_insert PySem.F.type_list_insert kZl (jJa 3) (jJb (eC (jJz T) hr (jJb (jJa 0) (jJb (e_op o_addF (jJa 4) jJl) jJe))) (jJb (jJa 4) jJe))))))
   (jJd (s_if (qJn (qXj kQa (jJa 2))) (jJk (jJ3 (jJ9 jK8 (by rfl) T.n_tuple rfl (jJb (jJa 3) jJe)))) jKb)
   (jJd (jJu nd (kYk rfl T.n_list rfl T.n_range rfl (jJb (jJa 1) jJe)))
   (jJd (jKn lJn rfl (qY7 rfl T.n_range (jJb jJl (jJb (e_op kKc (jJa 1) jJl) (jJb jJl jJe)))) (jJo nd) (jJd (uU1 (i:=6) (j:=7) rfl nd (by decide) (jJb (eX hu (jJa 3) (jJa 4)) (jJb (eX hu (jJa 3) (e_op o_addF (jJa 4) jJl)) jJe)))
   (jJd (jU3 (jJa 7) (jVk (jJa 5) (jJa 6) (s_F hu)))
   (jJk (jU3 (jJa 6) (jVk (jJa 5) (jJa 7) (s_F hu)))))))
   (jJk (jJ3 (jJ9 jK8 (by rfl) T.n_tuple rfl (jJb (jJa 5) jJe)))))))))
theorem kVe(T:Txt K mg):Cal P w K mg base 3 "_law_covered" ["_law_box_here","_law_web_here","_law_many"] jQ8:=
 cal3 T.f_l_covered kJ9 λhr hu nd=>
  (jJd (jKn lJn rfl (jJ0 rfl T.n_range (jJb jJl jJe)) (jJo nd) (jJd (kUv (i:=4) rfl nd ⟨rfl,rfl,rfl,rfl,rfl,rfl,rfl⟩ (jQ1 (eC (kVd T) hr (jJb (jJa 1) jJe))) jKg (λC fp s H=>(jJo nd)) (λC fp s H=>jQx) (λC fp s H=>(eC (qQ9 T) hr (jJb (jJa 0) (jJb (jJa 2) (jJb (kYl (jVj hr.units) (eX hu (jJa 6) jJl) (eX hu (jJa 6) jJl) (jJq _)) jJe))))))
   (jJd (jJu nd (eC (kVa T) hr (jJb (jJa 1) (jJb (jJa 4) (jJb (jJa 2) jJe)))))
   (jJk (s_if (jKh (jVj hr.units) (eL T.n_len (eC (kVb T) hr (jJb (jJa 5) (jJb jJl jJe)))) (eL T.n_len (jJa 5)) (jJq _)) (jJk (jJ3 (jJa 5))) jKb)))))
   (jJk (jJ3 (jJa 1))))
theorem qJ4(T:Txt K mg):Cal P w K mg base 1 "_law_kinds" ["_law_web_here"] jYa:=
 cal3 T.f_l_kinds kU1 λhr hu nd=>
  (jJd (jJu nd (jQy rfl ⟨rfl,rfl,rfl,rfl,rfl,rfl,rfl⟩ (jQ1 (jJa 0)) jKg (λC fp s H=>(jJo nd)) (λC fp s H=>jQx) (λC fp s H=>(eL T.n_len (jJa 6)))))
   (jJd (jKn lJn rfl (jJ0 rfl T.n_range (jJb (eL T.n_len (jJa 0)) jJe)) (jJo nd) (jJd (jJu nd (jK3 jJe))
   (jJd (jKn lJn rfl (jJ0 rfl T.n_range (jJb (eL T.n_len (jJa 0)) jJe)) (jJo nd) (jJk (jK9 (e_bm lJ8 lKj lKk jKe (jJa 3) (jJb (jKi (jJb (eX hu (jJa 1) (jJa 4)) (jJb (jJ9 jK8 (by rfl) T.n_tuple rfl (jJb (jQy rfl ⟨rfl,rfl,rfl,rfl,rfl,rfl,rfl⟩ (jQ1 (eX hu (jJa 0) (jJa 4))) (qU6 (jYt jKg jUw (jYt jKg jUw qU7 kKz) (kYe jUw kKz))) (λC fp s H=>(jUp rfl (jJw (jJo nd) (jJw (jJo nd) jQa)))) (λC fp s H=>jQx) (λC fp s H=>(jKi (jJb (jJa 8) (jJb (eX hu (jJa 1) (jJa 7)) jJe))))) jJe)) jJe))) jJe)))))
   (jJd (jJu nd (uXp rfl hu (by rfl) T.n_sorted rfl (by rfl) T.n_set rfl (jJb (jJa 3) jJe)))
   (jJk (jJu nd (jQy rfl ⟨rfl,rfl,rfl,rfl,rfl,rfl,rfl⟩ (jQ1 (jJa 3)) jKg (λC fp s H=>(jJo nd)) (λC fp s H=>jQx) (λC fp s H=>(e_bm lJ8 lZr lZs (qYs hu) (jJa 5) (jJb (jJa 9) jJe))))))))))
   (jJk (jJ3 (jJa 1)))))
theorem qUc(T:Txt K mg):Cal P w K mg base 1 "_law_line" ["_law_many"] jXk:=
 cal3 T.f_l_line kXl λhr hu nd=>
  (jJd (jJu nd (jK3 (jJb (jKi (jJb (jKi (jJb jJl (jJb jJl jJe))) jJe)) jJe)))
   (jJd (jKn lJn rfl (kUc rfl T.n_range (jJb jJl (jJb (jJa 0) jJe))) (jJo nd) (jJd (jJu nd (jK3 (jJb (jKi (jJb (e_op kKc (jJa 2) jJl) (jJb (jJ9 qZx (by rfl) T.n_int rfl (jJb (kYl o_gt (jJa 2) jJl (jJq _)) jJe)) jJe))) (jJb (jKi (jJb (e_op o_addF (jJa 2) jJl) (jJb jJl jJe))) jJe))))
   (jJk (jK9 (e_bm lJ8 lKj lKk jKe (jJa 1) (jJb (jJ9 jK8 (by rfl) T.n_tuple rfl (jJb (kYj sl_F (jJa 3) uJw (kZf (e_op o_addF jJl (jJ9 qZx (by rfl) T.n_int rfl (jJb (kYl o_lt (jJa 2) (e_op kKc (jJa 0) jJl) (jJq _)) jJe))))) jJe)) jJe))))))
   (jJk (jJ3 (jJ9 jK8 (by rfl) T.n_tuple rfl (jJb (jJa 1) jJe))))))
theorem qJ5(T:Txt K mg):Cal P w K mg base 4 "_law_eight" ["_law_box_here"] jYb:=
 cal3 T.f_l_eight kU2 λhr hu nd=>
  (jJd (jJu nd (eC (jJz T) hr (jJb (jJa 0) (jJb jJl jJe))))
   (jJd (s_if (jKh (jVj hr.units) (jJa 1) jJl (jJq _)) (jJk (jJ3 (eC (qUc T) hr (jJb (e_op o_addF jJl (eC (jJz T) hr (jJb (jJa 0) (jJb jJl jJe)))) jJe)))) jKb)
   (jJd (s_if (jKh (jVj hr.units) (jJa 1) jJl (jJq _)) (jJk (jJ3 (eC (kZg T) hr (jJb (jJa 0) (jJb (e_op o_addF jJl (eC (jJz T) hr (jJb (jJa 0) (jJb jJl jJe)))) (jJb (e_op o_addF jJl (eC (jJz T) hr (jJb (jJa 0) (jJb jJl jJe)))) jJe)))))) jKb)
   (jJd (s_if (jKh (jVj hr.units) (jJa 1) jJl (jJq _)) (jJk (jJ3 (eC (qUb T) hr (jJb (e_op o_addF jJl (eC (jJz T) hr (jJb (jJa 0) (jJb jJl jJe)))) jJe)))) jKb)
   (jJd (s_if (jKh (jVj hr.units) (jJa 1) jJl (jJq _)) (jJk (jJ3 (eC (qUd T) hr (jJb (jJa 0) (jJb (e_op o_addF jJl (eC (jJz T) hr (jJb (jJa 0) (jJb jJl jJe)))) (jJb (e_op o_addF jJl (eC (jJz T) hr (jJb (jJa 0) (jJb jJl jJe)))) jJe)))))) jKb)
   (jJd (jJu nd (eC (kZg T) hr (jJb (jJa 0) (jJb (e_op o_addF jJl (eC (jJz T) hr (jJb (jJa 0) (jJb jJl jJe)))) (jJb (e_op o_addF jJl (eC (jJz T) hr (jJb (jJa 0) (jJb jJl jJe)))) jJe)))))
   (jJk (jJ3 (eC (kVe T) hr (jJb (jJa 0) (jJb (jJa 2) (jJb (e_op kKc (eX hu (jK3 (jJb jJl (jJb jJl (jJb jJl (jJb jJl jJe))))) (e_op kKc (eL T.n_len (jJa 2)) jJl)) (eC (jJz T) hr (jJb (jJa 0) (jJb (eX hu (jK3 (jJb jJl (jJb jJl (jJb jJl (jJb jJl jJe))))) (e_op kKc (eL T.n_len (jJa 2)) jJl)) jJe)))) jJe))))))))))))
theorem kVc(T:Txt K mg):Cal P w K mg base 2 "_law_numbers" ["_law_web_here"] jU8:=
 cal3 T.f_l_numbers kJ8 λhr hu nd=>
  (jJd (jJu nd (eC (qJ4 T) hr (jJb (jJa 0) jJe)))
   (jJd (jJu nd (jK3 jJe))
   (jJd (jKn lJn rfl (jQ1 (jJa 1)) (jJo nd) (jJk (s_if (jKh (jVi hu) (jJa 3) (jJa 2) (jJq _)) (jJk (jK9 (e_bm lJ8 lKj lKk jKe (jJa 2) (jJb (jJa 3) jJe)))) jKb)))
   (jJk (jJ3 (jQy rfl ⟨rfl,rfl,rfl,rfl,rfl,rfl,rfl⟩ (jQ1 (jJa 1)) jKg (λC fp s H=>(jJo nd)) (λC fp s H=>jQx) (λC fp s H=>(e_bm lJ8 lZr lZs qUn (jJa 2) (jJb (jJa 3) jJe)))))))))
theorem qUa(T:Txt K mg):Cal P w K mg base 2 "_law_rule" ["_law_box_here","_law_web_here","_law_numbers_here","_law_long"] jZw:=
 cal3 T.f_l_rule kXj λhr hu nd=>
  (jJd (jJu nd (jK3 jJe))
   (jJd (jKn lJn rfl (jJ0 rfl T.n_range (jJb (e_op o_addF (jQw (uXu rfl) (by rfl) T.n_max rfl (jJb (jJa 2) jJe)) jJl) jJe)) (jJo nd) (jJd (jJu nd (e_bm lJ8 lZr lZs qUn (jJa 2) (jJb (jJa 5) jJe)))
   (jJd (jJu nd (jK3 jJe))
   (jJd (jKn lJn rfl (jJ0 rfl T.n_range (jJb (jJa 3) jJe)) (jJo nd) (jJd (jJu nd jVw)
   (jJd (s_if (PW3.pt (uUm (jKh o_gt (eL T.n_len (eX hu (jJa 1) (jJa 6))) jJl (jJq _)) (uJg (jKh o_gt (eC (jJz T) hr (jJb (jJa 0) (jJb jJl jJe))) jJl (jJq _))))) (jJd (jJu nd (eC (jJz T) hr (jJb (jJa 0) (jJb (eL T.n_len (eX hu (jJa 1) (jJa 6))) jJe))))
   (jJk (jJu nd (eX hu (eX hu (eX hu (jJa 1) (jJa 6)) (jJa 9)) jJl)))) jKb)
   (jJk (jK9 (e_bm lJ8 lKj lKk jKe (jJa 7) (jJb (jJa 9) jJe)))))))
   (jJk (jK9 (e_bm lJ8 lKj lKk jKe (jJa 4) (jJb (jJ9 jK8 (by rfl) T.n_tuple rfl (jJb (jJa 7) jJe)) jJe))))))))
   (jJk (jJ3 (jJ9 jK8 (by rfl) T.n_tuple rfl (jJb (jJa 4) jJe))))))
theorem jY8(T:Txt K mg):Cal P w K mg base 7 "_law_alike_right" ["_law_box_here","_law_web_here","_law_numbers_here","_law_a","_law_b"] jQq:=
 cal3 T.f_l_alike_right jXq λhr hu nd=>
  (jJd (jJu nd (eC (kKs T) hr (jJb (jJa 1) (jJb (jJa 3) (jJb (jJa 4) jJe)))))
   (jJd (s_if (jKh (kX0 hr.units) (eX hu (jJa 5) jJl) qZq (jJq _)) (jJk (jJ3 e_bl)) jKb)
   (jJd (jKn lJn rfl (jJ0 rfl T.n_range (jJb (e_op o_mulF (eC (jJz T) hr (jJb (jJa 0) (jJb jJl jJe))) (jJ9 qZx (by rfl) T.n_int rfl (jJb (kYl o_gt (eL T.n_len (eX hu (jJa 1) (jJa 3))) jJl (jJq _)) jJe))) jJe)) (jJo nd) (jJd (jJu nd (eC (jJz T) hr (jJb (jJa 0) (jJb (eL T.n_len (eX hu (jJa 1) (jJa 3))) jJe))))
   (jJd (jU3 (jKi (jJb (eX hu (eX hu (jJa 1) (jJa 3)) (jJa 7)) (jJb (eX hu (eX hu (jJa 1) (jJa 4)) (jJa 7)) jJe))) (jUp rfl (jJw (jUp rfl (jJw (jJo nd) (jJw (jJo nd) jQa))) (jJw (jUp rfl (jJw (jJo nd) (jJw (jJo nd) jQa))) jQa))))
   (jJk (s_if (PW3.pt (w_or (jKh (jVj hr.units) (jJa 3) (jJa 4) (jJq _)) (w_or (jKh (kX0 hr.units) (jJa 8) (jJa 9) (jJq _)) (w_or (jKh (kX0 hr.units) (eX hu (jJa 2) (jJa 3)) (eX hu (jJa 2) (jJa 4)) (jJq _)) (qKw (jKh (qYf hr.units) (jKi (jJb (jJa 3) (jJb (jJa 4) jJe))) (eX hu (jJa 5) jJl) (jJq _))))))) (jJk (jJ3 e_bl)) jKb)))))
   (jJk (jJ3 e_bl)))))
theorem jY7(T:Txt K mg):Cal P w K mg base 7 "_law_apart_right" ["_law_web_here","_law_numbers_here","_law_a","_law_b","_law_made"] jQp:=
 cal3 T.f_l_apart_right jXp λhr hu nd=>
  (jJd (jJu nd (eC (kKs T) hr (jJb (jJa 0) (jJb (jJa 2) (jJb (jJa 3) jJe)))))
   (jJd (s_if (PW3.pt (w_or (jKh (kX0 hr.units) (eX hu (jJa 5) jJl) qZq (jJq _)) (qKw (qJn (qK1 o_lt (qYg hu) jJl (eX hu (jJa 5) jJl) (eL T.n_len (eX hu (jJa 4) jJl))))))) (jJk (jJ3 e_bl)) jKb)
   (jJd (uU1 (i:=6) (j:=7) rfl nd (by decide) (jJb (eX hu (jJa 4) (eX hu (jJa 1) (jJa 2))) (jJb (eX hu (jJa 4) (eX hu (jJa 1) (jJa 3))) jJe)))
   (jJd (jKn lJn rfl (jJ0 rfl T.n_range (jJb (eX hu (jJa 5) jJl) jJe)) (jJo nd) (jJd (s_if (jKh (jVj hr.units) (jJa 2) (jJa 3) (jJq _)) (jJk (jJ3 e_bl)) jKb)
   (jJd (jJu nd (kJp (jKh qYh (eX hu (jJa 6) (jJa 8)) jVw (jJq _)) (jJa 2) (eX hu (eX hu (eX hu (jJa 0) (jJa 2)) (eX hu (jJa 6) (jJa 8))) jJl)))
   (jJk (jJu nd (kJp (jKh qYh (eX hu (jJa 7) (jJa 8)) jVw (jJq _)) (jJa 3) (eX hu (eX hu (eX hu (jJa 0) (jJa 3)) (eX hu (jJa 7) (jJa 8))) jJl)))))))
   (jJk (jJ3 (kYl (jVj hr.units) (jJa 2) (jJa 3) (jJq _))))))))
theorem uVs(T:Txt K mg){f:Addr}{fd:FuncData}(F:Fun K "law" "law" (top 43) f fd):Fn3 P w K mg base 8 f fd ["_law_script"] qK6:=by
 have S:FnScope uX5 ["_law_script"] (jKj (top 43)):=⟨rfl,rfl,rfl,by decide +kernel,rfl,by decide +kernel,by decide +kernel⟩
 refine fn3 F S λcdv A outer s H E hr=>⟨kZc,?_,qXy⟩
 have hu:=uXf hr;have nd:=S.nd
 exact (jJd (jJu nd (eC (kXx T) hr (jJb (jJa 0) (jJb jJl jJe))))
   (jJd (jKn lJn rfl (jJ0 rfl T.n_range (jJb (jQw (uY1 rfl) (by rfl) T.n_max rfl (jJb jJl (jJb (eL T.n_len (jJa 1)) jJe))) jJe)) (jJo nd) (jJd (jJu nd (eC (qYd T) hr (jJb (jJa 1) (jJb (jJa 2) jJe))))
   (jJd (jJu nd (eC (qJ5 T) hr (jJb (jJa 3) jJe)))
   (jJd (jJu nd (eC (kVc T) hr (jJb (jJa 4) jJe)))
   (jJd (jJu nd (eC (jVf T) hr (jJb (jJa 4) jJe)))
   (jJd (jJu nd (eC (qUa T) hr (jJb (jJa 3) (jJb (jJa 4) (jJb (jJa 5) (jJb jJl jJe))))))
   (jJk (jKn lJn rfl (jJ0 rfl T.n_range (jJb (eL T.n_len (jJa 4)) jJe)) (jJo nd) (jJk (jKn lJn rfl (jJ0 rfl T.n_range (jJb (jJa 8) jJe)) (jJo nd) (jJk (s_if (jKh (jVj hr.units) (eX hu (jJa 5) (jJa 8)) (eX hu (jJa 5) (jJa 9)) (jJq _)) (jJk (s_if (PW3.pt (w_or (qJn (qXi (eC (jY8 T) hr (jJb (jJa 3) (jJb (jJa 4) (jJb (jJa 5) (jJb (jJa 8) (jJb (jJa 9) jJe)))))))) (qKw (jKh kZh (eC (jYm T) hr (jJb (jJa 4) (jJb (jJa 8) (jJb (jJa 9) (jJb (jJa 7) jJe))))) jVw (jJq _))))) (jJk (jJ3 e_bl)) jKb)) (jJk (s_if (qJn (qXi (eC (jY7 T) hr (jJb (jJa 4) (jJb (jJa 5) (jJb (jJa 8) (jJb (jJa 9) (jJb (jJa 6) jJe)))))))) (jJk (jJ3 e_bl)) jKb))))))))))))))
   (jJk (jJ3 e_bl))))
def uKo(K:PySem.W.Frag):Sp:=dn K 1 qK6
theorem fn_at{K:PySem.W.Frag}{h:Heap}{mg:Str->Option Value}{x:Str}{i:Nat}{f:Addr}{oc:Value}{od an:Option Addr}{osl:Array (Option Value)}{kV doc pm cdv ct:Value}(X:K.In h)(G:h.Ns mainGlobals mg)(a:PySem.W.nsIn K mainGlobals x=some (some (.ref f)))
  (l:K.lookup f=some ⟨oc,od,.func (PySem.W.fnOf x x (jYw (top i)) (jUy (top i)) (jKj (top i)) .none kV doc pm an cdv ct),osl⟩) (c:PySem.W.codeIn K cdv x=true) (k:PySem.W.keepIn K (.ref f)=true):FnAt K mg x i:=⟨f,_,PySem.W.mg_of X G a,uXi l c k⟩
theorem all_mk{l:PySem.W.OpenLaw}{w:World}{K:PySem.W.Frag}{mg:Str->Option Value}{fa:Addr}(hfa:mg "law"=some (.ref fa))(T:Txt K mg):
  ∃fd:FuncData,(∀(s:Shared)(v:Value),BindsTo s fd ⟨[v],[]⟩ [("_law_script",v)])/\∀base:Heap,K.In base->base.Ns mainGlobals mg->FnOk l.prog w K mg base CX0 8 fa fd ["_law_script"] (uKo K):=by
 obtain⟨f,fd,a,F⟩:=T.f_law;cases hfa.symm.trans a;refine⟨fd,λs v=> ?_,λbase _ _=>uVs T F⟩
 obtain⟨_,_,kV,doc,pm,an,cdv,ct,_,e,_⟩:=F.ex;subst e;exact .of_eq rfl
theorem uYu{K:PySem.W.Frag}{H:Hp}{a:Addr}{xs:List V}(hO:Only H)(hS:SqL K H a xs):FrL K H a xs:=by
 rcases hS with h | h
 .rcases h with h | ⟨ob,h⟩
  .rcases hO a with z | ⟨o,ys,z⟩
   .rw[z] at h;cases h
   .rw[z] at h;cases h
  .exact .inl ⟨ob,h⟩
 .exact .inr h
theorem jQm{K:PySem.W.Frag}{H:Hp}:∀ns:List Int,Reps K H (jQo ns) (ns.map V.int)
 | []=>rfl
 | n::ns=>⟨_,_,rfl,rfl,jQm ns⟩
theorem walk{l:PySem.W.OpenLaw}{q:Program}{loose:List Str}{XP:(Str->Option Value)->Heap->Prop}{YP:World->Heap->Prop}{d:DefRec}{K:Params->PySem.W.Frag}(hn:l.most=some 63)(hdf:d.params.defaults=[])
  (hY:∀(w:World)(h:Heap),YP w h->(K w.params).In h)
  (F:∀(w:World)(mg:Str->Option Value)(fa:Addr)(h:Heap),(K w.params).In h->h.Ns mainGlobals mg->mg d.name=some (.ref fa)->
   ∃fd:FuncData,(∀(s:Shared)(u:Value),BindsTo s fd ⟨[u],[]⟩ [("_law_script",u)])/\∀base:Heap,(K w.params).In base->base.Ns mainGlobals mg->FnOk l.prog w (K w.params) mg base CX0 8 fa fd ["_law_script"] (uKo (K w.params))):
  PySem.W.WalkO q loose XP YP l.row.toRowW d [] (λf vs=>PySem.call f vs):=
 L2.walk_of (n:=63) (k:=8) (x:="_law_script") (CX:=λ_=>CX0) (sp:=λw=>uKo (K w.params)) hn (by decide) hdf ⟨rfl,rfl,by decide,by decide⟩ hY F
  (λ_ _ a ns hl hO hS=>⟨rfl,[.scr (jQo ns)],λ_=>none,⟨_,_,rfl,⟨a,_,rfl,uYu hO hS,jQm ns⟩,rfl⟩,(λ_ _ h=>nomatch h),ns,rfl,hl,λG' v H' _ _ r=>r⟩) λ_ _ _ _ _ z=>z
end W
def PySem.W.Fast.tw15544108613621308070 : Unit := ()
def PySem.W.Fast.tw11095811141212202009 : Unit := ()
def PySem.W.Fast.tw14406214347797836353 : Unit := ()
def PySem.W.Fast.tw9994934858386566351 : Unit := ()
def PySem.W.Fast.tw2263180163218580756 : Unit := ()
def PySem.W.Fast.tw4975103995946289138 : Unit := ()
def PySem.W.Fast.tw11316194256343506836 : Unit := ()
def PySem.W.Fast.tw17514456992972235301 : Unit := ()
def PySem.W.Fast.tw1081469050401711633 : Unit := ()
def PySem.W.Fast.tw2672767848763121853 : Unit := ()
def PySem.W.Fast.tw18341677185168147671 : Unit := ()
def PySem.W.Fast.tw890064915201094878 : Unit := ()
def PySem.W.Fast.tw1425606462262719057 : Unit := ()
def PySem.W.Fast.tw15355650171190277995 : Unit := ()
def PySem.W.Fast.tw6819351605289717999 : Unit := ()
def PySem.W.Fast.tw14548815074710760005 : Unit := ()
def PySem.W.Fast.tw16635350526808245518 : Unit := ()
def PySem.W.Fast.tw7385818983997452559 : Unit := ()
def PySem.W.Fast.tw14804783158448058595 : Unit := ()
def PySem.W.Fast.tw5639887683198775943 : Unit := ()
def PySem.W.Fast.tw6869273798453074673 : Unit := ()
def PySem.W.Fast.tw6369817448621273816 : Unit := ()
def PySem.W.Fast.tw4976318220935775965 : Unit := ()
def PySem.W.Fast.tw11215533355413948946 : Unit := ()
def PySem.W.Fast.tw1624817428344040829 : Unit := ()
def PySem.W.Fast.tw13142962184211716671 : Unit := ()
def PySem.W.Fast.tw2530043971848801906 : Unit := ()
def PySem.W.Fast.tw1706380216326298522 : Unit := ()
def PySem.W.Fast.tw11804002395518685709 : Unit := ()
def PySem.W.Fast.tw15463322818973766094 : Unit := ()
def PySem.W.Fast.tw4906670733528281057 : Unit := ()
def PySem.W.Fast.tw13052038414354485196 : Unit := ()
def PySem.W.Fast.tw4895225176652044424 : Unit := ()
def PySem.W.Fast.tw10461012290200910833 : Unit := ()
def PySem.W.Fast.tw7608747087954325435 : Unit := ()
def PySem.W.Fast.tw15767811382225608751 : Unit := ()
def PySem.W.Fast.tw14364961043442184610 : Unit := ()
def PySem.W.Fast.tw14689459961768778222 : Unit := ()
def PySem.W.Fast.tw14962267690177596729 : Unit := ()
def PySem.W.Fast.tw8058680172213510014 : Unit := ()
def PySem.W.Fast.tw6444519401057011963 : Unit := ()
def PySem.W.Fast.tw111556051377466229 : Unit := ()
def PySem.W.Fast.tw8952554595094921461 : Unit := ()
def PySem.W.Fast.tw11563235512746037220 : Unit := ()
def PySem.W.Fast.tw10103620192489365893 : Unit := ()
def PySem.W.Fast.tw13670958337669056749 : Unit := ()
def PySem.W.Fast.tw11589907046962968728 : Unit := ()
def PySem.W.Fast.tw16969853911157998154 : Unit := ()
def PySem.W.Fast.tw1432155171769008692 : Unit := ()
def PySem.W.Fast.tw17483928123145301716 : Unit := ()
def PySem.W.Fast.tw11113511230740864949 : Unit := ()
def PySem.W.Fast.tw6140975064452543173 : Unit := ()
def PySem.W.Fast.tw15559896963935314573 : Unit := ()
def PySem.W.Fast.tw4450175306959049794 : Unit := ()
def PySem.W.Fast.tw9246775440174504308 : Unit := ()
def PySem.W.Fast.tw14535875222250653107 : Unit := ()
def PySem.W.Fast.tw17391288223906994488 : Unit := ()
def PySem.W.Fast.tw7810068982880306610 : Unit := ()
def PySem.W.Fast.tw5439961910266785175 : Unit := ()
def PySem.W.Fast.tw15417120620996056637 : Unit := ()
def PySem.W.Fast.tw6644227196769789844 : Unit := ()
def PySem.W.Fast.tw12175950955326474271 : Unit := ()
def PySem.W.Fast.tw718880710042142240 : Unit := ()
def PySem.W.Fast.tw14555279314291539491 : Unit := ()
def PySem.W.Fast.tw1349611618826020089 : Unit := ()
def PySem.W.Fast.tw9298858699542723295 : Unit := ()
def PySem.W.Fast.tw10668607142553199685 : Unit := ()
def PySem.W.Fast.tw6988991020108148137 : Unit := ()
def PySem.W.Fast.tw8345620851419473161 : Unit := ()
def PySem.W.Fast.tw3588168563317318754 : Unit := ()
def PySem.W.Fast.tw3291540456177306581 : Unit := ()
def PySem.W.Fast.tw1245077107004383861 : Unit := ()
def PySem.W.Fast.tw15761945015576937983 : Unit := ()
def PySem.W.Fast.tw13645794119993734434 : Unit := ()
def PySem.W.Fast.tw14690423577133266892 : Unit := ()
def PySem.W.Fast.tw11084294342097082189 : Unit := ()
def PySem.W.Fast.tw13900707544537023829 : Unit := ()
def PySem.W.Fast.tw17632904351891586067 : Unit := ()
def PySem.W.Fast.tw15318266961007835678 : Unit := ()
def PySem.W.Fast.tw11711948861894443401 : Unit := ()
def PySem.W.Fast.tw17549352997879707911 : Unit := ()
def PySem.W.Fast.tw12775467696219164665 : Unit := ()
def PySem.W.Fast.tw8338892314498016546 : Unit := ()
def PySem.W.Fast.tw5917382289280286779 : Unit := ()
def PySem.W.Fast.tw320215059106625947 : Unit := ()
def PySem.W.Fast.tw15065689286890037998 : Unit := ()
def PySem.W.Fast.tw2984013062053690050 : Unit := ()
def PySem.W.Fast.tw3059779881336577463 : Unit := ()
def PySem.W.Fast.tw14926457545557439280 : Unit := ()
def PySem.W.Fast.tw1479251533068536460 : Unit := ()
def PySem.W.Fast.tw17715923352560624124 : Unit := ()
def PySem.W.Fast.tw7844787736941860871 : Unit := ()
def PySem.W.Fast.tw16692510935686550388 : Unit := ()
def PySem.W.Fast.tw4077142044874778191 : Unit := ()
def PySem.W.Fast.tw4035773775826840463 : Unit := ()
def PySem.W.Fast.tw56986016453584157 : Unit := ()
def PySem.W.Fast.tw7618708716705281713 : Unit := ()
def PySem.W.Fast.tw4413162147102674753 : Unit := ()
def PySem.W.Fast.tw18224321005402022400 : Unit := ()
def PySem.W.Fast.tw378156643506658892 : Unit := ()
def PySem.W.Fast.tw9671164234372558185 : Unit := ()
def PySem.W.Fast.tw17265745508371756848 : Unit := ()
def PySem.W.Fast.tw1723022277190794976 : Unit := ()
def PySem.W.Fast.tw14270726457053930658 : Unit := ()
def PySem.W.Fast.tw16518012134837377648 : Unit := ()
def PySem.W.Fast.tw8535330737449359200 : Unit := ()
def PySem.W.Fast.tw8372583340127785044 : Unit := ()
def PySem.W.Fast.tw9634712651340762938 : Unit := ()
def PySem.W.Fast.tw4334577296461287571 : Unit := ()
def PySem.W.Fast.tw15206477864895416983 : Unit := ()
def PySem.W.Fast.tw17673198979821254429 : Unit := ()
def PySem.W.Fast.tw14199570072455979769 : Unit := ()
open PySem PySem.W PyProof.Rows
set_option maxRecDepth 100000 in
set_option maxHeartbeats 0 in
theorem PySem.Challenge.cw_stonewalker_k67_whole_alike_ones_never_m_holds : PySem.Challenge.rw_stonewalker_k67_whole_alike_ones_never_m.Holds := by
 w_on;o_law;k_head;(case hw=>w_witness2)
 k_fill
 refine W.walk (l:=PySem.Challenge.rw_stonewalker_k67_whole_alike_ones_never_m) rfl rfl (fun w h Y=>PySem.W.kIn_of Y) ?F
 case F=>
  intro w mg fa h KX G hmg
  refine W.all_mk hmg ?T
  constructor
  iterate 16 (refine PySem.W.mg_none_of KX G ?_;k_is)
  iterate 37 (refine' W.fn_at KX G ?a ?l ?c ?k;(case a=>k_is);(case l=>k_is);(case c=>k_is);(case k=>k_is))
