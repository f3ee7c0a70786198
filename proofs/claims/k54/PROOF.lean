
import PyProof.Rows.All
import Wide.All
import OpenK.AllK
import Wide.FinOn
import Lean
import PyProof.EqAt
import PyProof.EqKinds
import PyProof.TupleCall
import PySem.Challenge.RW_stonewalker_k54_webs_put_right
set_option linter.all false
noncomputable section
def lJa:=@PySem.wpAny_bind
def lJb:=@if_neg
def lJc:=@if_pos
def lJd:=@PySem.wpAny_pure
def lJe:=@PyProof.Rows.wpS_bind
def lJf:=@PyProof.Rows.wpS_pure
def lJg:=@Nat.le_refl
def lJh:=@List.length_map
def lJi:=@List.getElem?_eq_some_iff
def lJj:=@PySem.Heap.lt_size
def lJk:=@List.mem_cons
def lJl:=@List.mem_map
def lJm:=@PySem.Heap.get?_push_of_some
def lJn:=@List.map_cons
def lJo:=@List.getElem?_eq_getElem
def lJp:=@Bool.false_ne_true
def lJq:=@decide_eq_false
def lJr:=@Nat.ne_of_lt
def lJs:=@List.append_assoc
def lJt:=@List.mem_append
def lJu:=@Nat.zero_le
def lJv:=@List.size_toArray
def lJw:=@Option.some.inj
def lJx:=@List.mem_cons_self
def lJy:=@List.mem_of_getElem?
def lJz:=@List.mem_cons_of_mem
def lJ0:=@List.mem_append_right
def lJ1:=@decide_eq_true
def lJ2:=@List.not_mem_nil
def lJ3:=@PySem.boot_len
def lJ4:=@List.mem_singleton
def lJ5:=@Array.getElem?_toList
def lJ6:=@PySem.Heap.get?_push_size
def lJ7:=@Nat.lt_of_lt_of_le
def lJ8:=@List.mem_append_left
def lJ9:=@PySem.PassesOwn.never
def lKa:=@List.getElem?_map
def lKb:=@List.pairwise_append
def lKc:=@if_false
def lKd:=@or_false
def lKe:=@PyProof.Rows.wpS_modify
def lKf:=@Array.length_toList
def lKg:=@List.getElem?_of_mem
def lKh:=@PyProof.Rows.wpS_mono
def lKi:=@PyProof.Rows.wpS_forRange
def lKj:=@Bool.false_eq_true
def lKk:=@List.length_append
def lKl:=@List.length_cons
def lKm:=@List.lookup_cons
def lKn:=@if_true
def lKo:=@Nat.le_trans
def lKp:=@congrArg
def lKq:=@List.getElem?_eq_none
def lKr:=@PySem.mem_of_lookup
def lKs:=@Bool.and_eq_true
def lKt:=@Array.getElem?_eq_getElem
def lKu:=@Nat.not_lt_zero
def lKv:=@PySem.F.plainAttrs_list
def lKw:=@PySem.sizeLine_eq
def lKx:=@decide_eq_true_eq
def lKy:=@List.mem_range
def lKz:=@List.filterMap_cons
def lK0:=@List.nodup_cons
def lK1:=@List.length_take
def lK2:=@List.all_eq_true
def lK3:=@List.take_append_drop
def lK4:=@Nat.ne_of_gt
def lK5:=@List.getElem?_append_right
def lK6:=@List.getElem?_append_left
def lK7:=@Prod.ext
def lK8:=@PySem.wpAny_holding
def lK9:=@PySem.wpAny_newObj_type
def lQa:=@PyProof.Rows.wpS_get
def lQb:=@List.map_map
def lQc:=@PySem.F.slot_list_append
def lQd:=@PySem.F.type_list_append
def lQe:=@PySem.wpAny_rule
def lQf:=@List.getElem?_set_self
def lQg:=@List.length_nil
def lQh:=@Option.map_eq_some_iff
def lQi:=@List.take_of_length_le
def lQj:=@Option.map_some
def lQk:=@List.range_succ
def lQl:=@List.mem_of_mem_take
def lQm:=@Array.toList_append
def lQn:=@PySem.wpAny_mono
def lQo:=@PySem.wpAny_call_entry
def lQp:=@PySem.Around.in1_units
def lQq:=@Nat.lt_irrefl
def lQr:=@List.getElem?_set_ne
def lQs:=@List.any_cons
def lQt:=@List.find?_cons
def lQu:=@List.filterMap_append
def lQv:=@List.map_append
def lQw:=@List.getElem?_take
def lQx:=@Nat.lt_or_eq_of_le
def lQy:=@List.exists_cons_of_length_eq_add_one
def lQz:=@Nat.succ.inj
def lQ0:=@PySem.wpAny_field
def lQ1:=@List.mem_filterMap
def lQ2:=@List.take_sublist
def lQ3:=@Array.getElem?_eq_none
def lQ4:=@List.mem_of_mem_drop
def lQ5:=@List.drop_sublist
def lQ6:=@Nat.le_of_lt_succ
def lQ7:=@List.pairwise_map
def lQ8:=@List.mem_map_of_mem
def lQ9:=@PyProof.Rows.reverseSlice'_eq
def lVa:=@Classical.byContradiction
def lVb:=@List.mem_filter
def lVc:=@List.length_drop
def lVd:=@List.all_cons
def lVe:=@PyProof.Rows.callWith_type1
def lVf:=@PySem.Heap.size_push
def lVg:=@List.take_succ
def lVh:=@PySem.F.called_set
def lVi:=@List.drop_of_length_le
def lVj:=@List.mem_reverse
def lVk:=@Option.bind_some
def lVl:=@PySem.wpAny_seqItems
def lVm:=@PySem.wpAny_callSpecial?_slot
def lVn:=@PySem.wpAny_setField_rec
def lVo:=@List.ext_getElem?
def lVp:=@List.append_nil
def lVq:=@Nat.le_of_lt
def lVr:=@List.length_set
def lVs:=@List.length_eq_zero_iff
def lVt:=@List.zip_cons_cons
def lVu:=@List.take_length
def lVv:=@Nat.zero_add
def lVw:=@List.getElem_of_mem
def lVx:=@List.getElem?_range
def lVy:=@List.cons.injEq
def lVz:=@List.getElem?_drop
def lV0:=@List.take_append_of_le_length
def lV1:=@PySem.wpAny_forIn_list
def lV2:=@PySem.wpAny_truthy_bool
def lV3:=@PySem.wpAny_loadPart'
def lV4:=@PySem.wpAny_passesOwn
def lV5:=@decide_eq_false_iff_not
def lV6:=@Nat.lt_or_ge
def lV7:=@PySem.Paired.length
def lV8:=@PyProof.Rows.slot_tuple_getitem
def lV9:=@List.replicate_succ
def lXa:=@List.foldl_cons
def lXb:=@List.nodup_nil
def lXc:=@List.nodup_append
def lXd:=@Nat.succ_pos
def lXe:=@Nat.add_zero
def lXf:=@Int.emod_nonneg
def lXg:=@Int.emod_lt_of_pos
def lXh:=@Array.getD_eq_getD_getElem?
def lXi:=@List.Perm.append_left
def lXj:=@List.length_filter_le
def lXk:=@List.filter_cons
def lXl:=@PySem.wpAny_typeOf
def lXm:=@PySem.codeAny_builtin
def lXn:=@Option.isSome_iff_exists
def lXo:=@Int.toNat_natCast
def lXp:=@PySem.Heap.get?_update_self
def lXq:=@List.flatten_cons
def lXr:=@List.nil_append
def lXs:=@List.getElem?_zipWith
def lXt:=@List.getElem?_zip_eq_some
def lXu:=@PySem.Heap.SameBut.update
def lXv:=@Int.eq_ofNat_of_zero_le
def lXw:=@Nat.le_of_succ_le
def lXx:=@Nat.lt_trichotomy
def lXy:=@List.filterMap_cons_some
def lXz:=@List.length_range
def lX0:=@List.getElem_mem
def lX1:=@PySem.Around.under_plainId
def lX2:=@List.Perm.append_right
def lX3:=@List.perm_append_comm
def lX4:=@List.drop_zero
def lX5:=@PySem.wpAny_isInstance
def lX6:=@PySem.wpAny_pyIter_tuple
def lX7:=@PySem.wpAny_askSetting
def lX8:=@Array.forIn_toList
def lX9:=@PySem.Heap.get?_update_other
def lYa:=@Array.getElem?_eq_some_iff
def lYb:=@Array.getElem?_setIfInBounds
def lYc:=@Array.mem_toList_iff
def lYd:=@List.zip_eq_zipWith
def lYe:=@PyProof.Rows.F.plain_set_update_loop
def lYf:=@Nat.add_sub_cancel
def lYg:=@Option.some.injEq
def lYh:=@Bool.not_eq_true'
def lYi:=@List.drop_eq_getElem_cons
def lYj:=@List.drop_append_of_le_length
def lYk:=@Nat.add_sub_cancel_left
def lYl:=@PySem.wpAny_Call_Name_kw
def lYm:=@PySem.wpAny_pyIter_enum
def lYn:=@List.getElem?_eq_none_iff
def lYo:=@PySem.F.args_tuple_add_2
def lYp:=@List.length_filterMap_le
def lYq:=@List.pairwise_iff_getElem
def lYr:=@List.filterMap_cons_none
def lYs:=@Array.size_setIfInBounds
def lYt:=@List.take_length_add_append
def lYu:=@PySem.wpAny_comprehension_free
local macro_rules
 | `(tactic| omega) => `(tactic| lia)
set_option Elab.async false
set_option linter.all false
set_option maxRecDepth 100000
namespace L2
open PySem PySem.Spec PyProof.Rows
abbrev Key:=Sum Int Str
def jVo:Key->Value->Bool
 | .inl k,v=>Value.isInt k v
 | .inr x,v=>Value.isStrOf x v
def keyH (w:World):Key->Int
 | .inl k=>hashInt k
 | .inr x=>hashStr w x
theorem jJr:∀ {k:Key} {v:Value},jVo k v=true->(∃i t,k=Sum.inl i/\v=Value.int i t)\/(∃x t,k=Sum.inr x/\v=Value.str x t)
 | .inl i,v,h=>by
  obtain⟨t,e⟩:=Value.isInt_shape (k:=i) (v:=v) h
  exact .inl ⟨i,t,rfl,e⟩
 | .inr x,v,h=>by
  obtain⟨t,e⟩:=Value.isStrOf_shape (x:=x) (v:=v) h
  exact .inr ⟨x,t,rfl,e⟩
theorem kZm (i:Int) (t:Tok):jVo (.inl i) (.int i t)=true:=by simp[jVo,Value.isInt]
theorem kZl (x:Str) (t:Tok):jVo (.inr x) (.str x t)=true:=by simp[jVo,Value.isStrOf]
theorem key_ll (a b:Int):decide ((Sum.inl a:Key)=Sum.inl b)=(a == b):=by
 by_cases e:a=b
 ·subst e;simp
 ·have h:¬ (Sum.inl a:Key)=Sum.inl b:=fun q=>e (Sum.inl.inj q)
  rw[lJq h]
  exact (beq_eq_false_iff_ne.mpr e).symm
theorem key_rr (a b:Str):decide ((Sum.inr a:Key)=Sum.inr b)=decide (a=b):=by
 by_cases e:a=b
 ·subst e;simp
 ·have h:¬ (Sum.inr a:Key)=Sum.inr b:=fun q=>e (Sum.inr.inj q)
  rw[lJq h,lJq e]
theorem key_lr (a:Int) (b:Str):decide ((Sum.inl a:Key)=Sum.inr b)=false:=lJq (fun q=>nomatch q)
theorem key_rl (a:Str) (b:Int):decide ((Sum.inr a:Key)=Sum.inl b)=false:=lJq (fun q=>nomatch q)
noncomputable def jKh (prog:Program) (w:World):PySem.KeyKind prog w Key where
 is:=jVo
 hash:=keyH w
 inj:=fun v a b ha hb=>by
  rcases jJr ha with ⟨i,t,rfl,rfl⟩ | ⟨x,t,rfl,rfl⟩
  ·rcases jJr hb with ⟨j,u,rfl,e⟩ | ⟨y,u,rfl,e⟩
   ·injection e with e1 _;rw[e1]
   ·exact nomatch e
  ·rcases jJr hb with ⟨j,u,rfl,e⟩ | ⟨y,u,rfl,e⟩
   ·exact nomatch e
   ·injection e with e1 _;rw[e1]
 byValue:=fun k v h=>by
  rcases jJr h with ⟨i,t,rfl,rfl⟩ | ⟨x,t,rfl,rfl⟩<;>rfl
 pyHash:=fun hv h=>by
  rcases jJr hv with ⟨i,t,rfl,rfl⟩ | ⟨x,t,rfl,rfl⟩
  ·exact wpAny_pyHash_int h
  ·exact wpAny_pyHash_str h
 eqBool:=fun hu hv h=>by
  rcases jJr hu with ⟨i,t,rfl,rfl⟩ | ⟨x,t,rfl,rfl⟩
  ·rcases jJr hv with ⟨j,u,rfl,rfl⟩ | ⟨y,u,rfl,rfl⟩
   ·rw[key_ll] at h;exact wpAny_eqBool_int h
   ·rw[key_lr] at h;exact SeqAt.EqAt.int_str i t y u _ _ _ _ h
  ·rcases jJr hv with ⟨j,u,rfl,rfl⟩ | ⟨y,u,rfl,rfl⟩
   ·rw[key_rl] at h;exact SeqAt.EqAt.str_int x t j u _ _ _ _ h
   ·rw[key_rr] at h;exact wpAny_eqBool_str h
 «strs» :=fun k x t v h=>by
  rcases jJr h with ⟨i,u,rfl,e⟩ | ⟨y,u,rfl,e⟩
  ·exact nomatch e
  ·injection e with e1 _
   subst e1
   cases v<;>rfl
theorem kQ8 (prog:Program) (w:World) (i:Int) (t:Tok):(jKh prog w).is (.inl i) (.int i t)=true:=kZm i t
theorem kQ7 (prog:Program) (w:World) (x:Str) (t:Tok):(jKh prog w).is (.inr x) (.str x t)=true:=kZl x t
end L2
set_option synthInstance.maxSize 1000
namespace L2
open PySem PySem.Spec PyProof.Rows
structure KeyV (prog:Program) (w:World) (K:Type) [DecidableEq K] (c:Nat) where
 is:Heap->K->Value->Prop
 hash:K->Int
 draws:K->Nat
 inj:∀ {h:Heap} {v:Value} {x y:K},is h x v->is h y v->x=y
 keeps:∀ {h h':Heap} {k:K} {v:Value} {d:Addr} {o:Obj} {es:Array DictEntry} {ep:Nat},is h k v->h.get? d=some o->o.data= .dict es ep->Heap.SameBut d h h'->is h' k v
 hashed:∀ {A:Around} {E:Value->Shared->Prop} {s:Shared} {k:K} {v:Value} {Q:Int->Shared->Prop},A.units+c<cLine->is s.heap k v->Q (hash k) {s with toks:=s.toks+draws k}->wpAny (model prog w) A (PySem.pyHash v) Q E s
 eqAt:∀ {A:Around} {s:Shared} {x y:K} {u v:Value},A.units+c<cLine->is s.heap x u->is s.heap y v->SeqAt.EqAt A s u v (decide (x=y))
 quiet:∀ {A:Around} {E:Value->Shared->Prop} {s:Shared} {k:K} {v:Value} {Q:Bool->Shared->Prop} (n:Nat),c<=n->is s.heap k v->Q true s->wpAny (model prog w) A (eqIsQuiet n v) Q E s
noncomputable def jXy (prog:Program) (w:World):KeyV prog w Key 0 where
 is:=fun _ k v=>jVo k v=true
 hash:=keyH w
 draws:=fun _=>1
 inj:=fun hx hy=>(jKh prog w).inj _ _ _ hx hy
 keeps:=fun x _ _ _=>x
 hashed:=fun _ hv h=>(jKh prog w).pyHash hv h
 eqAt:=fun _ hx hy prog' w' _ _ h=>(jKh prog' w').eqBool hx hy h
 quiet:=fun n _ hv h=>by rw[eqIsQuiet_byValue n ((jKh prog w).byValue _ _ hv)];exact lJd h
section
variable {prog:Program} {w:World} {K:Type} [DecidableEq K] {c:Nat}
inductive ItemsV (V:KeyV prog w K c) (h:Heap):List K->List Value->Prop
 | nil:ItemsV V h [] []
 | cons {k:K} {v:Value} {ks:List K} {vs:List Value}:V.is h k v->ItemsV V h ks vs->ItemsV V h (k::ks) (v::vs)
theorem ItemsV.inj {V:KeyV prog w K c} {h:Heap} {x:List K} {vs:List Value} (hx:ItemsV V h x vs):∀ {y:List K},ItemsV V h y vs->x=y:=by
 induction hx with
 | nil=>intro y hy;cases hy;rfl
 | cons a _ ih=>intro y hy;cases hy with | cons b t=>rw[V.inj a b,ih t]
theorem ItemsV.length {V:KeyV prog w K c} {h:Heap} {x:List K} {vs:List Value} (hx:ItemsV V h x vs):x.length=vs.length:=by
 induction hx with
 | nil=>rfl
 | cons _ _ ih=>simp[ih]
theorem ItemsV.get {V:KeyV prog w K c} {h:Heap} {x:List K} {vs:List Value} (hx:ItemsV V h x vs):∀ {j:Nat} {v:Value},vs[j]? =some v->∃k,x[j]? =some k/\V.is h k v:=by
 induction hx with
 | nil=>intro j v e;simp at e
 | cons a _ ih=>
  intro j v e
  cases j with
  | zero=>simp at e;subst e;exact⟨_,rfl,a⟩
  | succ j=>obtain⟨k,h1,h2⟩:=ih (j:=j) (v:=v) (by simpa using e);exact⟨k,by simpa using h1,h2⟩
theorem ItemsV.keeps {V:KeyV prog w K c} {h h':Heap} {x:List K} {vs:List Value} {d:Addr} {o:Obj} {es:Array DictEntry} {ep:Nat} (hx:ItemsV V h x vs) (ho:h.get? d=some o) (hd:o.data= .dict es ep) (hs:Heap.SameBut d h h'):ItemsV V h' x vs:=by
 induction hx with
 | nil=>exact .nil
 | cons a _ ih=>exact .cons (V.keeps a ho hd hs) ih
def jZi (V:KeyV prog w K c) (h:Heap) (ks:List K) (v:Value):Prop:=∃(a:Addr) (o:Obj) (items:Array Value) (n:Nat),v= .ref a/\h.get? a=some o/\o.cls= .type "tuple"/\o.data= .seq items n/\ItemsV V h ks items.toList
theorem all_eq:∀(x y:List K),((List.range (min x.length y.length)).all (fun j=>decide (x[j]? =y[j]?))&&x.length == y.length)=decide (x=y):=by
 intro x y
 by_cases e:x=y
 ·subst e;simp
 ·rw[lJq e,Bool.and_eq_false_iff]
  by_cases l:x.length=y.length
  ·left
   rw[List.all_eq_false]
   have:∃j:Nat,x[j]? ≠y[j]? :=by
    apply lVa
    intro q
    exact e (lVo fun j=>lVa fun z=>q ⟨j,z⟩)
   obtain⟨j,hj⟩:=this
   refine⟨j,lKy.mpr ?_,by simpa using hj⟩
   rcases lV6 j (min x.length y.length) with z | z
   ·exact z
   ·exact absurd (by rw[lKq (by omega),lKq (by omega)]) hj
  ·right;simpa using l
noncomputable def jUc (V:KeyV prog w K c):KeyV prog w (List K) (c+2) where
 is:=jZi V
 hash:=fun ks=>reduceHash (Builtin.Tuple.tupleHashOf (ks.map V.hash))
 draws:=fun ks=>(ks.map V.draws).sum+1
 inj:=by
  rintro h v x y ⟨a,o,items,n,rfl,ho,_,hd,hi⟩ ⟨a',o',items',n',e,ho',_,hd',hi'⟩
  cases e
  rw[ho] at ho';cases ho'
  rw[hd] at hd';cases hd'
  exact hi.inj hi'
 keeps:=by
  rintro h h' k v d o es ep ⟨a,o',items,n,rfl,ho',hc,hd',hi⟩ ho hd hs
  have ne:a≠d:=by
   rintro rfl
   rw[ho] at ho';cases ho'
   rw[hd] at hd';cases hd'
  exact⟨a,o',items,n,rfl,(hs.2 a ne).trans ho',hc,hd',hi.keeps ho hd hs⟩
 hashed:=by
  rintro A E s ks v Q hu ⟨a,o,items,n,rfl,ho,hc,hd,hi⟩ h
  refine PySem.W.pyHash_slot (T:="tuple") ⟨o,ho,hc⟩ F.slot_tuple_hash F.entry_tuple_hash (F.args_tuple_hash_1 _) (beq_builtin_none _) (.inr (by omega)) ?_
  refine (show wpAny _ _ (Builtin.Tuple.tupleItemsOf (.ref a) >>= _) _ _ s from lJa (wpAny_tupleItemsOf ho hd (lJa ?_)))
  rw[<-lX8]
  refine lV1 _ (fun rest (b:Array Int) z=>∃done left,ks=done++left/\ItemsV V s.heap left rest/\b.toList=done.map V.hash/\z={s with toks:=s.toks+(done.map V.draws).sum}) _ ?_ ?_ _ _ ⟨[],ks,rfl,hi,rfl,rfl⟩
  ·rintro x rest b z ⟨done,left,rfl,hl,hb,rfl⟩
   cases hl with
   | @cons k _ ks' _ h1 hl'=>
    refine lJa (V.hashed (by rw[lQp];omega) h1 ?_)
    first
     | exact lJd ⟨done++[k],ks',by simp,hl',by simp[hb],(by simp[Nat.add_assoc])⟩
     | exact lJa (lJd (lJd ⟨done++[k],ks',by simp,hl',by simp[hb],(by simp[Nat.add_assoc])⟩))
  ·rintro b z ⟨done,left,rfl,hl,hb,rfl⟩
   cases hl
   rw[lVp] at h
   refine (show wpAny _ _ (retInt (Builtin.Tuple.tupleHashOf b.toList)) _ _ _ from ?_)
   rw[hb]
   exact lJa (wpAny_mkInt (lJd ⟨_,_,rfl,by simpa[Nat.add_assoc] using h⟩))
 eqAt:=by
  rintro A s x y u v hu ⟨a,o,items,n,rfl,ho,hc,hd,hi⟩ ⟨a',o',items',n',rfl,ho',hc',hd',hi'⟩
  by_cases e:a=a'
  ·subst e
   rw[ho] at ho';cases ho'
   rw[hd] at hd';cases hd'
   rw[hi.inj hi',lJ1 rfl]
   exact SeqAt.EqAt.same _
  ·have R:=SeqAt.RcAt.tuples (A:=A) (s:=s) (l:=a) (b:=a') (e:=fun j=>decide (x[j]? =y[j]?)) ⟨o,ho,hc,n,hd⟩ ⟨o',ho',hc',n',hd'⟩ (by omega) (fun j j1 j2=> ?_)
   ·have l1:=hi.length
    have l2:=hi'.length
    rw[<-all_eq x y,l1,l2]
    have R':=SeqAt.EqAt.of_refs e R
    simpa using R'
   ·obtain⟨k,h1,h2⟩:=hi.get (j:=j) (v:=items[j]) (by simp[j1])
    obtain⟨k',h1',h2'⟩:=hi'.get (j:=j) (v:=items'[j]) (by simp[j2])
    have:=V.eqAt (A:=A.in1) (s:=s) (by rw[lQp];omega) h2 h2'
    rw[h1,h1']
    simpa using this
 quiet:=by
  rintro A E s ks v Q n hn ⟨a,o,items,m,rfl,ho,hc,hd,hi⟩ h
  obtain⟨n,rfl⟩:∃nn,n=nn+1:=⟨n-1,by omega⟩
  have hT:s.TypeIs (.ref a) "tuple":=⟨o,ho,hc⟩
  unfold eqIsQuiet;refine lJa (wpAny_specialOf hT F.slot_tuple_eq.lookup ?_)
  refine (show wpAny _ _ (isInstance (.ref a) (.type "tuple") >>= _) _ _ s from lJa (lX5 hT isSubtype_tuple_tuple ?_))
  simp only[lKc,Bool.not_true,lKj]
  refine lJa (lVl ho hd (lJa ?_))
  refine (show wpAny _ _ (forIn items _ _) _ _ s from ?_)
  rw[<-lX8]
  refine lV1 _ (fun rest r z=>r.1=none/\z=s/\∃left,ItemsV V s.heap left rest) _ ?_ ?_ _ _ ⟨rfl,rfl,ks,hi⟩
  ·rintro x rest r z ⟨hr,rfl,left,hl⟩
   cases hl with
   | cons h1 hl'=>
    refine lJa (V.quiet n (by omega) h1 ?_)
    simp only[lKc,Bool.not_true,lKj]
    exact lJd ⟨rfl,rfl,_,hl'⟩
  ·rintro⟨r1,r2⟩ z ⟨hr,rfl,_⟩
   simp only at hr;subst hr
   exact lJd h
theorem qXl {α β:Type} [DecidableEq α] [DecidableEq β] (a b:α):decide ((Sum.inl a:α ⊕ β)=Sum.inl b)=decide (a=b):=by
 by_cases e:a=b
 ·simp[e]
 ·rw[lJq e,lJq fun z=>e (Sum.inl.inj z)]
theorem qXk {α β:Type} [DecidableEq α] [DecidableEq β] (a b:β):decide ((Sum.inr a:α ⊕ β)=Sum.inr b)=decide (a=b):=by
 by_cases e:a=b
 ·simp[e]
 ·rw[lJq e,lJq fun z=>e (Sum.inr.inj z)]
noncomputable def kVx (V:KeyV prog w K c):KeyV prog w (Key ⊕ List K) (c+2) where
 is:=fun h k v=>match k with
  | .inl k=>jVo k v=true
  | .inr ks=>jZi V h ks v
 hash:=fun k=>match k with
  | .inl k=>keyH w k
  | .inr ks=>(jUc V).hash ks
 draws:=fun k=>match k with
  | .inl _=>1
  | .inr ks=>(jUc V).draws ks
 inj:=by
  rintro h v (x | x) (y | y) hx hy
  ·rw[(jKh prog w).inj _ _ _ hx hy]
  ·obtain⟨a,_,_,_,rfl,_⟩:=hy
   rcases jJr hx with ⟨i,t,_,e⟩ | ⟨i,t,_,e⟩<;>cases e
  ·obtain⟨a,_,_,_,rfl,_⟩:=hx
   rcases jJr hy with ⟨i,t,_,e⟩ | ⟨i,t,_,e⟩<;>cases e
  ·rw[(jUc V).inj hx hy]
 keeps:=by
  rintro h h' (k | k) v d o es ep hx ho hd hs
  ·exact hx
  ·exact (jUc V).keeps hx ho hd hs
 hashed:=by
  rintro A E s (k | k) v Q hu hx h
  ·exact (jKh prog w).pyHash hx h
  ·exact (jUc V).hashed hu hx h
 eqAt:=by
  rintro A s (x | x) (y | y) u v hu hx hy
  ·rw[qXl]
   exact (jXy prog w).eqAt (by omega) hx hy
  ·rw[lJq fun z=>nomatch z]
   obtain⟨a,o,items,n,rfl,ho,hc,hd,_⟩:=hy
   rcases jJr hx with ⟨i,t,_,rfl⟩ | ⟨i,t,_,rfl⟩
   ·exact SeqAt.EqAt.int_tuple i t ⟨o,ho,hc,n,hd⟩ (by omega)
   ·exact SeqAt.EqAt.str_tuple i t ⟨o,ho,hc,n,hd⟩ (by omega)
  ·rw[lJq fun z=>nomatch z]
   obtain⟨a,o,items,n,rfl,ho,hc,hd,_⟩:=hx
   rcases jJr hy with ⟨i,t,_,rfl⟩ | ⟨i,t,_,rfl⟩
   ·exact SeqAt.EqAt.tuple_int i t ⟨o,ho,hc,n,hd⟩ (by omega)
   ·exact SeqAt.EqAt.tuple_str i t ⟨o,ho,hc,n,hd⟩ (by omega)
  ·rw[qXk]
   exact (jUc V).eqAt hu hx hy
 quiet:=by
  rintro A E s (k | k) v Q n hn hx h
  ·exact (jXy prog w).quiet n (lJu _) hx h
  ·exact (jUc V).quiet n hn hx h
end
abbrev K1:=Key ⊕ List Key
abbrev K2:=Key ⊕ List K1
abbrev TKey:=List K2
def vk1 (prog:Program) (w:World):KeyV prog w K1 2:=kVx (jXy prog w)
def vk2 (prog:Program) (w:World):KeyV prog w K2 4:=kVx (vk1 prog w)
noncomputable def jJg (prog:Program) (w:World):HeapKind prog w TKey where
 is:=fun h ks a=>(jUc (vk2 prog w)).is h ks (.ref a)
 hash:=(jUc (vk2 prog w)).hash
 draws:=(jUc (vk2 prog w)).draws
 room:=fun A=>A.units+6<cLine
 inj:=fun hx hy=>(jUc (vk2 prog w)).inj hx hy
 keeps:=fun x ho hd hs=>(jUc (vk2 prog w)).keeps x ho hd hs
 pyHash:=fun hu hk h=>(jUc (vk2 prog w)).hashed hu hk h
 eqBool:=fun hu hx hy h=>(jUc (vk2 prog w)).eqAt hu hx hy _ _ _ _ h
 quiet:=fun hk h=>(jUc (vk2 prog w)).quiet 8 (by decide) hk h
theorem jKz {prog:Program} {w:World} {A:Around} (hu:A.units+20<cLine):(jJg prog w).room A.in1:=by
 show A.in1.units+6<cLine
 rw[lQp];omega
inductive V where
 | non | bl (b:Bool) | int (i:Int) | str (x:Str) | byt (b:Array UInt8) | flt (b:UInt64) | ref (a:Addr) | ty (n:String)
 deriving DecidableEq
noncomputable def RelV:V->Value->Prop
 | .non,u=>u=Value.none
 | .bl b,u=>u=Value.bool b
 | .int i,u=>∃t,u=Value.int i t
 | .str x,u=>∃t,u=Value.str x t
 | .byt b,u=>∃t,u=Value.bytes b t
 | .flt b,u=>∃t,u=Value.float b t
 | .ref a,u=>u=Value.ref a
 | .ty n,u=>u=Value.type n
abbrev Vals:List V->List Value->Prop:=Paired RelV
theorem Vals.length {xs:List V} {us:List Value} (r:Vals xs us):xs.length=us.length:=lV7 r
theorem Vals.get:∀ {xs:List V} {us:List Value} {i:Nat} {x:V},Vals xs us->xs[i]? =some x->∃u,us[i]? =some u/\RelV x u
 | _,_,_,_,.nil,e=>by simp at e
 | _,_,0,_,.cons r _,e=>by simp at e;subst e;exact⟨_,rfl,r⟩
 | _,_,i+1,x,.cons _ t,e=>by
  obtain⟨u,h1,h2⟩:=Vals.get (i:=i) (x:=x) t (by simpa using e)
  exact⟨u,by simpa using h1,h2⟩
theorem Vals.set {x:V} {u:Value} (r:RelV x u):∀ {xs:List V} {us:List Value} (i:Nat),Vals xs us->Vals (xs.set i x) (us.set i u)
 | _,_,_,.nil=> .nil
 | _,_,0,.cons _ t=> .cons r t
 | _,_,i+1,.cons q t=> .cons q (Vals.set r i t)
theorem Vals.append:∀ {xs ys:List V} {us ws:List Value},Vals xs us->Vals ys ws->Vals (xs++ys) (us++ws)
 | _,_,_,_,.nil,s=>s
 | _,_,_,_,.cons r t,s=> .cons r (Vals.append t s)
theorem Vals.take:∀ {xs:List V} {us:List Value} (n:Nat),Vals xs us->Vals (xs.take n) (us.take n)
 | _,_,0,_=> .nil
 | _,_,_+1,.nil=> .nil
 | _,_,n+1,.cons r t=> .cons r (Vals.take n t)
theorem Vals.drop:∀ {xs:List V} {us:List Value} (n:Nat),Vals xs us->Vals (xs.drop n) (us.drop n)
 | _,_,0,r=>r
 | _,_,_+1,.nil=> .nil
 | _,_,n+1,.cons _ t=>Vals.drop n t
theorem Vals.none_of:∀ {xs:List V} {us:List Value} {i:Nat},Vals xs us->xs[i]? =none->us[i]? =none:=fun {xs us i} r e=>by
 have h1:=r.length
 have h2:xs.length<=i:=lYn.mp e
 exact lYn.mpr (by omega)
def RelO:Option V->Option Value->Prop
 | some v,some u=>RelV v u
 | none,none=>True
 | _,_=>False
def KV {κ:Type}:List (κ×V)->List (κ×Value)->Prop:=Paired fun (p:κ×V) (q:κ×Value)=>p.1=q.1/\RelV p.2 q.2
def kV:Key->V
 | .inl i=> .int i
 | .inr x=> .str x
inductive HO where
  | lst (xs:List V)
  | tup (xs:List V)
  | dK (kvs:List (Key×V)) | dT (kvs:List (TKey×V))
  | set (S:Int->Bool) (n:Nat)
  | ins (C dx:Addr) (fs:List (Str×V))
  | own (x:Addr)
  | xd (fs:List (Str×V))
  | met (f x:Addr)
  | rng (lo hi:Int)
  | frz (o:Obj) (u:HO)
  | tbl (ps:Array Value)
  | ext (φ:Heap->Prop)
abbrev Hp:=Addr->Option HO
def upd (H:Hp) (a:Addr) (o:HO):Hp:=fun b=>if b=a then some o else H b
theorem jKp {H:Hp} {a:Addr} {o:HO}:upd H a o a=some o:=by unfold upd;rw[lJc rfl]
theorem jJ2 {H:Hp} {a b:Addr} {o:HO} (h:b≠a):upd H a o b=H b:=by unfold upd;rw[lJb h]
theorem ne_of {H:Hp} {a b:Addr} {o u:HO} (h:H a=some o) (h':H b=some u) (d:o≠u):a≠b:=by
 intro e;subst e;rw[h] at h';exact d (lJw h')
theorem jQ4 {H:Hp} {a b:Addr} {o:HO} (h:H a=some o) (h':H b=none):a≠b:=by
 intro e;subst e;rw[h] at h';cases h'
def Rk1 (H:Hp) (k:K1) (v:V):Prop:=match k with
 | .inl k=>v=kV k
 | .inr ks=>∃p vs,v= .ref p/\H p=some (.tup vs)/\Paired (fun k v=>v=kV k) ks vs
def Rk2 (H:Hp) (k:K2) (v:V):Prop:=match k with
 | .inl k=>v=kV k
 | .inr ks=>∃p vs,v= .ref p/\H p=some (.tup vs)/\Paired (Rk1 H) ks vs
def TKeyAt (H:Hp) (ks:TKey) (a:Addr):Prop:=∃vs,H a=some (.tup vs)/\Paired (Rk2 H) ks vs
theorem jVm {α β:Type} {F G:α->β->Prop} (f:∀a b,F a b->G a b):∀ {l:List α} {m:List β},Paired F l m->Paired G l m
 | _,_,.nil=> .nil
 | _,_,.cons r t=> .cons (f _ _ r) (jVm f t)
theorem Rk1.mono {H H':Hp} (ht:∀b ys,H b=some (.tup ys)->H' b=some (.tup ys)) (k:K1) (v:V) (r:Rk1 H k v):Rk1 H' k v:=by
 cases k with
 | inl k=>exact r
 | inr ks=>obtain⟨p,vs,e,h,t⟩:=r;exact⟨p,vs,e,ht _ _ h,t⟩
theorem Rk2.mono {H H':Hp} (ht:∀b ys,H b=some (.tup ys)->H' b=some (.tup ys)) (k:K2) (v:V) (r:Rk2 H k v):Rk2 H' k v:=by
 cases k with
 | inl k=>exact r
 | inr ks=>obtain⟨p,vs,e,h,t⟩:=r;exact⟨p,vs,e,ht _ _ h,jVm (Rk1.mono ht) t⟩
theorem TKeyAt.mono {H H':Hp} {ks:TKey} {a:Addr} (r:TKeyAt H ks a) (ht:∀b ys,H b=some (.tup ys)->H' b=some (.tup ys)):TKeyAt H' ks a:=by
 obtain⟨vs,h,t⟩:=r;exact⟨vs,ht _ _ h,jVm (Rk2.mono ht) t⟩
section
variable (P:Program) (w:World)
def TupD (h:Heap) (a:Addr) (items:Array Value):Prop:=∃o,h.get? a=some o/\o.cls= .type "tuple"/\∃n,o.data= .seq items n/\o.dict=none
theorem TupD.is {h:Heap} {a:Addr} {items:Array Value} (x:TupD h a items):IsTup h a items:=let ⟨o,e,c,n,d,_⟩:=x;⟨o,e,c,n,d⟩
theorem TupD.new (h:Heap) (items:Array Value):TupD (h.push {cls:= .type "tuple",data:= .seq items}) h.objs.size items:=⟨_,lJ6 _ rfl,rfl,_,rfl,rfl⟩
noncomputable def ObjOk (H:Hp) (h:Heap) (a:Addr):HO->Prop
 | .lst xs=>xs.length<=sizeLine/\∃(its:List Value) (n:Nat),Vals xs its/\h.get? a=some {cls:= .type "list",data:= .seq its.toArray n}
 | .tup xs=>xs.length<=sizeLine/\∃its:List Value,Vals xs its/\TupD h a its.toArray
 | .dK kvs=>kvs.length<=sizeLine/\(a == sysModules)=false/\∃vs,KV kvs vs/\h.DictOf (jKh P w) a vs
 | .dT kvs=>kvs.length<=sizeLine/\(a == sysModules)=false/\∃xs:List (TKey×Addr×Value),
   Paired (fun (p:TKey×V) (q:TKey×Addr×Value)=>p.1=q.1/\TKeyAt H p.1 q.2.1/\RelV p.2 q.2.2) kvs xs/\
   ∃o es ep,h.get? a=some o/\o.ExactDict/\o.data= .dict es ep/\es.toList=xs.map (entryOfKey (jJg P w))/\(xs.map (·.1)).Nodup
 | .set S n=>h.SetOf (intKind P w) a S n
 | .ins C dx fs=>H dx=some (.own a)/\fs.length<=1000/\dx≠a/\h.get? a=some (PySem.W.instObj C dx)/\
   ∃mA,h.Ns1 dx mA/\(∀f,RelO (fs.lookup f) (mA f))/\PySem.Within mA (fs.map (·.1))
 | .own _=>∃o,h.get? a=some o
 | .xd fs=>∃mA,h.Ns1 a mA/\∀f,RelO (fs.lookup f) (mA f)
 | .rng lo hi=>∃t u v,h.get? a=some {cls:= .type "range",data:= .fields #[.int lo t,.int hi u,.int 1 v]}
 | .frz o u=>h.get? a=some o/\ObjOk H h a u
 | .tbl ps=>h.get? a=some {cls:= .none,data:= .fields ps}
 | .met f x=>h.get? a=some (PySem.W.methodObj (.ref f) (.ref x))
 | .ext φ=>φ h/\(∃o,h.get? a=some o)/\∀h1 h2:Heap,φ h1->(∀o,h1.get? a=some o->h2.get? a=some o)->φ h2
def HOk (H:Hp) (h:Heap):Prop:=∀a o,H a=some o->ObjOk P w H h a o
end
section
variable {P:Program} {w:World} {H H':Hp} {h h':Heap} {a:Addr} {o:HO}
theorem ObjOk.lt (x:ObjOk P w H h a o):a<h.objs.size:=by
 cases o with
 | lst xs=>obtain⟨_,_,_,_,e⟩:=x;exact lJj e
 | tup xs=>obtain⟨_,_,_,p⟩:=x;exact p.is.lt
 | dK kvs=>obtain⟨_,_,_,_,o,_,_,e,_⟩:=x;exact lJj e
 | dT kvs=>obtain⟨_,_,_,_,o,_,_,e,_⟩:=x;exact lJj e
 | set S n=>obtain⟨o,_,_,_,e,_⟩:=x;exact lJj e
 | ins C dx fs=>obtain⟨_,_,_,e,_⟩:=x;exact lJj e
 | own y=>obtain⟨_,e⟩:=x;exact lJj e
 | xd fs=>obtain⟨_,⟨_,_,_,e,_⟩,_⟩:=x;exact lJj e
 | rng lo hi=>obtain⟨_,_,_,e⟩:=x;exact lJj e
 | frz ob u=>obtain⟨e,_⟩:=x;exact lJj e
 | tbl ps=>exact lJj (show h.get? a=some _ from x)
 | met f y=>exact lJj (show h.get? a=some _ from x)
 | ext φ=>obtain⟨_,⟨_,e⟩,_⟩:=x;exact lJj e
theorem Paired.mapP {α β:Type} {F G:α->β->Prop}:∀ {l₁:List α} {l₂:List β},Paired F l₁ l₂->(∀a b,F a b->G a b)->Paired G l₁ l₂
 | _,_,.nil,_=> .nil
 | _,_,.cons r t,f=> .cons (f _ _ r) (Paired.mapP t f)
theorem ObjOk.stay (x:ObjOk P w H h a o) (k:∀b u,(b=a\/H b=some (.own a))->h.get? b=some u->h'.get? b=some u)
  (ho:∀b,H b=some (.own a)->H' b=some (.own a)) (ht:∀b xs,H b=some (.tup xs)->H' b=some (.tup xs)):ObjOk P w H' h' a o:=by
 induction o with
 | lst xs=>obtain⟨z,its,n,r,e⟩:=x;exact⟨z,its,n,r,k _ _ (.inl rfl) e⟩
 | tup xs=>obtain⟨z,its,r,ob,e,c⟩:=x;exact⟨z,its,r,ob,k _ _ (.inl rfl) e,c⟩
 | dK kvs=>obtain⟨z,y,vs,r,ob,es,ep,e,c⟩:=x;exact⟨z,y,vs,r,ob,es,ep,k _ _ (.inl rfl) e,c⟩
 | dT kvs=>
  obtain⟨z,y,xs,r,ob,es,ep,e,c⟩:=x
  exact⟨z,y,xs,Paired.mapP r fun p q z=>⟨z.1,z.2.1.mono ht,z.2.2⟩,ob,es,ep,k _ _ (.inl rfl) e,c⟩
 | set S n=>obtain⟨ob,es,ep,t,e,c⟩:=x;exact⟨ob,es,ep,t,k _ _ (.inl rfl) e,c⟩
 | ins C dx fs=>
  obtain⟨d,z,ne,e,mA,⟨od,es,ep,e2,c⟩,r⟩:=x
  exact⟨ho _ d,z,ne,k _ _ (.inl rfl) e,mA,⟨od,es,ep,k _ _ (.inr d) e2,c⟩,r⟩
 | own y=>obtain⟨ob,e⟩:=x;exact⟨ob,k _ _ (.inl rfl) e⟩
 | xd fs=>obtain⟨mA,⟨od,es,ep,e,c⟩,r⟩:=x;exact⟨mA,⟨od,es,ep,k _ _ (.inl rfl) e,c⟩,r⟩
 | rng lo hi=>obtain⟨t,u,v,e⟩:=x;exact⟨t,u,v,k _ _ (.inl rfl) e⟩
 | frz ob u ih=>obtain⟨e,q⟩:=x;exact⟨k _ _ (.inl rfl) e,ih q⟩
 | tbl ps=>
  have e:h.get? a=some {cls:= .none,data:= .fields ps}:=x
  show h'.get? a=some {cls:= .none,data:= .fields ps}
  exact k a _ (.inl rfl) e
 | met f y=>
  have e:h.get? a=some (PySem.W.methodObj (.ref f) (.ref y)):=x
  show h'.get? a=some (PySem.W.methodObj (.ref f) (.ref y))
  exact k a _ (.inl rfl) e
 | ext φ=>obtain⟨p,⟨o,e⟩,st⟩:=x;exact⟨st _ _ p fun o q=>k _ _ (.inl rfl) q,⟨o,k _ _ (.inl rfl) e⟩,st⟩
theorem HOk.lt (x:HOk P w H h) (e:H a=some o):a<h.objs.size:=(x a o e).lt
theorem HOk.fresh (x:HOk P w H h) (e:h.objs.size<=a):H a=none:=by
 cases q:H a with
 | none=>rfl
 | some u=>exact absurd (lJ7 (x.lt q) e) (lQq _)
theorem HOk.kept (x:HOk P w H h) (k:∀b u,h.get? b=some u->h'.get? b=some u):HOk P w H h':=fun a o e=>
 (x a o e).stay (fun b u _ q=>k b u q) (fun _ q=>q) fun _ _ q=>q
theorem HOk.laid (x:HOk P w H h) (k:∀b u,h.get? b=some u->h'.get? b=some u) (hp:h.objs.size<=a) (new:ObjOk P w (upd H a o) h' a o):HOk P w (upd H a o) h':=fun b u e=>by
 have hn:=x.fresh hp
 by_cases hb:b=a
 ·subst hb;rw[jKp] at e;cases e;exact new
 ·rw[jJ2 hb] at e
  exact (x b u e).stay (fun c v _ q=>k c v q) (fun c q=>by rw[jJ2 (jQ4 q hn)];exact q) fun c xs q=>by rw[jJ2 (jQ4 q hn)];exact q
end
def Rd (H:Hp) (a:Addr) (u:HO):Prop:=H a=some u\/∃o,H a=some (.frz o u)
theorem Rd.ok {P:Program} {w:World} {H:Hp} {h:Heap} {a:Addr} {u:HO} (r:Rd H a u) (x:HOk P w H h):ObjOk P w H h a u:=by
 rcases r with r | ⟨o,r⟩
 ·exact x a u r
 ·obtain⟨_,q⟩:=x a _ r
  exact q
def Mut:Option HO->Prop
 | some (.lst _)=>True
 | some (.dK _)=>True
 | some (.dT _)=>True
 | some (.set _ _)=>True
 | some (.ins _ _ _)=>True
 | some (.ext _)=>True
 | _=>False
section
variable {P:Program} {w:World} {H:Hp} {h h':Heap} {x e:Addr} {o':HO}
theorem HOk.write (ok:HOk P w H h) (mu:Mut (H x)) (he:e=x\/H e=some (.own x)) (k:∀b u,b≠e->h.get? b=some u->h'.get? b=some u) (heo:∃u,h'.get? e=some u)
  (new:ObjOk P w (upd H x o') h' x o'):HOk P w (upd H x o') h':=fun b u q=>by
 have nown:∀c y,H c=some (.own y)->c≠x:=fun c y r z=>by subst z;rw[r] at mu;exact mu
 have ntup:∀c xs,H c=some (.tup xs)->c≠x:=fun c xs r z=>by subst z;rw[r] at mu;exact mu
 by_cases hb:b=x
 ·subst hb;rw[jKp] at q;cases q;exact new
 ·rw[jJ2 hb] at q
  by_cases hbe:b=e
  ·have q':H b=some (.own x):=by
    rcases he with z | z
    ·exact absurd (hbe.trans z) hb
    ·rw[hbe];exact z
   rw[q] at q';cases q'
   obtain⟨v,hv⟩:=heo
   exact⟨v,by rw[hbe];exact hv⟩
  ·refine (ok b u q).stay (fun c v hc r=>k c v ?_ r) (fun c r=>by rw[jJ2 (nown c b r)];exact r) fun c xs r=>by rw[jJ2 (ntup c xs r)];exact r
   rcases hc with rfl | hc
   ·exact hbe
   ·rintro rfl
    rcases he with z | z
    ·exact nown c b hc z
    ·rw[hc] at z;cases z;exact hb rfl
end
structure Un (fs ex:List Addr) (H H':Hp) (h h':Heap):Prop where
 keep:∀b o,h.get? b=some o->H b=none->b∉fs->b∉ex->h'.get? b=some o
 slot:∀b o,h.get? b=some o->H b=none->b∈fs->b∉ex->∃sl,h'.get? b=some {o with slots:=sl}
 free:∀b o,h.get? b=some o->H b=none->b∉ex->H' b=none
 there:∀b o,h.get? b=some o->b∉ex->∃o',h'.get? b=some o'
 tups:∀b xs,H b=some (.tup xs)->H' b=some (.tup xs)
 frzs:∀b o u,H b=some (.frz o u)->H' b=some (.frz o u)
 tbls:∀b ps,H b=some (.tbl ps)->∃more,H' b=some (.tbl (ps++more))
section
variable {fs fs' ex ex':List Addr} {H H1 H2:Hp} {h h1 h2 h':Heap} {a x e:Addr} {o:HO}
theorem Un.any (u:Un fs ex H H1 h h1) {b:Addr} {ob:Obj} (q:h.get? b=some ob) (n:H b=none) (hx:b∉ex):∃sl,h1.get? b=some {ob with slots:=sl}:=by
 by_cases hb:b∈fs
 ·exact u.slot b ob q n hb hx
 ·exact⟨ob.slots,u.keep b ob q n hb hx⟩
theorem Un.kept (k:∀b u,h.get? b=some u->h'.get? b=some u):Un fs ex H H h h':=
 ⟨fun b ob q _ _ _=>k b ob q,fun b ob q _ _ _=>⟨ob.slots,k b ob q⟩,fun _ _ _ n _=>n,fun b ob q _=>⟨ob,k b ob q⟩,fun _ _ q=>q,fun _ _ _ q=>q,fun _ ps q=>⟨#[],by rw[q];simp⟩⟩
theorem Un.refl:Un fs ex H H h h:=Un.kept fun _ _ q=>q
theorem Un.laid (k:∀b u,h.get? b=some u->h'.get? b=some u) (hp:h.objs.size<=a) (hn:H a=none):Un fs ex H (upd H a o) h h' where
 keep:=fun b u q _ _ _=>k b u q
 slot:=fun b u q _ _ _=>⟨u.slots,k b u q⟩
 free:=fun b u q n _=>by rw[jJ2 (lJr (lJ7 (lJj q) hp))];exact n
 there:=fun b u q _=>⟨u,k b u q⟩
 tups:=fun b xs q=>by rw[jJ2 (jQ4 q hn)];exact q
 frzs:=fun b u xs q=>by rw[jJ2 (jQ4 q hn)];exact q
 tbls:=fun b ps q=>⟨#[],by rw[jJ2 (jQ4 q hn),q];simp⟩
theorem Un.write (mu:Mut (H x)) (he:e=x\/H e=some (.own x)) (k:∀b u,b≠e->h.get? b=some u->h'.get? b=some u) (heo:∃u,h'.get? e=some u):Un fs ex H (upd H x o) h h':=by
 have hx:∀b,H b=none->b≠x:=fun b n z=>by subst z;rw[n] at mu;exact mu
 have hb:∀b,H b=none->b≠e:=fun b n z=>by
  subst z
  rcases he with r | r
  ·exact hx b n r
  ·rw[n] at r;cases r
 have hm:∀b u,H b=some u->¬ Mut (some u)->b≠x:=fun b u q nm z=>by subst z;rw[q] at mu;exact nm mu
 refine⟨fun b u q n _ _=>k b u (hb b n) q,fun b u q n _ _=>⟨u.slots,k b u (hb b n) q⟩,fun b u q n _=>by rw[jJ2 (hx b n)];exact n,fun b u q _=> ?_,
  fun b xs q=>by rw[jJ2 (hm b _ q fun z=>z)];exact q,fun b u xs q=>by rw[jJ2 (hm b _ q fun z=>z)];exact q,fun b ps q=>⟨#[],by rw[jJ2 (hm b _ q fun z=>z),q];simp⟩⟩
 by_cases hbe:b=e
 ·subst hbe;exact heo
 ·exact⟨u,k b u hbe q⟩
end
def trk (h:Heap) (H:Hp):List Addr:=(List.range h.objs.size).filter fun a=>(H a).isSome
def hidT (h:Heap) (H:Hp):Heap:=PySem.W.hideAll h (trk h H)
theorem kZt (h:Heap) (H:Hp):(hidT h H).objs.size=h.objs.size:=PySem.W.hideAll_size _ _
theorem qQh {h:Heap} {H:Hp} {b:Addr} {o:Obj} (e:h.get? b=some o) (n:H b=none):(hidT h H).get? b=some o:=
 PySem.W.hideAll_get _ e fun hm=>by
  have q:(H b).isSome=true:=(lVb.mp hm).2
  rw[n] at q;simp at q
theorem qVn {h:Heap} {H:Hp} {b:Addr} {o:Obj} (e:(hidT h H).get? b=some o):h.get? b=some o/\H b=none:=by
 have e':h.get? b=some o:=PySem.W.of_hideAll (trk h H) e
 refine⟨e',?_⟩
 cases q:H b with
 | none=>rfl
 | some x=>
  have hm:b∈trk h H:=lVb.mpr ⟨lKy.mpr (lJj e'),by simp[q]⟩
  have z:(hidT h H).get? b=none:=PySem.W.hideAll_none (trk h H) hm
  rw[z] at e;cases e
def qXt (g h:Heap) (L:Addr):List (Addr×Obj):=(List.range h.objs.size).filterMap fun a=>if a=L\/(g.get? a).isSome=true then none else (h.get? a).map fun o=>(a,o)
def rest (g h:Heap) (L d:Addr):List (Addr×Obj):=(qXt g h L).filter fun p=>decide (p.1≠d)
structure Mod (K:PySem.W.Frag) (mg:Str->Option Value) (base:Heap):Prop where
 kin:K.In base
 glob:base.Ns mainGlobals mg
 blt:∃mb,base.Ns builtinsNs mb/\∀x:Str,x≠"__name__"->mb x=bootBuiltins x
 nolimit:base.NoLimit
structure Cx where
 prog:Program
 w:World
 K:PySem.W.Frag
 mg:Str->Option Value
 base:Heap
 A:Around
 N:List Str
 s₀:Shared
 H₀:Hp
 env:Env
 outer:List Env
 stack:List Env
 ex:List Addr
 fn:Str->Bool
 calm:Bool
 pn:List (Addr×Obj)
 xe:Value->Shared->Prop
def frs (l:List Env):List Addr:=l.filterMap (·.frame)
abbrev Cx.fs (X:Cx):List Addr:=frs X.outer
def Vis (sc:Scope) (x:Str):Prop:=sc.names.lookup x=some .local\/sc.names.lookup x=some .cell\/sc.names.lookup x=some .free
def Loc (sc:Scope) (x:Str):Prop:=sc.names.lookup x=some .local\/sc.names.lookup x=some .cell
def Look (env:Env) (h:Heap) (m:Str->Option Value) (x:Str) (u:Value):Prop:=
 (env.kindOf x=some .local/\m x=some u)\/((env.kindOf x=some .cell\/env.kindOf x=some .free)/\∃c,env.cells.lookup x=some c/\h.IsCell c (some u))
structure Cx.Ok (X:Cx):Prop where
 mod:Mod X.K X.mg X.base
 kind:X.env.scope.kind= .function
 glob:X.env.globals=mainGlobals
 blt:X.env.builtins=builtinsNs
 above:X.s₀.heap.objs.size<=X.env.locals
 inj:∀x y c,X.env.cells.lookup x=some c->X.env.cells.lookup y=some c->x=y
 has:∀x,(X.env.kindOf x=some .cell\/X.env.kindOf x=some .free)->∃c,X.env.cells.lookup x=some c
 cab:∀x c,X.fn x=true->X.env.cells.lookup x=some c->X.s₀.heap.objs.size<=c
 hd:X.calm=true->X.A.handled=none
 gd:X.calm=true->X.A.guards=some []
 frames:X.A.frames=some X.stack
 stk:X.stack=X.outer\/(X.stack=X.env::X.outer/\X.env.frame=some X.env.locals)
 exf:∀b∈X.ex,b≠X.env.locals/\∀x c,X.env.cells.lookup x=some c->c≠b
 bs:∀b o,X.base.get? b=some o->X.s₀.heap.get? b=some o/\X.H₀ b=none
 bsz:X.base.objs.size<=X.s₀.heap.objs.size
 noex:∀b o,X.base.get? b=some o->b∉X.ex
 exfs:∀b∈X.ex,b∉X.fs
 funs:X.s₀.heap.FunFrames X.base X.outer
 frf:∀b∈X.fs,X.H₀ b=none
structure Inv (X:Cx) (pins:List (Addr×Obj)) (σ:List (Option V)) (H:Hp) (s:Shared):Prop where
 ok:X.Ok
 os:s.os=X.s₀.os
 bare:AllBare s.gens
 base:Un X.fs X.ex X.H₀ H X.s₀.heap s.heap
 loc:∃m,s.heap.Ns X.env.locals m/\∀(i:Nat) (x:Str) (v:V),X.N[i]? =some x->σ[i]? =some (some v)->Vis X.env.scope x->∃u,RelV v u/\Look X.env s.heap m x u
 cell:∀x c,X.env.cells.lookup x=some c->∃v,s.heap.IsCell c v
 free:H X.env.locals=none
 freeC:∀x c,X.env.cells.lookup x=some c->H c=none
 pin:∀p∈X.pn++pins,s.heap.get? p.1=some p.2/\H p.1=none/\p.1≠X.env.locals/\p.1∉X.fs/\∀v,p.2.data≠ .cell v
 hok:HOk X.prog X.w H s.heap
 len:σ.length=X.N.length
section
variable {X:Cx} {pins:List (Addr×Obj)} {σ:List (Option V)} {H H':Hp} {s:Shared} {h':Heap}
theorem Cx.Ok.nofr (ok:X.Ok) {b:Addr} {o:Obj} (e:X.base.get? b=some o):b∉X.fs:=fun hb=>by
 have:=(ok.funs.mem hb).1
 rw[e] at this;cases this
theorem Inv.bs (I:Inv X pins σ H s):∀b o,X.base.get? b=some o->s.heap.get? b=some o/\H b=none:=fun b o e=>
 ⟨I.base.keep b o (I.ok.bs b o e).1 (I.ok.bs b o e).2 (I.ok.nofr e) (I.ok.noex b o e),I.base.free b o (I.ok.bs b o e).1 (I.ok.bs b o e).2 (I.ok.noex b o e)⟩
theorem Inv.bk (I:Inv X pins σ H s):∀b o,X.base.get? b=some o->s.heap.get? b=some o:=fun b o e=>(I.bs b o e).1
theorem Inv.mod (I:Inv X pins σ H s):Mod X.K X.mg X.base:=I.ok.mod
theorem Inv.kIn (I:Inv X pins σ H s):X.K.In s.heap:=I.ok.mod.kin.keeps I.bk
theorem Inv.lt (I:Inv X pins σ H s):X.env.locals<s.heap.objs.size:=let ⟨_,hn,_⟩:=I.loc;hn.lt
theorem Inv.sz (I:Inv X pins σ H s):X.s₀.heap.objs.size<=s.heap.objs.size:=lKo I.ok.above (lVq I.lt)
theorem Inv.nofs (I:Inv X pins σ H s) {a:Addr} (h:s.heap.objs.size<=a):a∉X.fs:=fun hb=>by
 obtain⟨_,o,ho,_⟩:=I.ok.funs.mem hb
 exact absurd (lJ7 (lJj ho) (lKo I.sz h)) (lQq _)
theorem Inv.cne (I:Inv X pins σ H s):∀x c,X.env.cells.lookup x=some c->c≠X.env.locals:=fun x c e z=>by
 obtain⟨v,o,ho,hd⟩:=I.cell x c e
 obtain⟨m,⟨o',es,ep,ho',hd',_⟩,_⟩:=I.loc
 rw[z,ho'] at ho;cases ho;rw[hd'] at hd;cases hd
theorem Inv.funs (I:Inv X pins σ H s):s.heap.FunFrames X.base X.outer:=by
 have all:∀(l:List Env),(∀b∈frs l,b∈X.fs)->X.s₀.heap.FunFrames X.base l->s.heap.FunFrames X.base l:=by
  intro l
  induction l with
  | nil=>intro _ _;trivial
  | cons env r ih=>
   intro hs hl
   obtain⟨hk,⟨L,o,hf,hn,ho,hd⟩,hr⟩:=hl
   have hL:L∈X.fs:=hs L (by unfold frs;rw[lKz,hf];exact lJx)
   obtain⟨sl,e⟩:=I.base.slot L o ho (I.ok.frf L hL) hL fun z=>I.ok.exfs L z hL
   exact⟨hk,⟨L,_,hf,hn,e,hd⟩,ih (fun b hb=>hs b (by unfold frs;rw[lKz,hf];exact lJz _ hb)) hr⟩
 exact all X.outer (fun _ hb=>hb) I.ok.funs
theorem Inv.stack (I:Inv X pins σ H s):s.heap.FunFrames X.base X.stack:=by
 rcases I.ok.stk with e | ⟨e,hf⟩
 ·rw[e];exact I.funs
 ·rw[e]
  obtain⟨m,hn,_⟩:=I.loc
  refine .cons (by rw[I.ok.kind];decide) hf hn ?_ I.funs
  exact Heap.get?_none_of_le (lKo I.ok.bsz I.ok.above)
theorem Inv.stkSub (I:Inv X pins σ H s):∀b∈frs X.stack,b∈X.env.locals::X.fs:=fun b hb=>by
 rcases I.ok.stk with e | ⟨e,hf⟩
 ·rw[e] at hb;exact lJz _ hb
 ·rw[e] at hb
  unfold frs at hb
  rw[lKz,hf] at hb
  exact hb
theorem Inv.stkFree (I:Inv X pins σ H s):∀b∈frs X.stack,H b=none:=fun b hb=>by
 rcases lJk.mp (I.stkSub b hb) with e | hb
 ·rw[e];exact I.free
 ·obtain⟨_,o,ho,_⟩:=I.ok.funs.mem hb
  exact I.base.free b o ho (I.ok.frf b hb) fun z=>I.ok.exfs b z hb
theorem Inv.step {g':Array GenState} {t':Nat} {d':Drawn} {ch:List Addr} (I:Inv X pins σ H s)
  (hch:∀b∈ch,(b∈X.ex\/X.s₀.heap.objs.size<=b)/\b≠X.env.locals/\(∀x c,X.env.cells.lookup x=some c->c≠b)/\∀p∈X.pn++pins,p.1≠b)
  (keep:∀b o,b≠X.env.locals->b∉X.fs->b∉ch->s.heap.get? b=some o->H b=none->h'.get? b=some o)
  (slot:∀b o,b≠X.env.locals->b∈X.fs->b∉ch->s.heap.get? b=some o->H b=none->∃sl,h'.get? b=some {o with slots:=sl}) (free:∀b o,b∉ch->s.heap.get? b=some o->H b=none->H' b=none)
  (there:∀b o,b∉ch->s.heap.get? b=some o->∃o',h'.get? b=some o')
  (tups:∀b xs,H b=some (.tup xs)->H' b=some (.tup xs)) (frzs:∀b o u,H b=some (.frz o u)->H' b=some (.frz o u)) (tbls:∀b ps,H b=some (.tbl ps)->∃more,H' b=some (.tbl (ps++more)))
  (ns:∀m,s.heap.Ns X.env.locals m->h'.Ns X.env.locals m) (hok:HOk X.prog X.w H' h') (hg:AllBare g'):
  Inv X pins σ H' {s with heap:=h',gens:=g',drawn:=d',toks:=t'}:=by
 have neL:∀b o,X.s₀.heap.get? b=some o->b≠X.env.locals:=fun b o e=>lJr (lJ7 (lJj e) I.ok.above)
 have neC:∀b o,X.s₀.heap.get? b=some o->b∉X.ex->b∉ch:=fun b o e hx hb=>by
  rcases (hch b hb).1 with z | z
  ·exact hx z
  ·exact absurd (lJ7 (lJj e) z) (lQq _)
 have cellK:∀x c,X.env.cells.lookup x=some c->∀v,s.heap.IsCell c v->h'.IsCell c v:=fun x c e v ⟨o,ho,hd⟩=>by
  have nch:c∉ch:=fun z=>(hch c z).2.2.1 x c e rfl
  by_cases hc:c∈X.fs
  ·obtain⟨sl,q⟩:=slot c o (I.cne x c e) hc nch ho (I.freeC x c e)
   exact⟨_,q,hd⟩
  ·exact⟨o,keep c o (I.cne x c e) hc nch ho (I.freeC x c e),hd⟩
 refine⟨I.ok,I.os,hg,⟨fun b o e n hb hx=> ?_,fun b o e n hb hx=> ?_,fun b o e n hx=> ?_,fun b o e hx=> ?_,fun b xs e=>tups b xs (I.base.tups b xs e),fun b o xs e=>frzs b o xs (I.base.frzs b o xs e),fun b ps e=> ?_⟩,?_,fun x c e=> ?_,?_,fun x c e=> ?_,fun p hp=> ?_,hok,I.len⟩
 ·exact keep b o (neL b o e) hb (neC b o e hx) (I.base.keep b o e n hb hx) (I.base.free b o e n hx)
 ·obtain⟨sl,e1⟩:=I.base.slot b o e n hb hx
  obtain⟨sl',e2⟩:=slot b _ (neL b o e) hb (neC b o e hx) e1 (I.base.free b o e n hx)
  exact⟨sl',e2⟩
 ·obtain⟨o',e1⟩:=I.base.there b o e hx
  exact free b o' (neC b o e hx) e1 (I.base.free b o e n hx)
 ·obtain⟨o',e1⟩:=I.base.there b o e hx
  exact there b o' (neC b o e hx) e1
 ·obtain⟨m1,e1⟩:=I.base.tbls b ps e
  obtain⟨m2,e2⟩:=tbls b _ e1
  exact⟨m1++m2,by rw[e2,Array.append_assoc]⟩
 ·obtain⟨m,hn,hl⟩:=I.loc
  refine⟨m,ns m hn,fun i x v e1 e2 e3=> ?_⟩
  obtain⟨u,r,l⟩:=hl i x v e1 e2 e3
  refine⟨u,r,?_⟩
  rcases l with l | ⟨k,c,e,z⟩
  ·exact .inl l
  ·exact .inr ⟨k,c,e,cellK x c e _ z⟩
 ·obtain⟨v,z⟩:=I.cell x c e
  exact⟨v,cellK x c e v z⟩
 ·obtain⟨m,⟨o,_,_,ho,_⟩,_⟩:=I.loc
  exact free _ o (fun z=>(hch _ z).2.1 rfl) ho I.free
 ·obtain⟨v,o,ho,hd⟩:=I.cell x c e
  exact free c o (fun z=>(hch c z).2.2.1 x c e rfl) ho (I.freeC x c e)
 ·obtain⟨e,n,ne,nf,d⟩:=I.pin p hp
  have nch:p.1∉ch:=fun z=>(hch p.1 z).2.2.2 p hp rfl
  exact⟨keep p.1 p.2 ne nf nch e n,free p.1 p.2 nch e n,ne,nf,d⟩
theorem Inv.un {t':Nat} (I:Inv X pins σ H s) (u:Un X.fs [] H H' s.heap h') (hok:HOk X.prog X.w H' h'):Inv X pins σ H' {s with heap:=h',toks:=t'}:=by
 obtain⟨m,⟨o,es,ep,ho,r⟩,_⟩:=id I.loc
 obtain⟨sl,hL⟩:=u.any ho I.free (by simp)
 exact I.step (g':=s.gens) (d':=s.drawn) (ch:=[]) (fun _ z=>nomatch z) (fun b o _ hb _ e n=>u.keep b o e n hb (by simp)) (fun b o _ hb _ e n=>u.slot b o e n hb (by simp)) (fun b o _ e n=>u.free b o e n (by simp)) (fun b o _ e=>u.there b o e (by simp)) u.tups u.frzs u.tbls (fun m' hm=>by
  obtain⟨o',es',ep',ho',r'⟩:=hm
  rw[ho] at ho';cases ho'
  exact⟨_,es',ep',hL,r'⟩) hok I.bare
theorem Inv.call {g':Array GenState} {t':Nat} {d':Drawn} {ch:List Addr} (I:Inv X pins σ H s) (u:Un (frs X.stack) ch H H' s.heap h') (hok:HOk X.prog X.w H' h') (hg:AllBare g')
  (hch:∀b∈ch,(b∈X.ex\/X.s₀.heap.objs.size<=b)/\b≠X.env.locals/\(∀x c,X.env.cells.lookup x=some c->c≠b)/\∀p∈X.pn++pins,p.1≠b):
  Inv X pins σ H' {s with heap:=h',gens:=g',drawn:=d',toks:=t'}:=by
 obtain⟨m,⟨o,es,ep,ho,r⟩,_⟩:=id I.loc
 obtain⟨sl,hL⟩:=u.any ho I.free fun z=>(hch _ z).2.1 rfl
 exact I.step (ch:=ch) hch (fun b o hL hb hc e n=>u.keep b o e n (fun z=>(lJk.mp (I.stkSub b z)).elim hL hb) hc) (fun b o _ _ hc e n=>u.any e n hc) (fun b o hc e n=>u.free b o e n hc) (fun b o hc e=>u.there b o e hc) u.tups u.frzs u.tbls (fun m' hm=>by
  obtain⟨o',es',ep',ho',r'⟩:=hm
  rw[ho] at ho';cases ho'
  exact⟨_,es',ep',hL,r'⟩) hok hg
theorem Inv.turned {t':Nat} {it:Addr} (I:Inv X pins σ H s) (k:∀b o,b≠it->s.heap.get? b=some o->h'.get? b=some o) (hn:H it=none) (hL:it≠X.env.locals)
  (h1:it∈X.ex\/X.s₀.heap.objs.size<=it) (h2:∀x c,X.env.cells.lookup x=some c->c≠it) (h3:∀p∈X.pn++pins,p.1≠it):Inv X pins σ H {s with heap:=h',toks:=t'}:=by
 have nit:∀b u,H b=some u->b≠it:=fun b u e z=>by rw[z,hn] at e;cases e
 refine I.step (g':=s.gens) (d':=s.drawn) (ch:=[it]) (fun b hb=> ?_) (fun b o _ _ hc e _=>k b o (fun z=>hc (by simp[z])) e) (fun b o _ _ hc e _=>⟨o.slots,k b o (fun z=>hc (by simp[z])) e⟩) (fun _ _ _ _ n=>n)
  (fun b o hc e=>⟨o,k b o (fun z=>hc (by simp[z])) e⟩) (fun _ _ e=>e) (fun _ _ _ e=>e) (fun b ps e=>⟨#[],by rw[e];simp⟩) (fun m hm=> ?_) (fun b u e=> ?_) I.bare
 ·have e:b=it:=by simpa using hb
  subst e
  exact⟨h1,hL,h2,h3⟩
 ·obtain⟨o,es,ep,ho,r⟩:=hm
  exact⟨o,es,ep,k _ o (Ne.symm hL) ho,r⟩
 ·refine (I.hok b u e).stay (fun c v hc q=>k c v ?_ q) (fun _ q=>q) fun _ _ q=>q
  rcases hc with z | z
  ·rw[z];exact nit b u e
  ·exact nit c _ z
theorem Inv.tok (I:Inv X pins σ H s) (t:Nat):Inv X pins σ H {s with toks:=t}:=I.un (h':=s.heap) (t':=t) Un.refl I.hok
theorem Inv.kept {t':Nat} (I:Inv X pins σ H s) (k:∀b u,s.heap.get? b=some u->h'.get? b=some u):Inv X pins σ H {s with heap:=h',toks:=t'}:=I.un (Un.kept k) (I.hok.kept k)
theorem Inv.laid {a:Addr} {o:HO} {t':Nat} (I:Inv X pins σ H s) (k:∀b u,s.heap.get? b=some u->h'.get? b=some u) (hp:s.heap.objs.size<=a) (new:ObjOk X.prog X.w (upd H a o) h' a o):
  Inv X pins σ (upd H a o) {s with heap:=h',toks:=t'}:=I.un (Un.laid k hp (I.hok.fresh hp)) (I.hok.laid k hp new)
theorem Inv.write {x e:Addr} {o:HO} {t':Nat} (I:Inv X pins σ H s) (mu:Mut (H x)) (he:e=x\/H e=some (.own x)) (k:∀b u,b≠e->s.heap.get? b=some u->h'.get? b=some u) (heo:∃u,h'.get? e=some u)
  (new:ObjOk X.prog X.w (upd H x o) h' x o):Inv X pins σ (upd H x o) {s with heap:=h',toks:=t'}:=I.un (Un.write mu he k heo) (I.hok.write mu he k heo new)
theorem Inv.weak {σ':List (Option V)} (I:Inv X pins σ H s) (hl:σ'.length=σ.length) (w:∀(i:Nat) v,σ'[i]? =some (some v)->σ[i]? =some (some v)):Inv X pins σ' H s:=
 ⟨I.ok,I.os,I.bare,I.base,let ⟨m,hn,hl'⟩:=I.loc;⟨m,hn,fun i x v e1 e2 e3=>hl' i x v e1 (w i v e2) e3⟩,I.cell,I.free,I.freeC,I.pin,I.hok,hl.trans I.len⟩
theorem Inv.pins_of {pins':List (Addr×Obj)} (I:Inv X pins σ H s) (h:∀p∈pins',s.heap.get? p.1=some p.2/\H p.1=none/\p.1≠X.env.locals/\p.1∉X.fs/\∀v,p.2.data≠ .cell v):Inv X pins' σ H s:=
 ⟨I.ok,I.os,I.bare,I.base,I.loc,I.cell,I.free,I.freeC,fun p hp=>(lJt.mp hp).elim (fun z=>I.pin p (lJ8 _ z)) (h p),I.hok,I.len⟩
theorem kU8 {N:List Str} (hN:N.Nodup) {i j:Nat} {x:Str} (a:N[i]? =some x) (b:N[j]? =some x):i=j:=by
 obtain⟨h1,e1⟩:=lJi.mp a
 obtain⟨h2,e2⟩:=lJi.mp b
 exact (List.getElem_inj hN).mp (e1.trans e2.symm)
theorem kX3 {M:Model} {A:Around} {E:Value->Shared->Prop} {i:Nat} {x:Str} {v:V} {u:Value} {Q:Unit->Shared->Prop} (I:Inv X pins σ H s) (hN:X.N.Nodup) (hi:X.N[i]? =some x) (hx:Loc X.env.scope x) (r:RelV v u)
  (h:∀s',Inv X pins (σ.set i (some v)) H s'->(∃a,Heap.SameBut a s.heap s'.heap/\(a=X.env.locals\/X.env.cells.lookup x=some a))->Q () s') (hf:X.fn x=true\/X.env.scope.names.lookup x=some .local:=by first | exact .inl rfl | exact .inr rfl | assumption):wpAny M A (storeName X.env x u) Q E s:=by
 obtain⟨m,hn,hl⟩:=id I.loc
 have hcls:(X.env.scope.kind == .class||(X.env.scope.kind == .module&&X.env.locals != X.env.globals))=false:=by rw[I.ok.kind];rfl
 have hiσ:i<σ.length:=by rw[I.len];exact (lJi.mp hi).1
 have cne:=I.cne
 have tracked:∀ {a:Addr} {h':Heap},(∃o,s.heap.get? a=some o/\H a=none)->Heap.SameBut a s.heap h'->HOk X.prog X.w H h':=fun {a h'} ha hs b ob e=>by
  obtain⟨_,_,hfree⟩:=ha
  refine (I.hok b ob e).stay (fun c w' hc q=>(hs.2 c ?_).trans q) (fun _ q=>q) fun _ _ q=>q
  rintro rfl
  rcases hc with rfl | hc
  ·rw[hfree] at e;cases e
  ·rw[hfree] at hc;cases hc
 rcases hx with hk | hk
 ·refine wpAny_storeName_local hk hn (fun h' hn' hs=> ?_) hcls
  obtain⟨oL,_,_,hoL,_⟩:=id hn
  refine h _ ⟨I.ok,I.os,I.bare,⟨fun b o e n hb hx=> ?_,fun b o e n hb hx=> ?_,I.base.free,fun b o e hx=> ?_,I.base.tups,I.base.frzs,I.base.tbls⟩,⟨_,hn',fun j y v' e1 e2 e3=> ?_⟩,fun y c e=> ?_,I.free,I.freeC,fun p hp=> ?_,tracked ⟨oL,hoL,I.free⟩ hs,by simpa using I.len⟩ ⟨_,hs,.inl rfl⟩
  ·exact (hs.2 b (lJr (lJ7 (lJj e) I.ok.above))).trans (I.base.keep b o e n hb hx)
  ·obtain⟨sl,e1⟩:=I.base.slot b o e n hb hx
   exact⟨sl,(hs.2 b (lJr (lJ7 (lJj e) I.ok.above))).trans e1⟩
  ·obtain⟨o',e1⟩:=I.base.there b o e hx
   exact⟨o',(hs.2 b (lJr (lJ7 (lJj e) I.ok.above))).trans e1⟩
  ·by_cases hj:j=i
   ·subst hj
    rw[hi] at e1;cases e1
    rw[lQf hiσ] at e2
    cases e2
    exact⟨u,r,.inl ⟨hk,by simp⟩⟩
   ·rw[lQr (Ne.symm hj)] at e2
    obtain⟨u',r',q⟩:=hl j y v' e1 e2 e3
    refine⟨u',r',?_⟩
    rcases q with ⟨k,e⟩ | ⟨k,c,e,z⟩
    ·refine .inl ⟨k,?_⟩
     have:y≠x:=fun e=>hj (kU8 hN e1 (e▸hi))
     simp[this,e]
    ·exact .inr ⟨k,c,e,z.sameBut hs (cne y c e)⟩
  ·obtain⟨w',z⟩:=I.cell y c e
   exact⟨w',z.sameBut hs (cne y c e)⟩
  ·obtain⟨e,n,ne,nf,d⟩:=I.pin p hp
   exact⟨(hs.2 p.1 ne).trans e,n,ne,nf,d⟩
 ·have hfn:X.fn x=true:=by
   rcases hf with z | z
   ·exact z
   ·rw[z] at hk;cases hk
  obtain⟨c,hc⟩:=I.ok.has x (.inl hk)
  obtain⟨w',z⟩:=I.cell x c hc
  refine wpAny_storeName_cell I.ok.kind hk hc z (fun h' hc' hs=> ?_)
  obtain⟨oc,hoc,hocd⟩:=id z
  refine h {s with heap:=h'} ⟨I.ok,I.os,I.bare,⟨fun b o e n hb hx=> ?_,fun b o e n hb hx=> ?_,I.base.free,fun b o e hx=> ?_,I.base.tups,I.base.frzs,I.base.tbls⟩,⟨m,hn.sameBut hs (Ne.symm (cne x c hc)),fun j y v' e1 e2 e3=> ?_⟩,fun y c' e=> ?_,I.free,I.freeC,fun p hp=> ?_,tracked ⟨oc,hoc,I.freeC x c hc⟩ hs,by simpa using I.len⟩ ⟨c,hs,.inr hc⟩
  ·exact (hs.2 b (lJr (lJ7 (lJj e) (I.ok.cab x c hfn hc)))).trans (I.base.keep b o e n hb hx)
  ·obtain⟨sl,e1⟩:=I.base.slot b o e n hb hx
   exact⟨sl,(hs.2 b (lJr (lJ7 (lJj e) (I.ok.cab x c hfn hc)))).trans e1⟩
  ·obtain⟨o',e1⟩:=I.base.there b o e hx
   exact⟨o',(hs.2 b (lJr (lJ7 (lJj e) (I.ok.cab x c hfn hc)))).trans e1⟩
  ·by_cases hj:j=i
   ·subst hj
    rw[hi] at e1;cases e1
    rw[lQf hiσ] at e2
    cases e2
    exact⟨u,r,.inr ⟨.inl hk,c,hc,hc'⟩⟩
   ·rw[lQr (Ne.symm hj)] at e2
    obtain⟨u',r',q⟩:=hl j y v' e1 e2 e3
    refine⟨u',r',?_⟩
    rcases q with q | ⟨k,c',e,z'⟩
    ·exact .inl q
    ·refine .inr ⟨k,c',e,z'.sameBut hs ?_⟩
     rintro rfl
     exact hj (kU8 hN e1 (I.ok.inj _ _ _ e hc▸hi))
  ·by_cases hcc:c'=c
   ·subst hcc;exact⟨_,hc'⟩
   ·obtain⟨w2,z2⟩:=I.cell y c' e
    exact⟨w2,z2.sameBut hs hcc⟩
  ·obtain⟨e,n,ne,nf,d⟩:=I.pin p hp
   refine⟨(hs.2 p.1 ?_).trans e,n,ne,nf,d⟩
   intro q
   rw[q,hoc] at e
   have q':oc=p.2:=lJw e
   exact d w' (by rw[<-q'];exact hocd)
theorem jVu {M:Model} {A:Around} {E:Value->Shared->Prop} {i:Nat} {x:Str} {v:V} {u:Value} {Q:Unit->Shared->Prop} (I:Inv X pins σ H s) (hN:X.N.Nodup) (hi:X.N[i]? =some x) (hx:Loc X.env.scope x) (r:RelV v u)
  (h:∀s',Inv X pins (σ.set i (some v)) H s'->Q () s') (hf:X.fn x=true\/X.env.scope.names.lookup x=some .local:=by first | exact .inl rfl | exact .inr rfl | assumption):wpAny M A (storeName X.env x u) Q E s:=
 kX3 I hN hi hx r (fun s' I' _=>h s' I') hf
theorem Inv.call' {s':Shared} {ch:List Addr} (I:Inv X pins σ H s) (ho:s'.os=s.os) (u:Un (frs X.stack) ch H H' s.heap s'.heap) (hok:HOk X.prog X.w H' s'.heap) (hg:AllBare s'.gens)
  (hch:∀b∈ch,(b∈X.ex\/X.s₀.heap.objs.size<=b)/\b≠X.env.locals/\(∀x c,X.env.cells.lookup x=some c->c≠b)/\∀p∈X.pn++pins,p.1≠b):Inv X pins σ H' s':=by
 obtain⟨h',g',d',t',o'⟩:=s'
 have e:o'=s.os:=ho
 subst e
 exact I.call (g':=g') (t':=t') (d':=d') u hok hg hch
end
abbrev XK:=Value->Option Addr->Hp->Prop
abbrev St:=List (Option V)
abbrev VK:=V->Hp->Prop
abbrev TE:=St->Hp->VK->Prop
abbrev TT:=St->Hp->(Bool->Hp->Prop)->Prop
abbrev TA:=St->Hp->(List V->Hp->Prop)->Prop
structure Ends where
 nx:St->Hp->Prop
 rt:VK
 bk:St->Hp->Prop:=fun _ _=>False
 ct:St->Hp->Prop:=fun _ _=>False
abbrev TS:=Ends->St->Hp->Prop
def EP (X:Cx) (pins:List (Addr×Obj)) (σ:St) (Q:VK) (u:Value) (s':Shared):Prop:=∃v H',Inv X pins σ H' s'/\RelV v u/\Q v H'
def TP (X:Cx) (pins:List (Addr×Obj)) (σ:St) (Q:Bool->Hp->Prop) (b:Bool) (s':Shared):Prop:=∃H',Inv X pins σ H' s'/\Q b H'
def SP (X:Cx) (pins:List (Addr×Obj)) (D:Ends) (f:Flow) (s':Shared):Prop:=
 match f with
 | .next=>∃ σ' H',Inv X pins σ' H' s'/\D.nx σ' H'
 | .brk=>∃ σ' H',Inv X pins σ' H' s'/\D.bk σ' H'
 | .cont=>∃ σ' H',Inv X pins σ' H' s'/\D.ct σ' H'
 | .ret u=>∃v σ' H',Inv X pins σ' H' s'/\RelV v u/\D.rt v H'
def PE (X:Cx) (e:Expr) (t:TE):Prop:=
 ∀(pins:List (Addr×Obj)) (s:Shared) (σ:St) (H:Hp) (Q:VK),Inv X pins σ H s->t σ H Q->wpAny (model X.prog X.w) X.A (eval e X.env) (EP X pins σ Q) X.xe s
def PSs (X:Cx) (st:List Stmt) (t:TS):Prop:=
 ∀(pins:List (Addr×Obj)) (s:Shared) (σ:St) (H:Hp) (D:Ends),Inv X pins σ H s->t D σ H->wpAny (model X.prog X.w) X.A (execs st X.env) (SP X pins D) X.xe s
theorem thn {α:Type} {t:Sem α} {Q Q':α->Shared->Prop} {M:Model} {A:Around} {E:Value->Shared->Prop} {s:Shared} (h:wpAny M A t Q E s) (hQ:∀a s,Q a s->Q' a s):wpAny M A t Q' E s:=lQn h hQ fun _ _ x=>x
section
variable {X:Cx}
def tVar (i:Nat):TE:=fun σ H Q=>∃v,σ[i]? =some (some v)/\Q v H
def tC (v:V):TE:=fun _ H Q=>Q v H
theorem pe_var {i:Nat} {x:Str} {pos:Pos} (hN:X.N[i]? =some x) (hv:Vis X.env.scope x) (hd:(x == ("__debug__":Str))=false:=by decide) (hcd:(x == ("__classdict__":Str))=false:=by decide):PE X (.Name x pos) (tVar i):=by
 intro pins s σ H Q I h
 obtain⟨v,e,h⟩:=h
 obtain⟨m,hn,hl⟩:=I.loc
 obtain⟨u,r,l⟩:=hl i x v hN e hv
 have fin:EP X pins σ Q u s:=⟨v,H,I,r,h⟩
 rcases l with ⟨hk,hm⟩ | ⟨hk,c,hc,hcell⟩
 ·exact wpAny_Name (wpAny_loadName_local I.ok.kind hk hn hm fin) hd
 ·rcases hk with hk | hk
  ·exact wpAny_Name (wpAny_loadName_cell I.ok.kind hk hc hcell fin) hd
  ·exact wpAny_Name (wpAny_loadName_free I.ok.kind hk hc hcell fin hcd) hd
theorem pe_int {i j pos}:PE X (.Constant (.int i) j pos) (tC (.int i)):=fun _ _ _ H _ I h=>wpAny_Constant_int ⟨.int i,H,I.tok _,⟨_,rfl⟩,h⟩
theorem pe_bl {b j pos}:PE X (.Constant (.bool b) j pos) (tC (.bl b)):=fun _ _ _ H _ I h=>Constant_bool ⟨.bl b,H,I,rfl,h⟩
theorem pe_non {j pos}:PE X (.Constant .none j pos) (tC .non):=fun _ _ _ H _ I h=>Constant_none ⟨.non,H,I,rfl,h⟩
def Gl (X:Cx) (x:Str):Prop:=X.env.kindOf x=some .globalImplicit
theorem qVs {E:Value->Shared->Prop} {pins:List (Addr×Obj)} {s:Shared} {σ:St} {H:Hp} {x:Str} {u:Value} {pos:Pos} {Q:Value->Shared->Prop} (I:Inv X pins σ H s) (hg:Gl X x) (hm:X.mg x=some u) (h:Q u s)
  (hd:(x == ("__debug__":Str))=false:=by decide):wpAny (model X.prog X.w) X.A (eval (.Name x pos) X.env) Q E s:=
 Calls.Name_function_global I.ok.kind hg (Calls.loadGlobal_global (by rw[I.ok.glob];exact I.mod.glob.keeps I.bk) hm h) hd
theorem jUz {E:Value->Shared->Prop} {pins:List (Addr×Obj)} {s:Shared} {σ:St} {H:Hp} {x:Str} {u:Value} {pos:Pos} {Q:Value->Shared->Prop} (I:Inv X pins σ H s) (hg:Gl X x) (hm:X.mg x=none) (hv:bootBuiltins x=some u) (h:Q u s)
  (hn:x≠"__name__":=by decide) (hd:(x == ("__debug__":Str))=false:=by decide):wpAny (model X.prog X.w) X.A (eval (.Name x pos) X.env) Q E s:=by
 obtain⟨mb,h1,h2⟩:=I.mod.blt
 exact Calls.Name_function_global I.ok.kind hg (Calls.loadGlobal_builtin (by rw[I.ok.glob];exact I.mod.glob.keeps I.bk) hm (by rw[I.ok.blt];exact h1.keeps I.bk) ((h2 x hn).trans hv) h) hd
theorem qVe {x:Str} {v:V} {u:Value} {pos:Pos} (hg:Gl X x) (hm:X.mg x=none) (hv:bootBuiltins x=some u) (r:RelV v u) (hn:x≠"__name__":=by decide) (hd:(x == ("__debug__":Str))=false:=by decide):PE X (.Name x pos) (tC v):=
 fun _ _ _ H _ I h=>jUz I hg hm hv ⟨v,H,I,r,h⟩ hn hd
variable {a b:Expr} {ta tb:TE} {pos:Pos}
def tB (t:TE):TT:=fun σ H Q=>t σ H fun x H1=>∃c,x= .bl c/\Q c H1
variable {tA tB':TT} {rest:List Expr}
def tAnd (t u:TT):TT:=fun σ H Q=>t σ H fun c H1=>if c=true then u σ H1 Q else Q false H1
def tOrV (ta tb:TE):TE:=fun σ H Q=>ta σ H fun x H1=>∃c,x= .bl c/\if c=true then Q (.bl true) H1 else tb σ H1 Q
def tNotV (ta:TE):TE:=fun σ H Q=>ta σ H fun x H1=>∃c,x= .bl c/\Q (.bl (!c)) H1
end
def SqL (K:PySem.W.Frag) (H:Hp) (a:Addr) (xs:List V):Prop:=
 Rd H a (.lst xs)\/
  ∃(o:Obj) (its:Array Value) (n:Nat),K.lookup a=some o/\o.cls= .type "list"/\o.dict=none/\o.data= .seq its n/\its.size<=sizeLine/\Vals xs its.toList
def SqT (K:PySem.W.Frag) (H:Hp) (a:Addr) (xs:List V):Prop:=
 Rd H a (.tup xs)\/
  ∃(o:Obj) (its:Array Value) (n:Nat),K.lookup a=some o/\o.cls= .type "tuple"/\o.data= .seq its n/\its.size<=sizeLine/\Vals xs its.toList
noncomputable def absV:Value->Option V
 | .none=>some .non
 | .bool b=>some (.bl b)
 | .int i _=>some (.int i)
 | .str x _=>some (.str x)
 | .bytes b _=>some (.byt b)
 | .float b _=>some (.flt b)
 | .ref a=>some (.ref a)
 | .type n=>some (.ty n)
 | _=>none
theorem RelV.abs {x:V} {u:Value} (r:RelV x u):absV u=some x:=by
 cases x with
 | non=>cases r;rfl
 | bl _=>cases r;rfl
 | int _=>obtain⟨t,rfl⟩:=r;rfl
 | str _=>obtain⟨t,rfl⟩:=r;rfl
 | byt _=>obtain⟨t,rfl⟩:=r;rfl
 | flt _=>obtain⟨t,rfl⟩:=r;rfl
 | ref _=>cases r;rfl
 | ty _=>cases r;rfl
theorem RelV.inj {x y:V} {u:Value} (r:RelV x u) (q:RelV y u):x=y:=lJw (r.abs.symm.trans q.abs)
theorem Vals.inj {xs ys:List V} {us:List Value} (h:Vals xs us) (g:Vals ys us):xs=ys:=by
 induction h generalizing ys with
 | nil=>(cases g;rfl)
 | cons r _ ih=>(cases g with | cons r' t'=>rw[r.inj r',ih t'])
section
variable {X:Cx} {pins:List (Addr×Obj)} {σ:St} {H:Hp} {s:Shared} {a:Addr} {xs ys:List V}
theorem SqL.of {K:PySem.W.Frag} (h:H a=some (.lst xs)):SqL K H a xs:= .inl (.inl h)
theorem SqT.of {K:PySem.W.Frag} (h:H a=some (.tup xs)):SqT K H a xs:= .inl (.inl h)
theorem Inv.list (I:Inv X pins σ H s) (h:SqL X.K H a xs):∃its:List Value,Vals xs its/\PlainL s.heap a its.toArray/\xs.length<=sizeLine:=by
 rcases h with h | ⟨o,its,n,hk,hc,hd,hs,hz,r⟩
 ·obtain⟨z,its,n,r,e⟩:=h.ok I.hok
  exact⟨its,r,⟨_,n,e,rfl,rfl,rfl⟩,z⟩
 ·refine⟨its.toList,r,⟨o,n,I.kIn a o hk,hc,hd,by simpa using hs⟩,?_⟩
  have e:=r.length
  simp only[lKf] at e
  omega
theorem Inv.tuple (I:Inv X pins σ H s) (h:SqT X.K H a xs):∃its:List Value,Vals xs its/\IsTup s.heap a its.toArray/\xs.length<=sizeLine:=by
 rcases h with h | ⟨o,its,n,hk,hc,hs,hz,r⟩
 ·obtain⟨z,its,r,p⟩:=h.ok I.hok
  exact⟨its,r,p.is,z⟩
 ·refine⟨its.toList,r,⟨o,I.kIn a o hk,hc,n,by simpa using hs⟩,?_⟩
  have e:=r.length
  simp only[lKf] at e
  omega
theorem Inv.list_inj (I:Inv X pins σ H s) (h:SqL X.K H a xs) (h':SqL X.K H a ys):xs=ys:=by
 obtain⟨its,r,⟨o,n,e,_,_,d⟩,_⟩:=I.list h
 obtain⟨its',r',⟨o',n',e',_,_,d'⟩,_⟩:=I.list h'
 rw[e] at e';cases e'
 rw[d] at d'
 injection d' with d1 _
 have:its=its':=by simpa using lKp Array.toList d1
 subst this
 exact r.inj r'
theorem Inv.tuple_inj (I:Inv X pins σ H s) (h:SqT X.K H a xs) (h':SqT X.K H a ys):xs=ys:=by
 obtain⟨its,r,⟨o,e,_,n,d⟩,_⟩:=I.tuple h
 obtain⟨its',r',⟨o',e',_,n',d'⟩,_⟩:=I.tuple h'
 rw[e] at e';cases e'
 rw[d] at d'
 injection d' with d1 _
 have:its=its':=by simpa using lKp Array.toList d1
 subst this
 exact r.inj r'
end
abbrev Cx.wish (X:Cx) (E:Value->Shared->Prop):Cx:={X with xe:=E}
abbrev Cx.nox (X:Cx):Cx:=X.wish fun _ _=>False
theorem Cx.Ok.wish {X:Cx} (ok:X.Ok) (E:Value->Shared->Prop):(X.wish E).Ok:=
 ⟨ok.mod,ok.kind,ok.glob,ok.blt,ok.above,ok.inj,ok.has,ok.cab,ok.hd,ok.gd,ok.frames,ok.stk,ok.exf,ok.bs,ok.bsz,ok.noex,ok.exfs,ok.funs,ok.frf⟩
theorem Cx.Ok.unwish {X:Cx} {E:Value->Shared->Prop} (ok:(X.wish E).Ok):X.Ok:=
 ⟨ok.mod,ok.kind,ok.glob,ok.blt,ok.above,ok.inj,ok.has,ok.cab,ok.hd,ok.gd,ok.frames,ok.stk,ok.exf,ok.bs,ok.bsz,ok.noex,ok.exfs,ok.funs,ok.frf⟩
section
variable {X:Cx} {pins:List (Addr×Obj)} {σ:St} {H:Hp} {s:Shared} {E:Value->Shared->Prop}
theorem Inv.wish (I:Inv X pins σ H s) (E:Value->Shared->Prop):Inv (X.wish E) pins σ H s:=⟨I.ok.wish E,I.os,I.bare,I.base,I.loc,I.cell,I.free,I.freeC,I.pin,I.hok,I.len⟩
theorem Inv.unwish (I:Inv (X.wish E) pins σ H s):Inv X pins σ H s:=⟨I.ok.unwish,I.os,I.bare,I.base,I.loc,I.cell,I.free,I.freeC,I.pin,I.hok,I.len⟩
theorem SP.unwish {D:Ends} {f:Flow} {s':Shared} (h:SP (X.wish E) pins D f s'):SP X pins D f s':=by
 cases f with
 | next=>obtain⟨σ',H',I,q⟩:=h;exact⟨σ',H',I.unwish,q⟩
 | brk=>obtain⟨σ',H',I,q⟩:=h;exact⟨σ',H',I.unwish,q⟩
 | cont=>obtain⟨σ',H',I,q⟩:=h;exact⟨σ',H',I.unwish,q⟩
 | ret u=>obtain⟨v,σ',H',I,r,q⟩:=h;exact⟨v,σ',H',I.unwish,r,q⟩
theorem PSs.nox {st:List Stmt} {t:TS} (h:PSs X.nox st t):PSs X st t:=fun pins s σ H D I hw=>
 lQn (h pins s σ H D (I.wish _) hw) (fun _ _ q=>q.unwish) fun _ _ z=>False.elim z
end
section
variable {X:Cx} {st:Stmt} {rest:List Stmt} {t u:TS} {e:Expr} {te:TE} {pos:Pos}
theorem Inv.quiet {pins:List (Addr×Obj)} {σ:St} {H:Hp} {s:Shared} (I:Inv X pins σ H s):interactive X.env=false:=by simp[interactive,I.ok.kind]
def tRetN:TS:=fun D _ H=>D.rt .non H
end
abbrev TSet:=V->V->V->Hp->(Hp->Prop)->Prop
def PSet (X:Cx) (t:TSet):Prop:=
 ∀(pins:List (Addr×Obj)) (s:Shared) (σ:St) (H:Hp) (o i v:V) (ov iv u:Value) (Q:Hp->Prop),Inv X pins σ H s->RelV o ov->RelV i iv->RelV v u->t o i v H Q->
  wpAny (model X.prog X.w) X.A (setItem ov iv u) (fun _ s'=>∃H',Inv X pins σ H' s'/\Q H') X.xe s
section
variable {X:Cx} {pos:Pos}
end
section
variable {X:Cx} {pos:Pos}
end
structure It where
 go:Nat->Hp->Prop
 yld:Nat->Hp->V->Hp->Prop
 stop:Nat->Hp->Prop
def FpOk (X:Cx) (pins:List (Addr×Obj)) (H:Hp) (b:Addr):Prop:=
 H b=none/\b≠X.env.locals/\b∉X.fs/\(b∈X.ex\/X.s₀.heap.objs.size<=b)/\(∀x c,X.env.cells.lookup x=some c->c≠b)/\∀p∈X.pn++pins,p.1≠b
theorem Inv.fpOk {X:Cx} {pins:List (Addr×Obj)} {σ:St} {H H':Hp} {s:Shared} {b:Addr} (I:Inv X pins σ H s) (hb:s.heap.objs.size<=b) (hn:H' b=none):FpOk X pins H' b:=by
 refine⟨hn,lK4 (lJ7 I.lt hb),I.nofs hb,.inr (lKo I.sz hb),fun x c e z=> ?_,fun p hp z=> ?_⟩
 ·obtain⟨v,q⟩:=I.cell x c e
  exact absurd (lJ7 q.lt (by rw[z];exact hb)) (lQq _)
 ·exact absurd (lJ7 (lJj (I.pin p hp).1) (by rw[z];exact hb)) (lQq _)
structure Turn (P:Program) (w:World) (K:PySem.W.Frag) (tg:Expr) (J:It) (fp:List Addr) (it:Addr) (tn:Nat->Heap->Prop):Prop where
 mem:it∈fp
 obj:∀i h,tn i h->∀b∈fp,∃o,h.get? b=some o/\∀v,o.data≠ .cell v
 keep:∀i h h',tn i h->(∀b∈fp,∀o,h.get? b=some o->h'.get? b=some o)->tn i h'
 item:∀(X:Cx),X.prog=P->X.w=w->X.K=K->X.calm=true->∀(i:Nat) (pins:List (Addr×Obj)) (s:Shared) (σ:St) (H:Hp) (E:Value->Shared->Prop),Inv X pins σ H s->(∀b∈fp,FpOk X pins H b)->tn i s.heap->J.go i H->
  wpAny (model P w) X.A (pyNext (.ref it)) (fun r s1=>∃u,r=some u/\
   wpAny (model P w) X.A (letOwnedTupleGo tg (.ref it) u) (fun _ s2=>∃x H',Inv X pins σ H' s2/\RelV x u/\J.yld i H x H'/\tn (i+1) s2.heap/\∀b∈fp,H' b=none) E s1) E s
 done:∀(X:Cx),X.prog=P->X.w=w->X.K=K->X.calm=true->∀(i:Nat) (pins:List (Addr×Obj)) (s:Shared) (σ:St) (H:Hp) (E:Value->Shared->Prop),Inv X pins σ H s->(∀b∈fp,FpOk X pins H b)->tn i s.heap->J.stop i H->
  wpAny (model P w) X.A (pyNext (.ref it)) (fun r s1=>r=none/\Inv X pins σ H s1) E s
 self:∀(A:Around) (i:Nat) (s:Shared) (Q:Value->Shared->Prop) (E:Value->Shared->Prop),tn i s.heap->Q (.ref it) s->wpAny (model P w) A (pyIter (.ref it)) Q E s
abbrev TI:=St->Hp->(It->Hp->Prop)->Prop
def PIE (X:Cx) (pins:List (Addr×Obj)) (σ:St) (tg:Expr) (R:It->Hp->Prop) (itv:Value) (s2:Shared):Prop:=
 ∃(it:Addr) (fp:List Addr) (tn:Nat->Heap->Prop) (J:It) (H':Hp),itv= .ref it/\Inv X pins σ H' s2/\Turn X.prog X.w X.K tg J fp it tn/\tn 0 s2.heap/\(∀b∈fp,FpOk X pins H' b)/\R J H'
def PI (X:Cx) (tg iter:Expr) (wi:TI):Prop:=
 ∀(pins:List (Addr×Obj)) (s:Shared) (σ:St) (H:Hp) (R:It->Hp->Prop),Inv X pins σ H s->wi σ H R->
  wpAny (model X.prog X.w) X.A (eval iter X.env) (fun v s1=>wpAny (model X.prog X.w) X.A (pyIter v) (PIE X pins σ tg R) X.xe s1) X.xe s
theorem qV9 {M:Model} {A:Around} {E:Value->Shared->Prop} {s:Shared} {tg:Expr} {it:Addr} {u:Value} {o:Obj} {n:String} {vs:Array Value} {Q:Unit->Shared->Prop} (ho:s.heap.get? it=some o) (hc:o.cls= .type n) (hd:o.data= .fields vs)
  (hn:["enumerate","zip","dict_itemiterator","dict_reverseitemiterator","odict_iterator","itertools.zip_longest","itertools.pairwise"].contains n=false) (hQ:Q () s):wpAny M A (letOwnedTupleGo tg (.ref it) u) Q E s:=by
 unfold letOwnedTupleGo
 cases tg<;>first
  | exact lJd hQ
  | (cases u<;>first
    | exact lJd hQ
    | (refine lJa (wpAny_load ho ?_)
       rw[hc,hd]
       show wpAny M A (if (["enumerate","zip","dict_itemiterator","dict_reverseitemiterator","odict_iterator","itertools.zip_longest","itertools.pairwise"].contains n&&vs[0]? == some (rawInt _))=true then _ else _) Q E s
       rw[lJb (by intro h;rw[hn,Bool.false_and] at h;cases h)]
       exact lJd hQ))
noncomputable def Itl (K:PySem.W.Frag) (a:Addr):It:=
 ⟨fun i H=>∃xs x,SqL K H a xs/\xs[i]? =some x,fun i H x H'=>H'=H/\∀xs,SqL K H a xs->xs[i]? =some x,fun i H=>∃xs,SqL K H a xs/\xs.length<=i⟩
noncomputable def Itt (K:PySem.W.Frag) (a:Addr):It:=
 ⟨fun i H=>∃xs x,SqT K H a xs/\xs[i]? =some x,fun i H x H'=>H'=H/\∀xs,SqT K H a xs->xs[i]? =some x,fun i H=>∃xs,SqT K H a xs/\xs.length<=i⟩
def Itr (lo:Int) (n:Nat):It:=⟨fun i _=>i<n,fun i H x H'=>H'=H/\x= .int (lo+i),fun i _=>n<=i⟩
theorem kXv {P:Program} {w:World} {K:PySem.W.Frag} {tg:Expr} (a it:Addr):Turn P w K tg (Itl K a) [it] it (fun i h=>h.IsListIter it a i) where
 mem:=by simp
 obj:=fun i h st b hb=>by
  have e:b=it:=by simpa using hb
  subst e
  obtain⟨o,e,c,d⟩:=st
  exact⟨o,e,fun v z=>by rw[d] at z;cases z⟩
 keep:=fun i h h' st k=>st.at fun o e=>k it (by simp) o e
 item:=by
  intro X hP hw hK hc i pins s σ H E I hf st hg
  subst hP hw hK
  obtain⟨xs,x,hq,hx⟩:=hg
  obtain⟨its,rv,p,hz⟩:=I.list hq
  obtain⟨u,hu,ru⟩:=rv.get hx
  obtain⟨f0,f1,f2,f3,f4,f5⟩:=hf it (by simp)
  refine wpAny_pyNext_list_item st p.isList (x:=u) (by simpa using hu) fun h' st' sb=> ?_
  have I1:Inv X pins σ H {s with heap:=h'}:=I.turned (t':=s.toks) (fun b o hb e=>(sb.2 b hb).trans e) f0 f1 f3 f4 f5
  obtain⟨o,e,c,d⟩:=id st'
  exact⟨u,rfl,qV9 (s:={s with heap:=h'}) e c d (by decide) ⟨x,H,I1,ru,⟨rfl,fun ys hy=>by rw[I.list_inj hy hq];exact hx⟩,st',fun b hb=>(hf b hb).1⟩⟩
 done:=by
  intro X hP hw hK hc i pins s σ H E I hf st hg
  subst hP hw hK
  obtain⟨xs,hq,hx⟩:=hg
  obtain⟨its,rv,p,hz⟩:=I.list hq
  obtain⟨f0,f1,f2,f3,f4,f5⟩:=hf it (by simp)
  have hl:=rv.length
  exact wpAny_pyNext_list_end (I.ok.hd hc) st p.isList (by simp;omega) fun h' eb=>⟨rfl,I.turned (t':=s.toks) (fun b o hb e=>eb b o hb e) f0 f1 f3 f4 f5⟩
 self:=fun _ _ _ _ _ st h=>wpAny_pyIter_listiter st h
theorem kVu {P:Program} {w:World} {K:PySem.W.Frag} {tg:Expr} (a it:Addr):Turn P w K tg (Itt K a) [it] it (fun i h=>h.IsTupleIter it a i) where
 mem:=by simp
 obj:=fun i h st b hb=>by
  have e:b=it:=by simpa using hb
  subst e
  obtain⟨o,e,c,d⟩:=st
  exact⟨o,e,fun v z=>by rw[d] at z;cases z⟩
 keep:=fun i h h' st k=>st.at fun o e=>k it (by simp) o e
 item:=by
  intro X hP hw hK hc i pins s σ H E I hf st hg
  subst hP hw hK
  obtain⟨xs,x,hq,hx⟩:=hg
  obtain⟨its,rv,p,hz⟩:=I.tuple hq
  obtain⟨u,hu,ru⟩:=rv.get hx
  obtain⟨f0,f1,f2,f3,f4,f5⟩:=hf it (by simp)
  refine wpAny_pyNext_tuple_item st (show s.heap.IsTuple a its.toArray from p) (x:=u) (by simpa using hu) fun h' st' sb=> ?_
  have I1:Inv X pins σ H {s with heap:=h'}:=I.turned (t':=s.toks) (fun b o hb e=>(sb.2 b hb).trans e) f0 f1 f3 f4 f5
  obtain⟨o,e,c,d⟩:=id st'
  exact⟨u,rfl,qV9 (s:={s with heap:=h'}) e c d (by decide) ⟨x,H,I1,ru,⟨rfl,fun ys hy=>by rw[I.tuple_inj hy hq];exact hx⟩,st',fun b hb=>(hf b hb).1⟩⟩
 done:=by
  intro X hP hw hK hc i pins s σ H E I hf st hg
  subst hP hw hK
  obtain⟨xs,hq,hx⟩:=hg
  obtain⟨its,rv,p,hz⟩:=I.tuple hq
  obtain⟨f0,f1,f2,f3,f4,f5⟩:=hf it (by simp)
  have hl:=rv.length
  exact wpAny_pyNext_tuple_end (I.ok.hd hc) st (show s.heap.IsTuple a its.toArray from p) (by simp;omega) fun h' eb=>⟨rfl,I.turned (t':=s.toks) (fun b o hb e=>eb b o hb e) f0 f1 f3 f4 f5⟩
 self:=fun _ _ _ _ _ st h=>wpAny_pyIter_tupleiter st h
theorem kVv {P:Program} {w:World} {K:PySem.W.Frag} {tg:Expr} (it:Addr) (lo:Int) (n:Nat):Turn P w K tg (Itr lo n) [it] it (fun i h=>IsRangeIter h it (lo+(i:Nat)*1) ((n:Int)-(i:Nat)) 1) where
 mem:=by simp
 obj:=fun i h st b hb=>by
  have e:b=it:=by simpa using hb
  subst e
  exact⟨_,st,fun v z=>by
   have z':Data.fields _=Data.cell v:=z
   cases z'⟩
 keep:=fun i h h' st k=>k it (by simp) _ st
 item:=by
  intro X hP hw hK hc i pins s σ H E I hf st hg
  subst hP hw hK
  obtain⟨f0,f1,f2,f3,f4,f5⟩:=hf it (by simp)
  have W:=Walks.range (prog:=X.prog) (w:=X.w) (I.ok.hd hc) it lo 1 n
  refine W.item i s _ _ hg st fun v h' tk hv st' kk=> ?_
  obtain⟨t,rfl⟩:=hv
  have I1:Inv X pins σ H {s with heap:=h',toks:=tk}:=I.turned (fun b o hb e=>kk b o (by simpa using hb) e) f0 f1 f3 f4 f5
  refine⟨_,rfl,qV9 (s:={s with heap:=h',toks:=tk}) (n:="range_iterator") st' rfl rfl (by decide) ⟨.int (lo+i),H,I1,⟨t,?_⟩,⟨rfl,rfl⟩,st',fun b hb=>(hf b hb).1⟩⟩
  rw[Int.mul_one]
 done:=by
  intro X hP hw hK hc i pins s σ H E I hf st hg
  subst hP hw hK
  obtain⟨f0,f1,f2,f3,f4,f5⟩:=hf it (by simp)
  exact wpAny_pyNext_range_end (I.ok.hd hc) st (by have:n<=i:=hg;omega) fun h' eb=>⟨rfl,I.turned (t':=s.toks) (fun b o hb e=>eb b o hb e) f0 f1 f3 f4 f5⟩
 self:=fun _ _ _ _ _ st h=>wpAny_pyIter_rangeiter st h
section
variable {X:Cx} {tg:Expr}
theorem qKg {pins:List (Addr×Obj)} {σ:St} {H:Hp} {s:Shared} {R:It->Hp->Prop} {E:Value->Shared->Prop} {lo hi:Int} {t u v:Tok} {tk:Nat} (I:Inv X pins σ H s) (h1: -(2^62)<=lo) (h2:lo<2^62) (h3: -(2^62)<=hi) (h4:hi<2^62)
  (q:R (Itr lo (hi-lo).toNat) H):wpAny (model X.prog X.w) X.A (pyIter (.ref s.heap.objs.size)) (PIE X pins σ tg R) E {s with heap:=s.heap.push {cls:= .type "range",data:= .fields #[.int lo t,.int hi u,.int 1 v]},toks:=tk}:=by
 refine wpAny_pyIter_range (IsRange.new ..) (small_one h1 h2 h3 h4) ?_
 have I1:Inv X pins σ H {s with heap:=s.heap.push {cls:= .type "range",data:= .fields #[.int lo t,.int hi u,.int 1 v]},toks:=tk}:=I.kept fun b o e=>lJm _ e
 refine⟨(s.heap.push {cls:= .type "range",data:= .fields #[.int lo t,.int hi u,.int 1 v]}).objs.size,[(s.heap.push {cls:= .type "range",data:= .fields #[.int lo t,.int hi u,.int 1 v]}).objs.size],_,_,H,rfl,
  I1.kept (t':=tk) fun b o e=>lJm _ e,kVv _ lo (hi-lo).toNat,?_,fun b hb=> ?_,q⟩
 ·have e1:lo+((0:Nat):Int)*1=lo:=by simp
  have e2:(((hi-lo).toNat:Nat):Int)-((0:Nat):Int)=Builtin.Range.rangeSize lo hi 1:=by rw[rangeSize_one];split<;>omega
  show IsRangeIter _ _ (lo+((0:Nat):Int)*1) ((((hi-lo).toNat:Nat):Int)-((0:Nat):Int)) 1
  rw[e1,e2]
  exact lJ6 _ rfl
 ·have e:b=(s.heap.push {cls:= .type "range",data:= .fields #[.int lo t,.int hi u,.int 1 v]}).objs.size:=by simpa using hb
  subst e
  exact I1.fpOk (lJg _) (I1.hok.fresh (lJg _))
def jQm (fp:List Addr) (h:Heap):List (Addr×Obj):=fp.filterMap fun b=>(h.get? b).map fun o=>(b,o)
theorem jQg {fp:List Addr} {h:Heap} {b:Addr} {o:Obj} (hb:b∈fp) (e:h.get? b=some o):(b,o)∈jQm fp h:=lQ1.mpr ⟨b,hb,by rw[e];rfl⟩
theorem kZb {fp:List Addr} {h:Heap} {p:Addr×Obj} (hp:p∈jQm fp h):p.1∈fp/\h.get? p.1=some p.2:=by
 obtain⟨b,hb,e⟩:=lQ1.mp hp
 cases q:h.get? b with
 | none=>rw[q] at e;cases e
 | some o=>
  rw[q] at e
  have e':(b,o)=p:=lJw e
  subst e'
  exact⟨hb,q⟩
theorem Inv.pinned {pins:List (Addr×Obj)} {σ:St} {H:Hp} {s:Shared} {fp:List Addr} (I:Inv X pins σ H s) (hf:∀b∈fp,FpOk X pins H b) (ho:∀b∈fp,∃o,s.heap.get? b=some o/\∀v,o.data≠ .cell v):Inv X (pins++jQm fp s.heap) σ H s:=
 I.pins_of fun p hp=>(lJt.mp hp).elim (fun z=>I.pin p (lJ0 _ z)) fun z=>by
  obtain⟨hb,e⟩:=kZb z
  obtain⟨f0,f1,f2,_⟩:=hf p.1 hb
  obtain⟨o,e',d⟩:=ho p.1 hb
  rw[e] at e';cases e'
  exact⟨e,f0,f1,f2,d⟩
theorem Inv.unpinned {pins pl:List (Addr×Obj)} {σ:St} {H:Hp} {s:Shared} (I:Inv X (pins++pl) σ H s):Inv X pins σ H s:=I.pins_of fun p hp=>I.pin p (lJ0 _ (lJ8 _ hp))
end
abbrev R2:=V->V->Hp->VK->Prop
def OpR (X:Cx) (f:Value->Value->Sem Value) (r:R2):Prop:=
 ∀(pins:List (Addr×Obj)) (s:Shared) (σ:St) (H:Hp) (x y:V) (v u:Value) (Q:VK),Inv X pins σ H s->RelV x v->RelV y u->r x y H Q->
  wpAny (model X.prog X.w) X.A (f v u) (EP X pins σ Q) X.xe s
def kQn (X:Cx) (f:Value) (r:List V->Hp->VK->Prop):Prop:=
 ∀(pins:List (Addr×Obj)) (s:Shared) (σ:St) (H:Hp) (xs:List V) (us:List Value) (Q:VK),Inv X pins σ H s->Vals xs us->r xs H Q->
  wpAny (model X.prog X.w) X.A (call f us) (EP X pins σ Q) X.xe s
def TruR (X:Cx) (r:V->Hp->(Bool->Hp->Prop)->Prop):Prop:=
 ∀(pins:List (Addr×Obj)) (s:Shared) (σ:St) (H:Hp) (x:V) (v:Value) (Q:Bool->Hp->Prop),Inv X pins σ H s->RelV x v->r x H Q->
  wpAny (model X.prog X.w) X.A (truthy v) (TP X pins σ Q) X.xe s
def tUn (r:V->Hp->VK->Prop) (ta:TE):TE:=fun σ H Q=>ta σ H fun x H1=>r x H1 Q
def rI (C:Int->Int->Prop) (g:Int->Int->V):R2:=fun x y H Q=>∃i j,x= .int i/\y= .int j/\C i j/\Q (g i j) H
def rI0 (g:Int->Int->V):R2:=fun x y H Q=>∃i j,x= .int i/\y= .int j/\Q (g i j) H
section
variable {X:Cx} {a b c:Expr} {ta tb tc:TE} {pos:Pos}
theorem opI {f:Value->Value->Sem Value} {C:Int->Int->Prop} {g:Int->Int->Int}
  (rule:∀(i j:Int) (t u:Tok) (s:Shared) (Q:Value->Shared->Prop) (E:Value->Shared->Prop),C i j->Q (.int (g i j) s.toks) {s with toks:=s.toks+1}->wpAny (model X.prog X.w) X.A (f (.int i t) (.int j u)) Q E s):
  OpR X f (rI C fun i j=> .int (g i j)):=by
 intro pins s σ H x y v u Q I rx ry h
 obtain⟨i,j,rfl,rfl,hc,q⟩:=h
 obtain⟨t,rfl⟩:=rx
 obtain⟨t',rfl⟩:=ry
 exact rule i j t t' s _ _ hc ⟨.int (g i j),H,I.tok _,⟨_,rfl⟩,q⟩
theorem opI0 {f:Value->Value->Sem Value} {g:Int->Int->Int}
  (rule:∀(i j:Int) (t u:Tok) (s:Shared) (Q:Value->Shared->Prop) (E:Value->Shared->Prop),Q (.int (g i j) s.toks) {s with toks:=s.toks+1}->wpAny (model X.prog X.w) X.A (f (.int i t) (.int j u)) Q E s):
  OpR X f (rI0 fun i j=> .int (g i j)):=by
 intro pins s σ H x y v u Q I rx ry h
 obtain⟨i,j,rfl,rfl,q⟩:=h
 obtain⟨t,rfl⟩:=rx
 obtain⟨t',rfl⟩:=ry
 exact rule i j t t' s _ _ ⟨.int (g i j),H,I.tok _,⟨_,rfl⟩,q⟩
theorem opB0 {f:Value->Value->Sem Value} {g:Int->Int->Bool}
  (rule:∀(i j:Int) (t u:Tok) (s:Shared) (Q:Value->Shared->Prop) (E:Value->Shared->Prop),Q (.bool (g i j)) s->wpAny (model X.prog X.w) X.A (f (.int i t) (.int j u)) Q E s):
  OpR X f (rI0 fun i j=> .bl (g i j)):=by
 intro pins s σ H x y v u Q I rx ry h
 obtain⟨i,j,rfl,rfl,q⟩:=h
 obtain⟨t,rfl⟩:=rx
 obtain⟨t',rfl⟩:=ry
 exact rule i j t t' s _ _ ⟨.bl (g i j),H,I,rfl,q⟩
def CDiv (i j:Int):Prop:=0<j/\j<1073741824
def CPow (i j:Int):Prop:=0<=j/\j<=1000000/\i.natAbs<2^64
def CMul (i j:Int):Prop:=(-(2^64)<i/\i<2^64)\/(-(2^64)<j/\j<2^64)
theorem CMul.ok {i j:Int} (h:CMul i j):IntMulOk i j:=by
 rcases h with ⟨h1,h2⟩ | ⟨h1,h2⟩
 ·exact .of_left (intBits_le_64 h1 h2)
 ·exact .of_right (intBits_le_64 h1 h2)
theorem op_add:OpR X (binaryOp .Add) (rI0 fun i j=> .int (i+j)):=opI0 fun _ _ _ _ _ _ _ q=>add_int q
theorem op_sub:OpR X (binaryOp .Sub) (rI0 fun i j=> .int (i-j)):=opI0 fun _ _ _ _ _ _ _ q=>sub_int q
theorem op_mul:OpR X (binaryOp .Mult) (rI CMul fun i j=> .int (i*j)):=opI fun _ _ _ _ _ _ _ hc q=>mul_int q hc.ok
theorem qVi:OpR X (binaryOp .FloorDiv) (rI CDiv fun i j=> .int (i / j)):=opI fun i j _ _ _ _ _ hc q=>by
 have h1:(0:Int)<j:=hc.1
 have h2:j<1073741824:=hc.2
 exact floordiv_int (by omega) (by rw[Int.fdiv_eq_ediv_of_nonneg i (by omega)];exact q) (.inl (PyProof.noPylong_small (by omega)))
theorem op_mod:OpR X (binaryOp .Mod) (rI (fun _ j=>0<j) fun i j=> .int (i%j)):=opI fun i j _ _ _ _ _ hc q=>by
 have h1:(0:Int)<j:=hc
 exact mod_int' (by omega) (by rw[Int.fmod_eq_emod_of_nonneg i (by omega)];exact q)
theorem op_pow:OpR X (binaryOp .Pow) (rI CPow fun i j=> .int (i^j.toNat)):=opI fun _ _ _ _ _ _ _ hc q=>pow_int_small hc.1 hc.2.1 hc.2.2 q
end
section
variable {X:Cx} {a b c:Expr} {ta tb tc:TE} {pos:Pos}
theorem qUn {pins:List (Addr×Obj)} {σ:St} {H:Hp} {s:Shared} {Q:VK} {k k':Bool} (I:Inv X pins σ H s) (q:Q (.bl k) H) (e:k=k'):EP X pins σ Q (.bool k') s:=by
 subst e
 exact⟨.bl k,H,I,rfl,q⟩
theorem op_lt:OpR X (compareOp .Lt) (rI0 fun i j=> .bl (decide (i<j))):=opB0 fun _ _ _ _ _ _ _ q=>lt_int q
theorem op_le:OpR X (compareOp .LtE) (rI0 fun i j=> .bl (decide (i<=j))):=opB0 fun _ _ _ _ _ _ _ q=>le_int q
theorem op_gt:OpR X (compareOp .Gt) (rI0 fun i j=> .bl (decide (j<i))):=opB0 fun _ _ _ _ _ _ _ q=>gt_int q
theorem op_ge:OpR X (compareOp .GtE) (rI0 fun i j=> .bl (decide (j<=i))):=opB0 fun _ _ _ _ _ _ _ q=>ge_int q
theorem op_isN:OpR X (compareOp .Is) (fun x y H Q=>y= .non/\Q (.bl (decide (x= .non))) H):=by
 intro pins s σ H x y v u Q I rx ry h
 obtain⟨rfl,q⟩:=h
 cases ry
 refine is_none_gen (qUn I q ?_)
 cases x<;>first
  | (cases rx;rfl)
  | (obtain⟨t,rfl⟩:=rx;rfl)
theorem qVh:OpR X (compareOp .IsNot) (fun x y H Q=>y= .non/\Q (.bl (!decide (x= .non))) H):=by
 intro pins s σ H x y v u Q I rx ry h
 obtain⟨rfl,q⟩:=h
 cases ry
 refine isnot_none_gen (qUn I q ?_)
 cases x<;>first
  | (cases rx;rfl)
  | (obtain⟨t,rfl⟩:=rx;rfl)
theorem nomark (b:Expr) {op:CmpOp} (h:op≠ .In:=by decide) (h2:op≠ .NotIn:=by decide):behindInMarks op b=false:=by
 have e1:(op == CmpOp.In)=false:=by cases op<;>first | rfl | exact absurd rfl h
 have e2:(op == CmpOp.NotIn)=false:=by cases op<;>first | rfl | exact absurd rfl h2
 cases b<;>simp[behindInMarks,e1,e2]
def TruV (K:PySem.W.Frag) (x:V) (H:Hp) (k:Bool):Prop:=
 match x with
 | .non=>k=false
 | .bl b=>k=b
 | .int i=>k=(i != 0)
 | .str y=>y.length<=sizeLine/\k=((y.length:Int) != 0)
 | .byt y=>y.size<=sizeLine/\k=((y.size:Int) != 0)
 | .ref p=>(∃xs,SqL K H p xs/\k= !xs.isEmpty)\/(∃xs,SqT K H p xs/\k= !xs.isEmpty)\/∃kvs,H p=some (.dK kvs)/\k= !kvs.isEmpty
 | _=>False
theorem kXj {κ:Type} {kvs:List (κ×V)} {vs:List (κ×Value)} (r:KV kvs vs):(!vs.isEmpty)= !kvs.isEmpty:=by
 cases r<;>rfl
theorem jZ2 {xs:List V} {its:List Value} (r:Vals xs its):(!its.toArray.isEmpty)= !xs.isEmpty:=by
 cases r<;>simp
theorem jZ0:(sizeLine:Nat)<2^63:=by rw[lKw];decide
theorem tru_ok:TruR X (fun x H Q=>∃k,TruV X.K x H k/\Q k H):=by
 intro pins s σ H x v Q I rx h
 obtain⟨k,e,q⟩:=h
 have hl:=jZ0
 have hs:sizeLine=16777216:=lKw
 cases x with
 | non=>
  cases rx
  have e':k=false:=e
  subst e'
  exact truthy_none ⟨H,I,q⟩
 | bl b=>
  cases rx
  have e':k=b:=e
  subst e'
  exact lV2 ⟨H,I,q⟩
 | int i=>
  obtain⟨t,rfl⟩:=rx
  have e':k=(i != 0):=e
  subst e'
  exact PySem.P.truthy_int ⟨H,I,q⟩
 | str y=>
  obtain⟨t,rfl⟩:=rx
  obtain⟨hy,e'⟩:y.length<=sizeLine/\k=((y.length:Int) != 0):=e
  subst e'
  exact PySem.P.truthy_str (by omega) ⟨H,I.tok _,q⟩
 | byt y=>
  obtain⟨t,rfl⟩:=rx
  obtain⟨hy,e'⟩:y.size<=sizeLine/\k=((y.size:Int) != 0):=e
  subst e'
  exact PySem.W.truthy_bytes (by omega) ⟨H,I.tok _,q⟩
 | ref p=>
  cases rx
  have e':(∃xs,SqL X.K H p xs/\k= !xs.isEmpty)\/(∃xs,SqT X.K H p xs/\k= !xs.isEmpty)\/∃kvs,H p=some (.dK kvs)/\k= !kvs.isEmpty:=e
  rcases e' with ⟨xs,hx,e'⟩ | ⟨xs,hx,e'⟩ | ⟨kvs,hx,e'⟩
  ·subst e'
   obtain⟨its,r,pl,hz⟩:=I.list hx
   have hlen:=r.length
   exact wpAny_truthy_list pl.isList (by simp only[lJv];omega) ⟨H,I.tok _,by rw[jZ2 r];exact q⟩
  ·subst e'
   obtain⟨its,r,pl,hz⟩:=I.tuple hx
   have hlen:=r.length
   exact truthy_tuple pl (by simp only[lJv];omega) ⟨H,I.tok _,by rw[jZ2 r];exact q⟩
  ·subst e'
   obtain⟨hz,hS,vs,r,m⟩:kvs.length<=sizeLine/\(p == sysModules)=false/\∃vs,KV kvs vs/\s.heap.DictOf (jKh X.prog X.w) p vs:=I.hok p _ hx
   have hlen:kvs.length=vs.length:=lV7 r
   exact wpAny_truthy_dict hS m (by omega) ⟨H,I.tok _,by rw[kXj r];exact q⟩
 | _=>exact (show False from e).elim
theorem kVt {x:V} {us:List Value} (r:Vals [x] us):∃u,us=[u]/\RelV x u:=by
 cases r with
 | cons r1 r2=>cases r2;exact⟨_,rfl,r1⟩
theorem vals2 {x y:V} {us:List Value} (r:Vals [x,y] us):∃u w',us=[u,w']/\RelV x u/\RelV y w':=by
 cases r with
 | cons r1 r2=>
  cases r2 with
  | cons r3 r4=>cases r4;exact⟨_,_,rfl,r1,r3⟩
theorem qQx:kQn X (.builtin "abs") (fun xs H Q=>∃i,xs=[.int i]/\Q (.int (if i<0 then -i else i)) H):=by
 intro pins s σ H xs us Q I r h
 obtain⟨i,rfl,q⟩:=h
 obtain⟨u,rfl,t,rfl⟩:=kVt r
 exact call_abs_int fun u tk=>⟨.int (if i<0 then -i else i),H,I.tok _,⟨_,rfl⟩,q⟩
theorem qJk (hc:X.calm=true):kQn X (.builtin "max") (fun xs H Q=>∃i j,xs=[.int i,.int j]/\Q (.int (if j>i then j else i)) H):=by
 intro pins s σ H xs us Q I r h
 obtain⟨i,j,rfl,q⟩:=h
 obtain⟨u,w',rfl,⟨t,rfl⟩,⟨t',rfl⟩⟩:=vals2 r
 refine max_two_ints (I.ok.hd hc) fun h' tk k=>⟨_,H,I.kept k,?_,q⟩
 by_cases hj:j>i
 ·rw[lJc hj,lJc hj];exact⟨_,rfl⟩
 ·rw[lJb hj,lJb hj];exact⟨_,rfl⟩
theorem qJj (hc:X.calm=true):kQn X (.builtin "min") (fun xs H Q=>∃i j,xs=[.int i,.int j]/\Q (.int (if j<i then j else i)) H):=by
 intro pins s σ H xs us Q I r h
 obtain⟨i,j,rfl,q⟩:=h
 obtain⟨u,w',rfl,⟨t,rfl⟩,⟨t',rfl⟩⟩:=vals2 r
 refine min_two_ints (I.ok.hd hc) fun h' tk k=>⟨_,H,I.kept k,?_,q⟩
 by_cases hj:j<i
 ·rw[lJc hj,lJc hj];exact⟨_,rfl⟩
 ·rw[lJb hj,lJb hj];exact⟨_,rfl⟩
theorem qJl:kQn X (.type "int") (fun xs H Q=>(∃i,xs=[.int i]/\Q (.int i) H)\/∃k,xs=[.bl k]/\Q (.int (if k then 1 else 0)) H):=by
 intro pins s σ H xs us Q I r h
 rcases h with ⟨i,rfl,q⟩ | ⟨k,rfl,q⟩
 ·obtain⟨u,rfl,t,rfl⟩:=kVt r
  exact call_int_int ⟨.int i,H,I,⟨_,rfl⟩,q⟩
 ·obtain⟨u,rfl,r1⟩:=kVt r
  cases r1
  exact call_int_bool ⟨.int (if k then 1 else 0),H,I.tok _,⟨_,rfl⟩,q⟩
end
section
variable {prog:Program} {w:World} {A:Around} {E:Value->Shared->Prop} {s:Shared} {K:PySem.W.Frag} {x dx C f:Addr} {mA:Str->Option Value} {name:Str} {v:Value}
end
theorem RelO.some_of {v:V} {o:Option Value} (r:RelO (some v) o):∃u,o=some u/\RelV v u:=by
 cases o with
 | none=>exact (show False from r).elim
 | some u=>exact⟨u,rfl,r⟩
section
variable {P:Program} {w:World} {H H':Hp} {h h':Heap} {a C dx:Addr} {fs fs':List (Str×V)}
end
section
variable {X:Cx} {pins:List (Addr×Obj)} {σ:St} {H:Hp} {s:Shared} {a C dx:Addr} {fs:List (Str×V)} {f:Str} {v:V} {A:Around} {E:Value->Shared->Prop}
end
section
variable {X:Cx} {o e value:Expr} {f:Str} {pos pos' tpos:Pos} {ta tv:TE}
end
section
variable {X:Cx} {pins:List (Addr×Obj)} {σ:St} {H:Hp} {s:Shared} {A:Around} {E:Value->Shared->Prop} {Q:Value->Shared->Prop} {c:Value} {b:Bool}
end
structure Room (k:Nat) (A:Around):Prop where
 hd:A.handled=none
 gd:A.guards=some []
 dp:A.depth+3*k+5<recursionLimit
 un:A.units+16*k+200<cLine
theorem Room.mono {j k:Nat} {A:Around} (r:Room k A) (h:j<=k):Room j A:=⟨r.hd,r.gd,by have:=r.dp;omega,by have:=r.un;omega⟩
theorem Room.deeper {k:Nat} {A:Around} (r:Room (k+1) A) (env:Env):Room k (A.deeper env):=
 ⟨r.hd,r.gd,by have:=r.dp;show A.depth+1+3*k+5<_;omega,by have:=r.un;show A.units+3+16*k+200<_;omega⟩
theorem Room.depth {k:Nat} {A:Around} (r:Room k A):A.depth<recursionLimit:=by have:=r.dp;omega
theorem Room.units {k:Nat} {A:Around} (r:Room k A):A.units+64<cLine:=by have:=r.un;omega
section
variable {X:Cx} {e:Expr} {es:List Expr} {te:TE} {t:TA} {pos:Pos}
end
abbrev Sp:=List V->Hp->VK->XK->Prop
abbrev CXT:=List Env->Hp->Shared->XK->Value->Shared->Prop
structure Env0 (P:Program) (w:World) (K:PySem.W.Frag) (mg:Str->Option Value) (base:Heap) (A:Around) (outer:List Env) (s:Shared) (H:Hp):Prop where
 frames:A.frames=some outer
 mod:Mod K mg base
 bs:∀b o,base.get? b=some o->s.heap.get? b=some o/\H b=none
 bsz:base.objs.size<=s.heap.objs.size
 funs:s.heap.FunFrames base outer
 frf:∀b∈frs outer,H b=none
 hok:HOk P w H s.heap
 bare:AllBare s.gens
def CE (outer:List Env) (P:Program) (w:World) (H:Hp) (s:Shared) (Q:VK) (u:Value) (s':Shared):Prop:=
 ∃v H',s'.os=s.os/\AllBare s'.gens/\Un (frs outer) [] H H' s.heap s'.heap/\HOk P w H' s'.heap/\RelV v u/\Q v H'
def CR (CX:CXT) (outer:List Env) (P:Program) (w:World) (H:Hp) (s:Shared) (Q:VK) (E:XK) (r:Result) (s':Shared):Prop:=
 match r with
 | .ok (.ret u)=>CE outer P w H s Q u s'
 | .ok _=>False
 | .error e=>CX outer H s E e s'
structure FnOk (P:Program) (w:World) (K:PySem.W.Frag) (mg:Str->Option Value) (base:Heap) (CX:CXT) (k:Nat) (f:Addr) (fd:FuncData) (ps:List Str) (sp:Sp):Prop where
 len:∀vs H Q E,sp vs H Q E->vs.length=ps.length
 run:∀(A:Around) (outer:List Env) (s:Shared) (H:Hp) (args:Args) (us:List Value) (vs:List V) (Q:VK) (E:XK),Room k A->Env0 P w K mg base A outer s H->BindsTo s fd args (ps.zip us)->Vals vs us->sp vs H Q E->
  codeAny (model P w) A (.call (.ref f) args) (CR CX outer P w H s Q E) s
section
variable {X:Cx} {pins:List (Addr×Obj)} {σ:St} {H:Hp} {s s':Shared}
theorem Inv.env0 (I:Inv X pins σ H s):Env0 X.prog X.w X.K X.mg X.base X.A X.stack s H:=
 ⟨I.ok.frames,I.ok.mod,I.bs,lKo I.ok.bsz I.sz,I.stack,I.stkFree,I.hok,I.bare⟩
theorem Inv.after {Q:VK} {u:Value} (I:Inv X pins σ H s) (h:CE X.stack X.prog X.w H s Q u s'):EP X pins σ Q u s':=by
 obtain⟨v,H',os,bare,un,hok,r,q⟩:=h
 obtain⟨hh,g,d,t,os'⟩:=s'
 obtain rfl:os'=s.os:=os
 exact⟨v,H',I.call (h':=hh) (g':=g) (d':=d) (t':=t) (ch:=[]) un hok bare (fun b z=>absurd z (by simp)),r,q⟩
end
def Binds (K:PySem.W.Frag) (fd:FuncData) (ps:List Str) (ds:List Value):Prop:=
 ∀(s:Shared) (us:List Value),K.In s.heap->(us++ds).length=ps.length->BindsTo s fd ⟨us,[]⟩ (ps.zip (us++ds))
theorem Binds.all {K:PySem.W.Frag} {fd:FuncData} {ps:List Str} (h:∀us:List Value,us.length=ps.length->bindArgs fd ⟨us,[]⟩=pure (ps.zip us)):Binds K fd ps []:=fun s us _ hl=>by
 rw[lVp] at hl ⊢
 exact .of_eq (h us hl)
def qUw (CX:CXT) (X:Cx) (E:XK):Prop:=∀(pins:List (Addr×Obj)) (σ:St) (H:Hp) (s:Shared) (e:Value) (s':Shared),Inv X pins σ H s->CX X.stack H s E e s'->X.xe e s'
section
variable {X:Cx} {CX:CXT} {k:Nat} {f C:Addr} {fd:FuncData} {ps:List Str} {sp:Sp} {dvs:List V} {ds:List Value} {E:XK} {x m:Str} {p pos apos:Pos} {e o:Expr} {es:List Expr} {ta:TE} {t:TA}
theorem run_fn {pins:List (Addr×Obj)} {σ:St} {H:Hp} {s:Shared} {Q:VK} {us:List Value} {vs:List V} (F:FnOk X.prog X.w X.K X.mg X.base CX k f fd ps sp) (hr:Room k X.A) (hb:Binds X.K fd ps ds) (hd:Vals dvs ds) (hx:qUw CX X E)
  (I:Inv X pins σ H s) (r:Vals vs us) (h:sp (vs++dvs) H Q E):wpAny (model X.prog X.w) X.A (call (.ref f) us) (EP X pins σ Q) X.xe s:=by
 have r2:Vals (vs++dvs) (us++ds):=r.append hd
 have hl:(us++ds).length=ps.length:=by rw[<-r2.length];exact F.len _ _ _ _ h
 refine wpAny_call (codeAny_mono (F.run X.A X.stack s H ⟨us,[]⟩ (us++ds) (vs++dvs) Q E hr I.env0 (hb s us I.kIn hl) r2 h) fun r s' hq=> ?_)
 cases r with
 | error e=>exact hx pins σ H s e s' I hq
 | ok fl=>
  cases fl with
  | ret u=>exact I.after hq
  | next=>exact False.elim hq
  | brk=>exact False.elim hq
  | cont=>exact False.elim hq
end
section
variable {X:Cx} {CX:CXT} {k:Nat} {f C:Addr} {fd:FuncData} {ps ks:List Str} {sp:Sp} {E:XK} {x m:Str} {p pos apos kpos:Pos} {e o:Expr} {es:List Expr} {kws:List Keyword} {te ta:TE} {t tk:TA} {nm:Option Str}
variable {g:List Value->List Value->List Value} {gV:List V->List V->List V}
end
structure FnScope (N P:List Str) (sc:Scope):Prop where
 kind:sc.kind= .function
 co:sc.isCoroutine=false
 gen:sc.isGenerator=false
 nd:N.Nodup
 pre:N.take P.length=P
 par:∀x∈P,sc.names.lookup x=some .local\/sc.names.lookup x=some .cell
 nofree:∀y∈sc.names,y.2≠ .free
theorem kQe {kindOf:Str->Option NameKind} {x:Str}:∀ {binds:List (Str×Value)} {m:Str->Option Value},(∀v,(x,v)∉binds)->bindL kindOf binds m x=m x
 | [],_,_=>rfl
 | (n,v)::r,m,h=>by
  unfold bindL
  rw[kQe fun w hw=>h w (lJz _ hw)]
  split
  ·have:x≠n:=by rintro rfl;exact h v lJx
   simp[this]
  ·rfl
theorem kQg {kindOf:Str->Option NameKind} {x:Str}:∀ {binds:List (Str×Value)} {m:Str->Option Value},(∀v,(x,v)∉binds)->bindC kindOf binds m x=m x
 | [],_,_=>rfl
 | (n,v)::r,m,h=>by
  unfold bindC
  rw[kQg fun w hw=>h w (lJz _ hw)]
  split
  ·rfl
  ·have:x≠n:=by rintro rfl;exact h v lJx
   simp[this]
theorem kQf {kindOf:Str->Option NameKind} {x:Str} {v:Value}:∀ {P:List Str} {vs:List Value} {i:Nat} {m:Str->Option Value},P.Nodup->P[i]? =some x->vs[i]? =some v->kindOf x=some .local->
  bindL kindOf (P.zip vs) m x=some v
 | [],_,_,_,_,h,_,_=>by simp at h
 | _::_,[],_,_,_,_,h,_=>by simp at h
 | p::P,w::vs,0,m,nd,h1,h2,hk=>by
  simp at h1 h2;subst h1;subst h2
  show bindL kindOf ((p,w)::P.zip vs) m p=_
  unfold bindL
  rw[kQe fun v hv=>(lK0.mp nd).1 (List.of_mem_zip hv).1,lJc hk]
  simp
 | p::P,w::vs,i+1,m,nd,h1,h2,hk=>by
  show bindL kindOf ((p,w)::P.zip vs) m x=_
  unfold bindL
  exact kQf (i:=i) (lK0.mp nd).2 (by simpa using h1) (by simpa using h2) hk
theorem kQh {kindOf:Str->Option NameKind} {x:Str} {v:Value}:∀ {P:List Str} {vs:List Value} {i:Nat} {m:Str->Option Value},P.Nodup->P[i]? =some x->vs[i]? =some v->kindOf x≠some .local->
  bindC kindOf (P.zip vs) m x=some v
 | [],_,_,_,_,h,_,_=>by simp at h
 | _::_,[],_,_,_,_,h,_=>by simp at h
 | p::P,w::vs,0,m,nd,h1,h2,hk=>by
  simp at h1 h2;subst h1;subst h2
  show bindC kindOf ((p,w)::P.zip vs) m p=_
  unfold bindC
  rw[kQg fun v hv=>(lK0.mp nd).1 (List.of_mem_zip hv).1,lJb hk]
  simp
 | p::P,w::vs,i+1,m,nd,h1,h2,hk=>by
  show bindC kindOf ((p,w)::P.zip vs) m x=_
  unfold bindC
  exact kQh (i:=i) (lK0.mp nd).2 (by simpa using h1) (by simpa using h2) hk
def start (N:List Str) (vs:List V):St:=vs.map some++List.replicate (N.length-vs.length) none
noncomputable def cxOf (CX:CXT) (P:Program) (w:World) (K:PySem.W.Frag) (mg:Str->Option Value) (base:Heap) (N:List Str) (qual:Str) (scope:Scope) (f:Addr) (cd:Value) (A:Around) (outer:List Env) (s:Shared) (H:Hp) (E:XK):Cx where
 prog:=P
 w:=w
 K:=K
 mg:=mg
 base:=base
 A:=A.deeper (envOfC qual scope s.heap.objs.size f cd)
 N:=N
 s₀:=s
 H₀:=H
 env:=envOfC qual scope s.heap.objs.size f cd
 outer:=outer
 stack:=envOfC qual scope s.heap.objs.size f cd::outer
 ex:=[]
 calm:=true
 fn:=fun _=>true
 pn:=[]
 xe:=fun e s'=>wpAny (model P w) (A.deeper (envOfC qual scope s.heap.objs.size f cd)) (leaving (envOfC qual scope s.heap.objs.size f cd) e) (fun _ s''=>CX outer H s E e s'') (fun e' s''=>CX outer H s E e' s'') s'
theorem kVq {sc:Scope} {n:Nat} {x:Str} (h:sc.names.lookup x=some .cell):∃c,(cellsFrom n sc.names []).lookup x=some c:=by
 have q:=PySem.W.cellsFrom_some sc.names n [] (.inl h)
 exact lXn.mp q
theorem kZq {CX:CXT} {P:Program} {w:World} {K:PySem.W.Frag} {mg:Str->Option Value} {base:Heap} {N ps:List Str} {qual:Str} {scope:Scope} {f:Addr} {cd:Value} {A:Around} {outer:List Env} {s s1:Shared} {H:Hp} {E:XK} {us:List Value} {vs:List V}
  (S:FnScope N ps scope) (hd:A.handled=none/\A.guards=some []) (e0:Env0 P w K mg base A outer s H) (hl:vs.length=ps.length) (r:Vals vs us)
  (x:InCallC s s.heap.objs.size (bindL (envOfC qual scope s.heap.objs.size f cd).kindOf (ps.zip us) fun _=>none) (cellsFrom (s.heap.objs.size+1) scope.names []) (bindC (envOfC qual scope s.heap.objs.size f cd).kindOf (ps.zip us) fun _=>none) s1):
  Inv (cxOf CX P w K mg base N qual scope f cd A outer s H E) [] (start N vs) H s1:=by
 have hpl:ps.length<=N.length:=by have:=lKp List.length S.pre;rw[lK1] at this;omega
 obtain⟨h1,tk,rfl,hk⟩:=x.done
 have noA:∀b:Addr,b∉(cxOf CX P w K mg base N qual scope f cd A outer s H E).ex:=fun b z=>absurd (show b∈([]:List Addr) from z) (by simp)
 refine⟨⟨e0.mod,S.kind,rfl,rfl,lJg _,fun y z c h1 h2=> ?_,fun y hy=> ?_,fun y c _ h=> ?_,fun _=>hd.1,fun _=>hd.2,Around.frames_deeper e0.frames,.inr ⟨rfl,rfl⟩,fun b z=>absurd z (noA b),e0.bs,e0.bsz,fun b _ _=>noA b,fun b z=>absurd z (noA b),e0.funs,e0.frf⟩,
  rfl,e0.bare,Un.kept hk,⟨_,x.toInCall.ns,fun i y v h1 h2 h3=> ?_⟩,fun y c h=>⟨_,x.cell y c h⟩,e0.hok.fresh (lJg _),fun y c h=> ?_,fun p hp=>absurd (show p∈([]:List (Addr×Obj)) from hp) (by simp),e0.hok.kept hk,?_⟩
 ·exact name_of_addr x.apart (lKr h1) (lKr h2)
 ·have hy:scope.names.lookup y=some .cell\/scope.names.lookup y=some .free:=hy
  rcases hy with hy | hy
  ·exact kVq hy
  ·exact absurd rfl (S.nofree _ (lKr hy))
 ·exact lVq (x.above y c (lKr h))
 ·have hi:i<vs.length:=by
   unfold start at h2
   by_cases hi:i<vs.length
   ·exact hi
   ·rw[lK5 (by simpa using hi)] at h2
    rw[List.getElem?_replicate] at h2
    split at h2<;>cases h2
  have ha:vs[i]? =some v:=by
   unfold start at h2
   rw[lK6 (by simpa using hi),lKa] at h2
   cases e:vs[i]? with
   | none=>rw[e] at h2;cases h2
   | some a=>rw[e] at h2;cases h2;rfl
  obtain⟨u,hu,rv⟩:=r.get ha
  have hp:ps[i]? =some y:=by
   rw[<-S.pre,List.getElem?_take_of_lt (by omega)];exact h1
  have ndP:ps.Nodup:=by rw[<-S.pre];exact S.nd.sublist (lQ2 _ _)
  refine⟨u,rv,?_⟩
  rcases S.par y (lJy hp) with k | k
  ·exact .inl ⟨k,kQf ndP hp hu k⟩
  ·obtain⟨c,e⟩:=kVq (n:=s.heap.objs.size+1) k
   refine .inr ⟨.inl k,c,e,?_⟩
   have q:=x.cell y c e
   rw[kQh ndP hp hu (by show scope.names.lookup y≠_;rw[k];decide)] at q
   exact q
 ·exact e0.hok.fresh (lVq (x.above y c (lKr h)))
 ·unfold start
  show _=N.length
  rw[lKk,lJh,List.length_replicate]
  omega
theorem fn_of {CX:CXT} {P:Program} {w:World} {K:PySem.W.Frag} {mg:Str->Option Value} {base:Heap} {k:Nat} {f:Addr} {name qual:Str} {params:Arguments} {body:List Stmt} {scope:Scope} {dV kV doc pm cdv ct oc:Value} {an od:Option Addr}
  {osl:Array (Option Value)} {N ps:List Str} {sp:Sp} (lk:K.lookup f=some ⟨oc,od,.func (PySem.W.fnOf name qual params body scope dV kV doc pm an cdv ct),osl⟩) (hcd:PySem.W.codeIn K cdv qual=true) (S:FnScope N ps scope)
  (len:∀vs H Q E,sp vs H Q E->vs.length=ps.length)
  (hbody:∀(A:Around) (outer:List Env) (s:Shared) (H:Hp) (vs:List V) (Q:VK) (E:XK),Room k (A.deeper (envOfC qual scope s.heap.objs.size f cdv))->sp vs H Q E->
   ∃t,PSs (cxOf CX P w K mg base N qual scope f cdv A outer s H E) body t/\t {nx:=fun _ H'=>Q .non H',rt:=Q} (start N vs) H):
  FnOk P w K mg base CX (k+1) f (PySem.W.fnOf name qual params body scope dV kV doc pm an cdv ct) ps sp:=by
 refine⟨len,fun A outer s H args us vs Q E hr e0 hb r hsp=> ?_⟩
 have hl:=len _ _ _ _ hsp
 have KX:K.In s.heap:=e0.mod.kin.keeps fun b o e=>(e0.bs b o e).1
 have lim:s.heap.NoLimit:=e0.mod.nolimit.keeps fun b o e=>(e0.bs b o e).1
 have hkind:∀y∈ps.zip us,scope.names.lookup y.1=some .local\/(scope.names.lookup y.1=some .cell/\((cellsFrom (s.heap.objs.size+1) scope.names []).lookup y.1).isSome=true):=fun ⟨n,v⟩ hy=>by
  rcases S.par n (List.of_mem_zip hy).1 with q | q
  ·exact .inl q
  ·exact .inr ⟨q,PySem.W.cellsFrom_some _ _ _ (.inl q)⟩
 refine codeAny_call_function hr.depth (KX _ _ lk) rfl S.co S.gen rfl (PySem.W.codeRec_of KX hcd) (hb _ _ _ _ ?_)
 refine wpAny_newFunctionEnv_cells S.kind hkind fun env he s1 x=> ?_
 subst he
 refine⟨lim.keeps x.toInCall.keep,codeAny_func ?_⟩
 obtain⟨t,ht,hq⟩:=hbody A outer s H vs Q E (hr.deeper _) hsp
 have I:Inv (cxOf CX P w K mg base N qual scope f cdv A outer s H E) [] (start N vs) H s1:=kZq S ⟨hr.hd,hr.gd⟩ e0 hl r x
 refine lQn (ht [] s1 (start N vs) H _ I hq) (fun fl s' hs=> ?_) fun e s' hs=>hs
 have fin:∀ {σ':St} {H':Hp} {v:V} {u:Value},Inv (cxOf CX P w K mg base N qual scope f cdv A outer s H E) [] σ' H' s'->RelV v u->Q v H'->CE outer P w H s Q u s':=
  fun {σ' H' v u} J rv q=>⟨v,H',J.os,J.bare,J.base,J.hok,rv,q⟩
 cases fl with
 | ret u=>
  obtain⟨v,σ',H',J,rv,q⟩:=hs
  exact fin J rv q
 | next=>
  obtain⟨σ',H',J,q⟩:=hs
  exact fin (v:=V.non) (u:=Value.none) J rfl q
 | brk=>
  obtain⟨_,_,_,q⟩:=hs
  exact False.elim q
 | cont=>
  obtain⟨_,_,_,q⟩:=hs
  exact False.elim q
section
variable {X:Cx} {x:Str} {p pos:Pos} {e:Expr} {es:List Expr} {t:TA} {id T:String} {r:List V->Hp->VK->Prop}
end
end L2
namespace HT
open PySem PyProof.Rows
theorem qQp (A:Around) (s:Shared) (a:Int) (t:Tok) (c:Int) (u:Tok):∃e,SeqAt.EqAt A s (.int a t) (.int c u) e/\(e=true↔a=c):=
 ⟨(a == c),SeqAt.EqAt.int_int a t c u,by simp⟩
section
open PySem.SeqAt
open PySem.AutoSeq1 (wpAny_loadPart')
open PySem.MeetsSeq PySem.MeetsSeq2 PySem.MeetsSeq3
end
section
variable {prog:Program} {w:World} {A:Around} {E:Value->Shared->Prop} {s:Shared}
theorem cat_tup {t b:Addr} {vs ws:List Value} {Q:Value->Shared->Prop} (ht:IsTup s.heap t vs.toArray) (hb:IsTup s.heap b ws.toArray) (hv:vs≠[])
  (h1:ws=[]->Q (.ref t) s) (h2:ws≠[]->Q (.ref s.heap.objs.size) {s with heap:=s.heap.push {cls:= .type "tuple",data:= .seq (vs++ws).toArray} })
  (hsz:vs.length+ws.length<=sizeLine):wpAny (model prog w) A (binaryOp .Add (.ref t) (.ref b)) Q E s:=by
 obtain⟨⟨cls,dd,data,sl⟩,ho,hc,n,hd⟩:=id ht
 obtain⟨⟨cls2,dd2,data2,sl2⟩,ho2,hc2,n2,hd2⟩:=id hb
 simp only at hc hd hc2 hd2
 subst hc hd hc2 hd2
 have e:vs.toArray++ws.toArray=(vs++ws).toArray:=by simp
 by_cases hw:ws=[]
 ·exact concat_meets ⟨_,ho,rfl⟩ ⟨_,ho2,rfl⟩ noFill_tuple_add seq_tuple_add PySem.F.slot_tuple_add PySem.F.entry_tuple_add (lYo _ _)
   (tuple_addW1 t b vs.toArray ws.toArray n n2 dd dd2 sl sl2 (by simpa using hv) (by simp[hw])) ⟨ho,ho2,h1 hw⟩
 ·refine concat_meets ⟨_,ho,rfl⟩ ⟨_,ho2,rfl⟩ noFill_tuple_add seq_tuple_add PySem.F.slot_tuple_add PySem.F.entry_tuple_add (lYo _ _)
   (tuple_addW2 t b vs.toArray ws.toArray n n2 dd dd2 sl sl2 (by simpa using hv) (by simpa using hw) (by rw[lJv,lJv];exact hsz)) ⟨ho,ho2,?_⟩
  rw[e]
  exact h2 hw
def sIx (n d:Nat):Option Int->Nat
 | none=>d
 | some v=>if v<0 then (v+(n:Int)).toNat else min v.toNat n
theorem sIx_none (n d:Nat):sIx n d none=d:=rfl
theorem sIx_nat (n d k:Nat):sIx n d (some (k:Int))=min k n:=by
 show (if (k:Int)<0 then ((k:Int)+(n:Int)).toNat else min (k:Int).toNat n)=min k n
 rw[lJb (by omega),lXo]
theorem sIx_le (n d:Nat) (hd:d<=n) (o:Option Int):sIx n d o<=n:=by
 cases o with
 | none=>exact hd
 | some v=>
  show (if v<0 then (v+(n:Int)).toNat else min v.toNat n)<=n
  by_cases hv:v<0
  ·rw[lJc hv];omega
  ·rw[lJb hv];exact Nat.min_le_right _ _
theorem qJh (v:Int) (n d:Nat):(if v<0 then max (v+(n:Int)) 0 else min v (n:Int))=((sIx n d (some v):Nat):Int):=by
 show (if v<0 then max (v+(n:Int)) 0 else min v (n:Int))=(((if v<0 then (v+(n:Int)).toNat else min v.toNat n):Nat):Int)
 by_cases hv:v<0
 ·simp only[lJc hv];omega
 ·simp only[lJb hv];omega
theorem kXo (lo hi:Option Int) (n:Nat):Builtin.Slice.sliceAdjust lo hi 1 (n:Int)=(((sIx n 0 lo:Nat):Int),((sIx n n hi:Nat):Int)):=by
 have h1:¬ ((1:Int)<0):=by omega
 unfold Builtin.Slice.sliceAdjust
 simp only[h1,lKc]
 refine lK7 ?_ ?_
 ·cases lo with
  | none=>rfl
  | some v=>exact qJh v n 0
 ·cases hi with
  | none=>rfl
  | some v=>exact qJh v n n
theorem kV7 (i j:Nat):Builtin.Slice.slicePlaces (i:Int) (j:Int) 1=j-i:=by
 unfold Builtin.Slice.slicePlaces
 have h1:(1:Int)>0:=by omega
 simp only[h1,lKn,Int.ediv_one]
 split<;>omega
theorem jZt {v:Value} {o:Option Int} {Q:Option Int->Shared->Prop} (p:IsPart v o) (h:Q o s):wpAny (model prog w) A (Builtin.Slice.slicePartIndex v) Q E s:=by
 cases p with
 | none=>exact slicePart_none h
 | int i t=>exact slicePart_int h
theorem jUn {sl:Addr} {vl vu:Value} {lo hi:Option Int} {n:Nat} {Q:Int×Int×Nat->Shared->Prop} (hs:s.heap.IsSliceOf sl vl vu .none) (pl:IsPart vl lo) (pu:IsPart vu hi)
  (h:Q (((sIx n 0 lo:Nat):Int),1,sIx n n hi-sIx n 0 lo) s):wpAny (model prog w) A (Builtin.Slice.sliceApplied (.ref sl) (pure (n:Int))) Q E s:=by
 obtain⟨os,hos,hcs,hds⟩:=id hs
 unfold Builtin.Slice.sliceApplied Builtin.Slice.sliceFields
 refine lJa (lJa (lQ0 hos hds (x:=vl) rfl (lJa (lQ0 hos hds (x:=vu) rfl (lJa (lQ0 hos hds (x:= .none) rfl (lJd ?_)))))))
 refine lJa (slicePart_none ?_)
 show wpAny _ _ (if ((1:Int) == 0)=true then _ else _) _ _ s
 rw[lJb (by decide)]
 refine lJa (jZt pl (lJa (jZt pu (lJa (lJd ?_)))))
 show wpAny _ _ (match Builtin.Slice.sliceAdjust lo hi 1 (n:Int) with | (lo,hi)=>pure (lo,(1:Int),Builtin.Slice.slicePlaces lo hi 1)) _ _ s
 rw[kXo lo hi n]
 show wpAny _ _ (pure (((sIx n 0 lo:Nat):Int),(1:Int),Builtin.Slice.slicePlaces ((sIx n 0 lo:Nat):Int) ((sIx n n hi:Nat):Int) 1)) _ _ s
 rw[kV7]
 exact lJd h
theorem qKl (xs:Array Value) (i k:Nat):((List.range k).filterMap fun (m:Nat)=>xs[((i:Int)+(m:Int)*1).toNat]?).toArray=((xs.toList.drop i).take k).toArray:=by
 have e:(fun (m:Nat)=>xs[((i:Int)+(m:Int)*1).toNat]?)=fun m=>xs[i+m]? :=by
  funext m
  have:((i:Int)+(m:Int)*1).toNat=i+m:=by omega
  rw[this]
 rw[e]
 have:=pick_run xs i k
 rw[List.filterMap_map] at this
 have e2:((fun x=>xs[x]?)∘fun x=>i+x)=fun m=>xs[i+m]? :=rfl
 rw[e2] at this
 rw[this]
theorem getItem_tuple_cut {t sl:Addr} {items:Array Value} {vl vu:Value} {lo hi:Option Int} {Q:Value->Shared->Prop} (ht:IsTup s.heap t items) (hs:s.heap.IsSliceOf sl vl vu .none) (pl:IsPart vl lo) (pu:IsPart vu hi)
  (hw:¬ (sIx items.size 0 lo=0/\sIx items.size items.size hi=items.size))
  (h:Q (.ref s.heap.objs.size) {s with heap:=s.heap.push {cls:= .type "tuple",data:= .seq ((items.toList.drop (sIx items.size 0 lo)).take (sIx items.size items.size hi-sIx items.size 0 lo)).toArray} })
  (hsz:items.size<=sizeLine):wpAny (model prog w) A (getItem (.ref t) (.ref sl)) Q E s:=by
 have htake:sizeOk (.seq ((items.toList.drop (sIx items.size 0 lo)).take (sIx items.size items.size hi-sIx items.size 0 lo)).toArray):=by
  show ((items.toList.drop (sIx items.size 0 lo)).take (sIx items.size items.size hi-sIx items.size 0 lo)).toArray.size<=sizeLine
  rw[lJv,lK1,lVc,lKf]
  omega
 have hj:sIx items.size items.size hi<=items.size:=sIx_le _ _ (lJg _) hi
 obtain⟨os,hos,hcs,hds⟩:=id hs
 have hTs:s.TypeIs (.ref sl) "slice":=⟨os,hos,hcs⟩
 unfold getItem
 try with_reducible refine lK8 ?_
 first | refine lJa (lJd ?_) | skip
 refine lJa (wpAny_sequenceKey ht.typeIs (by decide) ?_)
 refine lJa (lVm (name:=Str.ofString "__getitem__") ht.typeIs lV8
  (lQo lV8 ht.typeIs entry_tuple_getitem ?_ (args_tuple_getitem _ _)))
 show wpAny _ _ (Builtin.Tuple.tupleItemsOf (.ref t) >>= _) _ _ s
 refine lJa (tupleItemsOf_ ht ?_)
 refine lJa (lXl hTs ?_)
 rw[lJc (by decide)]
 refine lJa (jUn hs pl pu ?_)
 have hno:¬ ((((sIx items.size 0 lo:Nat):Int) == 0&&(1:Int) == 1&&(sIx items.size items.size hi-sIx items.size 0 lo) == items.size)=true):=by
  intro q
  rw[lKs,lKs] at q
  have q1:((sIx items.size 0 lo:Nat):Int)=0:=eq_of_beq q.1.1
  have q2:sIx items.size items.size hi-sIx items.size 0 lo=items.size:=eq_of_beq q.2
  exact hw ⟨by omega,by omega⟩
 show wpAny _ _ (if (((sIx items.size 0 lo:Nat):Int) == 0&&(1:Int) == 1&&(sIx items.size items.size hi-sIx items.size 0 lo) == items.size)=true then _ else _) _ _ s
 rw[lJb hno,qKl]
 first
  | exact lJa (m:=Builtin.Tuple.tupleExact _) (lK9 (lJd ⟨_,rfl,lJd h⟩) htake)
  | exact lJa (m:=Builtin.Tuple.tupleExact _) (lK9 (lJa (lJd (lJd ⟨_,rfl,lJd h⟩))) htake)
  | exact lJa (lJa (m:=Builtin.Tuple.tupleExact _) (lK9 (lJd (lJd ⟨_,rfl,lJd h⟩)) htake))
  | exact lJa (lJa (m:=Builtin.Tuple.tupleExact _) (lK9 (lJd ⟨_,rfl,lJd h⟩) htake))
end
end HT
namespace L2
open PySem PySem.Spec PyProof.Rows
abbrev TO:=St->Hp->(Option Int->Hp->Prop)->Prop
theorem jZ3 {ns:List Int}:∀ {us:List Value},Vals (ns.map V.int) us->IntsAre us ns:=by
 induction ns with
 | nil=>intro us r;rw[List.map_nil] at r;cases r;exact .nil
 | cons n ns ih=>
  intro us r
  rw[lJn] at r
  cases r with
  | cons r1 r2=>
   obtain⟨t,e⟩:=r1
   subst e
   exact .cons n t (ih r2)
section
variable {X:Cx} {e:Expr} {te:TE} {lo hi:Option Expr} {tl th:TO} {pos p2:Pos}
def SlR (X:Cx) (r:V->Option Int->Option Int->Hp->VK->Prop):Prop:=
 ∀(pins:List (Addr×Obj)) (s:Shared) (σ:St) (H:Hp) (x:V) (v vl vu:Value) (lo hi:Option Int) (sl:Addr) (Q:VK),Inv X pins σ H s->RelV x v->s.heap.IsSliceOf sl vl vu .none->IsPart vl lo->IsPart vu hi->r x lo hi H Q->
  ∃T id,typeLookup (.type T) "__getitem__"=pure (some (.builtin id))/\s.TypeIs v T/\wpAny (model X.prog X.w) X.A (getItem v (.ref sl)) (EP X pins σ Q) X.xe s
def cutV (xs:List V) (lo hi:Option Int):List V:=(xs.drop (HT.sIx xs.length 0 lo)).take (HT.sIx xs.length xs.length hi-HT.sIx xs.length 0 lo)
theorem jZb (xs:List V) (lo hi:Option Int):(cutV xs lo hi).length<=xs.length:=by
 unfold cutV
 rw[lK1,lVc]
 omega
noncomputable def rSlT (K:PySem.W.Frag):V->Option Int->Option Int->Hp->VK->Prop:=fun x lo hi H Q=>∃a xs,x= .ref a/\SqT K H a xs/\
 ¬ (HT.sIx xs.length 0 lo=0/\HT.sIx xs.length xs.length hi=xs.length)/\∀p,H p=none->Q (.ref p) (upd H p (.tup (cutV xs lo hi)))
theorem sl_tup:SlR X (rSlT X.K):=by
 intro pins s σ H x v vl vu lo hi sl Q I rx hs pl pu h
 obtain⟨a,xs,rfl,hx,hw,q⟩:=h
 cases rx
 obtain⟨its,r,ht,hz⟩:=I.tuple hx
 have hlen:its.toArray.size=xs.length:=by rw[lJv];exact r.length.symm
 refine⟨"tuple",_,lV8.lookup,ht.typeIs,?_⟩
 refine HT.getItem_tuple_cut ht hs pl pu (by rw[hlen];exact hw) ?_ (by rw[hlen];exact hz)
 rw[hlen]
 refine⟨.ref s.heap.objs.size,_,I.laid (t':=s.toks) (o:= .tup (cutV xs lo hi)) (fun b ob q=>lJm _ q) (lJg _) ?_,rfl,q _ (I.hok.fresh (lJg _))⟩
 exact⟨lKo (jZb xs lo hi) hz,_,(r.drop (HT.sIx xs.length 0 lo)).take (HT.sIx xs.length xs.length hi-HT.sIx xs.length 0 lo),TupD.new _ _⟩
noncomputable def qKj (K:PySem.W.Frag):R2:=fun x y H Q=>∃a b xs ys,x= .ref a/\y= .ref b/\SqT K H a xs/\SqT K H b ys/\xs≠[]/\xs.length+ys.length<=sizeLine/\
 (ys=[]->Q (.ref a) H)/\(ys≠[]->∀p,H p=none->Q (.ref p) (upd H p (.tup (xs++ys))))
theorem Vals.nil_iff {xs:List V} {us:List Value} (r:Vals xs us):us=[]↔xs=[]:=by
 cases r with
 | nil=>simp
 | cons _ _=>simp
theorem qVj:OpR X (binaryOp .Add) (qKj X.K):=by
 intro pins s σ H x y v u Q I rx ry h
 obtain⟨a,b,xs,ys,rfl,rfl,ha,hb,hx,hz,q1,q2⟩:=h
 cases rx
 cases ry
 obtain⟨its,r1,p1,_⟩:=I.tuple ha
 obtain⟨its2,r2,p2,_⟩:=I.tuple hb
 refine HT.cat_tup p1 p2 (fun z=>hx (r1.nil_iff.mp z)) (fun z=>⟨.ref a,H,I,rfl,q1 (r2.nil_iff.mp z)⟩) (fun z=> ?_) (by rw[<-r1.length,<-r2.length];exact hz)
 refine⟨.ref s.heap.objs.size,_,I.laid (t':=s.toks) (o:= .tup (xs++ys)) (fun b ob q=>lJm _ q) (lJg _) ?_,rfl,q2 (fun w=>z (r2.nil_iff.mpr w)) _ (I.hok.fresh (lJg _))⟩
 exact⟨by rw[lKk];exact hz,_,r1.append r2,TupD.new _ _⟩
end
def ixN (n:Nat) (i:Int):Option Nat:=if 0<=i then (if i<n then some i.toNat else none) else if -(n:Int)<=i then some (i+n).toNat else none
def atI {α:Type} (xs:List α) (i:Int):Option α:=(ixN xs.length i).bind fun j=>xs[j]?
theorem kZn {n:Nat} {i:Int} {j:Nat} (h:ixN n i=some j):seqIndex? i n=some j/\j<n/\ -(n:Int)<=i/\i<n:=by
 unfold ixN at h
 by_cases h0:0<=i
 ·rw[lJc h0] at h
  by_cases h1:i<n
  ·rw[lJc h1] at h
   have e:i.toNat=j:=lJw h
   exact⟨by rw[seqIndex_of h0 h1,e],by omega,by omega,h1⟩
  ·rw[lJb h1] at h;cases h
 ·rw[lJb h0] at h
  by_cases h1: -(n:Int)<=i
  ·rw[lJc h1] at h
   have e:(i+n).toNat=j:=lJw h
   exact⟨by rw[seqIndex_neg (by omega) h1,e],by omega,h1,by omega⟩
  ·rw[lJb h1] at h;cases h
theorem qJo {α:Type} {xs:List α} {i:Int} {v:α} (h:atI xs i=some v):∃j,seqIndex? i xs.length=some j/\xs[j]? =some v/\j<xs.length/\ -(xs.length:Int)<=i/\i<xs.length:=by
 unfold atI at h
 cases e:ixN xs.length i with
 | none=>rw[e] at h;cases h
 | some j=>
  rw[e] at h
  obtain⟨h1,h2,h3,h4⟩:=kZn e
  exact⟨j,h1,h,h2,h3,h4⟩
def qXu (b:Expr):Prop:=∀o i,subscripted b false o i=operate [o,i] (getItem o i)
def IxR (X:Cx) (r:R2):Prop:=
 ∀(value slice:Expr) (pins:List (Addr×Obj)) (s:Shared) (σ:St) (H:Hp) (x y:V) (v u:Value) (Q:VK),Inv X pins σ H s->RelV x v->RelV y u->r x y H Q->
  subscripted slice false v u=operate [v,u] (getItem v u)->wpAny (model X.prog X.w) X.A (subscriptTail value slice v u) (EP X pins σ Q) X.xe s
def MtR (X:Cx) (id:String) (r:V->List V->Hp->VK->Prop):Prop:=
 ∀(pins:List (Addr×Obj)) (s:Shared) (σ:St) (H:Hp) (x:V) (xs:List V) (v:Value) (us:List Value) (Q:VK),Inv X pins σ H s->RelV x v->Vals xs us->r x xs H Q->
  wpAny (model X.prog X.w) X.A (call (.builtin id) (v::us)) (EP X pins σ Q) X.xe s
section
variable {X:Cx} {a b:Expr} {ta tb:TE} {pos:Pos}
theorem IxR.or {r r':R2} (h:IxR X r) (h':IxR X r'):IxR X (fun x y H Q=>r x y H Q\/r' x y H Q):=by
 intro value slice pins s σ H x y v u Q I rx ry q hs
 rcases q with q | q
 ·exact h value slice pins s σ H x y v u Q I rx ry q hs
 ·exact h' value slice pins s σ H x y v u Q I rx ry q hs
def rIxL (K:PySem.W.Frag):R2:=fun x y H Q=>∃p xs i v,x= .ref p/\y= .int i/\SqL K H p xs/\atI xs i=some v/\Q v H
def rIxT (K:PySem.W.Frag):R2:=fun x y H Q=>∃p xs i v,x= .ref p/\y= .int i/\SqT K H p xs/\atI xs i=some v/\Q v H
theorem ix_list:IxR X (rIxL X.K):=by
 intro value slice pins s σ H x y v u Q I rx ry h hs
 obtain⟨p,xs,i,z,rfl,rfl,hq,he,q⟩:=h
 cases rx
 obtain⟨t,rfl⟩:=ry
 obtain⟨its,r,pl,hz⟩:=I.list hq
 obtain⟨j,h1,h2,h3,h4,h5⟩:=qJo he
 obtain⟨w,ew,rw'⟩:=r.get h2
 have hl:=r.length
 have hn:=jZ0
 have fin:EP X pins σ Q w s:=⟨z,H,I,rw',q⟩
 by_cases h0:0<=i
 ·have hj:i.toNat=j:=by
   rw[seqIndex_of h0 h5] at h1
   exact lJw h1
  exact item_listR pl.isList h0 (by omega) (by rw[hj];simpa using ew) fin hs
 ·have hj:(i+(its.toArray.size:Int)).toNat=j:=by
   rw[seqIndex_neg (by omega) h4] at h1
   rw[lJv,<-hl]
   exact lJw h1
  exact subscriptTail_builtinR (x:=w) pl.isList.typeIs slot_list_getitem.lookup
   (wpAny_getItem_list_neg (Q:=fun r s'=>r=w/\EP X pins σ Q r s') pl.isList (by omega) (by rw[lJv]<;>omega) (by omega) (by rw[hj];simpa using ew) ⟨rfl,fin⟩) hs
theorem ix_tup:IxR X (rIxT X.K):=by
 intro value slice pins s σ H x y v u Q I rx ry h hs
 obtain⟨p,xs,i,z,rfl,rfl,hq,he,q⟩:=h
 cases rx
 obtain⟨t,rfl⟩:=ry
 obtain⟨its,r,pl,hz⟩:=I.tuple hq
 obtain⟨j,h1,h2,h3,h4,h5⟩:=qJo he
 obtain⟨w,ew,rw'⟩:=r.get h2
 have hl:=r.length
 have hn:=jZ0
 have fin:EP X pins σ Q w s:=⟨z,H,I,rw',q⟩
 exact subscriptTail_builtinR (x:=w) pl.typeIs slot_tuple_getitem.lookup
  (getItem_tuple (j:=j) (Q:=fun r s'=>r=w/\EP X pins σ Q r s') pl (by omega) (by omega) (by rw[lJv,<-hl];exact h1) (by simpa using ew) ⟨rfl,fin⟩) hs
theorem kXh (its:List Value) (n j:Nat) (u:Value):Obj.mapSeq (·.setIfInBounds j u) {cls:= .type "list",data:= .seq its.toArray n}={cls:= .type "list",data:= .seq (its.set j u).toArray n}:=by
 simp[Obj.mapSeq]
theorem Inv.lst {pins:List (Addr×Obj)} {σ:St} {H:Hp} {s:Shared} {p:Addr} {xs:List V} (I:Inv X pins σ H s) (h:H p=some (.lst xs)):
  ∃(its:List Value) (n:Nat),Vals xs its/\s.heap.get? p=some {cls:= .type "list",data:= .seq its.toArray n}/\xs.length<=sizeLine:=by
 obtain⟨z,its,n,r,e⟩:=I.hok p _ h
 exact⟨its,n,r,e,z⟩
theorem Inv.lstUpd {pins:List (Addr×Obj)} {σ:St} {H:Hp} {s:Shared} {p:Addr} {xs ys:List V} {its its':List Value} {n n':Nat} {f:Obj->Obj} (I:Inv X pins σ H s) (h:H p=some (.lst xs))
  (ho:s.heap.get? p=some {cls:= .type "list",data:= .seq its.toArray n}) (hf:f {cls:= .type "list",data:= .seq its.toArray n}={cls:= .type "list",data:= .seq its'.toArray n'}) (r:Vals ys its') (hz:ys.length<=sizeLine) (t:Nat):
  Inv X pins σ (upd H p (.lst ys)) {s with heap:=s.heap.update p f,toks:=t}:=by
 have e:(s.heap.update p f).get? p=some {cls:= .type "list",data:= .seq its'.toArray n'}:=by
  rw[lXp f ho (by rw[hf]<;>rfl),hf]
 refine I.write (x:=p) (e:=p) (by rw[h];trivial) (.inl rfl) (fun b u hb q=>(lX9 _ _ (Ne.symm hb)).trans q) ⟨_,e⟩ ?_
 exact⟨hz,its',n',r,e⟩
def qKh:V->V->V->Hp->(Hp->Prop)->Prop:=fun o i v H Q=>∃p xs k j,o= .ref p/\i= .int k/\H p=some (.lst xs)/\ixN xs.length k=some j/\Q (upd H p (.lst (xs.set j v)))
theorem kJl:PSet X qKh:=by
 intro pins s σ H o i v ov iv u Q I ro ri rv h
 obtain⟨p,xs,k,j,rfl,rfl,hp,hj,q⟩:=h
 cases ro
 obtain⟨t,rfl⟩:=ri
 obtain⟨its,n,r,ho,hz⟩:=I.lst hp
 obtain⟨h1,h2,h3,h4⟩:=kZn hj
 have hl:=r.length
 have hn:=jZ0
 have I':Inv X pins σ (upd H p (.lst (xs.set j v))) {s with heap:=s.heap.update p (Obj.mapSeq (·.setIfInBounds j u))}:=
  I.lstUpd hp ho (kXh its n j u) (r.set rv j) (by rw[lVr];exact hz) s.toks
 by_cases h0:0<=k
 ·have hk:k.toNat=j:=by
   rw[seqIndex_of h0 h4] at h1
   exact lJw h1
  exact PySem.W.ki_setAt ho h0 (by omega) (by rw[lJv,<-hl];exact h4) (by rw[hk];exact⟨_,I',q⟩)
 ·have hk:(k+(its.toArray.size:Int)).toNat=j:=by
   rw[seqIndex_neg (by omega) h3] at h1
   rw[lJv,<-hl]
   exact lJw h1
  exact PySem.W.ki_setBack ho (by omega) (by rw[lJv,<-hl];exact h3) (by omega) (by rw[hk];exact⟨_,I',q⟩)
theorem kKq (lo hi:Option Int) (n:Nat):(sliceBounds lo hi none n).1=((HT.sIx n 0 lo:Nat):Int)/\(sliceBounds lo hi none n).2.1=((HT.sIx n n hi:Nat):Int)/\(sliceBounds lo hi none n).2.2=1:=by
 refine⟨?_,?_,rfl⟩
 ·cases lo with
  | none=>simp[sliceBounds,HT.sIx]
  | some i=>
   simp only[sliceBounds,HT.sIx,Option.getD_none,show (1:Int)>0 by decide,lKn]
   by_cases h:i<0
   ·simp only[h,lKn]<;>omega
   ·simp only[h,lKc]<;>omega
 ·cases hi with
  | none=>simp[sliceBounds,HT.sIx]
  | some i=>
   simp only[sliceBounds,HT.sIx,Option.getD_none,show (1:Int)>0 by decide,lKn]
   by_cases h:i<0
   ·simp only[h,lKn]<;>omega
   ·simp only[h,lKc]<;>omega
theorem kJk (its:List Value) (lo hi:Option Int):slicePick its.toArray lo hi none=((its.drop (HT.sIx its.length 0 lo)).take (HT.sIx its.length its.length hi-HT.sIx its.length 0 lo)).toArray:=by
 obtain⟨h1,h2,h3⟩:=kKq lo hi its.toArray.size
 unfold slicePick
 rw[h1,h2,h3]
 simp only[sliceRange_one,pick_run,lJv]<;>rfl
def rSlL (K:PySem.W.Frag):V->Option Int->Option Int->Hp->VK->Prop:=fun x lo hi H Q=>∃a xs,x= .ref a/\SqL K H a xs/\∀p,H p=none->Q (.ref p) (upd H p (.lst (cutV xs lo hi)))
theorem qU6:SlR X (rSlL X.K):=by
 intro pins s σ H x v vl vu lo hi sl Q I rx hs pl pu h
 obtain⟨a,xs,rfl,hx,q⟩:=h
 cases rx
 obtain⟨its,r,ht,hz⟩:=I.list hx
 have hlen:=r.length
 refine⟨"list",_,slot_list_getitem.lookup,ht.isList.typeIs,?_⟩
 refine wpAny_getItem_list_slice ht.isList hs pl pu .none (by simp) ?_ (by rw[lJv]<;>omega)
 rw[kJk,<-hlen]
 refine⟨.ref s.heap.objs.size,_,I.laid (t':=s.toks) (o:= .lst (cutV xs lo hi)) (fun b ob q=>lJm _ q) (lJg _) ?_,rfl,q _ (I.hok.fresh (lJg _))⟩
 exact⟨lKo (jZb xs lo hi) hz,_,0,(r.drop (HT.sIx xs.length 0 lo)).take (HT.sIx xs.length xs.length hi-HT.sIx xs.length 0 lo),lJ6 _ rfl⟩
def jZn:V->Bool
 | .non=>true
 | .bl _=>true
 | .int _=>true
 | .str _=>true
 | _=>false
noncomputable def eqV:V->V->Bool
 | .non,.non=>true
 | .bl a,.bl b=>a == b
 | .bl a,.int b=>(if a then 1 else 0) == b
 | .int a,.bl b=>a == (if b then 1 else 0)
 | .int a,.int b=>a == b
 | .str a,.str b=>a == b
 | _,_=>false
theorem eqAt_V {A:Around} {s:Shared} {y x:V} {u v:Value} (ry:RelV y u) (rx:RelV x v) (fy:jZn y=true) (fx:jZn x=true):SeqAt.EqAt A s u v (eqV y x):=by
 cases y with
 | non=>
  cases ry
  cases x with
  | non=>cases rx;exact SeqAt.EqAt.same _
  | bl b=>cases rx;exact SeqAt.EqAt.none_bool b
  | int b=>obtain⟨t,rfl⟩:=rx;exact SeqAt.EqAt.none_int b t
  | str b=>obtain⟨t,rfl⟩:=rx;exact SeqAt.EqAt.none_str b t
  | _=>exact absurd (show false=true from fx) lJp
 | bl a=>
  cases ry
  cases x with
  | non=>cases rx;exact SeqAt.EqAt.bool_none a
  | bl b=>cases rx;exact SeqAt.EqAt.bool_bool a b
  | int b=>obtain⟨t,rfl⟩:=rx;exact SeqAt.EqAt.bool_int a b t
  | str b=>obtain⟨t,rfl⟩:=rx;exact SeqAt.EqAt.bool_str a b t
  | _=>exact absurd (show false=true from fx) lJp
 | int a=>
  obtain⟨t',rfl⟩:=ry
  cases x with
  | non=>cases rx;exact SeqAt.EqAt.int_none a t'
  | bl b=>cases rx;exact SeqAt.EqAt.int_bool a t' b
  | int b=>obtain⟨t,rfl⟩:=rx;exact SeqAt.EqAt.int_int a t' b t
  | str b=>obtain⟨t,rfl⟩:=rx;exact SeqAt.EqAt.int_str a t' b t
  | _=>exact absurd (show false=true from fx) lJp
 | str a=>
  obtain⟨t',rfl⟩:=ry
  cases x with
  | non=>cases rx;exact SeqAt.EqAt.str_none a t'
  | bl b=>cases rx;exact SeqAt.EqAt.str_bool a t' b
  | int b=>obtain⟨t,rfl⟩:=rx;exact SeqAt.EqAt.str_int a t' b t
  | str b=>obtain⟨t,rfl⟩:=rx;exact SeqAt.EqAt.str_str a t' b t
  | _=>exact absurd (show false=true from fx) lJp
 | _=>exact absurd (show false=true from fy) lJp
def eqU (x:V) (u:Value):Bool:=match u with
 | .none=>eqV .non x
 | .bool b=>eqV (.bl b) x
 | .int i _=>eqV (.int i) x
 | .str z _=>eqV (.str z) x
 | _=>false
theorem qUp {x y:V} {u:Value} (r:RelV y u) (f:jZn y=true):eqU x u=eqV y x:=by
 cases y with
 | non=>cases r;rfl
 | bl b=>cases r;rfl
 | int i=>obtain⟨t,rfl⟩:=r;rfl
 | str z=>obtain⟨t,rfl⟩:=r;rfl
 | _=>exact absurd (show false=true from f) lJp
theorem kUs {x:V}:∀ {xs:List V} {us:List Value},Vals xs us->xs.all jZn=true->us.any (eqU x)=xs.any fun y=>eqV y x
 | _,_,.nil,_=>rfl
 | y::xs,u::us,.cons r t,f=>by
  rw[lVd,lKs] at f
  rw[lQs,lQs,qUp r f.1,kUs t f.2]
theorem kJ4 {A:Around} {s:Shared} {x:V} {v:Value} (rx:RelV x v) (fx:jZn x=true):∀ {xs:List V} {us:List Value},Vals xs us->xs.all jZn=true->∀u∈us,SeqAt.EqAt A s u v (eqU x u)
 | _,_,.nil,_=>fun u hu=>by cases hu
 | y::xs,u::us,.cons r t,f=>fun u' hu=>by
  rw[lVd,lKs] at f
  rcases (lJk.mp hu) with rfl | hu
  ·rw[qUp r f.1];exact eqAt_V r rx f.1 fx
  ·exact kJ4 rx fx t f.2 u' hu
def inV (x:V) (xs:List V):Bool:=xs.any fun y=>eqV y x
def rIn (K:PySem.W.Frag) (neg:Bool):R2:=fun x y H Q=>∃p xs,y= .ref p/\(SqL K H p xs\/SqT K H p xs)/\jZn x=true/\xs.all jZn=true/\Q (.bl (if neg then !inV x xs else inV x xs)) H
theorem kKw:OpR X (compareOp .NotIn) (rIn X.K true):=by
 intro pins s σ H x y v u Q I rx ry h
 obtain⟨p,xs,rfl,hq,fx,fs,q⟩:=h
 cases ry
 rcases hq with hq | hq
 ·obtain⟨its,r,pl,hz⟩:=I.list hq
  refine SeqAt.notIn_listAt (eqU x) pl.isList (fun w hw=>kJ4 rx fx r fs w (by simpa using hw)) ⟨.bl _,H,I,rfl,?_⟩
  rw[show its.toArray.any (eqU x)=its.any (eqU x) by simp,kUs r fs]
  exact q
 ·obtain⟨its,r,pl,hz⟩:=I.tuple hq
  refine SeqAt.notIn_tupleAt (eqU x) pl (fun w hw=>kJ4 rx fx r fs w (by simpa using hw)) ⟨.bl _,H,I,rfl,?_⟩
  rw[show its.toArray.any (eqU x)=its.any (eqU x) by simp,kUs r fs]
  exact q
theorem kQd:kQn X (.builtin "len") (fun xs H Q=>∃p ys,xs=[.ref p]/\(SqL X.K H p ys\/SqT X.K H p ys)/\Q (.int ys.length) H):=by
 intro pins s σ H xs us Q I r h
 obtain⟨p,ys,rfl,hq,q⟩:=h
 obtain⟨u,rfl,rx⟩:=kVt r
 cases rx
 have hn:=jZ0
 rcases hq with hq | hq
 ·obtain⟨its,r',pl,hz⟩:=I.list hq
  have hlen:=r'.length
  exact Calls.call_len_list pl.isList (by simp only[lJv]<;>omega) ⟨.int ys.length,H,I.tok _,⟨s.toks+1,by rw[lJv,hlen]⟩,q⟩
 ·obtain⟨its,r',pl,hz⟩:=I.tuple hq
  have hlen:=r'.length
  exact len_tuple pl (by simp only[lJv]<;>omega) ⟨.int ys.length,H,I.tok _,⟨s.toks+1,by rw[lJv,hlen]⟩,q⟩
theorem kKj:kQn X (.type "tuple") (fun xs H Q=>∃p ys,xs=[.ref p]/\((SqL X.K H p ys/\∀l,H l=none->Q (.ref l) (upd H l (.tup ys)))\/(SqT X.K H p ys/\Q (.ref p) H))):=by
 intro pins s σ H xs us Q I r h
 obtain⟨p,ys,rfl,h⟩:=h
 obtain⟨u,rfl,rx⟩:=kVt r
 cases rx
 rcases h with ⟨hq,q⟩ | ⟨hq,q⟩
 ·obtain⟨its,r',pl,hz⟩:=I.list hq
  have hlen:=r'.length
  refine call_tuple_list pl.isList (fun h' kp=> ?_) (by simp only[lJv]<;>omega)
  have I1:Inv X pins σ H {s with heap:=h'}:=I.kept (t':=s.toks) kp
  have I2:Inv X pins σ (upd H h'.objs.size (.tup ys)) {s with heap:=h'.push {cls:= .type "tuple",data:= .seq its.toArray} }:=
   I1.laid (t':=s.toks) (fun b o e=>lJm _ e) (lJg _) (show ObjOk X.prog X.w _ _ _ (.tup ys) from⟨hz,its,r',TupD.new _ _⟩)
  exact⟨.ref h'.objs.size,_,I2,rfl,q _ (I1.hok.fresh (lJg _))⟩
 ·obtain⟨its,r',pl,hz⟩:=I.tuple hq
  exact call_tuple_same pl ⟨.ref p,H,I,rfl,q⟩
def tyV (K:PySem.W.Frag) (T:String) (x:V) (H:Hp):Prop:=match x with
 | .str _=>T="str"
 | .int _=>T="int"
 | .ref p=>(T="list"/\∃xs,SqL K H p xs)\/(T="tuple"/\∃o,K.lookup p=some o/\o.cls= .type "tuple"/\o.dict=none)\/
   (T="dict"/\((∃kvs,H p=some (.dK kvs))\/∃kvs,H p=some (.dT kvs)))\/(T="set"/\∃S n,H p=some (.set S n))
 | _=>False
theorem tyV_is {pins:List (Addr×Obj)} {σ:St} {H:Hp} {s:Shared} {T:String} {x:V} {v:Value} (I:Inv X pins σ H s) (r:RelV x v) (ty:tyV X.K T x H):
  s.TypeIs v T/\∀a,v= .ref a->∃ob,s.heap.get? a=some ob/\ob.dict=none:=by
 cases x with
 | str z=>
  obtain⟨t,rfl⟩:=r
  cases (show T="str" from ty)
  exact⟨typeIs_str s z t,fun _ e=>nomatch e⟩
 | int i=>
  obtain⟨t,rfl⟩:=r
  cases (show T="int" from ty)
  exact⟨typeIs_int s i t,fun _ e=>nomatch e⟩
 | ref p=>
  cases r
  rcases ty with ⟨rfl,xs,hq⟩ | ⟨rfl,o,hk,hc,hd⟩ | ⟨rfl,hk⟩ | ⟨rfl,S,n,hk⟩
  ·obtain⟨its,_,pl,_⟩:=I.list hq
   refine⟨pl.isList.typeIs,fun a e=> ?_⟩
   cases e
   obtain⟨o,n,e,c,hd,_⟩:=pl
   exact⟨o,e,hd⟩
  ·refine⟨⟨o,I.kIn p o hk,hc⟩,fun a e=> ?_⟩
   cases e
   exact⟨o,I.kIn _ o hk,hd⟩
  ·have z:∃o,s.heap.get? p=some o/\o.ExactDict:=by
    rcases hk with ⟨kvs,hk⟩ | ⟨kvs,hk⟩
    ·obtain⟨_,_,_,_,o,_,_,e,ex,_⟩:=I.hok p _ hk
     exact⟨o,e,ex⟩
    ·obtain⟨_,_,_,_,o,_,_,e,ex,_⟩:=I.hok p _ hk
     exact⟨o,e,ex⟩
   obtain⟨o,e,ex⟩:=z
   refine⟨⟨o,e,ex.1⟩,fun a e2=> ?_⟩
   cases e2
   exact⟨o,e,ex.2.1⟩
  ·obtain⟨o,_,_,_,e,ex,_⟩:=I.hok p _ hk
   refine⟨⟨o,e,ex.1⟩,fun a e2=> ?_⟩
   cases e2
   exact⟨o,e,ex.2.1⟩
 | _=>exact False.elim ty
variable {o e:Expr} {es:List Expr} {to:TE} {t:TA} {name:Str} {apos cpos:Pos} {T id:String} {r:V->List V->Hp->VK->Prop}
end
def MtM (X:Cx) (id:String) (r:V->List V->Hp->VK->Prop):Prop:=
 ∀(pins:List (Addr×Obj)) (s:Shared) (σ:St) (H:Hp) (x:V) (xs:List V) (v:Value) (us:List Value) (Q:VK),Inv X pins σ H s->RelV x v->Vals xs us->r x xs H Q->
  wpAny (model X.prog X.w) X.A (call (.builtin id) (v::us)) (EP X pins σ Q) X.xe s
theorem Vals.one {x:V} {us:List Value} (h:Vals [x] us):∃u,us=[u]/\RelV x u:=by
 cases h with | cons r t=>(cases t;exact⟨_,rfl,r⟩)
theorem Vals.two {x y:V} {us:List Value} (h:Vals [x,y] us):∃u v,us=[u,v]/\RelV x u/\RelV y v:=by
 cases h with | cons r t=>(cases t with | cons q t=>(cases t;exact⟨_,_,rfl,r,q⟩))
theorem Vals.rep {xs:List V} {us:List Value} (h:Vals xs us):∀k:Nat,Vals (List.replicate k xs).flatten (List.replicate k us).flatten
 | 0=> .nil
 | k+1=>by
  rw[lV9,lV9,lXq,lXq]
  exact Vals.append h (Vals.rep h k)
theorem kK5 (its:List Value):∀(k:Nat) (acc:List Value),
  List.foldl (fun x1 x2=>x1++x2) acc.toArray (List.replicate k its.toArray)=(acc++(List.replicate k its).flatten).toArray
 | 0,acc=>by simp
 | k+1,acc=>by
  have e:acc.toArray++its.toArray=(acc++its).toArray:=by simp
  have e2:(acc++its)++(List.replicate k its).flatten=acc++(List.replicate (k+1) its).flatten:=by
   rw[lV9,lXq,lJs]
  rw[<-e2,<-kK5 its k (acc++its),<-e,lV9,lXa]
section
variable {X:Cx} {pins:List (Addr×Obj)} {σ:St} {H:Hp} {s:Shared} {l b:Addr} {xs ys zs:List V}
theorem Inv.lset {its its':List Value} {n:Nat} {f:Array Value->Array Value} {t':Nat} (I:Inv X pins σ H s) (hH:H l=some (.lst xs))
  (e:s.heap.get? l=some {cls:= .type "list",data:= .seq its.toArray n}) (hf:f its.toArray=its'.toArray) (hv:Vals ys its') (hz:ys.length<=sizeLine):
  Inv X pins σ (upd H l (.lst ys)) {s with heap:=s.heap.update l (Obj.mapSeq f),toks:=t'}:=by
 have q:=PySem.IsL.update e f
 rw[hf] at q
 refine I.write (x:=l) (e:=l) (by rw[hH];exact trivial) (.inl rfl) (fun b' u hb hu=>(lX9 s.heap (Obj.mapSeq f) (Ne.symm hb)).trans hu) ⟨_,q⟩ ?_
 exact⟨hz,its',_,hv,q⟩
theorem Inv.lnew {its:List Value} {t':Nat} (I:Inv X pins σ H s) (hv:Vals ys its) (hz:ys.length<=sizeLine):
  Inv X pins σ (upd H s.heap.objs.size (.lst ys)) {s with heap:=s.heap.push {cls:= .type "list",data:= .seq its.toArray},toks:=t'}:=
 I.laid (fun _ _ q=>lJm _ q) (lJg _) ⟨hz,its,0,hv,lJ6 _ rfl⟩
theorem Inv.fresh (I:Inv X pins σ H s):H s.heap.objs.size=none:=I.hok.fresh (lJg _)
theorem Inv.lstM (I:Inv X pins σ H s) (hH:H l=some (.lst xs)):xs.length<=sizeLine/\∃(its:List Value) (n:Nat),Vals xs its/\xs.length=its.length/\s.heap.get? l=some {cls:= .type "list",data:= .seq its.toArray n}:=by
 obtain⟨z,its,n,r,e⟩:=I.hok l _ hH
 exact⟨z,its,n,r,r.length,e⟩
theorem qKv {n:Nat} (h:n<=sizeLine):Builtin.List.listTooLong n=false:=by
 unfold Builtin.List.listTooLong
 exact lJq (by omega)
end
section
variable {X:Cx}
def jJ6:V->List V->Hp->VK->Prop:=fun x vs H Q=>∃l xs y,x= .ref l/\vs=[y]/\H l=some (.lst xs)/\xs.length<sizeLine/\Q .non (upd H l (.lst (xs++[y])))
theorem kZg:MtM X "list.append" jJ6:=by
 intro pins s σ H x vs v us Q I rx rv h
 obtain⟨l,xs,y,rfl,rfl,hH,hz,q⟩:=h
 cases rx
 obtain⟨u,rfl,ru⟩:=rv.one
 obtain⟨z,its,n,r,hl,e⟩:=I.lstM hH
 refine call_meets F.slot_list_append ⟨_,e,rfl⟩ F.entry_list_append (F.args_list_append_2 _ _) (PySem.list_append l its.toArray n u (by rw[lJv];omega)) ⟨e,?_⟩
 refine⟨.non,_,I.lset (its':=its++[u]) hH e (by simp) (r.append (.cons ru .nil)) ?_,rfl,q⟩
 rw[lKk,List.length_singleton]
 omega
noncomputable def rCat:R2:=fun x y H Q=>∃l b xs zs,x= .ref l/\y= .ref b/\H l=some (.lst xs)/\H b=some (.lst zs)/\xs.length+zs.length<=sizeLine/\∀p,H p=none->Q (.ref p) (upd H p (.lst (xs++zs)))
theorem op_cat:OpR X (binaryOp .Add) rCat:=by
 intro pins s σ H x y v u Q I rx ry h
 obtain⟨l,b,xs,zs,rfl,rfl,hH,hB,hz,q⟩:=h
 cases rx
 cases ry
 obtain⟨z,its,n,r,hl,e⟩:=I.lstM hH
 obtain⟨z2,its2,n2,r2,hl2,e2⟩:=I.lstM hB
 refine PySem.P.add_list e e2 ?_ (by rw[lJv,lJv];omega)
 have ea:its.toArray++its2.toArray=(its++its2).toArray:=by simp
 rw[ea]
 exact⟨.ref _,_,I.lnew (t':=s.toks) (r.append r2) (by rw[lKk];omega),rfl,q _ I.fresh⟩
noncomputable def rRep:R2:=fun x y H Q=>∃l k xs,x= .ref l/\y= .int k/\H l=some (.lst xs)/\ -(2^63)<=k/\k<2^63/\xs.length*k.toNat<=sizeLine/\
 ∀p,H p=none->Q (.ref p) (upd H p (.lst (List.replicate k.toNat xs).flatten))
theorem qVr {α:Type} (xs:List α) (k:Nat):(List.replicate k xs).flatten.length=k*xs.length:=by
 induction k with
 | zero=>simp
 | succ k ih=>rw[lV9,lXq,lKk,ih,Nat.succ_mul,Nat.add_comm]
theorem op_rep:OpR X (binaryOp .Mult) rRep:=by
 intro pins s σ H x y v u Q I rx ry h
 obtain⟨l,k,xs,rfl,rfl,hH,h1,h2,hz,q⟩:=h
 cases rx
 obtain⟨t,rfl⟩:=ry
 obtain⟨z,its,n,r,hl,e⟩:=I.lstM hH
 have hlen:its.toArray.size*k.toNat<=sizeLine:=by rw[lJv,<-hl];exact hz
 have hcap:¬ its.toArray.size*k.toNat>(2^63-1) / 8:=by
  have:(sizeLine:Nat)<=(2^63-1) / 8:=by decide
  omega
 have hfit:¬ (!Builtin.List.listFitsIndex k)=true:=by
  rw[fitsIndex_both h1 h2]
  exact lJp
 have hlong:¬ Builtin.List.listTooLong (its.toArray.size*k.toNat)=true:=by
  rw[qKv hlen]
  exact lJp
 have hnew:List.foldl (fun x1 x2=>x1++x2) #[] (List.replicate (if its.toArray.isEmpty=true then 0 else k.toNat) its.toArray)=(List.replicate k.toNat its).flatten.toArray:=by
  have f0:∀m:Nat,List.foldl (fun x1 x2=>x1++x2) #[] (List.replicate m its.toArray)=(List.replicate m its).flatten.toArray:=fun m=>by
   have:=kK5 its m []
   rw[lXr] at this
   exact this
  rw[f0]
  cases its with
  | nil=>simp
  | cons a r'=>rw[lJb (by simp)]
 refine wpAny_binaryOp_repeat_ref (T:="list") (U:="int") (by decide) ⟨_,e,rfl⟩ (fun s'=>typeIs_int s' k t) noFill_list_mul F.fills_int_mul F.slot_int_rmul repeat_list F.slot_int_index.lookup
  (call_meets F.slot_int_rmul (typeIs_int s k t) F.entry_int_rmul (F.args_int_rmul_2 _ _) (int___rmul___int_list k t l its.toArray n)
   ⟨e,rfl,⟨_,e,rfl⟩,call_meets F.slot_list_mul ⟨_,e,rfl⟩ F.entry_list_mul (F.args_list_mul_2 _ _) (AutoListH.list___mul___list_int_3 l its.toArray n k t hfit hcap hlong) ⟨e,?_⟩⟩)
 rw[hnew]
 exact⟨.ref _,_,I.lnew (t':=s.toks) (r.rep k.toNat) (by rw[qVr,Nat.mul_comm];exact hz),rfl,q _ I.fresh⟩
end
section
variable {prog:Program} {w:World} {A:Around} {E:Value->Shared->Prop} {s:Shared}
end
section
variable {X:Cx}
end
section
variable {κ:Type} [DecidableEq κ]
def valV (kvs:List (κ×V)) (k:κ):Option V:=(kvs.find? fun kv=>decide (kv.1=k)).map (·.2)
def putK (kvs:List (κ×V)) (k:κ) (v:V):List (κ×V):=
 if (kvs.any fun kv=>decide (kv.1=k))=true then kvs.map (fun kv=>if kv.1=k then (kv.1,v) else kv) else kvs++[(k,v)]
theorem jX8 {p:κ×V} {r:List (κ×V)} {k:κ} (e:p.1=k):valV (p::r) k=some p.2:=by simp[valV,lQt,e]
theorem jX9 {p:κ×V} {r:List (κ×V)} {k:κ} (e:¬ p.1=k):valV (p::r) k=valV r k:=by simp[valV,lQt,e]
theorem kUy (k:κ):∀kvs:List (κ×V),(kvs.any fun kv=>decide (kv.1=k))=(valV kvs k).isSome
 | []=>rfl
 | p::r=>by
  rw[lQs]
  by_cases e:p.1=k
  ·simp only[jX8 e,lJ1 e,Bool.true_or,Option.isSome_some]
  ·rw[jX9 e,lJq e,Bool.false_or];exact kUy k r
theorem jY4 (kvs:List (κ×V)) (k:κ) (v:V):(putK kvs k v).length<=kvs.length+1:=by
 unfold putK
 split
 ·rw[lJh];omega
 ·rw[lKk,lKl,lQg];omega
theorem RelO.isSome_eq {o:Option V} {u:Option Value} (r:RelO o u):o.isSome=u.isSome:=by
 cases o with
 | none=>cases u with
  | none=>rfl
  | some _=>exact (show False from r).elim
 | some _=>cases u with
  | none=>exact (show False from r).elim
  | some _=>rfl
theorem KV.val {kvs:List (κ×V)} {vs:List (κ×Value)} (r:KV kvs vs) (k:κ):RelO (valV kvs k) (valueAt vs k):=by
 unfold KV at r
 induction r with
 | nil=>exact True.intro
 | @cons p q ps qs h t ih=>
  obtain⟨h1,h2⟩:=h
  by_cases e:p.1=k
  ·have e':q.1=k:=h1.symm.trans e
   have b:valueAt (q::qs) k=some q.2:=by simp[valueAt,lQt,e']
   rw[jX8 e,b];exact h2
  ·have e':¬ q.1=k:=fun z=>e (h1.trans z)
   have b:valueAt (q::qs) k=valueAt qs k:=by simp[valueAt,lQt,e']
   rw[jX9 e,b];exact ih
theorem KV.any {kvs:List (κ×V)} {vs:List (κ×Value)} (r:KV kvs vs) (k:κ):(kvs.any fun kv=>decide (kv.1=k))=vs.any fun kv=>decide (kv.1=k):=by
 unfold KV at r
 induction r with
 | nil=>rfl
 | cons h t ih=>rw[lQs,lQs,ih,h.1]
theorem KV.repl {kvs:List (κ×V)} {vs:List (κ×Value)} (r:KV kvs vs) (k:κ) {y:V} {u:Value} (ry:RelV y u):
  KV (kvs.map fun kv=>if kv.1=k then (kv.1,y) else kv) (vs.map fun kv=>if kv.1=k then (kv.1,u) else kv):=by
 unfold KV at r ⊢
 induction r with
 | nil=>exact .nil
 | @cons p q ps qs h t ih=>
  rw[lJn,lJn]
  refine .cons ?_ ih
  obtain⟨h1,h2⟩:=h
  by_cases e:p.1=k
  ·rw[lJc e,lJc (h1.symm.trans e)];exact⟨h1,ry⟩
  ·rw[lJb e,lJb (fun z=>e (h1.trans z))];exact⟨h1,h2⟩
theorem KV.put {kvs:List (κ×V)} {vs:List (κ×Value)} (r:KV kvs vs) (k:κ) {y:V} {u:Value} (ry:RelV y u):KV (putK kvs k y) (stored vs k u):=by
 unfold putK stored
 rw[r.any k]
 by_cases e:(vs.any fun kv=>decide (kv.1=k))=true
 ·rw[lJc e,lJc e];exact r.repl k ry
 ·rw[lJb e,lJb e];exact Paired.snoc r ⟨rfl,ry⟩
theorem KV.length {kvs:List (κ×V)} {vs:List (κ×Value)} (r:KV kvs vs):kvs.length=vs.length:=lV7 r
end
theorem kUf {P:Program} {w:World} {k:Key} {u:Value} (r:RelV (kV k) u):(jKh P w).is k u=true:=by
 cases k with
 | inl i=>obtain⟨t,e⟩:=(show ∃t,u=Value.int i t from r);subst e;exact kQ8 P w i t
 | inr x=>obtain⟨t,e⟩:=(show ∃t,u=Value.str x t from r);subst e;exact kQ7 P w x t
abbrev KT (H:Hp):List (TKey×V)->List (TKey×Addr×Value)->Prop:=Paired fun p q=>p.1=q.1/\TKeyAt H p.1 q.2.1/\RelV p.2 q.2.2
theorem KT.val {H:Hp} {kvs:List (TKey×V)} {xs:List (TKey×Addr×Value)} (r:KT H kvs xs) (k:TKey):RelO (valV kvs k) ((atKey xs k).map (·.2)):=by
 induction r with
 | nil=>exact True.intro
 | @cons p q ps qs h t ih=>
  obtain⟨h1,_,h2⟩:=h
  by_cases e:p.1=k
  ·have e':q.1=k:=h1.symm.trans e
   have b:atKey (q::qs) k=some q.2:=by simp[atKey,lQt,e']
   rw[jX8 e,b];exact h2
  ·have e':¬ q.1=k:=fun z=>e (h1.trans z)
   have b:atKey (q::qs) k=atKey qs k:=by simp[atKey,lQt,e']
   rw[jX9 e,b];exact ih
theorem KT.repl {H:Hp} {kvs:List (TKey×V)} {xs:List (TKey×Addr×Value)} (r:KT H kvs xs) (k:TKey) {y:V} {u:Value} (ry:RelV y u):
  KT H (kvs.map fun kv=>if kv.1=k then (kv.1,y) else kv) (xs.map (putAt k u)):=by
 induction r with
 | nil=>exact .nil
 | @cons p q ps qs h t ih=>
  rw[lJn,lJn]
  refine .cons ?_ ih
  obtain⟨h1,h2,h3⟩:=h
  unfold putAt
  by_cases e:p.1=k
  ·rw[lJc e,lJc (h1.symm.trans e)];exact⟨h1,h2,ry⟩
  ·rw[lJb e,lJb (fun z=>e (h1.trans z))];exact⟨h1,h2,h3⟩
theorem KT.put {H:Hp} {kvs:List (TKey×V)} {xs:List (TKey×Addr×Value)} (r:KT H kvs xs) (k:TKey) {b:Addr} {y:V} {u:Value} (hb:TKeyAt H k b) (ry:RelV y u):
  KT H (putK kvs k y) (storedH xs k b u):=by
 have e:(kvs.any fun kv=>decide (kv.1=k))=(atKey xs k).isSome:=by
  rw[kUy,(r.val k).isSome_eq,Option.isSome_map]
 unfold putK storedH
 rw[e]
 by_cases q:(atKey xs k).isSome=true
 ·rw[lJc q,lJc q];exact r.repl k ry
 ·rw[lJb q,lJb q];exact Paired.snoc r ⟨rfl,hb,ry⟩
theorem KT.keeps {H H':Hp} {kvs:List (TKey×V)} {xs:List (TKey×Addr×Value)} (r:KT H kvs xs) (ht:∀b ys,H b=some (.tup ys)->H' b=some (.tup ys)):KT H' kvs xs:=
 Paired.mapP r fun _ _ z=>⟨z.1,z.2.1.mono ht,z.2.2⟩
section
variable {P:Program} {w:World} {H:Hp} {h:Heap} {a:Addr}
theorem rd_of {u:HO} (ok:HOk P w H h) (e:Rd H a u):ObjOk P w H h a u:=e.ok ok
theorem qQu {kvs:List (Key×V)} (ok:HOk P w H h) (e:Rd H a (.dK kvs)):kvs.length<=sizeLine/\(a == sysModules)=false/\∃vs,KV kvs vs/\h.DictOf (jKh P w) a vs:=
 show ObjOk P w H h a (.dK kvs) from rd_of ok e
theorem dk_of {kvs:List (Key×V)} (ok:HOk P w H h) (e:H a=some (.dK kvs)):kvs.length<=sizeLine/\(a == sysModules)=false/\∃vs,KV kvs vs/\h.DictOf (jKh P w) a vs:=qQu ok (.inl e)
theorem kVg {K:Type} [DecidableEq K] {c:Nat} {T:KeyV P w K c} {R:K->V->Prop} (hR:∀k x u,R k x->RelV x u->T.is h k u):∀ {ks:List K} {xs:List V} {us:List Value},Paired R ks xs->Vals xs us->ItemsV T h ks us
 | _,_,_,.nil,.nil=> .nil
 | _,_,_,.cons r t,.cons q z=> .cons (hR _ _ _ r q) (kVg hR t z)
theorem kQp {K:Type} [DecidableEq K] {c:Nat} {T:KeyV P w K c} {R:K->V->Prop} {ks:List K} {xs:List V} {p:Addr} (ok:HOk P w H h) (hR:∀k x u,R k x->RelV x u->T.is h k u) (e:H p=some (.tup xs)) (r:Paired R ks xs):jZi T h ks (.ref p):=by
 obtain⟨_,its,q,o,h1,h2,n,h3,_⟩:=(show ObjOk P w H h p (.tup xs) from ok p _ e)
 exact⟨p,o,its.toArray,n,rfl,h1,h2,h3,by simpa using kVg hR r q⟩
theorem r1_of (ok:HOk P w H h) (k:K1) (x:V) (u:Value) (r:Rk1 H k x) (q:RelV x u):(vk1 P w).is h k u:=by
 cases k with
 | inl k=>cases (show x=kV k from r);exact kUf (P:=P) (w:=w) q
 | inr ks=>
  obtain⟨p,vs,rfl,e,t⟩:=(show ∃p vs,x= .ref p/\H p=some (.tup vs)/\Paired (fun k v=>v=kV k) ks vs from r)
  cases (show u=Value.ref p from q)
  exact kQp (T:=jXy P w) ok (fun k x u r q=>by subst r;exact kUf (P:=P) (w:=w) q) e t
theorem r2_of (ok:HOk P w H h) (k:K2) (x:V) (u:Value) (r:Rk2 H k x) (q:RelV x u):(vk2 P w).is h k u:=by
 cases k with
 | inl k=>cases (show x=kV k from r);exact kUf (P:=P) (w:=w) q
 | inr ks=>
  obtain⟨p,vs,rfl,e,t⟩:=(show ∃p vs,x= .ref p/\H p=some (.tup vs)/\Paired (Rk1 H) ks vs from r)
  cases (show u=Value.ref p from q)
  exact kQp (T:=vk1 P w) ok (r1_of ok) e t
theorem kK2 {ks:TKey} (ok:HOk P w H h) (e:TKeyAt H ks a):(jJg P w).is h ks a:=by
 obtain⟨vs,h1,t⟩:=e
 exact kQp (T:=vk2 P w) ok (r2_of ok) h1 t
theorem qQs {kvs:List (TKey×V)} (ok:HOk P w H h) (e:Rd H a (.dT kvs)):kvs.length<=sizeLine/\(a == sysModules)=false/\
  ∃xs,KT H kvs xs/\h.DictOfH (jJg P w) a xs:=by
 obtain⟨z,y,xs,r,o,es,ep,h1,h2,h3,h4,h5⟩:=(show ObjOk P w H h a (.dT kvs) from rd_of ok e)
 refine⟨z,y,xs,r,o,es,ep,h1,h2,h3,h4,fun x hx=> ?_,h5⟩
 have all:∀ {l:List (TKey×V)} {m:List (TKey×Addr×Value)},KT H l m->∀x∈m,(jJg P w).is h x.1 x.2.1:=by
  intro l m q
  induction q with
  | nil=>intro x hx;exact nomatch hx
  | @cons p q ps qs hq t ih=>
   intro x hx
   rcases (lJk.mp hx) with e | hx
   ·subst e
    exact kK2 ok (by rw[<-hq.1];exact hq.2.1)
   ·exact ih x hx
 exact all r x hx
theorem dt_of {kvs:List (TKey×V)} (ok:HOk P w H h) (e:H a=some (.dT kvs)):kvs.length<=sizeLine/\(a == sysModules)=false/\
  ∃xs,KT H kvs xs/\h.DictOfH (jJg P w) a xs:=qQs ok (.inl e)
end
def DGet (H:Hp) (a:Addr) (y:V) (r:Option V):Prop:=
 (∃kvs k,Rd H a (.dK kvs)/\y=kV k/\r=valV kvs k)\/∃kvs k b,Rd H a (.dT kvs)/\y= .ref b/\TKeyAt H k b/\r=valV kvs k
def DPut (H:Hp) (a:Addr) (y v:V) (H':Hp):Prop:=
 (∃kvs k,H a=some (.dK kvs)/\y=kV k/\kvs.length<sizeLine/\H'=upd H a (.dK (putK kvs k v)))\/
 ∃kvs k b,H a=some (.dT kvs)/\y= .ref b/\TKeyAt H k b/\kvs.length<sizeLine/\H'=upd H a (.dT (putK kvs k v))
theorem DGet.k {H:Hp} {a:Addr} {kvs:List (Key×V)} {k:Key} (e:H a=some (.dK kvs)):DGet H a (kV k) (valV kvs k):= .inl ⟨kvs,k,.inl e,rfl,rfl⟩
theorem DGet.t {H:Hp} {a b:Addr} {kvs:List (TKey×V)} {k:TKey} (e:H a=some (.dT kvs)) (eb:TKeyAt H k b):DGet H a (.ref b) (valV kvs k):= .inr ⟨kvs,k,b,.inl e,rfl,eb,rfl⟩
theorem DPut.k {H:Hp} {a:Addr} {kvs:List (Key×V)} {k:Key} {v:V} (e:H a=some (.dK kvs)) (hl:kvs.length<sizeLine):DPut H a (kV k) v (upd H a (.dK (putK kvs k v))):= .inl ⟨kvs,k,e,rfl,hl,rfl⟩
theorem DPut.t {H:Hp} {a b:Addr} {kvs:List (TKey×V)} {k:TKey} {v:V} (e:H a=some (.dT kvs)) (eb:TKeyAt H k b) (hl:kvs.length<sizeLine):
  DPut H a (.ref b) v (upd H a (.dT (putK kvs k v))):= .inr ⟨kvs,k,b,e,rfl,eb,hl,rfl⟩
section
variable {X:Cx} {pins:List (Addr×Obj)} {σ:St} {H:Hp} {s:Shared} {a:Addr} {y v:V} {u r:Value} {o:Option V} {A:Around} {E:Value->Shared->Prop}
theorem Inv.big (I:Inv X pins σ H s):sysModules<s.heap.objs.size:=by
 have h:mainGlobals<s.heap.objs.size:=(I.mod.glob.keeps I.bk).lt
 exact Nat.lt_trans (by decide) h
theorem qJb {Q:Value->Shared->Prop} (hu:A.units+20<cLine) (I:Inv X pins σ H s) (g:DGet H a y (some v)) (ry:RelV y u) (h:∀w' s',Inv X pins σ H s'->RelV v w'->Q w' s'):
  wpAny (model X.prog X.w) A (getItem (.ref a) u) Q E s:=by
 rcases g with ⟨kvs,k,e,ey,l⟩ | ⟨kvs,k,b,e,ey,eb,l⟩
 ·subst ey
  obtain⟨z,hd,vs,rel,dd⟩:=qQu I.hok e
  obtain⟨w',hw,rw'⟩:=RelO.some_of (v:=v) (o:=valueAt vs k) (by rw[l];exact rel.val k)
  exact wpAny_getItem_of (kUf ry) dd.mapOf hw (h w' _ (I.tok _) rw')
 ·subst ey
  cases (show u=Value.ref b from ry)
  obtain⟨z,hd,xs,rel,dd⟩:=qQs I.hok e
  obtain⟨w',hw,rw'⟩:=RelO.some_of (v:=v) (o:=(atKey xs k).map (·.2)) (by rw[l];exact rel.val k)
  obtain⟨p,hp,hp2⟩:=lQh.mp hw
  refine wpAny_getItem_heap (jKz hu) (kK2 I.hok eb) dd hp ?_
  rw[hp2]
  exact h w' _ (I.tok _) rw'
theorem qXm {Q:Value->Shared->Prop} (hu:A.units+20<cLine) (I:Inv X pins σ H s) (g:DGet H a y o) (ry:RelV y u) (h:∀s',Inv X pins σ H s'->Q (.bool (!o.isSome)) s'):
  wpAny (model X.prog X.w) A (compareOp .NotIn u (.ref a)) Q E s:=by
 rcases g with ⟨kvs,k,e,ey,l⟩ | ⟨kvs,k,b,e,ey,eb,l⟩
 ·subst ey
  obtain⟨z,hd,vs,rel,dd⟩:=qQu I.hok e
  refine wpAny_notIn_of (kUf ry) hd dd.mapOf ?_
  rw[<-(rel.val k).isSome_eq,<-l]
  exact h _ (I.tok _)
 ·subst ey
  cases (show u=Value.ref b from ry)
  obtain⟨z,hd,xs,rel,dd⟩:=qQs I.hok e
  refine wpAny_notIn_heap (jKz hu) (kK2 I.hok eb) hd dd ?_
  have q:=(rel.val k).isSome_eq
  rw[Option.isSome_map] at q
  rw[<-q,<-l]
  exact h _ (I.tok _)
theorem kUn {h':Heap} {t':Nat} {ob:HO} (I:Inv X pins σ H s) (mu:Mut (H a)) (hs:Heap.SameBut a s.heap h') (he:∃q,h'.get? a=some q) (new:ObjOk X.prog X.w (upd H a ob) h' a ob):
  Inv X pins σ (upd H a ob) {s with heap:=h',toks:=t'}:=
 I.write (x:=a) (e:=a) mu (.inl rfl) (fun b q hb z=>(hs.2 b hb).trans z) he new
theorem qUs {P:Program} {w:World} {H':Hp} {h':Heap} {kvs:List (Key×V)} {vs:List (Key×Value)} (z:kvs.length<=sizeLine) (hd:(a == sysModules)=false) (rel:KV kvs vs) (dd:h'.DictOf (jKh P w) a vs):
  ObjOk P w H' h' a (.dK kvs):=⟨z,hd,vs,rel,dd⟩
theorem kQb {H':Hp} {Q:Unit->Shared->Prop} (hu:A.units+20<cLine) (I:Inv X pins σ H s) (g:DPut H a y v H') (ry:RelV y u) (rv:RelV v r) (h:∀s',Inv X pins σ H' s'->Q () s'):
  wpAny (model X.prog X.w) A (setItem (.ref a) u r) Q E s:=by
 rcases g with ⟨kvs,k,e,ey,l,eH⟩ | ⟨kvs,k,b,e,ey,eb,l,eH⟩
 ·subst ey eH
  obtain⟨z,hd,vs,rel,dd⟩:=dk_of I.hok e
  have hz:vs.length<=sizeLine:=by rw[<-rel.length];exact z
  have hl:(putK kvs k v).length<=sizeLine:=by have:=jY4 kvs k v;omega
  refine wpAny_setItem_pairs (hsz:=hz) (kUf ry) dd fun h' dd' hs=>h _ ?_
  have he:∃q,h'.get? a=some q:=let ⟨q,_,_,hq,_⟩:=dd';⟨q,hq⟩
  exact kUn I (by rw[e];exact True.intro) hs he (qUs hl hd (rel.put k rv) dd')
 ·subst ey eH
  cases (show u=Value.ref b from ry)
  obtain⟨z,hd,xs,rel,dd⟩:=dt_of I.hok e
  have hz:xs.length<=sizeLine:=by rw[<-lV7 rel];exact z
  have hl:(putK kvs k v).length<=sizeLine:=by have:=jY4 kvs k v;omega
  refine wpAny_setItem_heap (hsz:=hz) (jKz hu) (kK2 I.hok eb) dd fun h' dd' hs=>h _ ?_
  obtain⟨q,es,ep,hq,h2,h3,h4,_,h5⟩:=dd'
  refine kUn I (by rw[e];exact True.intro) hs ⟨q,hq⟩ ⟨hl,hd,_,(rel.put k eb rv).keeps fun c ys ec=> ?_,q,es,ep,hq,h2,h3,h4,h5⟩
  rw[jJ2 (ne_of ec e (fun z=>nomatch z))]
  exact ec
end
section
variable {X:Cx} {pins:List (Addr×Obj)} {σ:St} {H:Hp} {s:Shared} {a:Addr} {kvs:List (Key×V)} {k:Key} {u:Value} {A:Around} {E:Value->Shared->Prop}
end
theorem kUm {X:Cx} {pins:List (Addr×Obj)} {σ:St} {H:Hp} {s:Shared} {a:Addr} {y:V} {o:Option V} (I:Inv X pins σ H s) (g:DGet H a y o):s.TypeIs (.ref a) "dict":=by
 rcases g with ⟨kvs,k,e,_,_⟩ | ⟨kvs,k,b,e,_,_,_⟩
 ·obtain⟨_,_,vs,_,dd⟩:=qQu I.hok e
  exact dd.typeIs
 ·obtain⟨_,_,xs,_,dd⟩:=qQs I.hok e
  exact dd.typeIs
section
variable {X:Cx} {o i e value:Expr} {pos pos' tpos:Pos} {td ty tv:TE}
end
theorem kVp {P:Program} {w:World} {H:Hp} (h:Heap) (hb:sysModules<h.objs.size):ObjOk P w H (h.push {cls:= .type "dict",data:= .dict #[]}) h.objs.size (.dK []):=
 ⟨lJu _,beq_eq_false_iff_ne.mpr (Ne.symm (lJr hb)),[],.nil,Heap.DictOf.new h⟩
theorem qQt {P:Program} {w:World} {H:Hp} (h:Heap) (hb:sysModules<h.objs.size):ObjOk P w H (h.push {cls:= .type "dict",data:= .dict #[]}) h.objs.size (.dT []):=
 ⟨lJu _,beq_eq_false_iff_ne.mpr (Ne.symm (lJr hb)),[],.nil,_,#[],0,lJ6 _ rfl,⟨rfl,rfl,rfl⟩,rfl,rfl,lXb⟩
def tDNewK:TE:=fun _ H Q=>∀p,H p=none->Q (.ref p) (upd H p (.dK []))
def tDNewT:TE:=fun _ H Q=>∀p,H p=none->Q (.ref p) (upd H p (.dT []))
section
variable {X:Cx} {pos:Pos}
theorem qKn:PE X (.Dict [] [] pos) tDNewK:=fun pins s σ H Q I h=>
 wpAny_Dict_empty ⟨.ref s.heap.objs.size,_,I.laid (a:=s.heap.objs.size) (o:= .dK []) (t':=s.toks) (fun _ _ q=>lJm _ q) (lJg _) (kVp s.heap I.big),rfl,h _ (I.hok.fresh (lJg _))⟩
theorem qKm:PE X (.Dict [] [] pos) tDNewT:=fun pins s σ H Q I h=>
 wpAny_Dict_empty ⟨.ref s.heap.objs.size,_,I.laid (a:=s.heap.objs.size) (o:= .dT []) (t':=s.toks) (fun _ _ q=>lJm _ q) (lJg _) (qQt s.heap I.big),rfl,h _ (I.hok.fresh (lJg _))⟩
end
abbrev VV:List (V×V)->List (Value×Value)->Prop:=Paired fun p q=>RelV p.1 q.1/\RelV p.2 q.2
def mergeK (kvs more:List (Key×V)):List (Key×V):=more.foldl (fun acc kv=>putK acc kv.1 kv.2) kvs
theorem KV.merge:∀ {more:List (Key×V)} {rs:List (Key×Value)} {kvs:List (Key×V)} {vs:List (Key×Value)},KV more rs->KV kvs vs->KV (mergeK kvs more) (merged vs rs):=by
 intro more rs kvs vs r
 unfold KV at r
 induction r generalizing kvs vs with
 | nil=>intro q;exact q
 | @cons p q ps qs h t ih=>
  intro r0
  have e:KV (putK kvs p.1 p.2) (stored vs q.1 q.2):=by
   have:=r0.put p.1 h.2
   rw[<-h.1];exact this
  exact ih e
theorem jZ8 {P:Program} {w:World}:∀ {kvs:List (Key×V)} {ws:List (Value×Value)},VV (kvs.map fun kv=>(kV kv.1,kv.2)) ws->∃rs,Carries (jKh P w) ws rs/\KV kvs rs
 | [],_,r=>by rw[List.map_nil] at r;cases r;exact⟨[],True.intro,.nil⟩
 | p::kvs,_,r=>by
  rw[lJn] at r
  cases r with
  | @cons a b as bs h t=>
   obtain⟨rs,c,q⟩:=jZ8 (P:=P) (w:=w) t
   obtain⟨b1,b2⟩:=b
   exact⟨(p.1,b2)::rs,⟨kUf h.1,rfl,c⟩,.cons ⟨rfl,h.2⟩ q⟩
section
variable {X:Cx} {pins:List (Addr×Obj)} {σ:St} {H:Hp} {s:Shared} {a:Addr} {y d:V} {u r:Value} {o:Option V} {A:Around} {E:Value->Shared->Prop}
end
section
variable {X:Cx} {o e f:Expr} {apos cpos:Pos} {td ty tx:TE}
end
section
variable {X:Cx} {pins:List (Addr×Obj)} {σ:St} {H:Hp} {s:Shared} {a:Addr} {kvs:List (Key×V)} {A:Around} {E:Value->Shared->Prop}
end
section
variable {X:Cx} {pins:List (Addr×Obj)} {σ:St} {H:Hp} {s:Shared} {a:Addr} {y:V} {u:Value} {A:Around} {E:Value->Shared->Prop}
end
end L2
namespace Att
open PySem PySem.W PySem.Calls PyProof.Rows
theorem jY6 {P:Params} {h:Heap}:∀(ns:List Int) (vs:List Value),WellAll P h vs (ns.map WData.int)->IntsAre vs ns:=by
 intro ns
 induction ns with
 | nil=>
  intro vs w
  rw[List.map_nil] at w
  cases w
  exact .nil
 | cons n ns ih=>
  intro vs w
  rw[lJn] at w
  cases w with
  | cons a b=>
   cases a
   exact .cons _ _ (ih _ b)
theorem kYa {l:OpenLaw} {n:Nat} (hn:l.most=some n) {P:Params} {h:Heap} {args:List WData} {vals:List Value}
  (hpre:l.row.toRowW.claim.pre args=true) (hwl:WellAll P h vals args):
  ∃a vs ns,vals=[Value.ref a]/\args=[WData.list (ns.map WData.int)]/\h.get? a=some {cls:= .type "list",data:= .seq vs.toArray}/\IntsAre vs ns/\ns.length<=n:=by
 have hsh:WShape.hasAll [] args [.list .int]=true:=(pre_splitW hpre).1
 have hc:l.pre.holds [] {args:=args}=true:=(pre_splitW hpre).2
 obtain⟨d,r,rfl,h1,h2⟩:=hasAllW_cons hsh
 obtain rfl:=hasAllW_nil h2
 obtain⟨xs,rfl,h3⟩:=hasW_list h1
 obtain⟨ns,rfl⟩:=items_int h3
 have hlen:ns.length<=n:=by
  unfold OpenLaw.pre at hc
  have h4:(WTm.not (.lt (.lit (.int (n:Int))) (.len (.arg 0)))).holds [] {args:=[.list (ns.map .int)]}=true:=by
   have h4:=(holds_andW hc).1
   rw[hn] at h4
   exact h4
  have h5:=condW_of h4 (w_not (w_lt w_lit (w_len_list (w_arg rfl))))
  rw[lJh] at h5
  refine Nat.le_of_not_lt fun q=> ?_
  have q':(n:Int)<((ns.length:Nat):Int):=by omega
  first
   | (rw[lJ1 q'] at h5;exact absurd h5 (by decide))
   | (simp at h5;omega)
 cases hwl with
 | cons w1 w2=>
  cases w2
  cases w1 with
  | list ho hall=>exact⟨_,_,ns,rfl,rfl,ho,jY6 ns _ hall,hlen⟩
theorem kYx (l:OpenLaw) (args:List WData):l.row.toRowW.claim.post args (.bool true) args=true:=
 postW_of (r:=l.row.toRowW) (X:=(true == true))
  (show WShape.has [] (.bool true) .bool=true by first | rfl | decide | simp[WShape.has,WShape.arms,WShape.armsAll])
  (show (WTm.eq .res (.lit (.bool true))).value [] {args:=args,res:=some (.bool true),after:=args}=some (.bool (true == true)) from w_eq_bool (w_res rfl) w_lit) rfl
theorem attach_call {l:OpenLaw} {n:Nat} {q:Program} {loose:List Str} {XP:(Str->Option Value)->Heap->Prop} {YP:World->Heap->Prop} {d:DefRec}
  (hn:l.most=some n) (hdf:d.params.defaults=[])
  (call:∀(w:World) (s₀ s₁:Shared) (mg mb:Str->Option Value) (fa:Addr) (o:Obj) (pm cd doc:Value) (a:Addr) (vs:List Value) (ns:List Int),
   Ground q loose [] XP w s₀ mg mb s₁.heap->YP w s₁.heap->
   s₁.heap.get? fa=some o->o.data= .func (docDef d.name d.params d.body d.scope pm cd doc)->s₁.heap.CodeRec cd d.name->mg d.name=some (.ref fa)->
   s₁.heap.get? a=some {cls:= .type "list",data:= .seq vs.toArray}->IntsAre vs ns->ns.length<=n->s₁.gens= #[]->
   codeAny (model l.prog w) callerA (.call (.ref fa) ⟨[.ref a],[]⟩) (fun r s'=>r= .ok (.ret (.bool true))/\OldK s₁.heap s'.heap/\s'.os=s₁.os/\AllBare s'.gens) s₁):
  WalkO q loose XP YP l.row.toRowW d [] (fun f vs=>PySem.call f vs):=by
 intro w s₀ s₁ mg mb G Y fa o pm cd doc dV kV ho hd hcd hD hmg hg args vals as hpre hlay hrd hwl hlo
 obtain rfl:dV= .none:=Dflts.none hD hdf
 obtain rfl:kV= .none:=Dflts.noKw hD
 obtain⟨a,vs,ns,rfl,rfl,hobj,hints,hlen⟩:=kYa hn hpre hwl
 refine enter_call (codeAny_mono (call w s₀ s₁ mg mb fa o pm cd doc a vs ns G Y ho (fd_plain hd) hcd hmg hobj hints hlen hg) fun r s' hq=> ?_)
 obtain⟨rfl,h2,h3,h4⟩:=hq
 exact⟨.inl ⟨.bool true,.bool true,[],rfl,fun _=>rfl,.bool true,kYx l _,fun _=>⟨List.Pairwise.nil,fun _ hm=>(nomatch hm)⟩⟩,h2,h3,h4⟩
section
variable {prog:Program} {w:World} {A:Around} {E:Value->Shared->Prop} {s:Shared} {K:Frag}
end
end Att
namespace L2
open PySem PySem.Spec PyProof.Rows
theorem jUs:∀ {vs:List Value} {ns:List Int},IntsAre vs ns->Vals (ns.map V.int) vs
 | _,_,.nil=> .nil
 | _,_,.cons n t h=> .cons ⟨t,rfl⟩ (jUs h)
def Only (H:Hp):Prop:=∀b,H b=none\/∃o xs,H b=some (.frz o (.lst xs))
theorem qK4 {P:Program} {w:World} {K:PySem.W.Frag} {mg mb:Str->Option Value} {CX:CXT} {k:Nat} {fa a:Addr} {fd:FuncData} {x:Str} {sp:Sp} {s₁:Shared} {vs:List Value} {ns:List Int}
  (KX:K.In s₁.heap) (hns:s₁.heap.Ns mainGlobals mg) (hb:s₁.heap.Ns builtinsNs mb) (hbb:∀x:Str,x≠"__name__"->mb x=bootBuiltins x) (hlim:s₁.heap.NoLimit) (hg:s₁.gens= #[])
  (ha:s₁.heap.get? a=some {cls:= .type "list",data:= .seq vs.toArray}) (hi:IntsAre vs ns) (hl:ns.length<=sizeLine) (hr:Room k callerA)
  (F:∀base:Heap,K.In base->base.Ns mainGlobals mg->FnOk P w K mg base CX k fa fd [x] sp) (hbind:∀(s:Shared) (u:Value),BindsTo s fd ⟨[u],[]⟩ [(x,u)])
  (hsp:∀H:Hp,Only H->SqL K H a (ns.map V.int)->sp [.ref a] H (fun v _=>v= .bl true) fun _ _ _=>False)
  (hCX:∀H e s',CX [] H s₁ (fun _ _ _=>False) e s'->False):
  codeAny (model P w) callerA (.call (.ref fa) ⟨[.ref a],[]⟩) (fun r s'=>r= .ok (.ret (.bool true))/\OldK s₁.heap s'.heap/\s'.os=s₁.os/\AllBare s'.gens) s₁:=by
 have rv:=jUs hi
 have lenV:=hi.length
 have core:∀H:Hp,Only H->SqL K H a (ns.map V.int)->HOk P w H s₁.heap->(∀b,H b≠none->b=a)->(H a≠none->K.lookup a=none)->
   codeAny (model P w) callerA (.call (.ref fa) ⟨[.ref a],[]⟩) (fun r s'=>r= .ok (.ret (.bool true))/\OldK s₁.heap s'.heap/\s'.os=s₁.os/\AllBare s'.gens) s₁:=by
  intro H hO hS hok hA hK
  have base_of:∀ {b:Addr} {o:Obj},s₁.heap.get? b=some o->H b=none->(hidT s₁.heap H).get? b=some o:=fun e n=>qQh e n
  have noA:∀ {b:Addr} {o:Obj} {es:Array DictEntry} {ep:Nat},s₁.heap.get? b=some o->o.data= .dict es ep->H b=none:=fun {b o es ep} e d=>by
   cases q:H b with
   | none=>rfl
   | some u=>
    have e':b=a:=hA b (by rw[q];simp)
    subst e'
    rw[ha] at e;cases e
    have d':Data.seq vs.toArray _=Data.dict es ep:=d
    cases d'
  have nsK:∀ {b:Addr} {m:Str->Option Value},s₁.heap.Ns b m->(hidT s₁.heap H).Ns b m:=fun {b m} ⟨o,es,ep,e,d,r⟩=>⟨o,es,ep,base_of e (noA e d),d,r⟩
  have hKb:K.In (hidT s₁.heap H):=fun b o e=>base_of (KX b o e) (by
   cases q:H b with
   | none=>rfl
   | some u=>
    have e':b=a:=hA b (by rw[q];simp)
    subst e'
    rw[hK (by rw[q];simp)] at e;cases e)
  have hM:Mod K mg (hidT s₁.heap H):=⟨hKb,nsK hns,⟨mb,nsK hb,hbb⟩,let ⟨mc,h1,h2⟩:=hlim;⟨mc,nsK h1,h2⟩⟩
  have e0:Env0 P w K mg (hidT s₁.heap H) callerA [] s₁ H:=⟨rfl,hM,fun b o e=>qVn e,Nat.le_of_eq (kZt _ _),trivial,fun b hb=>absurd (show b∈([]:List Addr) from hb) (by simp),hok,.of_eq hg⟩
  refine codeAny_mono ((F _ hKb (nsK hns)).run callerA [] s₁ H ⟨[.ref a],[]⟩ [.ref a] [.ref a] _ _ hr e0 (hbind s₁ (.ref a)) (.cons rfl .nil) (hsp H hO hS)) fun r s' h=> ?_
  cases r with
  | error e=>exact (hCX H e s' h).elim
  | ok fl=>
   cases fl with
   | next=>exact False.elim h
   | brk=>exact False.elim h
   | cont=>exact False.elim h
   | ret u=>
    obtain⟨v,H',os,bare,un,hok',r',q⟩:=h
    have q':v= .bl true:=q
    subst q'
    obtain rfl:u=Value.bool true:=r'
    refine⟨rfl,OldK.of_keep fun b o e=> ?_,os,bare⟩
    cases q:H b with
    | none=>exact un.keep b o e q (by intro z;exact absurd (show b∈([]:List Addr) from z) (by simp)) (by simp)
    | some u=>
     rcases hO b with z | ⟨ob,xs,z⟩
     ·rw[q] at z;cases z
     ·have z2:=un.frzs b ob _ z
      obtain⟨e1,_⟩:=hok b _ z
      obtain⟨e2,_⟩:=hok' b _ z2
      rw[e] at e1;cases e1
      exact e2
 cases hk:K.lookup a with
 | some o=>
  have e:=KX a o hk
  rw[ha] at e
  cases e
  refine core (fun _=>none) (fun _=> .inl rfl) (.inr ⟨_,vs.toArray,_,hk,rfl,rfl,rfl,by rw[lJv,lenV];exact hl,by simpa using rv⟩) (fun b u z=>by have z':(none:Option HO)=some u:=z;cases z') (fun b z=>absurd rfl z) fun z=>absurd rfl z
 | none=>
  refine core (fun b=>if b=a then some (.frz {cls:= .type "list",data:= .seq vs.toArray} (.lst (ns.map V.int))) else none) (fun b=> ?_) (.inl (.inr ⟨{cls:= .type "list",data:= .seq vs.toArray},lJc rfl⟩)) (fun b u z=> ?_) (fun b z=> ?_) fun _=>hk
  ·by_cases hb:b=a
   ·exact .inr ⟨_,_,lJc hb⟩
   ·exact .inl (lJb hb)
  ·by_cases hb:b=a
   ·have z':=(lJc hb).symm.trans z
    cases z'
    subst hb
    exact⟨ha,by rw[lJh];exact hl,vs,_,rv,ha⟩
   ·have z':=(lJb hb).symm.trans z
    cases z'
  ·by_cases hb:b=a
   ·exact hb
   ·exact absurd (lJb hb) z
theorem walk_of {l:PySem.W.OpenLaw} {n k:Nat} {q:Program} {loose:List Str} {XP:(Str->Option Value)->Heap->Prop} {YP:World->Heap->Prop} {d:DefRec} {K:Params->PySem.W.Frag} {CX:World->CXT} {sp:World->Sp} {x:Str}
  (hn:l.most=some n) (hn2:n<=sizeLine) (hdf:d.params.defaults=[]) (hr:Room k callerA)
  (hY:∀(w:World) (h:Heap),YP w h->(K w.params).In h)
  (F:∀(w:World) (mg:Str->Option Value) (fa:Addr) (h:Heap),(K w.params).In h->h.Ns mainGlobals mg->mg d.name=some (.ref fa)->
   ∃fd:FuncData,(∀(s:Shared) (u:Value),BindsTo s fd ⟨[u],[]⟩ [(x,u)])/\
    ∀base:Heap,(K w.params).In base->base.Ns mainGlobals mg->FnOk l.prog w (K w.params) mg base (CX w) k fa fd [x] (sp w))
  (hsp:∀(w:World) (H:Hp) (a:Addr) (ns:List Int),ns.length<=n->Only H->SqL (K w.params) H a (ns.map V.int)->sp w [.ref a] H (fun v _=>v= .bl true) fun _ _ _=>False)
  (hCX:∀(w:World) (H:Hp) (s:Shared) (e:Value) (s':Shared),CX w [] H s (fun _ _ _=>False) e s'->False):
  PySem.W.WalkO q loose XP YP l.row.toRowW d [] (fun f vs=>PySem.call f vs):=by
 refine Att.attach_call hn hdf fun w s₀ s₁ mg mb fa o pm cd doc a vs ns G Y ho hd hcd hmg hobj hints hlen hg=> ?_
 have KX:=hY w _ Y
 obtain⟨fd,hb,hF⟩:=F w mg fa _ KX G.T.g hmg
 exact qK4 KX G.T.g G.T.b G.T.builtins G.T.nolimit hg hobj hints (lKo hlen hn2) hr hF hb (fun H hO hS=>hsp w H a ns hlen hO hS) fun H e s'=>hCX w H s₁ e s'
noncomputable def jVq (s:Stmt):Arguments:=match s with
 | .FunctionDef _ a _ _ _ _ _ _ _ _=>a
 | _=>{posonlyargs:=[],args:=[],vararg:=none,kwonlyargs:=[],kw_defaults:=[],kwarg:=none,defaults:=[]}
def jQz (s:Stmt):List Stmt:=match s with
 | .FunctionDef _ _ b _ _ _ _ _ _ _=>b
 | _=>[]
def jJ1 (s:Stmt):Scope:=match s with
 | .FunctionDef _ _ _ _ _ _ sc _ _ _=>sc
 | _=>{kind:= .function,names:=[],isGenerator:=false,isCoroutine:=false}
abbrev CX0:CXT:=fun _ _ _ _ _ _=>False
abbrev E0:XK:=fun _ _ _=>False
theorem pass0 {X:Cx}:qUw CX0 X E0:=fun _ _ _ _ _ _ _ h=>h.elim
structure Fun (K:PySem.W.Frag) (x qual:Str) (st:Stmt) (f:Addr) (fd:FuncData):Prop where
 ex:∃(oc:Value) (od:Option Addr) (kV doc pm:Value) (an:Option Addr) (cdv ct:Value) (osl:Array (Option Value)),
  fd=PySem.W.fnOf x qual (jVq st) (jQz st) (jJ1 st) .none kV doc pm an cdv ct/\K.lookup f=some ⟨oc,od,.func fd,osl⟩/\PySem.W.codeIn K cdv qual=true
 kp:PySem.W.keepIn K (.ref f)=true
section
variable {P:Program} {w:World} {K:PySem.W.Frag} {mg:Str->Option Value} {base:Heap}
theorem Fun.ok {x qual:Str} {st:Stmt} {f:Addr} {fd:FuncData} {N ps:List Str} {k:Nat} {sp:Sp} (F:Fun K x qual st f fd) (S:FnScope N ps (jJ1 st)) (len:∀vs H Q E,sp vs H Q E->vs.length=ps.length)
  (hbody:∀(cdv:Value) (A:Around) (outer:List Env) (s:Shared) (H:Hp) (vs:List V) (Q:VK) (E:XK),Room k (A.deeper (envOfC qual (jJ1 st) s.heap.objs.size f cdv))->sp vs H Q E->
   ∃t,PSs (cxOf CX0 P w K mg base N qual (jJ1 st) f cdv A outer s H E).nox (jQz st) t/\t {nx:=fun _ H'=>Q .non H',rt:=Q} (start N vs) H):FnOk P w K mg base CX0 (k+1) f fd ps sp:=by
 obtain⟨oc,od,kV,doc,pm,an,cdv,ct,osl,rfl,lk,hcd⟩:=F.ex
 refine fn_of lk hcd S len fun A outer s H vs Q E hr hsp=> ?_
 obtain⟨t,h,q⟩:=hbody cdv A outer s H vs Q E hr hsp
 exact⟨t,h.nox,q⟩
theorem Fun.binds {x qual:Str} {st:Stmt} {f:Addr} {fd:FuncData} {ps:List Str} (F:Fun K x qual st f fd)
  (h:∀(kV doc pm:Value) (an:Option Addr) (cdv ct:Value) (us:List Value),us.length=ps.length->bindArgs (PySem.W.fnOf x qual (jVq st) (jQz st) (jJ1 st) .none kV doc pm an cdv ct) ⟨us,[]⟩=pure (ps.zip us)):Binds K fd ps []:=by
 obtain⟨oc,od,kV,doc,pm,an,cdv,ct,osl,rfl,lk,hcd⟩:=F.ex
 exact .all (h kV doc pm an cdv ct)
theorem fun_mk {x qual:Str} {st:Stmt} {f:Addr} {oc:Value} {od an:Option Addr} {osl:Array (Option Value)} {kV doc pm cdv ct:Value} (l:K.lookup f=some ⟨oc,od,.func (PySem.W.fnOf x qual (jVq st) (jQz st) (jJ1 st) .none kV doc pm an cdv ct),osl⟩)
  (c:PySem.W.codeIn K cdv qual=true) (k:PySem.W.keepIn K (.ref f)=true):Fun K x qual st f (PySem.W.fnOf x qual (jVq st) (jQz st) (jJ1 st) .none kV doc pm an cdv ct):=⟨⟨oc,od,kV,doc,pm,an,cdv,ct,osl,rfl,l,c⟩,k⟩
end
theorem hu_of {A:Around} {k:Nat} (hr:Room k A):A.units+20<cLine:=Nat.lt_of_le_of_lt (Nat.add_le_add_left (by decide:20<=64) _) hr.units
section
variable {X:Cx}
end
end L2
set_option Elab.async false
set_option linter.all false
set_option maxRecDepth 100000
set_option maxHeartbeats 5000000
namespace L3
open PySem PySem.Spec PyProof.Rows L2
inductive T where
 | non | bl (b:Bool) | int (i:Int) | str (x:Str) | tup (xs:List T) | scr (xs:List T) | ref (a:Addr) | ty (n:String)
structure Ext (H H':Hp):Prop where
 tup:∀b xs,H b=some (.tup xs)->H' b=some (.tup xs)
 frz:∀b ob u,H b=some (.frz ob u)->H' b=some (.frz ob u)
theorem Ext.refl (H:Hp):Ext H H:=⟨fun _ _ h=>h,fun _ _ _ h=>h⟩
theorem Ext.trans {H H1 H2:Hp} (a:Ext H H1) (b:Ext H1 H2):Ext H H2:=⟨fun c o h=>b.tup c o (a.tup c o h),fun c o u h=>b.frz c o u (a.frz c o u h)⟩
def FrL (K:PySem.W.Frag) (H:Hp) (a:Addr) (xs:List V):Prop:=
 (∃ob,H a=some (.frz ob (.lst xs)))\/
  ∃(o:Obj) (its:Array Value) (n:Nat),K.lookup a=some o/\o.cls= .type "list"/\o.dict=none/\o.data= .seq its n/\its.size<=sizeLine/\Vals xs its.toList
theorem FrL.sq {K:PySem.W.Frag} {H:Hp} {a:Addr} {xs:List V} (h:FrL K H a xs):SqL K H a xs:=by
 rcases h with ⟨ob,h⟩ | h
 ·exact .inl (.inr ⟨ob,h⟩)
 ·exact .inr h
theorem FrL.mono {K:PySem.W.Frag} {H H':Hp} {a:Addr} {xs:List V} (e:Ext H H') (h:FrL K H a xs):FrL K H' a xs:=by
 rcases h with ⟨ob,h⟩ | h
 ·exact .inl ⟨ob,e.frz _ _ _ h⟩
 ·exact .inr h
mutual
noncomputable def Rep (K:PySem.W.Frag) (H:Hp):T->V->Prop
 | .non,v=>v= .non
 | .bl b,v=>v= .bl b
 | .int i,v=>v= .int i
 | .str x,v=>v= .str x
 | .ref a,v=>v= .ref a
 | .ty n,v=>v= .ty n
 | .tup xs,v=>∃a vs,v= .ref a/\H a=some (.tup vs)/\Reps K H xs vs
 | .scr xs,v=>∃a vs,v= .ref a/\FrL K H a vs/\Reps K H xs vs
noncomputable def Reps (K:PySem.W.Frag) (H:Hp):List T->List V->Prop
 | [],vs=>vs=[]
 | x::xs,vs=>∃v ws,vs=v::ws/\Rep K H x v/\Reps K H xs ws
end
mutual
theorem Rep.mono {K:PySem.W.Frag} {H H':Hp} (e:Ext H H'):∀(x:T) {v:V},Rep K H x v->Rep K H' x v
 | .non,_,h=>h
 | .bl _,_,h=>h
 | .int _,_,h=>h
 | .str _,_,h=>h
 | .ref _,_,h=>h
 | .ty _,_,h=>h
 | .tup xs,_,⟨a,vs,r1,r2,r3⟩=>⟨a,vs,r1,e.tup _ _ r2,Reps.mono e xs r3⟩
 | .scr xs,_,⟨a,vs,r1,r2,r3⟩=>⟨a,vs,r1,r2.mono e,Reps.mono e xs r3⟩
theorem Reps.mono {K:PySem.W.Frag} {H H':Hp} (e:Ext H H'):∀(xs:List T) {vs:List V},Reps K H xs vs->Reps K H' xs vs
 | [],_,h=>h
 | x::xs,_,⟨v,ws,r1,r2,r3⟩=>⟨v,ws,r1,Rep.mono e x r2,Reps.mono e xs r3⟩
end
section
variable {K:PySem.W.Frag} {H:Hp}
theorem Reps.length:∀ {xs:List T} {vs:List V},Reps K H xs vs->xs.length=vs.length
 | [],_,h=>by cases h;rfl
 | _::_,_,⟨_,_,r1,_,r3⟩=>by subst r1;simp[Reps.length r3]
theorem Reps.get:∀ {xs:List T} {vs:List V} {i:Nat} {x:T},Reps K H xs vs->xs[i]? =some x->∃v,vs[i]? =some v/\Rep K H x v
 | [],_,_,_,_,e=>by simp at e
 | y::ys,_,0,x,⟨v,ws,r1,r2,r3⟩,e=>by subst r1;simp at e;subst e;exact⟨v,rfl,r2⟩
 | y::ys,_,i+1,x,⟨v,ws,r1,r2,r3⟩,e=>by subst r1;simpa using Reps.get r3 (by simpa using e)
theorem Reps.get':∀ {xs:List T} {vs:List V} {i:Nat} {v:V},Reps K H xs vs->vs[i]? =some v->∃x,xs[i]? =some x/\Rep K H x v
 | [],_,_,_,h,e=>by cases h;simp at e
 | y::ys,_,0,x,⟨v,ws,r1,r2,r3⟩,e=>by subst r1;simp at e;subst e;exact⟨y,rfl,r2⟩
 | y::ys,_,i+1,x,⟨v,ws,r1,r2,r3⟩,e=>by subst r1;simpa using Reps.get' r3 (by simpa using e)
theorem Reps.append:∀ {xs ys:List T} {vs ws:List V},Reps K H xs vs->Reps K H ys ws->Reps K H (xs++ys) (vs++ws)
 | [],_,_,_,h,h2=>by cases h;exact h2
 | _::_,_,_,_,⟨v,ws,r1,r2,r3⟩,h2=>by subst r1;exact⟨v,_,rfl,r2,Reps.append r3 h2⟩
theorem Reps.one {x:T} {v:V} (r:Rep K H x v):Reps K H [x] [v]:=⟨v,[],rfl,r,rfl⟩
theorem Reps.set {x:T} {v:V} (r:Rep K H x v):∀ {xs:List T} {vs:List V} (i:Nat),Reps K H xs vs->Reps K H (xs.set i x) (vs.set i v)
 | [],_,_,e=>by cases e;rfl
 | _::_,_,0,⟨_,ws,r1,r2,r3⟩=>by subst r1;exact⟨v,ws,rfl,r,r3⟩
 | _::_,_,i+1,⟨u,ws,r1,r2,r3⟩=>by subst r1;exact⟨u,_,rfl,r2,Reps.set r i r3⟩
theorem Reps.take:∀ {xs:List T} {vs:List V} (n:Nat),Reps K H xs vs->Reps K H (xs.take n) (vs.take n)
 | _,_,0,_=>by simp[Reps]
 | [],_,_+1,h=>by cases h;simp[Reps]
 | _::_,_,n+1,⟨u,ws,r1,r2,r3⟩=>by subst r1;exact⟨u,_,rfl,r2,Reps.take n r3⟩
theorem Reps.drop:∀ {xs:List T} {vs:List V} (n:Nat),Reps K H xs vs->Reps K H (xs.drop n) (vs.drop n)
 | _,_,0,h=>h
 | [],_,_+1,h=>by cases h;simp[Reps]
 | _::_,_,n+1,⟨u,ws,r1,r2,r3⟩=>by subst r1;exact Reps.drop n r3
theorem Reps.rep {xs:List T} {vs:List V} (r:Reps K H xs vs):∀n:Nat,Reps K H (List.replicate n xs).flatten (List.replicate n vs).flatten
 | 0=>by simp[Reps]
 | n+1=>by simpa[lV9] using r.append (Reps.rep r n)
theorem Reps.atI {xs:List T} {vs:List V} {i:Int} {x:T} (r:Reps K H xs vs) (h:atI xs i=some x):∃v,atI vs i=some v/\Rep K H x v:=by
 unfold L2.atI at h ⊢
 rw[<-r.length]
 cases e:ixN xs.length i with
 | none=>rw[e] at h;cases h
 | some j=>rw[e] at h;exact r.get h
end
inductive GO where
 | lst (xs:List T) | dct (kvs:List (TKey×T)) | dck (kvs:List (Key×T)) | fdc (kvs:List (TKey×T)) | ins (cn:Str) (fs:List (Str×T))
abbrev Gp:=Addr->Option GO
def gup (G:Gp) (a:Addr) (o:GO):Gp:=fun b=>if b=a then some o else G b
theorem jJh {G:Gp} {a:Addr} {o:GO}:gup G a o a=some o:=by simp[gup]
theorem jJp {G:Gp} {a b:Addr} {o:GO} (h:b≠a):gup G a o b=G b:=by simp[gup,h]
theorem kZv {G:Gp} {a:Addr} {o o':GO}:gup (gup G a o) a o'=gup G a o':=by funext b;by_cases h:b=a<;>simp[gup,h]
def asL:Option GO->Option (List T)
 | some (.lst xs)=>some xs
 | _=>none
def seqT (G:Gp):T->Option (List T)
 | .tup xs=>some xs
 | .scr xs=>some xs
 | .ref a=>asL (G a)
 | _=>none
def PKV {κ:Type} (K:PySem.W.Frag) (H:Hp):List (κ×T)->List (κ×V)->Prop:=Paired fun p q=>p.1=q.1/\Rep K H p.2 q.2
noncomputable def GOk (K:PySem.W.Frag) (H:Hp) (a:Addr):GO->Prop
 | .lst xs=>∃vs,H a=some (.lst vs)/\Reps K H xs vs
 | .dct kvs=>∃ws,H a=some (.dT ws)/\PKV K H kvs ws
 | .dck kvs=>∃ws,H a=some (.dK ws)/\PKV K H kvs ws
 | .fdc kvs=>∃ob ws,H a=some (.frz ob (.dT ws))/\PKV K H kvs ws
 | .ins cn fs=>∃C dx ws,H a=some (.ins C dx ws)/\PySem.W.nsIn K mainGlobals cn=some (some (.ref C))/\PKV K H fs ws
def GRel (K:PySem.W.Frag) (H:Hp) (G:Gp):Prop:=∀a o,G a=some o->GOk K H a o
section
variable {K:PySem.W.Frag} {H H':Hp} {G:Gp} {a:Addr}
theorem PKV.mono {κ:Type} {kvs:List (κ×T)} {ws:List (κ×V)} (e:Ext H H') (h:PKV K H kvs ws):PKV K H' kvs ws:=Paired.mapP h fun _ _ z=>⟨z.1,Rep.mono e _ z.2⟩
theorem GOk.move {o:GO} (h:GOk K H a o) (e:Ext H H') (ha:H' a=H a):GOk K H' a o:=by
 cases o with
 | lst xs=>obtain⟨vs,h1,h2⟩:=h;exact⟨vs,ha.trans h1,Reps.mono e _ h2⟩
 | dct kvs=>obtain⟨vs,h1,h2⟩:=h;exact⟨vs,ha.trans h1,h2.mono e⟩
 | dck kvs=>obtain⟨vs,h1,h2⟩:=h;exact⟨vs,ha.trans h1,h2.mono e⟩
 | fdc kvs=>obtain⟨ob,vs,h1,h2⟩:=h;exact⟨ob,vs,ha.trans h1,h2.mono e⟩
 | ins cn fs=>obtain⟨C,dx,ws,h1,h2,h3⟩:=h;exact⟨C,dx,ws,ha.trans h1,h2,h3.mono e⟩
theorem GOk.some {o:GO} (h:GOk K H a o):H a≠none:=by
 cases o with
 | lst xs=>obtain⟨vs,h1,h2⟩:=h;rw[h1];simp
 | dct kvs=>obtain⟨vs,h1,h2⟩:=h;rw[h1];simp
 | dck kvs=>obtain⟨vs,h1,h2⟩:=h;rw[h1];simp
 | fdc kvs=>obtain⟨ob,vs,h1,h2⟩:=h;rw[h1];simp
 | ins cn fs=>obtain⟨C,dx,ws,h1,h2,h3⟩:=h;rw[h1];simp
theorem GRel.fresh (g:GRel K H G) (h:H a=none):G a=none:=by
 cases e:G a with
 | none=>rfl
 | some o=>exact absurd h (g a o e).some
def Soft (o:Option HO):Prop:=o=none\/(∃xs,o=some (.lst xs))\/(∃kvs,o=some (.dK kvs))\/(∃kvs,o=some (.dT kvs))\/∃C dx fs,o=some (.ins C dx fs)
theorem Ext.upd {o:HO} (h:Soft (H a)):Ext H (L2.upd H a o):=by
 refine⟨fun b xs e=> ?_,fun b ob u e=> ?_⟩
 ·rw[jJ2];exact e
  rintro rfl;rw[e] at h;rcases h with h | ⟨_,h⟩ | ⟨_,h⟩ | ⟨_,h⟩ | ⟨_,_,_,h⟩<;>cases h
 ·rw[jJ2];exact e
  rintro rfl;rw[e] at h;rcases h with h | ⟨_,h⟩ | ⟨_,h⟩ | ⟨_,h⟩ | ⟨_,_,_,h⟩<;>cases h
theorem GRel.upd {o:HO} {go:GO} (g:GRel K H G) (h:Soft (H a)) (n:GOk K (L2.upd H a o) a go):GRel K (L2.upd H a o) (gup G a go):=by
 intro b u e
 by_cases hb:b=a
 ·subst hb;rw[jJh] at e;cases e;exact n
 ·rw[jJp hb] at e;exact (g b u e).move (Ext.upd h) (jJ2 hb)
theorem Soft.none (h:H a=none):Soft (H a):= .inl h
theorem Soft.lst {xs:List V} (h:H a=some (.lst xs)):Soft (H a):= .inr (.inl ⟨xs,h⟩)
theorem Soft.dT {xs:List (TKey×V)} (h:H a=some (.dT xs)):Soft (H a):= .inr (.inr (.inr (.inl ⟨xs,h⟩)))
theorem Soft.dK {xs:List (Key×V)} (h:H a=some (.dK xs)):Soft (H a):= .inr (.inr (.inl ⟨xs,h⟩))
theorem GRel.tupNew {vs:List V} (g:GRel K H G) (h:H a=Option.none):GRel K (L2.upd H a (.tup vs)) G:=by
 intro b u e
 have hb:b≠a:=by rintro rfl;exact (g b u e).some h
 exact (g b u e).move (Ext.upd (.none h)) (jJ2 hb)
theorem Rep.tupNew {xs:List T} {vs:List V} (r:Reps K H xs vs) (h:H a=Option.none):Rep K (L2.upd H a (.tup vs)) (.tup xs) (.ref a):=
 ⟨a,vs,rfl,jKp,Reps.mono (Ext.upd (.none h)) _ r⟩
theorem GRel.lstNew {xs:List T} {vs:List V} (g:GRel K H G) (r:Reps K H xs vs) (h:Soft (H a)):GRel K (L2.upd H a (.lst vs)) (gup G a (.lst xs)):=
 g.upd h ⟨vs,jKp,Reps.mono (Ext.upd h) _ r⟩
theorem GRel.lst {xs:List T} (g:GRel K H G) (h:G a=some (.lst xs)):∃vs,H a=some (.lst vs)/\Reps K H xs vs:=g a _ h
end
abbrev St3:=List (Option T)
def SRel (K:PySem.W.Frag) (H:Hp) (σ:L2.St) (τ:St3):Prop:=σ.length=τ.length/\∀(i:Nat) (t:T),τ[i]? =some (some t)->∃v,σ[i]? =some (some v)/\Rep K H t v
theorem SRel.mono {K:PySem.W.Frag} {H H':Hp} {σ:L2.St} {τ:St3} (e:Ext H H') (h:SRel K H σ τ):SRel K H' σ τ:=
 ⟨h.1,fun i t q=>let ⟨v,h1,h2⟩:=h.2 i t q;⟨v,h1,Rep.mono e _ h2⟩⟩
theorem SRel.set {K:PySem.W.Frag} {H:Hp} {σ:L2.St} {τ:St3} {t:T} {v:V} (h:SRel K H σ τ) (i:Nat) (r:Rep K H t v):SRel K H (σ.set i (some v)) (τ.set i (some t)):=by
 refine⟨by simp[h.1],fun j u q=> ?_⟩
 by_cases hj:i=j
 ·subst hj
  have hl:i<τ.length:=by
   rcases lV6 i τ.length with z | z
   ·exact z
   ·rw[lKq (by simpa using z)] at q;cases q
  rw[lQf hl] at q
  cases q
  exact⟨v,by rw[lQf (by rw[h.1];exact hl)],r⟩
 ·rw[lQr hj] at q ⊢
  exact h.2 j u q
def Inv3 (X:Cx) (pins:List (Addr×Obj)) (τ:St3) (G:Gp) (H:Hp) (s:Shared):Prop:=∃ σ,Inv X pins σ H s/\SRel X.K H σ τ/\GRel X.K H G
abbrev VK3:=T->Gp->Prop
abbrev TE3:=St3->Gp->VK3->Prop
abbrev TT3:=St3->Gp->(Bool->Gp->Prop)->Prop
abbrev TA3:=St3->Gp->(List T->Gp->Prop)->Prop
structure Ends3 where
 nx:St3->Gp->Prop
 rt:VK3
 bk:St3->Gp->Prop:=fun _ _=>False
 ct:St3->Gp->Prop:=fun _ _=>False
abbrev TS3:=Ends3->St3->Gp->Prop
def RU (K:PySem.W.Frag) (H:Hp) (t:T) (u:Value):Prop:=∃v,Rep K H t v/\RelV v u
def RUs (K:PySem.W.Frag) (H:Hp) (ts:List T) (us:List Value):Prop:=∃vs,Reps K H ts vs/\Vals vs us
theorem RU.mono {K:PySem.W.Frag} {H H':Hp} {t:T} {u:Value} (e:Ext H H') (h:RU K H t u):RU K H' t u:=let ⟨v,h1,h2⟩:=h;⟨v,Rep.mono e _ h1,h2⟩
def EP3 (X:Cx) (pins:List (Addr×Obj)) (τ:St3) (H:Hp) (Q:VK3) (u:Value) (s':Shared):Prop:=∃t G' H',Ext H H'/\Inv3 X pins τ G' H' s'/\RU X.K H' t u/\Q t G'
def TP3 (X:Cx) (pins:List (Addr×Obj)) (τ:St3) (H:Hp) (Q:Bool->Gp->Prop) (b:Bool) (s':Shared):Prop:=∃G' H',Ext H H'/\Inv3 X pins τ G' H' s'/\Q b G'
def AP3 (X:Cx) (pins:List (Addr×Obj)) (τ:St3) (H:Hp) (Q:List T->Gp->Prop) (us:List Value) (s':Shared):Prop:=∃ts G' H',Ext H H'/\Inv3 X pins τ G' H' s'/\RUs X.K H' ts us/\Q ts G'
def SP3 (X:Cx) (pins:List (Addr×Obj)) (H:Hp) (D:Ends3) (f:Flow) (s':Shared):Prop:=
 match f with
 | .next=>∃ τ' G' H',Ext H H'/\Inv3 X pins τ' G' H' s'/\D.nx τ' G'
 | .brk=>∃ τ' G' H',Ext H H'/\Inv3 X pins τ' G' H' s'/\D.bk τ' G'
 | .cont=>∃ τ' G' H',Ext H H'/\Inv3 X pins τ' G' H' s'/\D.ct τ' G'
 | .ret u=>∃t τ' G' H',Ext H H'/\Inv3 X pins τ' G' H' s'/\RU X.K H' t u/\D.rt t G'
def PE3 (X:Cx) (e:Expr) (t:TE3):Prop:=∀(pins:List (Addr×Obj)) (s:Shared) (τ:St3) (G:Gp) (H:Hp) (Q:VK3),Inv3 X pins τ G H s->t τ G Q->wpAny (model X.prog X.w) X.A (eval e X.env) (EP3 X pins τ H Q) X.xe s
def PT3 (X:Cx) (e:Expr) (t:TT3):Prop:=∀(pins:List (Addr×Obj)) (s:Shared) (τ:St3) (G:Gp) (H:Hp) (Q:Bool->Gp->Prop),Inv3 X pins τ G H s->t τ G Q->wpAny (model X.prog X.w) X.A (isTrue e X.env (eval e X.env)) (TP3 X pins τ H Q) X.xe s
def PW3 (X:Cx) (e:Expr) (t:TT3):Prop:=∀(whole:Sem Value) (pins:List (Addr×Obj)) (s:Shared) (τ:St3) (G:Gp) (H:Hp) (Q:Bool->Gp->Prop),Inv3 X pins τ G H s->t τ G Q->wpAny (model X.prog X.w) X.A (isTrue e X.env whole) (TP3 X pins τ H Q) X.xe s
theorem PW3.pt {X:Cx} {e:Expr} {t:TT3} (h:PW3 X e t):PT3 X e t:=h _
def PA3 (X:Cx) (es:List Expr) (t:TA3):Prop:=∀(pos:Pos) (pins:List (Addr×Obj)) (s:Shared) (τ:St3) (G:Gp) (H:Hp) (Q:List T->Gp->Prop),Inv3 X pins τ G H s->t τ G Q->wpAny (model X.prog X.w) X.A (spliced (backTo pos (starEach es X.env))) (AP3 X pins τ H Q) X.xe s
def PS3 (X:Cx) (st:Stmt) (t:TS3):Prop:=∀(pins:List (Addr×Obj)) (s:Shared) (τ:St3) (G:Gp) (H:Hp) (D:Ends3),Inv3 X pins τ G H s->t D τ G->wpAny (model X.prog X.w) X.A (exec st X.env) (SP3 X pins H D) X.xe s
def PSs3 (X:Cx) (st:List Stmt) (t:TS3):Prop:=∀(pins:List (Addr×Obj)) (s:Shared) (τ:St3) (G:Gp) (H:Hp) (D:Ends3),Inv3 X pins τ G H s->t D τ G->wpAny (model X.prog X.w) X.A (execs st X.env) (SP3 X pins H D) X.xe s
section
variable {X:Cx} {pins:List (Addr×Obj)} {τ:St3} {G:Gp} {H H1:Hp} {s:Shared} {C:Prop}
theorem EP3.el {Q:VK3} {u:Value} (h:EP3 X pins τ H Q u s) (k:∀t G' H',Ext H H'->Inv3 X pins τ G' H' s->RU X.K H' t u->Q t G'->C):C:=let ⟨t,G',H',a,b,c,d⟩:=h;k t G' H' a b c d
theorem AP3.el {Q:List T->Gp->Prop} {u:List Value} (h:AP3 X pins τ H Q u s) (k:∀t G' H',Ext H H'->Inv3 X pins τ G' H' s->RUs X.K H' t u->Q t G'->C):C:=let ⟨t,G',H',a,b,c,d⟩:=h;k t G' H' a b c d
theorem TP3.el {Q:Bool->Gp->Prop} {u:Bool} (h:TP3 X pins τ H Q u s) (k:∀G' H',Ext H H'->Inv3 X pins τ G' H' s->Q u G'->C):C:=let ⟨G',H',a,b,c⟩:=h;k G' H' a b c
theorem Inv3.el (h:Inv3 X pins τ G H s) (k:∀ σ,Inv X pins σ H s->SRel X.K H σ τ->GRel X.K H G->C):C:=let ⟨σ,a,b,c⟩:=h;k σ a b c
theorem RU.el {K:PySem.W.Frag} {t:T} {u:Value} (h:RU K H t u) (k:∀v,Rep K H t v->RelV v u->C):C:=let ⟨v,a,b⟩:=h;k v a b
theorem RUs.el {K:PySem.W.Frag} {t:List T} {u:List Value} (h:RUs K H t u) (k:∀v,Reps K H t v->Vals v u->C):C:=let ⟨v,a,b⟩:=h;k v a b
end
section
variable {X:Cx} {pins:List (Addr×Obj)} {τ:St3} {G:Gp} {H H1:Hp} {s:Shared}
theorem EP3.ext {Q:VK3} {u:Value} (e:Ext H H1) (h:EP3 X pins τ H1 Q u s):EP3 X pins τ H Q u s:=let ⟨t,G',H',a,b⟩:=h;⟨t,G',H',e.trans a,b⟩
theorem TP3.ext {Q:Bool->Gp->Prop} {u:Bool} (e:Ext H H1) (h:TP3 X pins τ H1 Q u s):TP3 X pins τ H Q u s:=let ⟨G',H',a,b⟩:=h;⟨G',H',e.trans a,b⟩
theorem SP3.ext {D:Ends3} {f:Flow} (e:Ext H H1) (h:SP3 X pins H1 D f s):SP3 X pins H D f s:=by
 cases f with
 | next=>obtain⟨τ',G',H',a,b⟩:=h;exact⟨τ',G',H',e.trans a,b⟩
 | brk=>obtain⟨τ',G',H',a,b⟩:=h;exact⟨τ',G',H',e.trans a,b⟩
 | cont=>obtain⟨τ',G',H',a,b⟩:=h;exact⟨τ',G',H',e.trans a,b⟩
 | ret u=>obtain⟨t,τ',G',H',a,b⟩:=h;exact⟨t,τ',G',H',e.trans a,b⟩
theorem bin3 {a b:Expr} {ta tb:TE3} (ha:PE3 X a ta) (hb:PE3 X b tb) {R:T->T->Gp->Prop} (I:Inv3 X pins τ G H s) (h:ta τ G fun x G1=>tb τ G1 fun y G2=>R x y G2)
  {α:Type} {Q:α->Shared->Prop} {f:Value->Value->Sem α}
  (hf:∀v u s2 x y G2 H2,Ext H H2->Inv3 X pins τ G2 H2 s2->RU X.K H2 x v->RU X.K H2 y u->R x y G2->wpAny (model X.prog X.w) X.A (f v u) Q X.xe s2):
  wpAny (model X.prog X.w) X.A (eval a X.env) (fun v s₁=>wpAny (model X.prog X.w) X.A (eval b X.env) (fun u s₂=>wpAny (model X.prog X.w) X.A (f v u) Q X.xe s₂) X.xe s₁) X.xe s:=by
 refine thn (ha pins s τ G H _ I h) fun v s1 w_=>w_.el fun x G1 H1 e1 I1 r1 q1=> ?_
 refine thn (hb pins s1 τ G1 H1 _ I1 q1) fun u s2 w_=>w_.el fun y G2 H2 e2 I2 r2 q2=> ?_
 exact hf v u s2 x y G2 H2 (e1.trans e2) I2 (r1.mono e2) r2 q2
def up (K:PySem.W.Frag) (H:Hp) (Q:VK3):VK:=fun v H'=>∃t G',Ext H H'/\GRel K H' G'/\Rep K H' t v/\Q t G'
theorem jVn {σ:L2.St} {Q:VK3} {u:Value} (hs:SRel X.K H σ τ) (h:EP X pins σ (up X.K H Q) u s):EP3 X pins τ H Q u s:=
 let ⟨v,H',I',r',t,G',e,g',rt,q⟩:=h
 ⟨t,G',H',e,⟨σ,I',hs.mono e,g'⟩,⟨v,rt,r'⟩,q⟩
end
section
variable {X:Cx} {pos:Pos}
def tVar (i:Nat):TE3:=fun τ G Q=>∃t,τ[i]? =some (some t)/\Q t G
def tC (t:T):TE3:=fun _ G Q=>Q t G
theorem jJc (i:Nat) {x:Str} (hN:X.N[i]? =some x:=by rfl) (hv:Vis X.env.scope x:=by first | exact Or.inl rfl | exact Or.inr (Or.inl rfl) | exact Or.inr (Or.inr rfl))
  (hd:(x == ("__debug__":Str))=false:=by decide) (hcd:(x == ("__classdict__":Str))=false:=by decide):PE3 X (.Name x pos) (tVar i):=by
 rintro pins s τ G H Q ⟨σ,I,hs,hg⟩ ⟨t,e,q⟩
 obtain⟨v,ev,rv⟩:=hs.2 i t e
 exact thn (pe_var hN hv hd hcd pins s σ H (up X.K H Q) I ⟨v,ev,t,G,.refl H,hg,rv,q⟩) fun u s' h=>jVn hs h
theorem jJl {i j}:PE3 X (.Constant (.int i) j pos) (tC (.int i)):=fun pins s τ G H Q ⟨σ,I,hs,hg⟩ q=>
 thn (pe_int pins s σ H (up X.K H Q) I ⟨.int i,G,.refl H,hg,rfl,q⟩) fun u s' h=>jVn hs h
theorem e_bl {b j}:PE3 X (.Constant (.bool b) j pos) (tC (.bl b)):=fun pins s τ G H Q ⟨σ,I,hs,hg⟩ q=>
 thn (pe_bl pins s σ H (up X.K H Q) I ⟨.bl b,G,.refl H,hg,rfl,q⟩) fun u s' h=>jVn hs h
theorem jVe {j}:PE3 X (.Constant .none j pos) (tC .non):=fun pins s τ G H Q ⟨σ,I,hs,hg⟩ q=>
 thn (pe_non pins s σ H (up X.K H Q) I ⟨.non,G,.refl H,hg,rfl,q⟩) fun u s' h=>jVn hs h
end
abbrev R3:=T->T->Gp->VK3->Prop
def Op3 (X:Cx) (f:Value->Value->Sem Value) (r:R3):Prop:=
 ∀(pins:List (Addr×Obj)) (s:Shared) (τ:St3) (G:Gp) (H:Hp) (x y:T) (v u:Value) (Q:VK3),Inv3 X pins τ G H s->RU X.K H x v->RU X.K H y u->r x y G Q->wpAny (model X.prog X.w) X.A (f v u) (EP3 X pins τ H Q) X.xe s
def Call3 (X:Cx) (f:Value) (r:List T->Gp->VK3->Prop):Prop:=
 ∀(pins:List (Addr×Obj)) (s:Shared) (τ:St3) (G:Gp) (H:Hp) (xs:List T) (us:List Value) (Q:VK3),Inv3 X pins τ G H s->RUs X.K H xs us->r xs G Q->wpAny (model X.prog X.w) X.A (call f us) (EP3 X pins τ H Q) X.xe s
def Mt3 (X:Cx) (id:String) (r:T->List T->Gp->VK3->Prop):Prop:=
 ∀(pins:List (Addr×Obj)) (s:Shared) (τ:St3) (G:Gp) (H:Hp) (x:T) (xs:List T) (v:Value) (us:List Value) (Q:VK3),Inv3 X pins τ G H s->RU X.K H x v->RUs X.K H xs us->r x xs G Q->
  wpAny (model X.prog X.w) X.A (call (.builtin id) (v::us)) (EP3 X pins τ H Q) X.xe s
def Ix3 (X:Cx) (r:R3):Prop:=
 ∀(value slice:Expr) (pins:List (Addr×Obj)) (s:Shared) (τ:St3) (G:Gp) (H:Hp) (x y:T) (v u:Value) (Q:VK3),Inv3 X pins τ G H s->RU X.K H x v->RU X.K H y u->r x y G Q->
  subscripted slice false v u=operate [v,u] (getItem v u)->wpAny (model X.prog X.w) X.A (subscriptTail value slice v u) (EP3 X pins τ H Q) X.xe s
def Set3 (X:Cx) (r:T->T->T->Gp->(Gp->Prop)->Prop):Prop:=
 ∀(pins:List (Addr×Obj)) (s:Shared) (τ:St3) (G:Gp) (H:Hp) (o i v:T) (ov iv u:Value) (Q:Gp->Prop),Inv3 X pins τ G H s->RU X.K H o ov->RU X.K H i iv->RU X.K H v u->r o i v G Q->
  wpAny (model X.prog X.w) X.A (setItem ov iv u) (fun _ s'=>∃G' H',Ext H H'/\Inv3 X pins τ G' H' s'/\Q G') X.xe s
def Tru3 (X:Cx) (r:T->Gp->(Bool->Gp->Prop)->Prop):Prop:=
 ∀(pins:List (Addr×Obj)) (s:Shared) (τ:St3) (G:Gp) (H:Hp) (x:T) (v:Value) (Q:Bool->Gp->Prop),Inv3 X pins τ G H s->RU X.K H x v->r x G Q->wpAny (model X.prog X.w) X.A (truthy v) (TP3 X pins τ H Q) X.xe s
section
variable {X:Cx}
theorem Op3.of {f:Value->Value->Sem Value} {r:R2} {r3:R3} (h:OpR X f r)
  (hr:∀H G x y a b Q,GRel X.K H G->Rep X.K H x a->Rep X.K H y b->r3 x y G Q->r a b H (up X.K H Q)):Op3 X f r3:=by
 rintro pins s τ G H x y v u Q ⟨σ,I,hs,hg⟩ ⟨a,ra,rv⟩ ⟨b,rb,ru⟩ q
 exact thn (h pins s σ H a b v u _ I rv ru (hr H G x y a b Q hg ra rb q)) fun u s' h=>jVn hs h
theorem Call3.of {f:Value} {r:List V->Hp->VK->Prop} {r3:List T->Gp->VK3->Prop} (h:kQn X f r)
  (hr:∀H G xs as Q,GRel X.K H G->Reps X.K H xs as->r3 xs G Q->r as H (up X.K H Q)):Call3 X f r3:=by
 rintro pins s τ G H xs us Q ⟨σ,I,hs,hg⟩ ⟨as,ra,rv⟩ q
 exact thn (h pins s σ H as us _ I rv (hr H G xs as Q hg ra q)) fun u s' h=>jVn hs h
theorem Mt3.of {id:String} {r:V->List V->Hp->VK->Prop} {r3:T->List T->Gp->VK3->Prop} (h:MtR X id r)
  (hr:∀H G x xs a as Q,GRel X.K H G->Rep X.K H x a->Reps X.K H xs as->r3 x xs G Q->r a as H (up X.K H Q)):Mt3 X id r3:=by
 rintro pins s τ G H x xs v us Q ⟨σ,I,hs,hg⟩ ⟨a,ra,rv⟩ ⟨as,ras,rvs⟩ q
 exact thn (h pins s σ H a as v us _ I rv rvs (hr H G x xs a as Q hg ra ras q)) fun u s' h=>jVn hs h
theorem Ix3.of {r:R2} {r3:R3} (h:IxR X r)
  (hr:∀H G x y a b Q,GRel X.K H G->Rep X.K H x a->Rep X.K H y b->r3 x y G Q->r a b H (up X.K H Q)):Ix3 X r3:=by
 rintro value slice pins s τ G H x y v u Q ⟨σ,I,hs,hg⟩ ⟨a,ra,rv⟩ ⟨b,rb,ru⟩ q hh
 exact thn (h value slice pins s σ H a b v u _ I rv ru (hr H G x y a b Q hg ra rb q) hh) fun u s' h=>jVn hs h
theorem Set3.of {t:TSet} {r3:T->T->T->Gp->(Gp->Prop)->Prop} (h:PSet X t)
  (hr:∀H G o i v a b c Q,GRel X.K H G->Rep X.K H o a->Rep X.K H i b->Rep X.K H v c->r3 o i v G Q->t a b c H (fun H'=>∃G',Ext H H'/\GRel X.K H' G'/\Q G')):Set3 X r3:=by
 rintro pins s τ G H o i v ov iv u Q ⟨σ,I,hs,hg⟩ ⟨a,ra,rv⟩ ⟨b,rb,ru⟩ ⟨c,rc,rw'⟩ q
 exact thn (h pins s σ H a b c ov iv u _ I rv ru rw' (hr H G o i v a b c Q hg ra rb rc q)) fun _ s' ⟨H',I',G',e,g',q'⟩=>⟨G',H',e,⟨σ,I',hs.mono e,g'⟩,q'⟩
theorem Tru3.of {r:V->Hp->(Bool->Hp->Prop)->Prop} {r3:T->Gp->(Bool->Gp->Prop)->Prop} (h:TruR X r)
  (hr:∀H G x a Q,GRel X.K H G->Rep X.K H x a->r3 x G Q->r a H (fun b H'=>H'=H/\Q b G)):Tru3 X r3:=by
 rintro pins s τ G H x v Q ⟨σ,I,hs,hg⟩ ⟨a,ra,rv⟩ q
 exact thn (h pins s σ H a v _ I rv (hr H G x a Q hg ra q)) fun b s' ⟨H',I',e,q'⟩=>by
  subst e;exact⟨G,H',.refl _,⟨σ,I',hs,hg⟩,q'⟩
theorem Op3.or {f:Value->Value->Sem Value} {r r':R3} (h:Op3 X f r) (h':Op3 X f r'):Op3 X f (fun x y G Q=>r x y G Q\/r' x y G Q):=by
 intro pins s τ G H x y v u Q I rx ry q
 rcases q with q | q
 ·exact h pins s τ G H x y v u Q I rx ry q
 ·exact h' pins s τ G H x y v u Q I rx ry q
def rI (C:Int->Int->Prop) (g:Int->Int->T):R3:=fun x y G Q=>∃i j,x= .int i/\y= .int j/\C i j/\Q (g i j) G
def rI0 (g:Int->Int->T):R3:=fun x y G Q=>∃i j,x= .int i/\y= .int j/\Q (g i j) G
theorem o_I {f:Value->Value->Sem Value} {C:Int->Int->Prop} {g:Int->Int->V} {g':Int->Int->T} (h:OpR X f (L2.rI C g)) (hg':∀K H i j,Rep K H (g' i j) (g i j)):Op3 X f (rI C g'):=
 Op3.of h fun H G x y a b Q hg ra rb ⟨i,j,ex,ey,c,q⟩=>by
  subst ex;subst ey
  cases (show a= .int i from ra);cases (show b= .int j from rb)
  exact⟨i,j,rfl,rfl,c,g' i j,G,.refl H,hg,hg' _ _ i j,q⟩
theorem o_I0 {f:Value->Value->Sem Value} {g:Int->Int->V} {g':Int->Int->T} (h:OpR X f (L2.rI0 g)) (hg':∀K H i j,Rep K H (g' i j) (g i j)):Op3 X f (rI0 g'):=
 Op3.of h fun H G x y a b Q hg ra rb ⟨i,j,ex,ey,q⟩=>by
  subst ex;subst ey
  cases (show a= .int i from ra);cases (show b= .int j from rb)
  exact⟨i,j,rfl,rfl,g' i j,G,.refl H,hg,hg' _ _ i j,q⟩
theorem o_add:Op3 X (binaryOp .Add) (rI0 fun i j=> .int (i+j)):=o_I0 op_add fun _ _ _ _=>rfl
theorem kZe:Op3 X (binaryOp .Sub) (rI0 fun i j=> .int (i-j)):=o_I0 op_sub fun _ _ _ _=>rfl
theorem o_mul:Op3 X (binaryOp .Mult) (rI CMul fun i j=> .int (i*j)):=o_I op_mul fun _ _ _ _=>rfl
theorem qUd:Op3 X (binaryOp .FloorDiv) (rI CDiv fun i j=> .int (i / j)):=o_I qVi fun _ _ _ _=>rfl
theorem kJ1:Op3 X (binaryOp .Mod) (rI (fun _ j=>0<j) fun i j=> .int (i%j)):=o_I op_mod fun _ _ _ _=>rfl
theorem o_pow:Op3 X (binaryOp .Pow) (rI CPow fun i j=> .int (i^j.toNat)):=o_I op_pow fun _ _ _ _=>rfl
theorem o_lt:Op3 X (compareOp .Lt) (rI0 fun i j=> .bl (decide (i<j))):=o_I0 op_lt fun _ _ _ _=>rfl
theorem o_le:Op3 X (compareOp .LtE) (rI0 fun i j=> .bl (decide (i<=j))):=o_I0 op_le fun _ _ _ _=>rfl
theorem o_gt:Op3 X (compareOp .Gt) (rI0 fun i j=> .bl (decide (j<i))):=o_I0 op_gt fun _ _ _ _=>rfl
theorem o_ge:Op3 X (compareOp .GtE) (rI0 fun i j=> .bl (decide (j<=i))):=o_I0 op_ge fun _ _ _ _=>rfl
def jQq:T->Bool
 | .non=>true
 | _=>false
theorem Rep.non_iff {K:PySem.W.Frag} {H:Hp} {x:T} {a:V} (r:Rep K H x a):decide (a= .non)=jQq x:=by
 cases x with
 | non=>cases (show a= .non from r);rfl
 | bl b=>cases (show a= .bl b from r);rfl
 | int b=>cases (show a= .int b from r);rfl
 | str b=>cases (show a= .str b from r);rfl
 | ref b=>cases (show a= .ref b from r);rfl
 | ty b=>cases (show a= .ty b from r);rfl
 | tup b=>obtain⟨_,_,e,_⟩:=(show ∃c vs,a= .ref c/\_ from r);subst e;rfl
 | scr b=>obtain⟨_,_,e,_⟩:=(show ∃c vs,a= .ref c/\_ from r);subst e;rfl
theorem qVp:Op3 X (compareOp .Is) (fun x y G Q=>y= .non/\Q (.bl (jQq x)) G):=
 Op3.of op_isN fun H G x y a b Q hg ra rb ⟨ey,q⟩=>by
  subst ey;cases (show b= .non from rb)
  exact⟨rfl,.bl (jQq x),G,.refl H,hg,by rw[ra.non_iff];rfl,q⟩
theorem kZf:Op3 X (compareOp .IsNot) (fun x y G Q=>y= .non/\Q (.bl (!jQq x)) G):=
 Op3.of qVh fun H G x y a b Q hg ra rb ⟨ey,q⟩=>by
  subst ey;cases (show b= .non from rb)
  exact⟨rfl,.bl (!jQq x),G,.refl H,hg,by rw[ra.non_iff];rfl,q⟩
end
def tOp (r:R3) (ta tb:TE3):TE3:=fun τ G Q=>ta τ G fun x G1=>tb τ G1 fun y G2=>r x y G2 Q
def tUn (r:T->Gp->VK3->Prop) (ta:TE3):TE3:=fun τ G Q=>ta τ G fun x G1=>r x G1 Q
def jJw (t:TE3):TT3:=fun τ G Q=>t τ G fun x G1=>∃c,x= .bl c/\Q c G1
def tAnd (t u:TT3):TT3:=fun τ G Q=>t τ G fun c G1=>if c=true then u τ G1 Q else Q false G1
def tOr (t u:TT3):TT3:=fun τ G Q=>t τ G fun c G1=>if c=true then Q true G1 else u τ G1 Q
def tNot (t:TT3):TT3:=fun τ G Q=>t τ G fun c G1=>Q (!c) G1
def kQq (ta tb:TE3):TE3:=fun τ G Q=>ta τ G fun x G1=>∃c,x= .bl c/\if c=true then tb τ G1 Q else Q (.bl false) G1
def tOrV (ta tb:TE3):TE3:=fun τ G Q=>ta τ G fun x G1=>∃c,x= .bl c/\if c=true then Q (.bl true) G1 else tb τ G1 Q
def tNotV (ta:TE3):TE3:=fun τ G Q=>ta τ G fun x G1=>∃c,x= .bl c/\Q (.bl (!c)) G1
def tIf (t:TT3) (ta tb:TE3):TE3:=fun τ G Q=>t τ G fun c G1=>if c=true then ta τ G1 Q else tb τ G1 Q
noncomputable def kX2 (r r':R3) (ta tb tc:TE3):TE3:=fun τ G Q=>ta τ G fun x G1=>tb τ G1 fun y G2=>r x y G2 fun z G3=>∃k,z= .bl k/\if k=true then tc τ G3 (fun w G4=>r' y w G4 Q) else Q (.bl false) G3
def tNil:TA3:=fun _ G Q=>Q [] G
def jJb (ta:TE3) (tr:TA3):TA3:=fun τ G Q=>ta τ G fun x G1=>tr τ G1 fun xs G2=>Q (x::xs) G2
def tTup (t:TA3):TE3:=fun τ G Q=>t τ G fun xs G1=>xs.length<=sizeLine/\Q (.tup xs) G1
def tLst (t:TA3):TE3:=fun τ G Q=>t τ G fun xs G1=>xs.length<=sizeLine/\∀p,G1 p=none->Q (.ref p) (gup G1 p (.lst xs))
def tCB (r:List T->Gp->VK3->Prop) (t:TA3):TE3:=fun τ G Q=>t τ G fun xs G1=>r xs G1 Q
section
variable {X:Cx} {a b c:Expr} {ta tb tc:TE3} {tA tB:TT3} {pos:Pos} {rest es:List Expr} {t:TA3}
theorem e_op {op:Operator} {r:R3} (ho:Op3 X (binaryOp op) r) (ha:PE3 X a ta) (hb:PE3 X b tb):PE3 X (.BinOp a op b pos) (tOp r ta tb):=by
 intro pins s τ G H Q I h
 exact wpAny_BinOp (bin3 ha hb I h fun v u s2 x y G2 H2 e I2 rx ry q=>thn (ho pins s2 τ G2 H2 x y v u Q I2 rx ry q) fun _ _ z=>z.ext e)
theorem jX4 {op:CmpOp} {r:R3} (ho:Op3 X (compareOp op) r) (ha:PE3 X a ta) (hb:PE3 X b tb) (hm:behindInMarks op b=false):PE3 X (.Compare a [op] [b] pos) (tOp r ta tb):=by
 intro pins s τ G H Q I h
 exact wpAny_Compare1 (bin3 ha hb I h fun v u s2 x y G2 H2 e I2 rx ry q=>thn (ho pins s2 τ G2 H2 x y v u Q I2 rx ry q) fun _ _ z=>z.ext e) hm
theorem jKk {op:CmpOp} {r:R3} (ho:Op3 X (compareOp op) r) (ha:PE3 X a ta) (hb:PE3 X b tb) (hm:behindInMarks op b=false):PT3 X (.Compare a [op] [b] pos) (jJw (tOp r ta tb)):=by
 intro pins s τ G H Q I h
 refine wpAny_isTrue_Compare1 (bin3 ha hb I h fun v u s2 x y G2 H2 e I2 rx ry q=>thn (ho pins s2 τ G2 H2 x y v u _ I2 rx ry q) fun w' s3 w_=>w_.el fun z G3 H3 e3 I3 r3 ⟨k,ez,q3⟩=> ?_) hm
 subst ez
 obtain⟨v',rv',ru'⟩:=r3
 cases (show v'= .bl k from rv');cases ru'
 exact lV2 ⟨G3,H3,e.trans e3,I3,q3⟩
theorem kX0 {e:Expr} {t:TE3} (h:PE3 X e t) (he:∀whole,isTrue e X.env whole=(do let v <-whole;standAt e.pos;holding [v] (truthy v)):=by intro _;rfl):PT3 X e (jJw t):=by
 intro pins s τ G H Q I hw
 refine isTrue_plain (thn (h pins s τ G H _ I hw) fun v s1 w_=>w_.el fun x G1 H1 e1 I1 r1 ⟨k,ez,q1⟩=> ?_) (he _)
 subst ez
 obtain⟨v',rv',ru'⟩:=r1
 cases (show v'= .bl k from rv');cases ru'
 exact lV2 ⟨G1,H1,e1,I1,q1⟩
def tTru (r:T->Gp->(Bool->Gp->Prop)->Prop) (t:TE3):TT3:=fun τ G Q=>t τ G fun x G1=>r x G1 Q
theorem t_tru {e:Expr} {t:TE3} {r:T->Gp->(Bool->Gp->Prop)->Prop} (hr:Tru3 X r) (h:PE3 X e t) (he:∀whole,isTrue e X.env whole=(do let v <-whole;standAt e.pos;holding [v] (truthy v)):=by intro _;rfl):PT3 X e (tTru r t):=by
 intro pins s τ G H Q I hw
 exact isTrue_plain (thn (h pins s τ G H _ I hw) fun v s1 w_=>w_.el fun x G1 H1 e1 I1 r1 q1=>thn (hr pins s1 τ G1 H1 x v Q I1 r1 q1) fun _ _ z=>z.ext e1) (he _)
theorem qU2 (ha:PT3 X a tA):PW3 X (.BoolOp .Or [a] pos) tA:=by
 intro wh pins s τ G H Q I h
 refine isTrue_or (thn (ha pins s τ G H Q I h) fun c s1 e=> ?_)
 cases c with
 | false=>exact isTrue_or_nil e
 | true=>exact e
theorem w_or (ha:PT3 X a tA) (hb:PW3 X (.BoolOp .Or (b::rest) pos) tB):PW3 X (.BoolOp .Or (a::b::rest) pos) (tOr tA tB):=by
 intro wh pins s τ G H Q I h
 refine isTrue_or (thn (ha pins s τ G H _ I h) fun c s1 w_=>w_.el fun G1 H1 e1 I1 q1=> ?_)
 cases c with
 | true=>exact⟨G1,H1,e1,I1,q1⟩
 | false=>exact thn (hb wh pins s1 τ G1 H1 Q I1 q1) fun _ _ z=>z.ext e1
theorem qJz (ha:PT3 X a tA):PT3 X (.UnaryOp .Not a pos) (tNot tA):=by
 intro pins s τ G H Q I h
 exact isTrue_not (thn (ha pins s τ G H (fun c G1=>Q (!c) G1) I h) fun c s1 w_=>w_.el fun G1 H1 e1 I1 q1=>⟨G1,H1,e1,I1,q1⟩)
theorem qXg {op} {t:TE3} (h:PE3 X a t):PE3 X (.BoolOp op [a] pos) t:=fun pins s τ G H Q I hw=>BoolOp_one (h pins s τ G H Q I hw)
theorem qQr (ha:PE3 X a ta) (hb:PE3 X (.BoolOp .And (b::rest) pos) tb):PE3 X (.BoolOp .And (a::b::rest) pos) (kQq ta tb):=by
 intro pins s τ G H Q I h
 refine BoolOp_and (thn (ha pins s τ G H _ I h) fun v s1 w_=>w_.el fun x G1 H1 e1 I1 r1 ⟨k,ez,q1⟩=> ?_)
 subst ez
 obtain⟨v',rv',ru'⟩:=r1
 cases (show v'= .bl k from rv');cases ru'
 refine lV2 ?_
 cases k with
 | true=>exact thn (hb pins s1 τ G1 H1 Q I1 q1) fun _ _ z=>z.ext e1
 | false=>exact⟨.bl false,G1,H1,e1,I1,⟨.bl false,rfl,rfl⟩,q1⟩
theorem kUl (hc:PT3 X c tA) (ha:PE3 X a ta) (hb:PE3 X b tb):PE3 X (.IfExp c a b pos) (tIf tA ta tb):=by
 intro pins s τ G H Q I h
 refine IfExp_ (thn (hc pins s τ G H _ I h) fun k s1 w_=>w_.el fun G1 H1 e1 I1 q1=> ?_)
 cases k with
 | true=>exact thn (ha pins s1 τ G1 H1 Q I1 q1) fun _ _ z=>z.ext e1
 | false=>exact thn (hb pins s1 τ G1 H1 Q I1 q1) fun _ _ z=>z.ext e1
theorem jJf:PA3 X [] tNil:=fun _ _ _ _ G H Q I h=>Calls.spliced_nil ⟨[],G,H,.refl H,I,⟨[],rfl,.nil⟩,h⟩
theorem jJa {e:Expr} {te:TE3} (ha:PE3 X e te) (hr:PA3 X es t) (hs:starEach (e::es) X.env=(false,eval e X.env)::starEach es X.env:=by rfl):PA3 X (e::es) (jJb te t):=by
 intro pos pins s τ G H Q I h
 rw[hs]
 show wpAny _ _ (spliced ((false,eval e X.env)::backTo pos (starEach es X.env))) _ _ s
 refine Calls.spliced_cons (thn (ha pins s τ G H _ I h) fun u s1 w_=>w_.el fun x G1 H1 e1 I1 r1 q1=> ?_)
 refine thn (hr pos pins s1 τ G1 H1 _ I1 q1) fun us s2 w_=>w_.el fun xs G2 H2 e2 I2 r_ q2=>r_.el fun vs rs rv=> ?_
 obtain⟨v,rr,rvv⟩:=r1.mono e2
 exact⟨x::xs,G2,H2,e1.trans e2,I2,⟨v::vs,⟨v,vs,rfl,rr,rs⟩,.cons rvv rv⟩,q2⟩
theorem jK4 {x1} (h:PA3 X es t):PE3 X (.Tuple es x1 pos) (tTup t):=by
 intro pins s τ G H Q I hq
 refine wpAny_Tuple_spliced (thn (h pos pins s τ G H _ I hq) fun us s1 w_=>w_.el fun xs G1 H1 e1 i_ r_ ⟨z,q⟩=>i_.el fun σ I1 hs1 hg1=>r_.el fun vs rs rv=>⟨by rw[<-rv.length,<-rs.length];exact z,?_⟩)
 have hf:H1 s1.heap.objs.size=none:=I1.hok.fresh (lJg _)
 have e2:Ext H1 (upd H1 s1.heap.objs.size (.tup vs)):= .upd (.none hf)
 refine⟨.tup xs,G1,upd H1 s1.heap.objs.size (.tup vs),e1.trans e2,⟨σ,I1.laid (t':=s1.toks) (fun b u e=>lJm _ e) (lJg _) ?_,hs1.mono e2,hg1.tupNew hf⟩,⟨.ref s1.heap.objs.size,Rep.tupNew rs hf,rfl⟩,q⟩
 exact⟨by rw[<-rs.length];exact z,us,rv,⟨_,lJ6 _ rfl,rfl,_,rfl,rfl⟩⟩
theorem jQy (h:PA3 X es t):PE3 X (.List es pos) (tLst t):=by
 intro pins s τ G H Q I hq
 refine wpAny_List_spliced (thn (h pos pins s τ G H _ I hq) fun us s1 w_=>w_.el fun xs G1 H1 e1 i_ r_ ⟨z,q⟩=>i_.el fun σ I1 hs1 hg1=>r_.el fun vs rs rv=>⟨by rw[<-rv.length,<-rs.length];exact z,?_⟩)
 have hf:H1 s1.heap.objs.size=none:=I1.hok.fresh (lJg _)
 have e2:Ext H1 (upd H1 s1.heap.objs.size (.lst vs)):= .upd (.none hf)
 refine⟨.ref s1.heap.objs.size,gup G1 s1.heap.objs.size (.lst xs),upd H1 s1.heap.objs.size (.lst vs),e1.trans e2,⟨σ,I1.laid (t':=s1.toks) (fun b u e=>lJm _ e) (lJg _) ?_,hs1.mono e2,hg1.lstNew rs (.none hf)⟩,⟨.ref s1.heap.objs.size,rfl,rfl⟩,q _ (hg1.fresh hf)⟩
 exact⟨by rw[<-rs.length];exact z,us,0,rv,lJ6 _ rfl⟩
theorem e_ix {r:R3} (hr:Ix3 X r) (ha:PE3 X a ta) (hb:PE3 X b tb) (hs:qXu b):PE3 X (.Subscript a b pos) (tOp r ta tb):=by
 intro pins s τ G H Q I h
 exact Subscript_ (bin3 ha hb I h fun v u s2 x y G2 H2 e I2 rx ry q=>thn (hr a b pins s2 τ G2 H2 x y v u Q I2 rx ry q (hs _ _)) fun _ _ z=>z.ext e)
def rIx:R3:=fun x y G Q=>∃xs i t,seqT G x=some xs/\y= .int i/\atI xs i=some t/\Q t G
theorem jVc {o:Option GO} {xs:List T} (h:asL o=some xs):o=some (.lst xs):=by
 cases o with
 | none=>cases h
 | some g=>cases g with
  | lst ys=>cases h;rfl
  | dct _=>cases h
  | dck _=>cases h
  | fdc _=>cases h
  | ins _ _=>cases h
theorem jUv {K:PySem.W.Frag} {H:Hp} {G:Gp} {x:T} {a:V} {xs:List T} (hg:GRel K H G) (r:Rep K H x a) (h:seqT G x=some xs):
  ∃p vs,a= .ref p/\(SqL K H p vs\/SqT K H p vs)/\Reps K H xs vs:=by
 cases x with
 | tup ys=>cases h;obtain⟨p,vs,e,h1,h2⟩:=(show ∃p vs,a= .ref p/\H p=some (.tup vs)/\Reps K H xs vs from r);exact⟨p,vs,e,.inr (.of h1),h2⟩
 | scr ys=>cases h;obtain⟨p,vs,e,h1,h2⟩:=(show ∃p vs,a= .ref p/\FrL K H p vs/\Reps K H xs vs from r);exact⟨p,vs,e,.inl h1.sq,h2⟩
 | ref p=>
  obtain⟨vs,h1,h2⟩:=hg.lst (jVc h)
  exact⟨p,vs,r,.inl (.of h1),h2⟩
 | non=>cases h
 | bl _=>cases h
 | int _=>cases h
 | str _=>cases h
 | ty _=>cases h
theorem ix_any:Ix3 X rIx:=
 Ix3.of (ix_list.or ix_tup) fun H G x y a b Q hg ra rb ⟨xs,i,t,hx,ey,ht,q⟩=>by
  subst ey;cases (show b= .int i from rb)
  obtain⟨p,vs,e,hq,r⟩:=jUv hg ra hx
  subst e
  obtain⟨v,hv,rv⟩:=r.atI ht
  rcases hq with hq | hq
  ·exact .inl ⟨p,vs,i,v,rfl,rfl,hq,hv,t,G,.refl H,hg,rv,q⟩
  ·exact .inr ⟨p,vs,i,v,rfl,rfl,hq,hv,t,G,.refl H,hg,rv,q⟩
theorem jJo {id:String} {r:List T->Gp->VK3->Prop} {x:Str} {p:Pos} {e:Expr} (hc:Call3 X (.builtin id) r) (hg:Gl X x) (hm:X.mg x=none) (hv:bootBuiltins x=some (.builtin id)) (ha:PA3 X (e::es) t) (hn:x≠"__name__":=by decide) (hdb:(x == ("__debug__":Str))=false:=by decide)
  (he:starEach (e::es) X.env=(false,eval e X.env)::starEach es X.env:=by rfl) (hpl:(backTo pos (starEach es X.env)).any (·.1)=false:=by rfl):PE3 X (.Call (.Name x p) (e::es) [] pos) (tCB r t):=by
 intro pins s τ G H Q I h
 obtain⟨σ,I0,hs0,hg0⟩:=_root_.id I
 refine lYl (jUz I0 hg hm hv ?_ hn hdb)
 exact PyProof.Rows.callWith_builtin1 (thn (ha pos pins s τ G H _ I h) fun us s1 w_=>w_.el fun xs G1 H1 e1 I1 r1 q1=>thn (hc pins s1 τ G1 H1 xs us Q I1 r1 q1) fun _ _ z=>z.ext e1) he hpl
theorem jKu {T0:String} {r:List T->Gp->VK3->Prop} {x:Str} {p:Pos} {e:Expr} (hc:Call3 X (.type T0) r) (hg:Gl X x) (hm:X.mg x=none) (hv:bootBuiltins x=some (.type T0)) (ha:PA3 X (e::es) t) (hn:x≠"__name__":=by decide) (hdb:(x == ("__debug__":Str))=false:=by decide)
  (he:starEach (e::es) X.env=(false,eval e X.env)::starEach es X.env:=by rfl) (hpl:(backTo pos (starEach es X.env)).any (·.1)=false:=by rfl):PE3 X (.Call (.Name x p) (e::es) [] pos) (tCB r t):=by
 intro pins s τ G H Q I h
 obtain⟨σ,I0,hs0,hg0⟩:=_root_.id I
 refine lYl (jUz I0 hg hm hv ?_ hn hdb)
 exact lVe (thn (ha pos pins s τ G H _ I h) fun us s1 w_=>w_.el fun xs G1 H1 e1 I1 r1 q1=>thn (hc pins s1 τ G1 H1 xs us Q I1 r1 q1) fun _ _ z=>z.ext e1) he hpl
theorem jVx {K:PySem.W.Frag} {H:Hp} {x:T} {vs:List V} (h:Reps K H [x] vs):∃v,vs=[v]/\Rep K H x v:=by
 obtain⟨v,ws,rfl,r,e⟩:=h;cases e;exact⟨v,rfl,r⟩
theorem kV2 {K:PySem.W.Frag} {H:Hp} {x y:T} {vs:List V} (h:Reps K H [x,y] vs):∃v w,vs=[v,w]/\Rep K H x v/\Rep K H y w:=by
 obtain⟨v,ws,rfl,r,w,ws2,rfl,r2,e⟩:=h;cases e;exact⟨v,w,rfl,r,r2⟩
def rLen:List T->Gp->VK3->Prop:=fun xs G Q=>∃x ys,xs=[x]/\seqT G x=some ys/\Q (.int ys.length) G
theorem jKw:Call3 X (.builtin "len") rLen:=
 Call3.of kQd fun H G xs as Q hg ra ⟨x,ys,e,hx,q⟩=>by
  subst e
  obtain⟨v,rfl,rv⟩:=jVx ra
  obtain⟨p,vs,rfl,hq,r⟩:=jUv hg rv hx
  exact⟨p,vs,rfl,hq,.int ys.length,G,.refl H,hg,by rw[r.length];rfl,q⟩
def rAbs:List T->Gp->VK3->Prop:=fun xs G Q=>∃i,xs=[.int i]/\Q (.int (if i<0 then -i else i)) G
theorem c_abs:Call3 X (.builtin "abs") rAbs:=
 Call3.of qQx fun H G xs as Q hg ra ⟨i,e,q⟩=>by
  subst e
  obtain⟨v,rfl,rv⟩:=jVx ra
  cases (show v= .int i from rv)
  exact⟨i,rfl,.int _,G,.refl H,hg,rfl,q⟩
def rMax:List T->Gp->VK3->Prop:=fun xs G Q=>∃i j,xs=[.int i,.int j]/\Q (.int (if j>i then j else i)) G
theorem c_max (hc:X.calm=true):Call3 X (.builtin "max") rMax:=
 Call3.of (qJk hc) fun H G xs as Q hg ra ⟨i,j,e,q⟩=>by
  subst e
  obtain⟨v,w,rfl,rv,rw'⟩:=kV2 ra
  cases (show v= .int i from rv);cases (show w= .int j from rw')
  exact⟨i,j,rfl,.int _,G,.refl H,hg,rfl,q⟩
def kYs:List T->Gp->VK3->Prop:=fun xs G Q=>∃k,xs=[.bl k]/\Q (.int (if k then 1 else 0)) G
theorem c_int:Call3 X (.type "int") kYs:=
 Call3.of qJl fun H G xs as Q hg ra ⟨k,e,q⟩=>by
  subst e
  obtain⟨v,rfl,rv⟩:=jVx ra
  cases (show v= .bl k from rv)
  exact .inr ⟨k,rfl,.int _,G,.refl H,hg,rfl,q⟩
def qVc:List T->Gp->VK3->Prop:=fun xs G Q=>∃i j,xs=[.int i,.int j]/\CDiv i j/\Q (.tup [.int (i / j),.int (i%j)]) G
def jJv:List T->Gp->VK3->Prop:=fun xs G Q=>∃x ys,xs=[x]/\seqT G x=some ys/\Q (.tup ys) G
theorem jQ1:Call3 X (.type "tuple") jJv:=
 Call3.of kKj fun H G xs as Q hg ra ⟨x,ys,e,hx,q⟩=>by
  subst e
  obtain⟨v,rfl,rv⟩:=jVx ra
  obtain⟨p,vs,rfl,hq,r⟩:=jUv hg rv hx
  cases x with
  | tup zs=>
   cases hx
   obtain⟨p',vs',e',h1,h2⟩:=(show ∃p' vs',V.ref p= .ref p'/\H p'=some (.tup vs')/\Reps X.K H ys vs' from rv)
   cases e'
   exact⟨p,vs',rfl,.inr ⟨.of h1,.tup ys,G,.refl H,hg,⟨p,vs',rfl,h1,h2⟩,q⟩⟩
  | scr zs=>
   cases hx
   obtain⟨p',vs',e',h1,h2⟩:=(show ∃p' vs',V.ref p= .ref p'/\FrL X.K H p' vs'/\Reps X.K H ys vs' from rv)
   cases e'
   exact⟨p,vs',rfl,.inl ⟨h1.sq,fun l hl=>⟨.tup ys,G,.upd (.none hl),hg.tupNew hl,Rep.tupNew h2 hl,q⟩⟩⟩
  | ref p'=>
   cases (show V.ref p= .ref p' from rv)
   obtain⟨vs',h1,h2⟩:=hg.lst (jVc hx)
   exact⟨p,vs',rfl,.inl ⟨.of h1,fun l hl=>⟨.tup ys,G,.upd (.none hl),hg.tupNew hl,Rep.tupNew h2 hl,q⟩⟩⟩
  | non=>cases hx
  | bl _=>cases hx
  | int _=>cases hx
  | str _=>cases hx
  | ty _=>cases hx
noncomputable def rCat:R3:=fun x y G Q=>∃p q xs ys,x= .ref p/\y= .ref q/\G p=some (.lst xs)/\G q=some (.lst ys)/\xs.length+ys.length<=sizeLine/\∀l,G l=none->Q (.ref l) (gup G l (.lst (xs++ys)))
noncomputable def rRep:R3:=fun x y G Q=>∃p xs n,x= .ref p/\y= .int n/\G p=some (.lst xs)/\n.toNat * xs.length<=sizeLine/\n<2^62/\ -(2^62)<n/\∀l,G l=none->Q (.ref l) (gup G l (.lst (List.replicate n.toNat xs).flatten))
def tyT (G:Gp) (T0:String) (x:T):Prop:=match x with
 | .str _=>T0="str"
 | .int _=>T0="int"
 | .ref p=>(T0="list"/\∃xs,G p=some (.lst xs))\/(T0="dict"/\((∃kvs,G p=some (.dck kvs))\/∃kvs,G p=some (.dct kvs)))
 | _=>False
theorem tyT.of {K:PySem.W.Frag} {H:Hp} {G:Gp} {T0:String} {x:T} {a:V} (hg:GRel K H G) (r:Rep K H x a) (h:tyT G T0 x):tyV K T0 a H:=by
 cases x with
 | str z=>cases (show a= .str z from r);exact h
 | int z=>cases (show a= .int z from r);exact h
 | ref p=>
  cases (show a= .ref p from r)
  rcases h with ⟨e,xs,h⟩ | ⟨e,h⟩
  ·obtain⟨vs,h1,_⟩:=hg.lst h;exact .inl ⟨e,vs,.of h1⟩
  ·refine .inr (.inr (.inl ⟨e,?_⟩))
   rcases h with ⟨kvs,h⟩ | ⟨kvs,h⟩
   ·obtain⟨ws,h1,_⟩:=hg p _ h;exact .inl ⟨ws,h1⟩
   ·obtain⟨ws,h1,_⟩:=hg p _ h;exact .inr ⟨ws,h1⟩
 | non=>exact False.elim h
 | bl _=>exact False.elim h
 | ty _=>exact False.elim h
 | tup _=>exact False.elim h
 | scr _=>exact False.elim h
def tBM (T0:String) (r:T->List T->Gp->VK3->Prop) (to:TE3) (t:TA3):TE3:=fun τ G Q=>to τ G fun x G1=>tyT G1 T0 x/\t τ G1 fun xs G2=>r x xs G2 Q
theorem e_bm {T0 id:String} {r:T->List T->Gp->VK3->Prop} {o e:Expr} {name:Str} {apos cpos:Pos} {to:TE3} (pa:PlainAttrs T0) (slot:Slot T0 name id) (hty:typeOf (.builtin id)=pure (.type "method_descriptor")) (hm:Mt3 X id r) (ho:PE3 X o to) (ha:PA3 X (e::es) t)
  (hbase:attributeBase o name X.env (eval o X.env)=eval o X.env:=by rfl)
  (hfew:((backTo cpos (starEach (e::es) X.env)).all (fun x=> !x.1)&&(backToKw cpos (keywordEach [] X.env)).all (fun x=>x.1.isSome)
   &&decide ((e::es).length+([]:List Keyword).length+(if ([]:List Keyword).isEmpty then 0 else 1)<30))=true:=by rfl)
  (hline:(apos.endLine == cpos.line)=true:=by rfl) (hs:starEach (e::es) X.env=(false,eval e X.env)::starEach es X.env:=by rfl) (hplain:(backTo cpos (starEach es X.env)).any (·.1)=false:=by rfl):
  PE3 X (.Call (.Attribute o name apos) (e::es) [] cpos) (tBM T0 r to t):=by
 intro pins s τ G H Q I h
 refine wpAny_Call_method_late hbase hfew hline rfl (thn (ho pins s τ G H _ I h) fun v s1 w_=>w_.el fun x G1 H1 e1 I1 r1 ⟨ty,q1⟩=> ?_)
 obtain⟨σ,I0,hs0,hg0⟩:=_root_.id I1
 obtain⟨a0,ra0,rv0⟩:=_root_.id r1
 obtain⟨h1,h2⟩:=tyV_is I0 rv0 (tyT.of hg0 ra0 ty)
 refine⟨T0,id,pa,slot,hty,h1,h2,?_⟩
 have hA:=ha cpos pins s1 τ G1 H1 _ I1 q1
 rw[hs] at hA ⊢
 refine Calls.callWith_builtin (by show (false||(backTo cpos (starEach es X.env)).any (·.1))=false;rw[hplain]<;>rfl) (Calls.evalArgs_plain ?_)
 exact thn hA fun us s2 w_=>w_.el fun vs G2 H2 e2 I2 r2 q2=>thn (hm pins s2 τ G2 H2 x vs v us Q I2 (r1.mono e2) r2 q2) fun _ _ z=>(z.ext e2).ext e1
def jJ6:T->List T->Gp->VK3->Prop:=fun x xs G Q=>∃p ys y,x= .ref p/\xs=[y]/\G p=some (.lst ys)/\ys.length<sizeLine/\Q .non (gup G p (.lst (ys++[y])))
def qKh:T->T->T->Gp->(Gp->Prop)->Prop:=fun o i v G Q=>∃p xs k j,o= .ref p/\i= .int k/\G p=some (.lst xs)/\ixN xs.length k=some j/\Q (gup G p (.lst (xs.set j v)))
theorem s_list:Set3 X qKh:=
 Set3.of kJl fun H G o i v a b c Q hg ra rb rc ⟨p,xs,k,j,eo,ei,hp,hj,q⟩=>by
  subst eo;subst ei
  cases (show a= .ref p from ra);cases (show b= .int k from rb)
  obtain⟨vs,h1,h2⟩:=hg.lst hp
  exact⟨p,vs,k,j,rfl,rfl,h1,by rw[<-h2.length];exact hj,_,.upd (.lst h1),hg.lstNew (h2.set rc j) (.lst h1),q⟩
end
section
variable {X:Cx}
theorem o_cat:Op3 X (binaryOp .Add) rCat:=
 Op3.of op_cat fun H G x y a b Q hg ra rb ⟨p,q,xs,ys,ex,ey,hp,hq,hz,h⟩=>by
  subst ex;subst ey
  cases (show a= .ref p from ra);cases (show b= .ref q from rb)
  obtain⟨vs,h1,h2⟩:=hg.lst hp
  obtain⟨ws,h3,h4⟩:=hg.lst hq
  exact⟨p,q,vs,ws,rfl,rfl,h1,h3,by rw[<-h2.length,<-h4.length];exact hz,fun l hl=>⟨.ref l,_,.upd (.none hl),hg.lstNew (h2.append h4) (.none hl),rfl,h l (hg.fresh hl)⟩⟩
theorem o_rep:Op3 X (binaryOp .Mult) rRep:=
 Op3.of op_rep fun H G x y a b Q hg ra rb ⟨p,xs,n,ex,ey,hp,hz,h1,h2,h⟩=>by
  subst ex;subst ey
  cases (show a= .ref p from ra);cases (show b= .int n from rb)
  obtain⟨vs,h3,h4⟩:=hg.lst hp
  refine⟨p,n,vs,rfl,rfl,h3,by omega,by omega,by rw[<-h4.length,Nat.mul_comm];exact hz,fun l hl=>⟨.ref l,_,.upd (.none hl),hg.lstNew (h4.rep _) (.none hl),rfl,h l (hg.fresh hl)⟩⟩
theorem jKd:Mt3 X "list.append" jJ6:=
 Mt3.of kZg fun H G x xs a as Q hg ra ras ⟨p,ys,y,ex,exs,hp,hz,q⟩=>by
  subst ex;subst exs
  cases (show a= .ref p from ra)
  obtain⟨v,rfl,rv⟩:=jVx ras
  obtain⟨vs,h1,h2⟩:=hg.lst hp
  exact⟨p,vs,v,rfl,rfl,h1,by rw[<-h2.length];exact hz,.non,_,.upd (.lst h1),hg.lstNew (h2.append (.one rv)) (.lst h1),rfl,q⟩
end
def jKe:TS3:=fun D τ G=>D.nx τ G
def tSeq (t u:TS3):TS3:=fun D τ G=>t {D with nx:=u D} τ G
def jK7 (te:TE3):TS3:=fun D τ G=>te τ G fun _ G1=>D.nx τ G1
def tRet (te:TE3):TS3:=fun D τ G=>te τ G D.rt
def tRetN:TS3:=fun D _ G=>D.rt .non G
def tIfS (c:TT3) (t u:TS3):TS3:=fun D τ G=>c τ G fun b G1=>if b=true then t D τ G1 else u D τ G1
def qJ1:TS3:=fun D τ G=>D.ct τ G
section
variable {X:Cx} {st:Stmt} {rest:List Stmt} {t u:TS3} {e:Expr} {te:TE3} {pos:Pos}
theorem jKc:PSs3 X [] jKe:=fun _ _ τ G H _ I h=>wpAny_execs_nil ⟨τ,G,H,.refl H,I,h⟩
theorem jJd (h1:PS3 X st t) (h2:PSs3 X rest u):PSs3 X (st::rest) (tSeq t u):=by
 intro pins s τ G H D I h
 refine wpAny_execs_cons (thn (h1 pins s τ G H {D with nx:=u D} I h) fun f s1 q=> ?_)
 cases f with
 | next=>
  obtain⟨τ',G',H',e',I',q⟩:=q
  exact thn (h2 pins s1 τ' G' H' D I' q) fun _ _ z=>z.ext e'
 | ret v=>exact q
 | brk=>exact q
 | cont=>exact q
theorem jJk (h1:PS3 X st t):PSs3 X [st] t:=by
 intro pins s τ G H D I h
 refine wpAny_execs_cons (thn (h1 pins s τ G H D I h) fun f s1 q=> ?_)
 cases f with
 | next=>exact wpAny_execs_nil q
 | ret v=>exact q
 | brk=>exact q
 | cont=>exact q
theorem s_cont:PS3 X (.Continue pos) qJ1:=fun _ _ τ G H _ I h=>wpAny_Continue ⟨τ,G,H,.refl H,I,h⟩
theorem jQk (he:PE3 X e te) (hs:swapsWith e none pos.line X.env=pure false:=by rfl):PS3 X (.Expr e pos) (jK7 te):=by
 intro pins s τ G H D I h
 obtain⟨σ,I0,hs0,hg0⟩:=id I
 exact wpAny_Expr_any (thn (he pins s τ G H _ I h) fun v s1 w_=>w_.el fun x G1 H1 e1 I1 r1 q1=>⟨τ,G1,H1,e1,I1,q1⟩) I0.quiet hs
theorem jKb (he:PE3 X e te):PS3 X (.Return (some e) pos) (tRet te):=by
 intro pins s τ G H D I h
 exact wpAny_Return_some (thn (he pins s τ G H _ I h) fun v s1 w_=>w_.el fun x G1 H1 e1 I1 r1 q1=>⟨x,τ,G1,H1,e1,I1,r1,q1⟩)
theorem s_if {c:Expr} {a b:List Stmt} {tc:TT3} (hc:PT3 X c tc) (ha:PSs3 X a t) (hb:PSs3 X b u):PS3 X (.If c a b pos) (tIfS tc t u):=by
 intro pins s τ G H D I h
 refine wpAny_If (thn (hc pins s τ G H _ I h) fun d s1 w_=>w_.el fun G1 H1 e1 I1 q1=> ?_)
 cases d with
 | true=>exact thn (ha pins s1 τ G1 H1 D I1 q1) fun _ _ z=>z.ext e1
 | false=>exact thn (hb pins s1 τ G1 H1 D I1 q1) fun _ _ z=>z.ext e1
end
abbrev TG3:=T->St3->Gp->(St3->Gp->Prop)->Prop
abbrev TGs3:=List T->St3->Gp->(St3->Gp->Prop)->Prop
def GP3 (X:Cx) (pins:List (Addr×Obj)) (H:Hp) (Q:St3->Gp->Prop) (s':Shared):Prop:=∃ τ' G' H',Ext H H'/\Inv3 X pins τ' G' H' s'/\Q τ' G'
def PG3 (X:Cx) (target:Expr) (t:TG3):Prop:=
 ∀(pins:List (Addr×Obj)) (s:Shared) (τ:St3) (G:Gp) (H:Hp) (v:T) (u:Value) (Q:St3->Gp->Prop),Inv3 X pins τ G H s->RU X.K H v u->t v τ G Q->
  wpAny (model X.prog X.w) X.A (assign target X.env u) (fun _ s'=>GP3 X pins H Q s') X.xe s
def PGs3 (X:Cx) (ts:List Expr) (t:TGs3):Prop:=
 ∀(pins:List (Addr×Obj)) (s:Shared) (τ:St3) (G:Gp) (H:Hp) (vs:List T) (us:List Value) (Q:St3->Gp->Prop),Inv3 X pins τ G H s->RUs X.K H vs us->t vs τ G Q->
  wpAny (model X.prog X.w) X.A (assignInOrder ((assignEach ts X.env).map (·.2)) us) (fun _ s'=>GP3 X pins H Q s') X.xe s
def jJe (i:Nat):TG3:=fun v τ G Q=>Q (τ.set i (some v)) G
def gNil:TGs3:=fun vs τ G Q=>vs=[]/\Q τ G
def jJu (t:TG3) (u:TGs3):TGs3:=fun vs τ G Q=>∃v r,vs=v::r/\t v τ G fun τ' G'=>u r τ' G' Q
def gTup (n:Nat) (t:TGs3):TG3:=fun v τ G Q=>∃xs,v= .tup xs/\xs.length=n/\t xs τ G Q
def gSub (to ti:TE3) (t:T->T->T->Gp->(Gp->Prop)->Prop):TG3:=fun v τ G Q=>to τ G fun o G1=>ti τ G1 fun i G2=>t o i v G2 fun G3=>Q τ G3
def tAsg (te:TE3) (g:TG3):TS3:=fun D τ G=>te τ G fun x G1=>g x τ G1 D.nx
section
variable {X:Cx} {pos:Pos}
theorem jJm {i:Nat} {x:Str} (hN:X.N.Nodup) (hi:X.N[i]? =some x:=by rfl) (hx:Loc X.env.scope x:=by first | exact Or.inl rfl | exact Or.inr rfl) (hf:X.fn x=true\/X.env.scope.names.lookup x=some .local:=by first | exact .inl rfl | exact .inr rfl):PG3 X (.Name x pos) (jJe i):=by
 rintro pins s τ G H v u Q ⟨σ,I,hs,hg⟩ ⟨a,ra,rv⟩ h
 exact wpAny_assign_Name (jVu I hN hi hx rv (fun s' I'=>⟨_,G,H,.refl H,⟨_,I',hs.set i ra,hg⟩,h⟩) hf)
theorem jKx:PGs3 X [] gNil:=by
 rintro pins s τ G H vs us Q I ⟨as,r,rv⟩ ⟨e,h⟩
 subst e
 cases (show as=[] from r)
 cases rv
 exact assignInOrder_nil ⟨τ,G,H,.refl H,I,h⟩
theorem jJt {e:Expr} {es:List Expr} {t:TG3} {u:TGs3} (h1:PG3 X e t) (h2:PGs3 X es u)
  (hs:(assignEach (e::es) X.env).map (·.2)=assign e X.env::(assignEach es X.env).map (·.2):=by rfl):PGs3 X (e::es) (jJu t u):=by
 rintro pins s τ G H vs us Q I ⟨as,r,rv⟩ ⟨v,vr,e1,h⟩
 subst e1
 obtain⟨a,ar,rfl,ra,rar⟩:=r
 cases rv with
 | cons q qq=>
  rw[hs]
  refine assignInOrder_cons (thn (h1 pins s τ G H v _ _ I ⟨a,ra,q⟩ h) fun _ s1 ⟨τ1,G1,H1,e1,I1,q1⟩=> ?_)
  exact thn (h2 pins s1 τ1 G1 H1 vr _ Q I1 ⟨ar,Reps.mono e1 _ rar,qq⟩ q1) fun _ s2 ⟨τ2,G2,H2,e2,z⟩=>⟨τ2,G2,H2,e1.trans e2,z⟩
theorem jUp {es:List Expr} {k:Nat} {t:TGs3} {n:Nat} (hc:X.calm=true) (h:PGs3 X es t)
  (hn:(assignEach es X.env).length=n:=by rfl) (hst:(assignEach es X.env).findIdx? (·.1)=none:=by rfl):PG3 X (.Tuple es k pos) (gTup n t):=by
 rintro pins s τ G H v u Q ⟨σ,I,hs,hg⟩ ⟨a,ra,rv⟩ ⟨xs,ev,hl,hw⟩
 subst ev
 obtain⟨p,vs,e1,h1,r1⟩:=(show ∃p vs,a= .ref p/\H p=some (.tup vs)/\Reps X.K H xs vs from ra)
 subst e1
 cases rv
 obtain⟨its,rv,ht,hz⟩:=I.tuple (.of h1)
 refine assign_Tuple_tuple (I.ok.hd hc) ht (by simp[hn,<-hl,r1.length,rv.length]) hst fun h' hx=> ?_
 have I1:Inv X pins σ H {s with heap:=h'}:=I.kept (t':=s.toks) fun b o e=>hx b o (lJr (lJj e)) e
 exact h pins _ τ G H xs _ Q ⟨σ,I1,hs,hg⟩ ⟨vs,r1,by simpa using rv⟩ hw
theorem kKc {o i:Expr} {to ti:TE3} {t:T->T->T->Gp->(Gp->Prop)->Prop} (ho:PE3 X o to) (hi:PE3 X i ti) (hs:Set3 X t)
  (ha:∀v,assign (.Subscript o i pos) X.env v=(do
   let ov <-holding [v] (eval o X.env)
   let iv <-holding [v,ov] (eval i X.env)
   standAt pos
   holding [v,ov,iv] (setItem ov iv v)
   release [v,ov,iv] []):=by intro _;rfl):PG3 X (.Subscript o i pos) (gSub to ti t):=by
 intro pins s τ G H v u Q I r h
 rw[ha]
 refine lJa (lK8 (thn (ho pins s τ G H _ I h) fun ov s1 w_=>w_.el fun x G1 H1 e1 I1 r1 q1=> ?_))
 refine lJa (lK8 (thn (hi pins s1 τ G1 H1 _ I1 q1) fun iv s2 w_=>w_.el fun y G2 H2 e2 I2 r2 q2=> ?_))
 refine lJa (wpAny_standAt (lJa (lK8 (thn (hs pins s2 τ G2 H2 x y v ov iv u _ I2 (r1.mono e2) r2 (r.mono (e1.trans e2)) q2) fun _ s3 ⟨G3,H3,e3,I3,q3⟩=> ?_))))
 exact wpAny_release ⟨τ,G3,H3,(e1.trans e2).trans e3,I3,q3⟩
theorem jXz {tg e:Expr} {te:TE3} {g:TG3} (he:PE3 X e te) (hg:PG3 X tg g) (hs:swapsWithSole [tg] e pos.line X.env=pure false:=by rfl) (hw:swappedStores [tg] e X.env=pure none:=by rfl)
  (h1:(assignEach [tg] X.env).map (·.2)=[assign tg X.env]:=by rfl):PS3 X (.Assign [tg] e pos) (tAsg te g):=by
 intro pins s τ G H D I h
 refine wpAny_Assign_stores (thn (he pins s τ G H _ I h) fun v s1 w_=>w_.el fun x G1 H1 e1 I1 r1 q1=> ?_) hs hw
 rw[h1]
 exact thn (hg pins s1 τ G1 H1 x v _ I1 r1 q1) fun _ s2 ⟨τ2,G2,H2,e2,q⟩=>⟨τ2,G2,H2,e1.trans e2,q⟩
theorem jJy {i:Nat} {x:Str} {e:Expr} {te:TE3} {pos':Pos} (hN:X.N.Nodup) (he:PE3 X e te) (hi:X.N[i]? =some x:=by rfl) (hx:Loc X.env.scope x:=by first | exact Or.inl rfl | exact Or.inr rfl)
  (hs:swapsWith e (some (.Name x pos')) pos.line X.env=pure false:=by rfl) (hf:X.fn x=true\/X.env.scope.names.lookup x=some .local:=by first | exact .inl rfl | exact .inr rfl):
  PS3 X (.Assign [.Name x pos'] e pos) (tAsg te (jJe i)):=by
 intro pins s τ G H D I h
 refine wpAny_Assign_Name (thn (he pins s τ G H _ I h) fun v s1 w_=>w_.el fun y G1 H1 e1 i_ r_ q1=>i_.el fun σ I1 hs1 hg1=>r_.el fun a ra rv=> ?_) hs
 exact jVu I1 hN hi hx rv (fun s2 I2=>⟨_,G1,H1,e1,⟨_,I2,hs1.set i ra,hg1⟩,q1⟩) hf
def tPar (i j:Nat) (ta:TA3):TS3:=fun D τ G=>ta τ G fun vs G1=>∃v w,vs=[v,w]/\D.nx ((τ.set i (some v)).set j (some w)) G1
theorem s_par {i j:Nat} {x y:Str} {a b:Expr} {ta:TA3} {px py pt:Pos} {kt k2 pt2} (hc:X.calm=true) (hN:X.N.Nodup) (hij:i≠j) (ha:PA3 X [a,b] ta) (hi:X.N[i]? =some x:=by rfl) (hj:X.N[j]? =some y:=by rfl)
  (hx:X.env.scope.names.lookup x=some .local:=by rfl) (hy:X.env.scope.names.lookup y=some .local:=by rfl)
  (hw:swappedStores [.Tuple [.Name x px,.Name y py] kt pt] (.Tuple [a,b] k2 pt2) X.env=pure (some [x,y]):=by rfl)
  (hs:swapsWithSole [.Tuple [.Name x px,.Name y py] kt pt] (.Tuple [a,b] k2 pt2) pos.line X.env=pure false:=by rfl):
  PS3 X (.Assign [.Tuple [.Name x px,.Name y py] kt pt] (.Tuple [a,b] k2 pt2) pos) (tPar i j ta):=by
 intro pins s τ G H D I h
 rw[exec_Assign_arm]
 refine lJa (wpAny_standAt ?_)
 rw[hs]
 refine lJa (lJd ?_)
 rw[lJb (by decide)]
 refine lJa (Tuple_ (thn (ha _ pins s τ G H _ I h) fun us s1 w_=>w_.el fun vs G1 H1 e1 i_ r_ q1=>i_.el fun σ I1 hs1 hg1=>r_.el fun as ras rvs=> ?_))
 obtain⟨v,w,ev,q1⟩:=q1
 subst ev
 obtain⟨a1,a2,rfl,ra1,ra2⟩:=kV2 ras
 obtain⟨u1,u2,rfl,rv,rw'⟩:=rvs.two
 refine lK9 ?_ (by show 2<=sizeLine;decide)
 have I2:Inv X pins σ H1 {s1 with heap:=s1.heap.push {cls:= .type "tuple",data:= .seq [u1,u2].toArray} }:=I1.kept (t':=s1.toks) fun b o e=>lJm _ e
 rw[hw]
 refine lJa (lJd ?_)
 show wpAny (model X.prog X.w) X.A (do rule "assign.swapped-stores"; let items <-unpackItems (.ref s1.heap.objs.size) 2 none;assignInOrder [fun v=>bindName X.env y v,fun v=>bindName X.env x v] items.reverse;pure Flow.next) _ _ _
 refine lJa (lQe (lJa (unpackItems_tuple (items:= #[u1,u2]) (I1.ok.hd hc) (IsTup.new s1.heap _) fun h' hx'=> ?_)))
 have I3:=I2.kept (h':=h') (t':=s1.toks) fun b o e=>hx' b o (lJr (lJj e)) e
 show wpAny _ _ (assignInOrder [fun v=>bindName X.env y v,fun v=>bindName X.env x v] [u2,u1] >>= fun _=>pure Flow.next) _ _ _
 refine lJa (assignInOrder_cons (wpAny_bindName (jVu I3 hN hj (.inl hy) rw' (fun s2 I4=> ?_) (.inr hy))))
 refine assignInOrder_cons (wpAny_bindName (jVu I4 hN hi (.inl hx) rv (fun s3 I5=>assignInOrder_nil (lJd ?_)) (.inr hx)))
 rw[List.set_comm _ _ (Ne.symm hij)] at I5
 exact⟨_,G1,H1,e1,⟨_,I5,(hs1.set i ra1).set j ra2,hg1⟩,q1⟩
noncomputable def jXs (c:TT3) (tb:TS3):TS3:=fun D τ G=>∃W:Nat->St3->Gp->Prop,(∃m,W m τ G)/\∀m τ G,W m τ G->
 c τ G fun b G1=>if b=true then ∃N:St3->Gp->Prop,(∀ τ' G',N τ' G'->∃m',m'<m/\W m' τ' G')/\tb {D with nx:=N,ct:=N,bk:=D.nx} τ G1 else D.nx τ G1
theorem kYb {c:Expr} {body:List Stmt} {tc:TT3} {tb:TS3} (hp:PassesOwn (model X.prog X.w) X.A X.env X.xe) (hc:PT3 X c tc) (hb:PSs3 X body tb):PS3 X (.While c body [] pos) (jXs tc tb):=by
 intro pins s τ G H D I h
 obtain⟨W,⟨m0,w0⟩,turn⟩:=h
 refine wpAny_While (codeAny_whileLoop (fun n s'=>∃ τ' G' H',Ext H H'/\Inv3 X pins τ' G' H' s'/\W n τ' G') ?_ m0 ⟨τ,G,H,.refl H,I,w0⟩)
 rintro n s1 ⟨τ1,G1,H1,e1,I1,w1⟩
 refine lV4 hp (thn (hc pins s1 τ1 G1 H1 _ I1 (turn n τ1 G1 w1)) fun b s2 w_=>w_.el fun G2 H2 e2 I2 q2=> ?_)
 cases b with
 | true=>
  obtain⟨N,hN,q2⟩:=q2
  rw[lJc rfl]
  refine lV4 hp (thn (hb pins s2 τ1 G2 H2 _ I2 q2) fun f s3 q3=> ?_)
  cases f with
  | next=>
   obtain⟨τ3,G3,H3,e3,I3,n3⟩:=q3
   obtain⟨m',hm,w3⟩:=hN τ3 G3 n3
   exact⟨m',hm,τ3,G3,H3,(e1.trans e2).trans e3,I3,w3⟩
  | cont=>
   obtain⟨τ3,G3,H3,e3,I3,n3⟩:=q3
   obtain⟨m',hm,w3⟩:=hN τ3 G3 n3
   exact⟨m',hm,τ3,G3,H3,(e1.trans e2).trans e3,I3,w3⟩
  | brk=>exact SP3.ext (f:= .next) (e1.trans e2) q3
  | ret v=>exact SP3.ext (f:= .ret v) (e1.trans e2) q3
 | false=>
  rw[lJb lJp]
  exact wpAny_execs_nil ⟨τ1,G2,H2,e1.trans e2,I2,q2⟩
end
def Items (K:PySem.W.Frag) (H0:Hp) (J:It) (xs:List T) (stay:Gp->Prop):Prop:=
 ∀i H G,Ext H0 H->GRel K H G->stay G->(i<xs.length->J.go i H)/\(xs.length<=i->J.stop i H)/\(i<xs.length->∀x H',J.yld i H x H'->Ext H H'/\GRel K H' G/\∃t,xs[i]? =some t/\Rep K H' t x)
abbrev TI3:=St3->Gp->(List T->(Gp->Prop)->Gp->Prop)->Prop
def PIE3 (X:Cx) (pins:List (Addr×Obj)) (τ:St3) (H:Hp) (tg:Expr) (R:List T->(Gp->Prop)->Gp->Prop) (itv:Value) (s2:Shared):Prop:=
 ∃(it:Addr) (fp:List Addr) (tn:Nat->Heap->Prop) (J:It) (xs:List T) (stay:Gp->Prop) (G':Gp) (H':Hp),itv= .ref it/\Ext H H'/\Inv3 X pins τ G' H' s2/\Turn X.prog X.w X.K tg J fp it tn/\tn 0 s2.heap/\(∀b∈fp,FpOk X pins H' b)/\
  Items X.K H' J xs stay/\R xs stay G'
def PI3 (X:Cx) (tg iter:Expr) (wi:TI3):Prop:=
 ∀(pins:List (Addr×Obj)) (s:Shared) (τ:St3) (G:Gp) (H:Hp) (R:List T->(Gp->Prop)->Gp->Prop),Inv3 X pins τ G H s->wi τ G R->
  wpAny (model X.prog X.w) X.A (eval iter X.env) (fun v s1=>wpAny (model X.prog X.w) X.A (pyIter v) (PIE3 X pins τ H tg R) X.xe s1) X.xe s
noncomputable def tFor (wi:TI3) (g:TG3) (tb:TS3):TS3:=fun D τ G=>wi τ G fun xs stay G1=>∃P:Nat->St3->Gp->Prop,P 0 τ G1/\(∀i τ G,i<=xs.length->P i τ G->stay G)/\
 (∀i x τ G,xs[i]? =some x->P i τ G->g x τ G fun τ2 G2=>tb {D with nx:=P (i+1),ct:=P (i+1),bk:=D.nx} τ2 G2)/\∀ τ G,P xs.length τ G->D.nx τ G
section
variable {X:Cx} {tg:Expr} {pos:Pos}
theorem jQj {iter:Expr} {body:List Stmt} {wi:TI3} {g:TG3} {tb:TS3} (hp:PassesOwn (model X.prog X.w) X.A X.env X.xe) (hc:X.calm=true) (hi:PI3 X tg iter wi) (hg:PG3 X tg g) (hb:PSs3 X body tb)
  (hs:∀x,foldedSetIterable iter X.env x=pure x:=by intro _;rfl):PS3 X (.For tg iter body [] pos) (tFor wi g tb):=by
 intro pins s τ G H D I h
 refine wpAny_For (thn (hi pins s τ G H _ I h) fun v s1 h1=>thn h1 fun itv s2 h2=> ?_) hs
 obtain⟨it,fp,tn,J,xs,stay,G2,H2,e,eH,I2,T0,st2,f2,IT,P,p0,hstay,turn,fin⟩:=h2
 subst e
 have stat:∀ {H':Hp},(∀b∈fp,H' b=none)->∀b∈fp,FpOk X pins H' b:=fun hn b hb=>⟨hn b hb,(f2 b hb).2⟩
 refine codeAny_forLoop_any (fun n s'=>∃i τ' G' H',n=xs.length-i/\i<=xs.length/\Ext H2 H'/\Inv3 X pins τ' G' H' s'/\tn i s'.heap/\(∀b∈fp,H' b=none)/\P i τ' G') ?_ xs.length ⟨0,τ,G2,H2,rfl,lJu _,.refl _,I2,st2,fun b hb=>(f2 b hb).1,p0⟩
 rintro n s3 ⟨i,τ3,G3,H3,en,hi3,e3,⟨σ3,I3,hs3,hg3⟩,st3,fr3,p3⟩
 obtain⟨go,stop,yl⟩:=IT i H3 G3 e3 hg3 (hstay i τ3 G3 hi3 p3)
 by_cases hlt:i<xs.length
 ·refine lV4 hp (thn (T0.item X rfl rfl rfl hc i pins s3 σ3 H3 X.xe I3 (stat fr3) st3 (go hlt)) fun r s4 ⟨u,hr,h4⟩=> ?_)
  subst hr
  refine lV4 hp (thn h4 fun _ s5 ⟨x,H5,I5,r5,y5,st5,fr5⟩=> ?_)
  obtain⟨e5,g5,t,ht,rt⟩:=yl hlt x H5 y5
  have I5':=I5.pinned (stat fr5) (T0.obj _ _ st5)
  refine lV4 hp (thn (hg _ s5 τ3 G3 H5 t u _ ⟨σ3,I5',hs3.mono e5,g5⟩ ⟨x,rt,r5⟩ (turn i t τ3 G3 ht p3)) fun _ s6 ⟨τ6,G6,H6,e6,I6,q6⟩=> ?_)
  refine lV4 hp (thn (hb _ s6 τ6 G6 H6 _ I6 q6) fun f s7 q7=> ?_)
  have e36:Ext H2 H6:=(e3.trans e5).trans e6
  have again:∀ {τ7:St3} {G7:Gp} {H7:Hp},Ext H6 H7->Inv3 X (pins++jQm fp s5.heap) τ7 G7 H7 s7->P (i+1) τ7 G7->
    ∃m,m<n/\∃i τ' G' H',m=xs.length-i/\i<=xs.length/\Ext H2 H'/\Inv3 X pins τ' G' H' s7/\tn i s7.heap/\(∀b∈fp,H' b=none)/\P i τ' G':=fun {τ7 G7 H7} e7 ⟨σ7,I7,hs7,hg7⟩ p7=>by
   refine⟨xs.length-(i+1),by omega,i+1,τ7,G7,H7,rfl,hlt,e36.trans e7,⟨σ7,I7.unpinned,hs7,hg7⟩,T0.keep _ _ _ st5 fun b hb o e=>(I7.pin (b,o) (lJ0 _ (lJ0 _ (jQg hb e)))).1,fun b hb=> ?_,p7⟩
   obtain⟨o,e,d⟩:=T0.obj _ _ st5 b hb
   exact (I7.pin (b,o) (lJ0 _ (lJ0 _ (jQg hb e)))).2.1
  have un:∀ {τ7:St3} {G7:Gp} {H7:Hp},Inv3 X (pins++jQm fp s5.heap) τ7 G7 H7 s7->Inv3 X pins τ7 G7 H7 s7:=fun ⟨σ7,I7,a,b⟩=>⟨σ7,I7.unpinned,a,b⟩
  cases f with
  | next=>obtain⟨τ7,G7,H7,e7,I7,n7⟩:=q7;exact again e7 I7 n7
  | cont=>obtain⟨τ7,G7,H7,e7,I7,n7⟩:=q7;exact again e7 I7 n7
  | brk=>obtain⟨τ7,G7,H7,e7,I7,q7⟩:=q7;exact⟨τ7,G7,H7,(eH.trans e36).trans e7,un I7,q7⟩
  | ret v=>obtain⟨x7,τ7,G7,H7,e7,I7,r7,q7⟩:=q7;exact⟨x7,τ7,G7,H7,(eH.trans e36).trans e7,un I7,r7,q7⟩
 ·have ei:i=xs.length:=by omega
  refine lV4 hp (thn (T0.done X rfl rfl rfl hc i pins s3 σ3 H3 X.xe I3 (stat fr3) st3 (stop (by omega))) fun r s4 ⟨hr,I4⟩=> ?_)
  subst hr;subst ei
  exact wpAny_execs_nil ⟨τ3,G3,H3,eH.trans e3,⟨σ3,I4,hs3,hg3⟩,fin τ3 G3 p3⟩
def iSeq (tl:TE3):TI3:=fun τ G R=>tl τ G fun x G1=>∃xs,seqT G1 x=some xs/\R xs (fun G'=>seqT G' x=some xs) G1
theorem jQ7 {l:Expr} {tl:TE3} (hl:PE3 X l tl):PI3 X tg l (iSeq tl):=by
 intro pins s τ G H R I h
 refine thn (hl pins s τ G H _ I h) fun v s1 w_=>w_.el fun x G1 H1 e1 i_ r_ ⟨xs,hx,q⟩=>i_.el fun σ I1 hs1 hg1=>r_.el fun a ra rv=> ?_
 obtain⟨p,vs,e,hq,r⟩:=jUv hg1 ra hx
 subst e
 cases rv
 have fpk:∀b∈[s1.heap.objs.size],FpOk X pins H1 b:=fun b hb=>by
  have e:b=s1.heap.objs.size:=by simpa using hb
  subst e
  exact I1.fpOk (lJg _) (I1.hok.fresh (lJg _))
 rcases hq with hq | hq
 ·obtain⟨its,rv,pl,hz⟩:=I1.list hq
  refine wpAny_pyIter_list pl.isList ?_
  refine⟨s1.heap.objs.size,[s1.heap.objs.size],_,_,xs,fun G'=>seqT G' x=some xs,G1,H1,rfl,e1,⟨σ,I1.kept (t':=s1.toks) fun b o e=>lJm _ e,hs1,hg1⟩,kXv p _,⟨_,lJ6 _ rfl,rfl,rfl⟩,fpk,?_,q⟩
  intro i H2 G2 e2 g2 st
  have ra2:=Rep.mono e2 _ ra
  have now:∃ws,SqL X.K H2 p ws/\Reps X.K H2 xs ws:=by
   cases x with
   | scr ys=>cases hx;obtain⟨p',ws,ep,h1,h2⟩:=(show ∃p' ws,V.ref p= .ref p'/\FrL X.K H2 p' ws/\Reps X.K H2 xs ws from ra2);cases ep;exact⟨ws,h1.sq,h2⟩
   | ref p'=>cases (show V.ref p= .ref p' from ra);obtain⟨ws,h1,h2⟩:=g2.lst (jVc st);exact⟨ws,.of h1,h2⟩
   | tup ys=>
    obtain⟨p',ws,ep,h1,h2⟩:=(show ∃p' ws,V.ref p= .ref p'/\H1 p'=some (.tup ws)/\Reps X.K H1 ys ws from ra)
    cases ep
    exfalso
    obtain⟨its',_,pl',_⟩:=I1.tuple (.of h1)
    obtain⟨o,n,ho,hc,_⟩:=pl
    obtain⟨o',ho',hc',_⟩:=pl'
    rw[ho] at ho';cases ho'
    rw[hc] at hc';exact absurd hc' (by decide)
   | non=>cases hx
   | bl _=>cases hx
   | int _=>cases hx
   | str _=>cases hx
   | ty _=>cases hx
  obtain⟨ws,h1,h2⟩:=now
  have hlen:=h2.length
  refine⟨fun hi=> ?_,fun hi=>⟨ws,h1,by omega⟩,fun _ y H' ⟨eH,hy⟩=> ?_⟩
  ·exact⟨ws,ws[i]'(by omega),h1,by simp[hlen▸hi]⟩
  ·subst eH
   obtain⟨t,ht,rt⟩:=h2.get' (hy ws h1)
   exact⟨.refl _,g2,t,ht,rt⟩
 ·obtain⟨its,rv,pl,hz⟩:=I1.tuple hq
  refine lX6 (show s1.heap.IsTuple p its.toArray from pl) ?_
  refine⟨s1.heap.objs.size,[s1.heap.objs.size],_,_,xs,fun G'=>seqT G' x=some xs,G1,H1,rfl,e1,⟨σ,I1.kept (t':=s1.toks) fun b o e=>lJm _ e,hs1,hg1⟩,kVu p _,⟨_,lJ6 _ rfl,rfl,rfl⟩,fpk,?_,q⟩
  intro i H2 G2 e2 g2 st
  have ra2:=Rep.mono e2 _ ra
  have now:∃ws,H2 p=some (.tup ws)/\Reps X.K H2 xs ws:=by
   cases x with
   | tup ys=>cases hx;obtain⟨p',ws,ep,h1,h2⟩:=(show ∃p' ws,V.ref p= .ref p'/\H2 p'=some (.tup ws)/\Reps X.K H2 xs ws from ra2);cases ep;exact⟨ws,h1,h2⟩
   | scr ys=>
    obtain⟨p',ws,ep,h1,h2⟩:=(show ∃p' ws,V.ref p= .ref p'/\FrL X.K H1 p' ws/\Reps X.K H1 ys ws from ra)
    cases ep
    exfalso
    obtain⟨its',_,pl',_⟩:=I1.list h1.sq
    obtain⟨o,n,ho,hc,_⟩:=pl'
    obtain⟨o',ho',hc',_⟩:=pl
    rw[ho] at ho';cases ho'
    rw[hc] at hc';exact absurd hc' (by decide)
   | ref p'=>
    cases (show V.ref p= .ref p' from ra)
    obtain⟨ws,h1,h2⟩:=hg1.lst (jVc hx)
    exfalso
    obtain⟨its',_,pl',_⟩:=I1.list (.of h1)
    obtain⟨o,n,ho,hc,_⟩:=pl'
    obtain⟨o',ho',hc',_⟩:=pl
    rw[ho] at ho';cases ho'
    rw[hc] at hc';exact absurd hc' (by decide)
   | non=>cases hx
   | bl _=>cases hx
   | int _=>cases hx
   | str _=>cases hx
   | ty _=>cases hx
  obtain⟨ws,h1,h2⟩:=now
  have hlen:=h2.length
  refine⟨fun hi=> ?_,fun hi=>⟨ws,.of h1,by omega⟩,fun _ y H' ⟨eH,hy⟩=> ?_⟩
  ·exact⟨ws,ws[i]'(by omega),.of h1,by simp[hlen▸hi]⟩
  ·subst eH
   obtain⟨t,ht,rt⟩:=h2.get' (hy ws (.of h1))
   exact⟨.refl _,g2,t,ht,rt⟩
def rngT (lo:Int) (n:Nat):List T:=(List.range n).map fun (k:Nat)=>T.int (lo+k)
def jKj (ta:TA3):TI3:=fun τ G R=>ta τ G fun vs G1=>∃j:Int,vs=[.int j]/\ -(2^62)<=j/\j<2^62/\R (rngT 0 j.toNat) (fun _=>True) G1
theorem kZo {K:PySem.W.Frag} {H:Hp} (lo:Int) (n:Nat):Items K H (Itr lo n) (rngT lo n) fun _=>True:=by
 intro i H' G e g _
 have hl:(rngT lo n).length=n:=by simp[rngT]
 refine⟨fun h=>by rw[hl] at h;exact h,fun h=>by rw[hl] at h;exact h,fun hi x H2 ⟨eH,ex⟩=> ?_⟩
 rw[hl] at hi
 subst eH;subst ex
 exact⟨.refl _,g,.int (lo+i),by simp[rngT,hi],rfl⟩
theorem jKt {a:Expr} {ta:TA3} {p:Pos} (hg:Gl X "range") (hm:X.mg "range"=none) (ha:PA3 X [a] ta) (hs:starEach [a] X.env=[(false,eval a X.env)]:=by rfl):PI3 X tg (.Call (.Name "range" p) [a] [] pos) (jKj ta):=by
 intro pins s τ G H R I h
 obtain⟨σ,I0,hs0,hg0⟩:=id I
 refine Call_ (jUz I0 hg hm boot_range (lVe (thn (ha pos pins s τ G H _ I h) fun us s1 w_=>w_.el fun xs G1 H1 e1 i_ r_ q1=>i_.el fun σ I1 hs1 hg1=>r_.el fun as ras rvs=> ?_) hs rfl))
 obtain⟨j,e,q1,q2,q⟩:=q1
 subst e
 obtain⟨v,rfl,rv⟩:=jVx ras
 cases (show v= .int j from rv)
 obtain⟨u,rfl,ru⟩:=rvs.one
 obtain⟨t,rfl⟩:=ru
 refine call_range_1 (thn (qKg (tg:=tg) (R:=fun J H'=>J=Itr 0 j.toNat/\H'=H1) I1 (by omega) (by omega) q1 q2 ⟨by simp,rfl⟩) fun itv s2 z=> ?_)
 obtain⟨it,fp,tn,J,H',ei,I2,T0,st,fk,eJ,eH⟩:=z
 subst eJ;subst eH
 exact⟨it,fp,tn,_,rngT 0 j.toNat,fun _=>True,G1,H',ei,e1,⟨σ,I2,hs1,hg1⟩,T0,st,fk,kZo 0 j.toNat,q⟩
end
abbrev Sp3:=List T->Gp->VK3->Prop
def dn (K:PySem.W.Frag) (n:Nat) (sp:Sp3):Sp:=fun vs H Q _=>vs.length=n/\∃xs G,Reps K H xs vs/\GRel K H G/\sp xs G fun t G'=>∀v H',Ext H H'->GRel K H' G'->Rep K H' t v->Q v H'
def Fn3 (P:Program) (w:World) (K:PySem.W.Frag) (mg:Str->Option Value) (base:Heap) (k:Nat) (f:Addr) (fd:FuncData) (ps:List Str) (sp:Sp3):Prop:=FnOk P w K mg base CX0 k f fd ps (dn K ps.length sp)
def jJ0 (sp:Sp3) (t:TA3):TE3:=fun τ G Q=>t τ G fun xs G1=>sp xs G1 Q
def Mono (sp:Sp3):Prop:=∀xs G Q Q',(∀t G',Q t G'->Q' t G')->sp xs G Q->sp xs G Q'
def jUm (N:List Str) (xs:List T):St3:=xs.map some++List.replicate (N.length-xs.length) none
theorem kX4 {K:PySem.W.Frag} {H:Hp} {N:List Str} {xs:List T} {vs:List V} (r:Reps K H xs vs):SRel K H (start N vs) (jUm N xs):=by
 have hl:=r.length
 refine⟨by simp[L2.start,jUm,hl],fun i t h=> ?_⟩
 unfold jUm at h
 unfold L2.start
 by_cases hi:i<xs.length
 ·rw[lK6 (by simpa using hi),lKa] at h
  cases e:xs[i]? with
  | none=>rw[e] at h;cases h
  | some x=>
   rw[e] at h;cases h
   obtain⟨v,hv,rv⟩:=r.get e
   exact⟨v,by rw[lK6 (by simp;omega),lKa,hv];rfl,rv⟩
 ·rw[lK5 (by simpa using hi),List.getElem?_replicate] at h
  split at h<;>cases h
theorem fn3 {P:Program} {w:World} {K:PySem.W.Frag} {mg:Str->Option Value} {base:Heap} {x qual:Str} {st:Stmt} {f:Addr} {fd:FuncData} {N ps:List Str} {k:Nat} {sp:Sp3} (F:Fun K x qual st f fd) (S:FnScope N ps (jJ1 st))
  (hbody:∀(cdv:Value) (A:Around) (outer:List Env) (s:Shared) (H:Hp) (E:XK),Room k (A.deeper (envOfC qual (jJ1 st) s.heap.objs.size f cdv))->
   ∃t,PSs3 (cxOf CX0 P w K mg base N qual (jJ1 st) f cdv A outer s H E).nox (jQz st) t/\∀xs G Q,sp xs G Q->t {nx:=fun _ G'=>Q .non G',rt:=Q} (jUm N xs) G):Fn3 P w K mg base (k+1) f fd ps sp:=by
 refine Fun.ok (sp:=dn K ps.length sp) F S (fun vs H Q E h=>h.1) fun cdv A outer s H vs Q E hr hsp=> ?_
 obtain⟨t,ht,hq⟩:=hbody cdv A outer s H E hr
 obtain⟨hl,xs,G,rs,hg,hsp⟩:=hsp
 refine⟨fun D σ H1=>D.nx=(fun _ H'=>Q .non H')/\D.rt=Q/\σ=L2.start N vs/\H1=H,?_,rfl,rfl,rfl,rfl⟩
 rintro pins s1 σ1 H1 D I ⟨e1,e2,e3,e4⟩
 subst e3;subst e4
 have I3:Inv3 (cxOf CX0 P w K mg base N qual (jJ1 st) f cdv A outer s H1 E).nox pins (jUm N xs) G H1 s1:=⟨_,I,kX4 rs,hg⟩
 refine thn (ht pins s1 _ G H1 _ I3 (hq xs G _ hsp)) fun fl s2 z=> ?_
 cases fl with
 | next=>obtain⟨τ',G',H',e',⟨σ',I',a,b⟩,q⟩:=z;exact⟨σ',H',I',by rw[e1];exact q .non H' e' b rfl⟩
 | brk=>obtain⟨τ',G',H',e',_,q⟩:=z;exact q.elim
 | cont=>obtain⟨τ',G',H',e',_,q⟩:=z;exact q.elim
 | ret u=>obtain⟨x',τ',G',H',e',⟨σ',I',a,b⟩,⟨v,rv,ru⟩,q⟩:=z;exact⟨v,σ',H',I',ru,by rw[e2];exact q v H' e' b rv⟩
mutual
noncomputable def dep:T->Nat
 | .tup xs=>deps xs+1
 | _=>0
noncomputable def deps:List T->Nat
 | []=>0
 | x::xs=>max (dep x) (deps xs)
end
mutual
noncomputable def tree:T->Bool
 | .tup xs=>jK6 xs
 | .ref _=>false
 | .scr _=>false
 | .ty _=>false
 | .non=>true
 | .bl _=>true
 | .int _=>true
 | .str _=>true
noncomputable def jK6:List T->Bool
 | []=>true
 | x::xs=>tree x&&jK6 xs
end
mutual
noncomputable def eqT:T->T->Bool
 | .non,.non=>true
 | .bl a,.bl b=>a == b
 | .bl a,.int b=>(if a then 1 else 0) == b
 | .int a,.bl b=>a == (if b then 1 else 0)
 | .int a,.int b=>a == b
 | .str a,.str b=>a == b
 | .tup xs,.tup ys=>eqTs xs ys
 | _,_=>false
noncomputable def eqTs:List T->List T->Bool
 | [],[]=>true
 | x::xs,y::ys=>eqT x y&&eqTs xs ys
 | [],_::_=>false
 | _::_,[]=>false
end
mutual
theorem qQo {K:PySem.W.Frag} {H:Hp}:∀(x y:T) {a:V},tree x=true->tree y=true->Rep K H x a->Rep K H y a->eqT x y=true
 | .non,y,a,hx,hy,r,q=>by
  cases (show a= .non from r)
  cases y<;>first | rfl | (exact absurd (show false=true from hy) lJp) | (cases (show V.non=_ from q)) | (obtain⟨_,_,e,_⟩:=(show ∃c vs,V.non= .ref c/\_ from q);cases e)
 | .bl b,y,a,hx,hy,r,q=>by
  cases (show a= .bl b from r)
  cases y with
  | bl c=>cases (show V.bl b=V.bl c from q);simp[eqT]
  | tup ys=>obtain⟨_,_,e,_⟩:=(show ∃c vs,V.bl b= .ref c/\_ from q);cases e
  | non=>cases (show V.bl b= .non from q)
  | int c=>cases (show V.bl b= .int c from q)
  | str c=>cases (show V.bl b= .str c from q)
  | _=>exact absurd (show false=true from hy) lJp
 | .int b,y,a,hx,hy,r,q=>by
  cases (show a= .int b from r)
  cases y with
  | int c=>cases (show V.int b=V.int c from q);simp[eqT]
  | tup ys=>obtain⟨_,_,e,_⟩:=(show ∃c vs,V.int b= .ref c/\_ from q);cases e
  | non=>cases (show V.int b= .non from q)
  | bl c=>cases (show V.int b= .bl c from q)
  | str c=>cases (show V.int b= .str c from q)
  | _=>exact absurd (show false=true from hy) lJp
 | .str b,y,a,hx,hy,r,q=>by
  cases (show a= .str b from r)
  cases y with
  | str c=>cases (show V.str b=V.str c from q);simp[eqT]
  | tup ys=>obtain⟨_,_,e,_⟩:=(show ∃c vs,V.str b= .ref c/\_ from q);cases e
  | non=>cases (show V.str b= .non from q)
  | bl c=>cases (show V.str b= .bl c from q)
  | int c=>cases (show V.str b= .int c from q)
  | _=>exact absurd (show false=true from hy) lJp
 | .tup xs,y,a,hx,hy,r,q=>by
  obtain⟨p,vs,e,h1,h2⟩:=(show ∃p vs,a= .ref p/\H p=some (.tup vs)/\Reps K H xs vs from r)
  subst e
  cases y with
  | tup ys=>
   obtain⟨p',vs',e',h1',h2'⟩:=(show ∃p' vs',V.ref p= .ref p'/\H p'=some (.tup vs')/\Reps K H ys vs' from q)
   cases e'
   rw[h1] at h1';cases h1'
   exact kK6 xs ys (show jK6 xs=true from hx) (show jK6 ys=true from hy) h2 h2'
  | non=>cases (show V.ref p= .non from q)
  | bl c=>cases (show V.ref p= .bl c from q)
  | int c=>cases (show V.ref p= .int c from q)
  | str c=>cases (show V.ref p= .str c from q)
  | _=>exact absurd (show false=true from hy) lJp
 | .ref _,_,_,hx,_,_,_=>absurd (show false=true from hx) lJp
 | .scr _,_,_,hx,_,_,_=>absurd (show false=true from hx) lJp
 | .ty _,_,_,hx,_,_,_=>absurd (show false=true from hx) lJp
theorem kK6 {K:PySem.W.Frag} {H:Hp}:∀(xs ys:List T) {vs:List V},jK6 xs=true->jK6 ys=true->Reps K H xs vs->Reps K H ys vs->eqTs xs ys=true
 | [],ys,_,_,_,r,q=>by
  cases r
  cases ys with
  | nil=>rfl
  | cons y ys=>obtain⟨_,_,e,_⟩:=q;cases e
 | x::xs,ys,_,hx,hy,⟨v,ws,e,r1,r2⟩,q=>by
  subst e
  cases ys with
  | nil=>cases q
  | cons y ys=>
   obtain⟨v',ws',e',q1,q2⟩:=q
   cases e'
   have hx':tree x=true/\jK6 xs=true:=by simpa[jK6] using hx
   have hy':tree y=true/\jK6 ys=true:=by simpa[jK6] using hy
   show (eqT x y&&eqTs xs ys)=true
   rw[qQo x y hx'.1 hy'.1 r1 q1,kK6 xs ys hx'.2 hy'.2 r2 q2]
   rfl
end
section
variable {X:Cx}
def rSub:R3:=rI0 fun i j=> .int (i-j)
def rMod:R3:=rI (fun _ j=>0<j) fun i j=> .int (i%j)
def qVb:R3:=rI CDiv fun i j=> .int (i / j)
def rPow:R3:=rI CPow fun i j=> .int (i^j.toNat)
def rLt:R3:=rI0 fun i j=> .bl (decide (i<j))
def rGt:R3:=rI0 fun i j=> .bl (decide (j<i))
def rGe:R3:=rI0 fun i j=> .bl (decide (j<=i))
def rIsN:R3:=fun x y G Q=>y= .non/\Q (.bl (jQq x)) G
def kJv:R3:=fun x y G Q=>y= .non/\Q (.bl (!jQq x)) G
def qKj:R3:=fun x y G Q=>∃xs ys,x= .tup xs/\y= .tup ys/\xs≠[]/\xs.length+ys.length<=sizeLine/\Q (.tup (xs++ys)) G
theorem o_catT:Op3 X (binaryOp .Add) qKj:=
 Op3.of qVj fun H G x y a b Q hg ra rb ⟨xs,ys,ex,ey,hx,hz,q⟩=>by
  subst ex;subst ey
  obtain⟨p,vs,e1,h1,h2⟩:=(show ∃p vs,a= .ref p/\H p=some (.tup vs)/\Reps X.K H xs vs from ra)
  obtain⟨p',ws,e2,h3,h4⟩:=(show ∃p vs,b= .ref p/\H p=some (.tup vs)/\Reps X.K H ys vs from rb)
  subst e1;subst e2
  have l1:=h2.length
  have l2:=h4.length
  refine⟨p,p',vs,ws,rfl,rfl,.of h1,.of h3,fun z=>hx ?_,by omega,fun z=> ?_,fun z l hl=> ?_⟩
  ·rw[z] at l1;exact lVs.mp l1
  ·rw[z] at l2
   have:ys=[]:=lVs.mp l2
   subst this
   exact⟨.tup (xs++[]),G,.refl H,hg,by rw[lVp];exact ra,q⟩
  ·exact⟨.tup (xs++ys),G,.upd (.none hl),hg.tupNew hl,Rep.tupNew (h2.append h4) hl,q⟩
def rAddI:R3:=rI0 fun i j=> .int (i+j)
def rAddA:R3:=fun x y G Q=>rAddI x y G Q\/rCat x y G Q\/qKj x y G Q
theorem o_addA:Op3 X (binaryOp .Add) rAddA:=o_add.or (o_cat.or o_catT)
def rMulI:R3:=rI CMul fun i j=> .int (i*j)
def rMulA:R3:=fun x y G Q=>rMulI x y G Q\/rRep x y G Q
theorem o_mulA:Op3 X (binaryOp .Mult) rMulA:=o_mul.or o_rep
def rNeg:T->Gp->VK3->Prop:=fun x G Q=>∃i,x= .int i/\Q (.int (-i)) G
theorem jJn (b:Expr) {op:CmpOp} (h:behindInMarks op b=false:=by first | exact nomark _ | with_unfolding_all rfl):behindInMarks op b=false:=h
variable {a b c:Expr} {ta tb tc:TE3} {pos:Pos}
theorem qU3 {op op':CmpOp} {r r':R3} (ho:Op3 X (compareOp op) r) (ho':Op3 X (compareOp op') r') (ha:PE3 X a ta) (hb:PE3 X b tb) (hc:PE3 X c tc)
  (hm:lastMarks [op,op'] [b,c]=false:=by with_unfolding_all rfl):PT3 X (.Compare a [op,op'] [b,c] pos) (jJw (kX2 r r' ta tb tc)):=by
 intro pins s τ G H Q I h
 refine isTrue_chain (thn (ha pins s τ G H _ I h) fun v s1 w_=>w_.el fun x G1 H1 e1 I1 r1 q1=>test_link (thn (hb pins s1 τ G1 H1 _ I1 q1) fun u s2 ⟨y,G2,H2,e2,I2,r2,q2⟩=>
  thn (ho pins s2 τ G2 H2 x y v u _ I2 (r1.mono e2) r2 q2) fun d s3 w_=>w_.el fun z G3 H3 e3 I3 r_ ⟨k,e,q3⟩=>r_.el fun v' rv' ru'=> ?_)) hm
 subst e
 cases (show v'= .bl k from rv');cases ru'
 refine lV2 ?_
 cases k with
 | false=>
  obtain⟨k',e',q'⟩:=q3
  cases e'
  exact ite_ff ⟨G3,H3,(e1.trans e2).trans e3,I3,q'⟩
 | true=>
  refine ite_tt (test_last (thn (hc pins s3 τ G3 H3 _ I3 q3) fun w' s4 w_=>w_.el fun z' G4 H4 e4 I4 r4 q4=>thn (ho' pins s4 τ G4 H4 y z' u w' _ I4 (r2.mono (e3.trans e4)) r4 q4) fun d' s5 w_=>w_.el fun z2 G5 H5 e5 I5 r_ ⟨k2,e2',q5⟩=>r_.el fun v2 rv2 ru2=> ?_))
  subst e2'
  cases (show v2= .bl k2 from rv2);cases ru2
  exact lV2 ⟨G5,H5,(((e1.trans e2).trans e3).trans e4).trans e5,I5,q5⟩
mutual
noncomputable def td:T->PyData
 | .tup xs=> .tuple (tds xs)
 | .int i=> .int i
 | .bl b=> .bool b
 | .str x=> .str x
 | .non=> .none
 | .ref _=> .none
 | .scr _=> .none
 | .ty _=> .none
noncomputable def tds:List T->List PyData
 | []=>[]
 | x::xs=>td x::tds xs
end
def eqOk (x:T):Bool:=tree x&&(td x).canLay0&&decide ((td x).depth<=50)
def jX3 (xs:List T):Bool:=jK6 xs&&PyData.canLayAll0 (tds xs)&&decide ((PyData.list (tds xs)).depth<=50)
noncomputable def eqG (G:Gp) (x y:T):Option Bool:=match x,y with
 | .ref p,.ref q=>match G p,G q with
  | some (.lst xs),some (.lst ys)=>if jX3 xs=true/\jX3 ys=true then some (eqTs xs ys) else none
  | _,_=>none
 | _,_=>if eqOk x=true/\eqOk y=true then some (eqT x y) else none
def rEqA:R3:=fun x y G Q=>∃b,eqG G x y=some b/\Q (.bl b) G
def rNeA:R3:=fun x y G Q=>∃b,eqG G x y=some b/\Q (.bl (!b)) G
noncomputable def truT (G:Gp):T->Option Bool
 | .non=>some false
 | .bl b=>some b
 | .int i=>some (i != 0)
 | .tup xs=>some (!xs.isEmpty)
 | .ref p=>match G p with
  | some (.lst xs)=>some (!xs.isEmpty)
  | some (.dck kvs)=>some (!kvs.isEmpty)
  | _=>none
 | _=>none
def rTru:T->Gp->(Bool->Gp->Prop)->Prop:=fun x G Q=>∃b,truT G x=some b/\Q b G
theorem jXx {K:PySem.W.Frag} {H:Hp} {xs:List T} {vs:List V} (r:Reps K H xs vs):xs.isEmpty=vs.isEmpty:=by
 have:=r.length
 cases xs<;>cases vs<;>simp_all
theorem kXy:Tru3 X rTru:=
 Tru3.of tru_ok fun H G x a Q hg ra ⟨b,hb,q⟩=>by
  refine⟨b,?_,rfl,q⟩
  cases x with
  | non=>cases (show a= .non from ra);cases hb;rfl
  | bl k=>cases (show a= .bl k from ra);cases hb;rfl
  | int k=>cases (show a= .int k from ra);cases hb;rfl
  | tup xs=>
   obtain⟨p,vs,e1,h1,h2⟩:=(show ∃p vs,a= .ref p/\H p=some (.tup vs)/\Reps X.K H xs vs from ra)
   subst e1;cases hb
   exact .inr (.inl ⟨vs,.of h1,by rw[jXx h2]⟩)
  | ref p=>
   cases (show a= .ref p from ra)
   cases hG:G p with
   | none=>simp only[truT,hG] at hb;cases hb
   | some o=>
    simp only[truT,hG] at hb
    cases o with
    | lst xs=>cases hb;obtain⟨vs,h1,h2⟩:=hg.lst hG;exact .inl ⟨vs,.of h1,by rw[jXx h2]⟩
    | dct _=>cases hb
    | fdc _=>cases hb
    | ins _ _=>cases hb
    | dck kvs=>
     cases hb
     obtain⟨ws,h1,h2⟩:=hg p _ hG
     refine .inr (.inr ⟨ws,h1,?_⟩)
     cases h2<;>rfl
  | str _=>cases hb
  | scr _=>cases hb
  | ty _=>cases hb
end
section
variable {X:Cx} {pins:List (Addr×Obj)} {σ:L2.St} {H:Hp} {s:Shared} {h':Heap}
theorem kJc {t':Nat} {fp:List Addr} (I:Inv X pins σ H s) (k:∀b o,b∉fp->s.heap.get? b=some o->h'.get? b=some o) (hf:∀b∈fp,FpOk X pins H b):Inv X pins σ H {s with heap:=h',toks:=t'}:=by
 have nit:∀b u,H b=some u->b∉fp:=fun b u e z=>by rw[(hf b z).1] at e;cases e
 refine I.step (g':=s.gens) (d':=s.drawn) (ch:=fp) (fun b hb=>⟨(hf b hb).2.2.2.1,(hf b hb).2.1,(hf b hb).2.2.2.2.1,(hf b hb).2.2.2.2.2⟩) (fun b o _ _ hc e _=>k b o hc e) (fun b o _ _ hc e _=>⟨o.slots,k b o hc e⟩) (fun _ _ _ _ n=>n)
  (fun b o hc e=>⟨o,k b o hc e⟩) (fun _ _ e=>e) (fun _ _ _ e=>e) (fun b ps e=>⟨#[],by rw[e];simp⟩) (fun m hm=> ?_) (fun b u e=> ?_) I.bare
 ·obtain⟨o,es,ep,ho,r⟩:=hm
  exact⟨o,es,ep,k _ o (fun z=>(hf _ z).2.1 rfl) ho,r⟩
 ·refine (I.hok b u e).stay (fun c v hc q=>k c v ?_ q) (fun _ q=>q) fun _ _ q=>q
  rcases hc with z | z
  ·rw[z];exact nit b u e
  ·exact nit c _ z
theorem jVt {t':Nat} {fp:List Addr} {p:Addr} {vs:List V} {us:List Value} (I:Inv X pins σ H s) (k:∀b o,b∉fp->s.heap.get? b=some o->h'.get? b=some o) (hf:∀b∈fp,FpOk X pins H b)
  (hp:s.heap.objs.size<=p) (ht:TupD h' p us.toArray) (r:Vals vs us) (hz:vs.length<=sizeLine):Inv X pins σ (upd H p (.tup vs)) {s with heap:=h',toks:=t'}:=by
 have hn:H p=none:=I.hok.fresh hp
 have nit:∀b u,H b=some u->b∉fp:=fun b u e z=>by rw[(hf b z).1] at e;cases e
 have old:∀b o,s.heap.get? b=some o->b≠p:=fun b o e=>lJr (lJ7 (lJj e) hp)
 have tr:∀b u,H b=some u->b≠p:=fun b u e z=>by rw[z,hn] at e;cases e
 refine I.step (g':=s.gens) (d':=s.drawn) (ch:=fp) (fun b hb=>⟨(hf b hb).2.2.2.1,(hf b hb).2.1,(hf b hb).2.2.2.2.1,(hf b hb).2.2.2.2.2⟩) (fun b o _ _ hc e _=>k b o hc e) (fun b o _ _ hc e _=>⟨o.slots,k b o hc e⟩) (fun b o _ e n=>by rw[jJ2 (old b o e)];exact n)
  (fun b o hc e=>⟨o,k b o hc e⟩) (fun b _ e=>by rw[jJ2 (tr b _ e)];exact e) (fun b _ _ e=>by rw[jJ2 (tr b _ e)];exact e) (fun b ps e=>⟨#[],by rw[jJ2 (tr b _ e),e];simp⟩) (fun m hm=> ?_) (fun b u e=> ?_) I.bare
 ·obtain⟨o,es,ep,ho,r⟩:=hm
  exact⟨o,es,ep,k _ o (fun z=>(hf _ z).2.1 rfl) ho,r⟩
 ·by_cases hb:b=p
  ·subst hb
   rw[jKp] at e
   cases e
   exact⟨hz,us,r,ht⟩
  ·rw[jJ2 hb] at e
   refine (I.hok b u e).stay (fun c v hc q=>k c v ?_ q) (fun c q=>by rw[jJ2 (tr c _ q)];exact q) fun c _ q=>by rw[jJ2 (tr c _ q)];exact q
   rcases hc with z | z
   ·rw[z];exact nit b u e
   ·exact nit c _ z
end
noncomputable def Ite (K:PySem.W.Frag) (a:Addr):It:=
 ⟨fun i H=>∃xs x,SqL K H a xs/\xs[i]? =some x,fun i H x H'=>∃p y,H p=none/\x= .ref p/\(∀xs,SqL K H a xs->xs[i]? =some y)/\H'=upd H p (.tup [.int i,y]),fun i H=>∃xs,SqL K H a xs/\xs.length<=i⟩
theorem kXw {P:Program} {w:World} {K:PySem.W.Frag} {elts:List Expr} {k:Nat} {pos:Pos} (a e it:Addr) (hei:e≠it):
  Turn P w K (.Tuple elts k pos) (Ite K a) [e,it] e (fun i h=>(∃old,IsEnum h e it i old)/\h.IsListIter it a i) where
 mem:=by simp
 obj:=fun i h ⟨⟨old,h1⟩,h2⟩ b hb=>by
  have hb':b=e\/b=it:=by simpa using hb
  rcases hb' with z | z
  ·subst z;exact⟨_,h1,fun v z=>nomatch (show Data.fields _=Data.cell v from z)⟩
  ·subst z
   obtain⟨o,e2,c,d⟩:=h2
   exact⟨o,e2,fun v z=>by rw[d] at z;cases z⟩
 keep:=fun i h h' ⟨⟨old,h1⟩,h2⟩ kp=>⟨⟨old,kp e (by simp) _ h1⟩,h2.at fun o q=>kp it (by simp) o q⟩
 item:=by
  rintro X hP hw hK hc i pins s σ H E I hf ⟨⟨old,he⟩,hit⟩ hg
  subst hP hw hK
  obtain⟨xs,x,hq,hx⟩:=hg
  obtain⟨its,rv,p,hz⟩:=I.list hq
  obtain⟨u,hu,ru⟩:=rv.get hx
  refine wpAny_pyNext_enum_item he hit p.isList (x:=u) (by simpa using hu) hei fun h1 ho hit1 hT hsz hk=> ?_
  refine⟨_,rfl,wpAny_letOwnedTupleGo_enum ho fun h2 he2 hs2=> ?_⟩
  have hel:e<s.heap.objs.size:=lJj he
  have hp2:∀b o,b∉[e,it]->s.heap.get? b=some o->h2.get? b=some o:=fun b o hb q=>by
   have hb1:b≠e:=fun z=>hb (by simp[z])
   have hb2:b≠it:=fun z=>hb (by simp[z])
   exact (hs2.2 b hb1).trans (hk b o hb1 hb2 q)
  have hT2:h2.get? s.heap.objs.size=some {cls:= .type "tuple",data:= .seq #[.int i s.toks,u]}:=(hs2.2 _ (lK4 hel)).trans hT
  have I2:=jVt (t':=s.toks+1) (h':=h2) (p:=s.heap.objs.size) (vs:=[.int i,x]) (us:=[.int i s.toks,u]) I hp2 hf (lJg _) ⟨_,hT2,rfl,_,rfl,rfl⟩ (.cons ⟨_,rfl⟩ (.cons ru .nil)) (by show 2<=sizeLine;decide)
  refine⟨.ref s.heap.objs.size,_,I2,rfl,⟨_,x,I.hok.fresh (lJg _),rfl,fun ys hy=>by rw[I.list_inj hy hq];exact hx,rfl⟩,⟨⟨u,by simpa using he2⟩,hit1.at fun o q=>(hs2.2 it hei.symm).trans q⟩,fun b hb=> ?_⟩
  have hbs:∃o,s.heap.get? b=some o:=by
   have hb':b=e\/b=it:=by simpa using hb
   rcases hb' with z | z
   ·subst z;exact⟨_,he⟩
   ·subst z;obtain⟨o,q,_⟩:=hit;exact⟨o,q⟩
  obtain⟨o,q⟩:=hbs
  rw[jJ2 (lJr (lJj q))]
  exact (hf b hb).1
 done:=by
  rintro X hP hw hK hc i pins s σ H E I hf ⟨⟨old,he⟩,hit⟩ hg
  subst hP hw hK
  obtain⟨xs,hq,hx⟩:=hg
  obtain⟨its,rv,p,hz⟩:=I.list hq
  have hl:=rv.length
  exact wpAny_pyNext_enum_end (I.ok.hd hc) he hit p.isList (by simp;omega) fun h1 hx1=>⟨rfl,kJc (t':=s.toks) I (fun b o hb q=>hx1 b o (fun z=>hb (by simp[z])) q) hf⟩
 self:=fun _ _ _ _ _ ⟨⟨old,he⟩,_⟩ h=>lYm he h
def numT (xs:List T):List T:=(List.range xs.length).map fun (i:Nat)=>T.tup [.int i,xs.getD i .non]
theorem kJ2 {xs:List T} {i:Nat} {x:T} (h:xs[i]? =some x):(numT xs)[i]? =some (.tup [.int i,x]):=by
 have hi:i<xs.length:=by
  rcases lV6 i xs.length with z | z
  ·exact z
  ·rw[lKq z] at h;cases h
 have hx:xs[i]=x:=(lJi.mp h).2
 simp[numT,hi,List.getD,hx]
theorem jK0 {xs:List T}:(numT xs).length=xs.length:=by simp[numT]
def jK1 (G:Gp):T->Option (List T)
 | .ref p=>asL (G p)
 | .scr xs=>some xs
 | _=>none
theorem jQd {K:PySem.W.Frag} {H:Hp} {G:Gp} {x:T} {a:V} {xs:List T} (hg:GRel K H G) (r:Rep K H x a) (h:jK1 G x=some xs):∃p vs,a= .ref p/\SqL K H p vs/\Reps K H xs vs:=by
 cases x with
 | scr ys=>cases h;obtain⟨p,vs,e,h1,h2⟩:=(show ∃p vs,a= .ref p/\FrL K H p vs/\Reps K H xs vs from r);exact⟨p,vs,e,h1.sq,h2⟩
 | ref p=>
  obtain⟨vs,h1,h2⟩:=hg.lst (jVc h)
  exact⟨p,vs,r,.of h1,h2⟩
 | tup _=>cases h
 | non=>cases h
 | bl _=>cases h
 | int _=>cases h
 | str _=>cases h
 | ty _=>cases h
def kJ7 (ta:TA3):TI3:=fun τ G R=>ta τ G fun vs G1=>∃x xs,vs=[x]/\jK1 G1 x=some xs/\R (numT xs) (fun G'=>jK1 G' x=some xs) G1
theorem kZs {X:Cx} {elts:List Expr} {k:Nat} {tpos pos p:Pos} {a:Expr} {ta:TA3} (hg:Gl X "enumerate") (hm:X.mg "enumerate"=none) (hv:bootBuiltins "enumerate"=some (.type "enumerate")) (ha:PA3 X [a] ta) (hs:starEach [a] X.env=[(false,eval a X.env)]:=by rfl):
  PI3 X (.Tuple elts k tpos) (.Call (.Name "enumerate" p) [a] [] pos) (kJ7 ta):=by
 intro pins s τ G H R I h
 obtain⟨σ0,I0,hs0,hg0⟩:=id I
 refine Call_ (jUz I0 hg hm hv (lVe (thn (ha pos pins s τ G H _ I h) fun us s1 w_=>w_.el fun xs' G1 H1 e1 i_ r_ q1=>i_.el fun σ I1 hs1 hg1=>r_.el fun as ras rvs=> ?_) hs rfl))
 obtain⟨x,xs,e,hx,q⟩:=q1
 subst e
 obtain⟨v,rfl,rv⟩:=jVx ras
 obtain⟨u,rfl,ru⟩:=rvs.one
 obtain⟨pa,vs,rfl,hq,r⟩:=jQd hg1 rv hx
 cases ru
 obtain⟨its,rvv,pl,hz⟩:=I1.list hq
 refine call_enumerate_list pl.isList fun h1 he hit hsz hk=> ?_
 have I2:Inv X pins σ H1 {s1 with heap:=h1}:=I1.kept (t':=s1.toks) hk
 refine lYm (Q:=PIE3 X pins τ H (.Tuple elts k tpos) R) he ?_
 have fr:∀b∈[s1.heap.objs.size+1,s1.heap.objs.size],FpOk X pins H1 b:=fun b hb=>by
  have hb':b=s1.heap.objs.size+1\/b=s1.heap.objs.size:=by simpa using hb
  have hle:s1.heap.objs.size<=b:=by omega
  exact I1.fpOk hle (I1.hok.fresh hle)
 refine⟨s1.heap.objs.size+1,[s1.heap.objs.size+1,s1.heap.objs.size],_,_,numT xs,fun G'=>jK1 G' x=some xs,G1,H1,rfl,e1,⟨σ,I2,hs1,hg1⟩,kXw pa _ _ (Nat.succ_ne_self _),⟨⟨.none,he⟩,hit⟩,fr,?_,q⟩
 intro i H2 G2 e2 g2 st
 obtain⟨pb,ws,eb,h1,h2⟩:=jQd g2 (Rep.mono e2 _ rv) st
 cases eb
 have hlen:=h2.length
 refine⟨fun hi=> ?_,fun hi=>⟨ws,h1,by rw[jK0] at hi;omega⟩,fun hi y H' ⟨pp,z,hn,ey,hy,eH⟩=> ?_⟩
 ·rw[jK0] at hi
  exact⟨ws,ws[i]'(by omega),h1,by simp[hlen▸hi]⟩
 ·subst ey;subst eH
  obtain⟨t,ht,rt⟩:=h2.get' (hy ws h1)
  exact⟨.upd (.none hn),g2.tupNew hn,_,kJ2 ht,Rep.tupNew ⟨_,_,rfl,rfl,_,_,rfl,rt,rfl⟩ hn⟩
noncomputable def clGo (env:Env):List (Str×NameKind)->List (Str×Addr)->Option (List (Str×Addr))
 | [],cs=>some cs
 | (n,k)::r,cs=>if (k == .free)=true then (match env.cells.lookup n with | some c=>clGo env r ((n,c)::cs) | none=>none) else clGo env r cs
theorem jXr {scope:Scope} {env:Env} {cl:List (Str×Addr)} (h:clGo env scope.names []=some cl):closureFor scope env=pure cl:=by
 unfold closureFor
 have go:∀(names:List (Str×NameKind)) (cs:List (Str×Addr)),clGo env names cs=some cl->
   (forIn names cs fun (x:Str×NameKind) (r:List (Str×Addr))=>(match x with | (nm,kd)=>if (kd == .free)=true then cellOf env nm >>= fun a=>pure (ForInStep.yield ((nm,a)::r)) else pure (ForInStep.yield r):Sem (ForInStep (List (Str×Addr)))))=pure cl:=by
  intro names
  induction names with
  | nil=>intro cs e;cases e;rfl
  | cons x r ih=>
   obtain⟨n,k⟩:=x
   intro cs e
   unfold clGo at e
   rw[List.forIn_cons]
   by_cases hk:(k == NameKind.free)=true
   ·rw[lJc hk] at e
    cases hc:env.cells.lookup n with
    | none=>rw[hc] at e;cases e
    | some c=>
     rw[hc] at e
     have hco:cellOf env n=pure c:=by unfold cellOf;rw[hc]
     simp only[hk,lKn,hco,pure_bind]
     exact ih _ e
   ·rw[lJb hk] at e
    simp only[hk,pure_bind,lKc,lKj]
    exact ih _ e
 have:=go scope.names [] h
 simpa using this
theorem jU9 {env:Env} {cl:List (Str×Addr)}:∀ {names:List (Str×NameKind)} {cs:List (Str×Addr)},clGo env names cs=some cl->(∀n c,cs.lookup n=some c->env.cells.lookup n=some c)->∀n c,cl.lookup n=some c->env.cells.lookup n=some c
 | [],cs,e,h=>by cases e;exact h
 | (n,k)::r,cs,e,h=>by
  unfold clGo at e
  by_cases hk:(k == NameKind.free)=true
  ·rw[lJc hk] at e
   cases hc:env.cells.lookup n with
   | none=>rw[hc] at e;cases e
   | some c=>
    rw[hc] at e
    refine jU9 e fun m d q=> ?_
    rw[lKm] at q
    by_cases hm:(m == n)=true
    ·rw[hm] at q;cases q;rw[eq_of_beq hm];exact hc
    ·simp only[hm] at q;exact h m d q
  ·rw[lJb hk] at e
   exact jU9 e h
theorem jZc {env:Env} {cl:List (Str×Addr)} {m:Str}:∀ {names:List (Str×NameKind)} {cs:List (Str×Addr)},clGo env names cs=some cl->(∃c,cs.lookup m=some c)->∃c,cl.lookup m=some c
 | [],cs,e,h=>by cases e;exact h
 | (n,k)::r,cs,e,h=>by
  unfold clGo at e
  by_cases hk:(k == NameKind.free)=true
  ·rw[lJc hk] at e
   cases hc:env.cells.lookup n with
   | none=>rw[hc] at e;cases e
   | some c=>
    rw[hc] at e
    refine jZc e ?_
    rw[lKm]
    by_cases hm:(m == n)=true
    ·rw[hm];exact⟨_,rfl⟩
    ·simp only[hm];exact h
  ·rw[lJb hk] at e
   exact jZc e h
theorem jVa {env:Env} {cl:List (Str×Addr)} {m:Str}:∀ {names:List (Str×NameKind)} {cs:List (Str×Addr)},clGo env names cs=some cl->names.lookup m=some .free->∃c,cl.lookup m=some c
 | [],cs,e,h=>by simp at h
 | (n,k)::r,cs,e,h=>by
  unfold clGo at e
  rw[lKm] at h
  by_cases hm:(m == n)=true
  ·rw[hm] at h
   cases h
   rw[lJc (show (NameKind.free == NameKind.free)=true from rfl)] at e
   cases hc:env.cells.lookup n with
   | none=>rw[hc] at e;cases e
   | some c=>
    rw[hc] at e
    refine jZc e ?_
    rw[lKm,hm];exact⟨_,rfl⟩
  ·simp only[hm] at h
   by_cases hk:(k == NameKind.free)=true
   ·rw[lJc hk] at e
    cases hc:env.cells.lookup n with
    | none=>rw[hc] at e;cases e
    | some c=>rw[hc] at e;exact jVa e h
   ·rw[lJb hk] at e
    exact jVa e h
theorem jQr {env:Env} {x:Str}:∀ {names:List (Str×NameKind)},(∀y∈names,y.2≠ .cell)->
  ((names.map fun (n,k)=>if (k == NameKind.free&&env.scope.kind == .function&&env.kindOf n == some .cell) then (n,NameKind.cell) else (n,k)).lookup x=some .cell\/
    (names.map fun (n,k)=>if (k == NameKind.free&&env.scope.kind == .function&&env.kindOf n == some .cell) then (n,NameKind.cell) else (n,k)).lookup x=some .free)->names.lookup x=some .free
 | [],_,h=>by simp at h
 | (n,k)::r,hc,h=>by
  have ih:= @jQr env x r (fun y hy=>hc y (lJz _ hy))
  have hk:=hc (n,k) lJx
  rw[lJn] at h
  rw[lKm]
  by_cases hx:(x == n)=true
  ·rw[hx]
   by_cases hf:(k == NameKind.free&&env.scope.kind == .function&&env.kindOf n == some .cell)=true
   ·have:(k == NameKind.free)=true:=by
     rw[lKs,lKs] at hf;exact hf.1.1
    rw[eq_of_beq this]
   ·simp only[hf,lKc,lKj,lKm,hx] at h
    rcases h with h | h
    ·cases h;exact absurd rfl hk
    ·cases h;rfl
  ·simp only[hx]
   refine ih ?_
   by_cases hf:(k == NameKind.free&&env.scope.kind == .function&&env.kindOf n == some .cell)=true
   ·simpa only[hf,lKn,lKm,hx] using h
   ·simpa only[hf,lKc,lKj,lKm,hx] using h
theorem jKr {env:Env} {x:Str}:∀ {names:List (Str×NameKind)},
  (names.map fun (n,k)=>if (k == NameKind.free&&env.scope.kind == .function&&env.kindOf n == some .cell) then (n,NameKind.cell) else (n,k)).lookup x=some .local->names.lookup x=some .local
 | [],h=>by simp at h
 | (n,k)::r,h=>by
  have ih:= @jKr env x r
  rw[lJn] at h
  rw[lKm]
  by_cases hx:(x == n)=true
  ·rw[hx]
   by_cases hf:(k == NameKind.free&&env.scope.kind == .function&&env.kindOf n == some .cell)=true
   ·simp only[hf,lKn,lKm,hx] at h;cases h
   ·simp only[hf,lKc,lKj,lKm,hx] at h;exact h
  ·simp only[hx]
   refine ih ?_
   by_cases hf:(k == NameKind.free&&env.scope.kind == .function&&env.kindOf n == some .cell)=true
   ·simpa only[hf,lKn,lKm,hx] using h
   ·simpa only[hf,lKc,lKj,lKm,hx] using h
noncomputable def jQ9 (X:Cx) (scope:Scope) (cl:List (Str×Addr)) (C:Addr) (fp:List Addr) (s:Shared) (H:Hp):Cx:=
 {X with env:=compEnvC scope cl C X.env,s₀:=s,H₀:=H,outer:=X.stack,stack:=X.stack,ex:=fp,fn:=fun _=>false,pn:=[],xe:=fun _ _=>False}
structure CmpOk (X:Cx) (scope:Scope) (cl:List (Str×Addr)) (mask:List Bool):Prop where
 cl:clGo X.env scope.names []=some cl
 kind:scope.kind= .function
 nocell:(scope.names.all fun y=>y.2 != .cell)=true
 names:(scope.names.all fun y=>y.2 != .local||scope.names.lookup y.1 == some .local)=true
 vis:(scope.names.all fun y=>y.2 != .free||X.env.kindOf y.1 == some .cell||X.env.kindOf y.1 == some .free)=true
 len:mask.length=X.N.length
 mask:((X.N.zip mask).all fun p=>p.2||scope.names.lookup p.1 != some .local)=true
def msk {α:Type} (mask:List Bool) (τ:List (Option α)):List (Option α):=List.zipWith (fun b o=>if b=true then none else o) mask τ
theorem jY3 {α:Type} {mask:List Bool} {τ:List (Option α)} {i:Nat} {t:α} (h:(msk mask τ)[i]? =some (some t)):mask[i]? =some false/\τ[i]? =some (some t):=by
 unfold msk at h
 rw[lXs] at h
 cases hm:mask[i]? with
 | none=>exact absurd (hm▸h) (by simp)
 | some b=>
  cases ht:τ[i]? with
  | none=>rw[hm,ht] at h;cases h
  | some o=>
   rw[hm,ht] at h
   cases b with
   | true=>simp at h
   | false=>simp at h;exact⟨rfl,by rw[h]⟩
theorem jUi {α:Type} {mask:List Bool} {τ:List (Option α)} (h:mask.length=τ.length):(msk mask τ).length=τ.length:=by
 unfold msk;rw[List.length_zipWith,h,Nat.min_self]
theorem kJ3 {K:PySem.W.Frag} {H:Hp} {σ:L2.St} {τ:St3} {mask:List Bool} (h:SRel K H σ τ) (hl:mask.length=τ.length):SRel K H (msk mask σ) (msk mask τ):=by
 refine⟨by rw[jUi hl,jUi (hl.trans h.1.symm),h.1],fun i t q=> ?_⟩
 obtain⟨h1,h2⟩:=jY3 q
 obtain⟨v,h3,h4⟩:=h.2 i t h2
 refine⟨v,?_,h4⟩
 unfold msk
 rw[lXs,h1,h3]
 simp
section
variable {X:Cx} {scope:Scope} {cl:List (Str×Addr)} {mask:List Bool}
theorem CmpOk.local (c:CmpOk X scope cl mask) {i:Nat} {x:Str} (h1:X.N[i]? =some x) (h2:mask[i]? =some false):scope.names.lookup x≠some .local:=by
 have h:=c.mask
 rw[lK2] at h
 have hz:(X.N.zip mask)[i]? =some (x,false):=by rw[lXt];exact⟨h1,h2⟩
 have:=h _ (lJy hz)
 simpa using this
theorem CmpOk.free (c:CmpOk X scope cl mask) {x:Str} (h:scope.names.lookup x=some .free):X.env.kindOf x=some .cell\/X.env.kindOf x=some .free:=by
 have hv:=c.vis
 rw[lK2] at hv
 have:=hv (x,.free) (lKr h)
 simpa using this
theorem CmpOk.nc (c:CmpOk X scope cl mask):∀y∈scope.names,y.2≠ .cell:=by
 have hv:=c.nocell
 rw[lK2] at hv
 intro y hy
 simpa using hv y hy
theorem CmpOk.nm (c:CmpOk X scope cl mask):∀y∈scope.names,y.2= .local->scope.names.lookup y.1=some .local:=by
 have hv:=c.names
 rw[lK2] at hv
 intro y hy e
 have:=hv y hy
 rw[e] at this
 simpa using this
theorem qJg (c:CmpOk X scope cl mask) {pins:List (Addr×Obj)} {σ:L2.St} {H:Hp} {s:Shared} {fp:List Addr} {h4:Heap} {tk:Nat} (I:Inv X pins σ H s) (hf:∀b∈fp,FpOk X pins H b) (ho:∀b∈fp,∃o,s.heap.get? b=some o)
  (hns:h4.Ns s.heap.objs.size fun _=>none) (hk:∀b o,s.heap.get? b=some o->h4.get? b=some o):
  Inv (jQ9 X scope cl s.heap.objs.size fp s H) [] (msk mask σ) H {s with heap:=h4,toks:=tk}:=by
 have sub:=jU9 c.cl (by simp)
 have ok:(jQ9 X scope cl s.heap.objs.size fp s H).Ok:=by
  refine⟨I.ok.mod,c.kind,I.ok.glob,I.ok.blt,lJg _,fun x y d h1 h2=>I.ok.inj x y d (sub _ _ h1) (sub _ _ h2),fun x hx=>jVa c.cl (jQr (env:=X.env) c.nc hx),fun x d hx=>absurd (show false=true from hx) lJp,I.ok.hd,I.ok.gd,I.ok.frames,.inl rfl,
   fun b hb=> ?_,I.bs,lKo I.ok.bsz I.sz,fun b o e hb=> ?_,fun b hb hz=> ?_,I.stack,I.stkFree⟩
  ·obtain⟨o,e⟩:=ho b hb
   exact⟨lJr (lJj e),fun x d hd=>(hf b hb).2.2.2.2.1 x d (sub _ _ hd)⟩
  ·rcases (hf b hb).2.2.2.1 with z | z
   ·exact I.ok.noex b o e z
   ·exact absurd (lJ7 (lJj e) I.ok.bsz) (Nat.not_lt.mpr z)
  ·rcases lJk.mp (I.stkSub b hz) with z | z
   ·exact (hf b hb).2.1 z
   ·exact (hf b hb).2.2.1 z
 refine⟨ok,rfl,I.bare,Un.kept hk,⟨_,hns,fun i x v h1 h2 h3=> ?_⟩,fun x d hd=> ?_,I.hok.fresh (lJg _),fun x d hd=>I.freeC x d (sub _ _ hd),fun p hp=>absurd (show p∈([]:List (Addr×Obj)) from hp) (by simp),I.hok.kept hk,?_⟩
 ·obtain⟨m1,m2⟩:=jY3 h2
  have nl:=c.local h1 m1
  have fr:scope.names.lookup x=some .free:=by
   rcases h3 with z | z | z
   ·exact absurd (jKr (env:=X.env) z) nl
   ·exact jQr (env:=X.env) c.nc (.inl z)
   ·exact jQr (env:=X.env) c.nc (.inr z)
  have hkk:=c.free fr
  obtain⟨m,hn,hl⟩:=I.loc
  have vis:Vis X.env.scope x:=by rcases hkk with z | z;exact .inr (.inl z);exact .inr (.inr z)
  obtain⟨u,ru,lk⟩:=hl i x v h1 m2 vis
  refine⟨u,ru,?_⟩
  rcases lk with ⟨z,_⟩ | ⟨_,d,hd,cd⟩
  ·exfalso;rcases hkk with q | q<;>(rw[z] at q;cases q)
  ·obtain⟨d',hd'⟩:=jVa c.cl fr
   have:d'=d:=by have:=sub _ _ hd';rw[hd] at this;exact (lJw this).symm
   subst this
   refine .inr ⟨?_,d',hd',cd.keeps hk⟩
   rcases h3 with z | z | z
   ·exact absurd (jKr (env:=X.env) z) nl
   ·exact .inl z
   ·exact .inr z
 ·obtain⟨v,hv⟩:=I.cell x d (sub _ _ hd)
  exact⟨v,hv.keeps hk⟩
 ·exact (jUi (c.len.trans I.len.symm)).trans I.len
theorem qXr {pins:List (Addr×Obj)} {σ σ':L2.St} {H H':Hp} {s s':Shared} {fp:List Addr} {pl:List (Addr×Obj)} {C:Addr} (I:Inv X pins σ H s) (hf:∀b∈fp,FpOk X pins H b) (hC:s.heap.objs.size<=C)
  (J:Inv (jQ9 X scope cl C fp s H) pl σ' H' s') {h':Heap} (hb:Heap.SameBut C s'.heap h'):Inv X pins σ H' {s' with heap:=h'}:=by
 have ne:∀b o,s.heap.get? b=some o->b≠C:=fun b o e=>lJr (lJ7 (lJj e) hC)
 have u:=J.base
 have hfree:H' C=none:=J.free
 have u':Un (frs X.stack) fp H H' s.heap h':=⟨fun b o e n hb' hx=>(hb.2 b (ne b o e)).trans (u.keep b o e n hb' hx),fun b o e n hb' hx=>let ⟨sl,z⟩:=u.slot b o e n hb' hx;⟨sl,(hb.2 b (ne b o e)).trans z⟩,
  u.free,fun b o e hx=>let ⟨o',z⟩:=u.there b o e hx;⟨o',(hb.2 b (ne b o e)).trans z⟩,u.tups,u.frzs,u.tbls⟩
 have hok:HOk X.prog X.w H' h':=fun b ob e=>(J.hok b ob e).stay (fun c w' hc q=>(hb.2 c (by
  rintro rfl
  rcases hc with rfl | hc
  ·rw[hfree] at e;cases e
  ·rw[hfree] at hc;cases hc)).trans q) (fun _ q=>q) fun _ _ q=>q
 exact I.call' (s':={s' with heap:=h'}) J.os u' hok J.bare fun b hb=>⟨(hf b hb).2.2.2.1,(hf b hb).2.1,(hf b hb).2.2.2.2.1,(hf b hb).2.2.2.2.2⟩
end
abbrev qJf (ifs:List Expr) (env:Env):Sem Bool:=forIn ifs true fun c b=>if b=true then isTrue c env (eval c env) >>= fun d=>pure (ForInStep.yield d) else pure (ForInStep.yield b)
noncomputable def qQ4 (M:Model) (A:Around) (elt tg:Expr) (ifs:List Expr) (it acc:Value) (env:Env) (stop more:Shared->Prop):Option Value->Shared->Prop
 | none=>stop
 | some v=>fun z=>wpAny M A (letOwnedTupleGo tg it v) (fun _ z1=>wpAny M A (assign tg env v) (fun _ z2=>wpAny M A (qJf ifs env) (fun ok z3=>if ok=true then wpAny M A (eval elt env) (fun x z4=>wpAny M A (call (.builtin "list.append") [acc,x]) (fun _=>more) (fun _ _=>False) z4) (fun _ _=>False) z3 else more z3) (fun _ _=>False) z2) (fun _ _=>False) z1) (fun _ _=>False) z
theorem kQc {P:Program} {w:World} {A:Around} {R:Result->Shared->Prop} {s:Shared} {elt tg iter:Expr} {ifs:List Expr} {scope:Scope} {pos:Pos} {it acc:Value} {env:Env} (I:Nat->Shared->Prop)
  (turn:∀k z,I k z->wpAny (model P w) A (pyNext it) (qQ4 (model P w) A elt tg ifs it acc env (R (.ok .next)) fun z'=>∃m,m<k/\I m z') (fun _ _=>False) z) (n:Nat) (h:I n s):codeAny (model P w) A (.compLoop (.ListComp elt [⟨tg,iter,ifs,0⟩] scope pos) 0 it acc env) R s:=by
 refine codeAny_loop rfl I (fun k z hz=>(show wpAny _ A ((compTurn (.ListComp elt [⟨tg,iter,ifs,0⟩] scope pos) 0 it acc env).onRaise _) _ _ z from wpAny_noted ?_)) n h
 rw[compTurn_list]
 refine lJa (wpAny_standAt (lJa (lQn (turn k z hz) (fun r z1 h1=> ?_) fun _ _ e=>e.elim)))
 cases r with
 | none=>exact lJd h1
 | some v=>
  refine lJa (lQn h1 (fun _ z2 h2=>lJa (lQn h2 (fun _ z3 h3=>lJa (lQn h3 (fun ok z4 h4=> ?_) fun _ _ e=>e.elim)) fun _ _ e=>e.elim)) fun _ _ e=>e.elim)
  by_cases hok:ok=true
  ·subst hok
   exact lJa (lJa (lQn h4 (fun x z5 h5=>lJa (lQn h5 (fun _ z6 h6=>lJd (lJd ⟨rfl,h6⟩)) fun _ _ e=>e.elim)) fun _ _ e=>e.elim))
  ·obtain rfl:ok=false:=by simpa using hok
   exact lJd ⟨rfl,h4⟩
def PIf3 (X:Cx) (ifs:List Expr) (t:TT3):Prop:=∀(pins:List (Addr×Obj)) (s:Shared) (τ:St3) (G:Gp) (H:Hp) (Q:Bool->Gp->Prop),Inv3 X pins τ G H s->t τ G Q->
 wpAny (model X.prog X.w) X.A (forIn ifs true fun c r=>if r=true then do let ok <-isTrue c X.env (eval c X.env);pure (ForInStep.yield ok) else pure (ForInStep.yield r)) (TP3 X pins τ H Q) X.xe s
def jQh:TT3:=fun _ G Q=>Q true G
theorem jUo {X:Cx}:PIf3 X [] jQh:=fun _ _ _ G H _ I q=>wpAny_tests_nil ⟨G,H,.refl H,I,q⟩
theorem jY7 {X:Cx} {c:Expr} {t:TT3} (h:PT3 X c t):PIf3 X [c] t:=fun pins s τ G H Q I q=>wpAny_tests_one (h pins s τ G H Q I q)
def kQm (mask:List Bool) (g:TG3):Prop:=∀v τ G Q,g v τ G Q->g v τ G fun τ2 G2=>Q τ2 G2/\τ2.length=τ.length/\∀i:Nat,mask[i]? ≠some true->τ2[i]? =τ[i]?
def kVs (mask:List Bool) (g:TGs3):Prop:=∀v τ G Q,g v τ G Q->g v τ G fun τ2 G2=>Q τ2 G2/\τ2.length=τ.length/\∀i:Nat,mask[i]? ≠some true->τ2[i]? =τ[i]?
theorem jJ8 {mask:List Bool} {i:Nat} (h:mask[i]? =some true:=by rfl):kQm mask (jJe i):=fun v τ G Q q=>
 ⟨q,lVr ..,fun j hj=>lQr (by rintro rfl;exact hj h)⟩
theorem qUm {mask:List Bool}:kVs mask gNil:=fun v τ G Q ⟨e,q⟩=>⟨e,q,rfl,fun _ _=>rfl⟩
theorem kKb {mask:List Bool} {t:TG3} {u:TGs3} (h1:kQm mask t) (mono:∀v τ G Q Q',(∀a b,Q a b->Q' a b)->t v τ G Q->t v τ G Q') (h2:kVs mask u) (mono2:∀v τ G Q Q',(∀a b,Q a b->Q' a b)->u v τ G Q->u v τ G Q'):kVs mask (jJu t u):=fun vs τ G Q ⟨v,r,e,q⟩=>by
 refine⟨v,r,e,mono _ _ _ _ _ (fun τ2 G2 ⟨z,l1,k1⟩=> ?_) (h1 _ _ _ _ q)⟩
 exact mono2 _ _ _ _ _ (fun τ3 G3 ⟨z3,l3,k3⟩=>⟨z3,l3.trans l1,fun i hi=>(k3 i hi).trans (k1 i hi)⟩) (h2 _ _ _ _ z)
theorem jXo {i:Nat}:∀v τ G (Q Q':St3->Gp->Prop),(∀a b,Q a b->Q' a b)->jJe i v τ G Q->jJe i v τ G Q':=fun _ _ _ _ _ h q=>h _ _ q
theorem kVi:∀v τ G (Q Q':St3->Gp->Prop),(∀a b,Q a b->Q' a b)->gNil v τ G Q->gNil v τ G Q':=fun _ _ _ _ _ h q=>⟨q.1,h _ _ q.2⟩
theorem kZx {t:TG3} {u:TGs3} (m1:∀v τ G (Q Q':St3->Gp->Prop),(∀a b,Q a b->Q' a b)->t v τ G Q->t v τ G Q') (m2:∀v τ G (Q Q':St3->Gp->Prop),(∀a b,Q a b->Q' a b)->u v τ G Q->u v τ G Q'):
  ∀v τ G (Q Q':St3->Gp->Prop),(∀a b,Q a b->Q' a b)->jJu t u v τ G Q->jJu t u v τ G Q':=fun _ _ _ _ _ h ⟨v,r,e,q⟩=>⟨v,r,e,m1 _ _ _ _ _ (fun _ _ z=>m2 _ _ _ _ _ h z) q⟩
theorem qUl {mask:List Bool} {n:Nat} {u:TGs3} (h:kVs mask u):kQm mask (gTup n u):=fun v τ G Q ⟨xs,e,l,q⟩=>⟨xs,e,l,h _ _ _ _ q⟩
theorem kU9 {mask:List Bool} {τ τ2:St3} (hl:mask.length=τ.length) (l:τ2.length=(msk mask τ).length) (h:∀i:Nat,mask[i]? ≠some true->τ2[i]? =(msk mask τ)[i]?):msk mask τ2=msk mask τ:=by
 have ll:=jUi hl
 apply lVo
 intro i
 unfold msk at h ⊢
 rw[lXs,lXs]
 cases hm:mask[i]? with
 | none=>rfl
 | some b=>
  cases b with
  | true=>
   have h1:i<mask.length:=by
    rcases lV6 i mask.length with z | z
    ·exact z
    ·rw[lKq z] at hm;cases hm
   have h2:i<τ2.length:=by omega
   have h3:i<τ.length:=by omega
   rw[lJo h2,lJo h3]
   simp
  | false=>
   have:=h i (by rw[hm];simp)
   rw[lXs,hm] at this
   rw[this]
   cases τ[i]? with
   | none=>rfl
   | some o=>simp
def kJf (mask:List Bool) (g:TG3) (tif:TT3) (te:TE3) (τ:St3) (xs:List T) (stay:Gp->Prop) (G:Gp) (Q:VK3):Prop:=
 ∀D,G D=none->∃P:Nat->List T->Gp->Prop,P 0 [] (gup G D (.lst []))/\(∀i acc G,i<=xs.length->P i acc G->stay G/\G D=some (.lst acc))/\
  (∀i x acc G,xs[i]? =some x->P i acc G->g x (msk mask τ) G fun τ2 G2=>tif τ2 G2 fun b G3=>if b=true then te τ2 G3 fun y G4=>G4 D=some (.lst acc)/\acc.length<sizeLine/\P (i+1) (acc++[y]) (gup G4 D (.lst (acc++[y]))) else P (i+1) acc G3)/\
  ∀acc G,P xs.length acc G->Q (.ref D) G
def jKf (mask:List Bool) (wi:TI3) (g:TG3) (tif:TT3) (te:TE3):TE3:=fun τ G Q=>wi τ G fun xs stay G1=>kJf mask g tif te τ xs stay G1 Q
section
variable {X:Cx} {scope:Scope} {cl:List (Str×Addr)} {mask:List Bool} {elt iter tg:Expr} {ifs:List Expr} {pos:Pos} {wi:TI3} {g:TG3} {tif:TT3} {te:TE3}
theorem jZ6 (hc:X.calm=true) (ok:CmpOk X scope cl mask)
  (hgk:kQm mask g) (hg:∀C fp s H,PG3 (jQ9 X scope cl C fp s H) tg g) (hif:∀C fp s H,PIf3 (jQ9 X scope cl C fp s H) ifs tif) (he:∀C fp s H,PE3 (jQ9 X scope cl C fp s H) elt te)
  {pins:List (Addr×Obj)} {τ:St3} {H:Hp} {Q:VK3} {itv:Value} {s2:Shared} {E:Value->Shared->Prop} {RR:Value->Addr->Result->Shared->Prop}
  (h2:PIE3 X pins τ H tg (fun xs stay G=>kJf mask g tif te τ xs stay G Q) itv s2)
  (hRR:∀D C s' m,s'.heap.Ns C m->(∃G1 H1,Ext H H1/\H1 C=none/\Q (.ref D) G1/\∀h',Heap.SameBut C s'.heap h'->Inv3 X pins τ G1 H1 {s' with heap:=h'})->(∃oC,s'.heap.get? C=some oC/\C≠X.env.locals/\C∉X.fs/\∀v,oC.data≠ .cell v)->(∀x c,X.env.cells.lookup x=some c->c≠C)->(∀p∈X.pn++pins,p.1≠C)->X.s₀.heap.objs.size<=C->RR (.ref D) C (.ok .next) s'):
  wpAny (model X.prog X.w) X.A (newList []) (fun acc s₃=>wpAny (model X.prog X.w) X.A (newFunctionEnv scope X.env.globals cl [] X.env.qual none .none (some X.env)) (fun cenv s₄=>
   codeAny (model X.prog X.w) X.A (.compStart (.ListComp elt [⟨tg,iter,ifs,0⟩] scope pos) 0 itv acc {cenv with scope:=relabel scope X.env}) (RR acc cenv.locals) s₄) E s₃) E s2:=by
 obtain⟨it,fp,tn,J,xs,stay,G2,H2,e,eH,⟨σ,I2,hs2,hg2⟩,T0,st2,f2,IT,hq⟩:=h2
 subst e
 refine lK9 (wpAny_newFunctionEnv ok.nc (by intro y hy;simp at hy) (fun h4 hns hsb=> ?_) ok.kind)
 dsimp only at hns hsb ⊢
 have hD:H2 s2.heap.objs.size=none:=I2.hok.fresh (lJg _)
 generalize hs3:({s2 with heap:=s2.heap.push {cls:= .type "list",dict:=none,data:= .seq ([]:List Value).toArray} }:Shared)=s3
 have eh3:s2.heap.push {cls:= .type "list",dict:=none,data:= .seq ([]:List Value).toArray}=s3.heap:=by rw[<-hs3]
 have I3:Inv X pins σ (upd H2 s2.heap.objs.size (.lst [])) s3:=by
  rw[<-hs3]
  exact I2.laid (t':=s2.toks) (fun b u e=>lJm _ e) (lJg _) ⟨lJu _,[],0,.nil,lJ6 _ rfl⟩
 rw[eh3] at hns hsb ⊢
 generalize hDd:s2.heap.objs.size=D at *
 have e3:Ext H2 (upd H2 D (.lst [])):= .upd (.none hD)
 have hg3:GRel X.K (upd H2 D (.lst [])) (gup G2 D (.lst [])):=hg2.lstNew (show Reps X.K H2 [] [] from rfl) (.none hD)
 have obj2:∀b∈fp,∃o,s2.heap.get? b=some o:=fun b hb=>let ⟨o,e,_⟩:=T0.obj 0 _ st2 b hb;⟨o,e⟩
 have fD:∀b∈fp,b≠D:=fun b hb=>by obtain⟨o,e⟩:=obj2 b hb;rw[<-hDd];exact lJr (lJj e)
 have f3:∀b∈fp,FpOk X pins (upd H2 D (.lst [])) b:=fun b hb=>⟨by rw[jJ2 (fD b hb)];exact (f2 b hb).1,(f2 b hb).2⟩
 have k3:∀b o,s2.heap.get? b=some o->s3.heap.get? b=some o:=fun b o e=>by rw[<-eh3];exact lJm _ e
 have obj3:∀b∈fp,∃o,s3.heap.get? b=some o:=fun b hb=>let ⟨o,e⟩:=obj2 b hb;⟨o,k3 b o e⟩
 have k4:∀b o,s3.heap.get? b=some o->h4.get? b=some o:=fun b o e=>hsb.extBut b o (lJr (lJj e)) (lJm _ e)
 have Ic:Inv (jQ9 X scope cl s3.heap.objs.size fp s3 (upd H2 D (.lst []))) [] (msk mask σ) (upd H2 D (.lst [])) {s3 with heap:=h4,toks:=s3.toks+([]:List (Str×Value)).length}:=qJg ok I3 f3 obj3 hns k4
 have st4:tn 0 h4:=T0.keep _ _ _ st2 fun b _ o e=>k4 b o (k3 b o e)
 have hl3:mask.length=τ.length:=ok.len.trans (I3.len.symm.trans hs2.1)
 obtain⟨P,p0,hst,turn,fin⟩:=hq D (hg2.fresh hD)
 have fpc:∀ {H':Hp} {pl:List (Addr×Obj)},(∀b∈fp,H' b=none)->(∀p∈pl,p.1∉fp)->∀b∈fp,FpOk (jQ9 X scope cl s3.heap.objs.size fp s3 (upd H2 D (.lst []))) pl H' b:=fun {H' pl} hn hp b hb=>by
  obtain⟨o,e⟩:=obj3 b hb
  refine⟨hn b hb,lJr (lJj e),?_,.inl hb,fun x d hd=>(f3 b hb).2.2.2.2.1 x d (jU9 ok.cl (by simp) _ _ hd),fun p hpp z=> ?_⟩
  ·intro z
   rcases lJk.mp (I3.stkSub b z) with q | q
   ·exact (f3 b hb).2.1 q
   ·exact (f3 b hb).2.2.1 q
  ·have hpp':p∈pl:=by simpa[jQ9] using hpp
   exact hp p hpp' (z▸hb)
 have loop:∀s4:Shared,s4={s3 with heap:=h4,toks:=s3.toks+([]:List (Str×Value)).length}->
   codeAny (model X.prog X.w) X.A (.compLoop (.ListComp elt [⟨tg,iter,ifs,0⟩] scope pos) 0 (.ref it) (.ref D) (compEnvC scope cl s3.heap.objs.size X.env)) (RR (.ref D) s3.heap.objs.size) s4:=by
  rintro s4 rfl
  refine kQc (fun n s'=>∃i acc G' H',n=xs.length-i/\i<=xs.length/\Ext H2 H'/\Inv3 (jQ9 X scope cl s3.heap.objs.size fp s3 (upd H2 D (.lst []))) [] (msk mask τ) G' H' s'/\tn i s'.heap/\(∀b∈fp,H' b=none)/\P i acc G') ?_ xs.length
   ⟨0,[],_,_,rfl,lJu _,e3,⟨_,Ic,kJ3 (hs2.mono e3) hl3,hg3⟩,st4,fun b hb=>(f3 b hb).1,p0⟩
  rintro n s5 ⟨i,acc,G5,H5,en,hi5,e5,⟨σ5,I5,hs5,hg5⟩,st5,fr5,p5⟩
  obtain⟨hstay,hacc⟩:=hst i acc G5 hi5 p5
  obtain⟨go,stop,yl⟩:=IT i H5 G5 e5 hg5 hstay
  by_cases hlt:i<xs.length
  ·refine thn (T0.item (jQ9 X scope cl s3.heap.objs.size fp s3 (upd H2 D (.lst []))) rfl rfl rfl hc i [] s5 σ5 H5 (fun _ _=>False) I5 (fpc fr5 (by simp)) st5 (go hlt)) fun r s6 ⟨u,hr,h6⟩=> ?_
   subst hr
   refine thn h6 fun _ s7 ⟨x,H7,I7,r7,y7,st7,fr7⟩=> ?_
   obtain⟨e7,g7,t,ht,rt⟩:=yl hlt x H7 y7
   have I7':=I7.pinned (fpc fr7 (by simp)) (T0.obj _ _ st7)
   refine thn (hg _ _ _ _ ([]++jQm fp s7.heap) s7 (msk mask τ) G5 H7 t u _ ⟨σ5,I7',hs5.mono e7,g7⟩ ⟨x,rt,r7⟩ (hgk _ _ _ _ (turn i t acc G5 ht p5))) fun _ s8 ⟨τ8,G8,H8,e8,I8,q8,ql8,qk8⟩=> ?_
   refine thn (hif _ _ _ _ ([]++jQm fp s7.heap) s8 τ8 G8 H8 _ I8 q8) fun b s9 ⟨G9,H9,e9,I9,q9⟩=> ?_
   have back:∀ {Ga:Gp} {Ha:Hp} {sa:Shared} {acc':List T},Ext H7 Ha->Inv3 (jQ9 X scope cl s3.heap.objs.size fp s3 (upd H2 D (.lst []))) ([]++jQm fp s7.heap) τ8 Ga Ha sa->P (i+1) acc' Ga->
     ∃m,m<n/\∃i acc G' H',m=xs.length-i/\i<=xs.length/\Ext H2 H'/\Inv3 (jQ9 X scope cl s3.heap.objs.size fp s3 (upd H2 D (.lst []))) [] (msk mask τ) G' H' sa/\tn i sa.heap/\(∀b∈fp,H' b=none)/\P i acc G':=by
    rintro Ga Ha sa acc' ea ⟨σa,Ia,hsa,hga⟩ pa
    have e2a:Ext H5 Ha:=e7.trans ea
    have hla:mask.length=τ8.length:=by rw[ql8,jUi hl3];exact hl3
    have hsm:=kJ3 (mask:=mask) hsa hla
    rw[kU9 hl3 ql8 qk8] at hsm
    refine⟨xs.length-(i+1),by omega,i+1,acc',Ga,Ha,rfl,hlt,e5.trans e2a,⟨msk mask σa,(Ia.weak (jUi (hla.trans hsa.1.symm)) fun j v hv=>(jY3 hv).2).pins_of (fun p hp=>absurd hp (by simp)),hsm,hga⟩,?_,fun b hb=> ?_,pa⟩
    ·exact T0.keep _ _ _ st7 fun b hb o e=>(Ia.pin (b,o) (lJ0 _ (lJ0 _ (jQg hb e)))).1
    ·obtain⟨o,e,d⟩:=T0.obj _ _ st7 b hb
     exact (Ia.pin (b,o) (lJ0 _ (lJ0 _ (jQg hb e)))).2.1
   cases b with
   | false=>
    rw[lJb lJp] at q9 ⊢
    exact back (e8.trans e9) I9 q9
   | true=>
    rw[lJc rfl] at q9 ⊢
    refine thn (he _ _ _ _ ([]++jQm fp s7.heap) s9 τ8 G9 H9 _ I9 q9) fun y s10 w_=>w_.el fun ty G10 H10 e10 I10 r10 ⟨hD10,hz10,q10⟩=> ?_
    obtain⟨vy,rvy,ruy⟩:=r10
    refine thn (jKd ([]++jQm fp s7.heap) s10 τ8 G10 H10 (.ref D) [ty] (.ref D) [y] (fun _ G'=>P (i+1) (acc++[ty]) G') I10 ⟨.ref D,rfl,rfl⟩ ⟨[vy],.one rvy,.cons ruy .nil⟩ ⟨D,acc,ty,rfl,rfl,hD10,hz10,q10⟩) fun _ s11 w_=>w_.el fun _ G11 H11 e11 I11 _ q11=> ?_
    exact back (((e8.trans e9).trans e10).trans e11) I11 q11
  ·have ei:i=xs.length:=by omega
   refine thn (T0.done (jQ9 X scope cl s3.heap.objs.size fp s3 (upd H2 D (.lst []))) rfl rfl rfl hc i [] s5 σ5 H5 (fun _ _=>False) I5 (fpc fr5 (by simp)) st5 (stop (by omega))) fun r s6 ⟨hr,I6⟩=> ?_
   subst hr;subst ei
   obtain⟨m,hn,_⟩:=I6.loc
   obtain⟨oC,es,ep,hoC,hdC,_⟩:=id hn
   refine hRR D s3.heap.objs.size s6 m hn ⟨G5,H5,eH.trans e5,I6.free,fin acc G5 p5,fun h' hb=>⟨σ,qXr I3 f3 (lJg _) I6 hb,hs2.mono e5,hg5⟩⟩
    ⟨oC,hoC,lK4 I3.lt,I3.nofs (lJg _),fun v z=>by rw[hdC] at z;cases z⟩ (fun x d hd=> ?_) (fun p hp=> ?_) I3.sz
   ·obtain⟨v,q⟩:=I3.cell x d hd
    exact lJr q.lt
   ·exact lJr (lJj (I3.pin p hp).1)
 exact codeAny_compStart_list (loop _ (by rw[<-hs3])) (T0.self _ 0 _ _ _ st4 (loop _ (by rw[<-hs3])))
theorem jQp (hc:X.calm=true) (ok:CmpOk X scope cl mask) (hi:PI3 X tg iter wi) (hgk:kQm mask g) (hg:∀C fp s H,PG3 (jQ9 X scope cl C fp s H) tg g) (hif:∀C fp s H,PIf3 (jQ9 X scope cl C fp s H) ifs tif) (he:∀C fp s H,PE3 (jQ9 X scope cl C fp s H) elt te)
  (hs:∀x,foldedSetIterable iter X.env x=pure x:=by intro _;rfl):PE3 X (.ListComp elt [⟨tg,iter,ifs,0⟩] scope pos) (jKf mask wi g tif te):=by
 intro pins s τ G H Q I h
 rw[eval_ListComp]
 refine lYu (use:=none) rfl hs (jXr ok.cl) ok.kind ok.nm (thn (hi pins s τ G H _ I h) fun xv s1 h1=>thn h1 fun itv s2 h2=> ?_)
 refine jZ6 (RR:=fun acc C=>compPost (model X.prog X.w) X.A X.xe none (EP3 X pins τ H Q) acc C) hc ok hgk hg hif he h2 ?_
 rintro D C s' m hn ⟨G1,H1,e1,_,q1,hI⟩ _ _ _ _
 exact⟨m,hn,fun h' hb=>⟨.ref D,G1,H1,e1,hI h' hb,⟨.ref D,rfl,rfl⟩,q1⟩⟩
theorem kYc {i:Nat} {y:Str} {py spos:Pos} (hc:X.calm=true) (hN:X.N.Nodup) (ok:CmpOk X scope cl mask) (hi:PI3 X tg iter wi) (hgk:kQm mask g) (hg:∀C fp s H,PG3 (jQ9 X scope cl C fp s H) tg g) (hif:∀C fp s H,PIf3 (jQ9 X scope cl C fp s H) ifs tif) (he:∀C fp s H,PE3 (jQ9 X scope cl C fp s H) elt te)
  (hy:X.N[i]? =some y:=by rfl) (hx:X.env.scope.names.lookup y=some .local:=by rfl)
  (hsw:swapsWith (.ListComp elt [⟨tg,iter,ifs,0⟩] scope pos) (some (.Name y py)) spos.line X.env=pure true:=by rfl)
  (hs:∀x,foldedSetIterable iter X.env x=pure x:=by intro _;rfl):PS3 X (.Assign [.Name y py] (.ListComp elt [⟨tg,iter,ifs,0⟩] scope pos) spos) (tAsg (jKf mask wi g tif te) (jJe i)):=by
 intro pins s τ G H D I h
 rw[exec_Assign_Name_used _ _ _ _ hsw];refine lJa (wpAny_standAt (lJa ?_))
 show wpAny _ X.A (do let _ <-comprehension (.ListComp elt [⟨tg,iter,ifs,0⟩] scope pos) scope X.env _ (newList []) false (eval iter X.env) (some (assign (.Name y py) X.env))) _ _ s
 refine lJa (lQn (lYu (use:=some (assign (.Name y py) X.env)) (Q:=fun _ s'=>SP3 X pins H D .next s') rfl hs (jXr ok.cl) ok.kind ok.nm
  (thn (hi pins s τ G H _ I h) fun xv s1 h1=>thn h1 fun itv s2 h2=> ?_)) (fun _ s' hq=>lJd (lJd hq)) fun _ _ e=>e)
 refine jZ6 (RR:=fun acc C=>compPost (model X.prog X.w) X.A X.xe (some (assign (.Name y py) X.env)) (fun _ s'=>SP3 X pins H D .next s') acc C) hc ok hgk hg hif he h2 ?_
 rintro Dd C s' m hn ⟨G1,H1,e1,hH1C,q1,hI⟩ ⟨oC,hoC,c1,c2,c3⟩ c4 c5 c6
 show wpAny _ X.A (assign (.Name y py) X.env (.ref Dd)) _ _ _
 obtain⟨σ1,I1,hs1,hg1⟩:=hI s'.heap (.refl ..)
 have I1':Inv X (pins++[(C,oC)]) σ1 H1 s':=I1.pins_of fun p hp=>(lJt.mp hp).elim (fun z=>I1.pin p (lJ0 _ z)) fun z=>by
  obtain rfl:p=(C,oC):=by simpa using z
  exact⟨hoC,hH1C,c1,c2,c3⟩
 refine wpAny_assign_Name (jVu I1' hN hy (.inl hx) (v:= .ref Dd) rfl (fun s2 I2=> ?_) (.inr hx))
 have hC2:s2.heap.get? C=some oC:=(I2.pin (C,oC) (lJ0 _ (lJ0 _ (by simp)))).1
 obtain⟨oC',es,ep,hoC',r⟩:=hn
 have eo:oC'=oC:=by rw[hoC] at hoC';exact (lJw hoC').symm
 subst eo
 refine⟨m,⟨oC',es,ep,hC2,r⟩,fun h' hb=>⟨_,G1,H1,e1,⟨_,?_,hs1.set i (show Rep X.K H1 (.ref Dd) (.ref Dd) from rfl),hg1⟩,q1⟩⟩
 exact I2.unpinned.turned (t':=s2.toks) (fun b o hb' e=>(hb.2 b hb').trans e) hH1C c1 (.inr c6) c4 c5
end
end L3
namespace HT
open PySem PyProof.Rows
def lexLe:(xs ys:List Int)->Bool
 | [],_=>true
 | _::_,[]=>false
 | x::xs,y::ys=>if x=y then lexLe xs ys else decide (x<=y)
theorem lexLe_cons (x y:Int) (xs ys:List Int):lexLe (x::xs) (y::ys)=if x=y then lexLe xs ys else decide (x<=y):=rfl
theorem lexLe_nil (ys:List Int):lexLe [] ys=true:=by cases ys<;>rfl
theorem jZm (x:Int) (xs:List Int):lexLe (x::xs) []=false:=rfl
theorem qKf (A:Around) (s:Shared) (a:Int) (t:Tok) (c:Int) (u:Tok) (prog:Program) (w:World) (E:Value->Shared->Prop) (Q:Value->Shared->Prop) (h:Q (.bool (decide (a<=c))) s):
  wpAny (model prog w) A (richCompare .LtE (.int a t) (.int c u)) Q E s:=
 (PyProof.Rows.le_int h:wpAny (model prog w) A (compareOp .LtE (.int a t) (.int c u)) Q E s)
section
open PySem.SeqAt
open PySem.AutoSeq1 (wpAny_loadPart')
open PySem.MeetsSeq PySem.MeetsSeq2 PySem.MeetsSeq3
theorem kJd (l b:Addr) (items items2:Array Value) (n n2:Nat) (dd dd2:Option Addr) (sl sl2:Array (Option Value)) (ns ms:List Int) (hi:IntsAre items.toList ns) (hj:IntsAre items2.toList ms):
  Meets (Builtin.«tuple.__le__» ⟨[.ref l,.ref b],[]⟩)
   (fun _ R s=>s.heap.get? l=some {cls:= .type "tuple",dict:=dd,data:= .seq items n,slots:=sl}/\s.heap.get? b=some {cls:= .type "tuple",dict:=dd2,data:= .seq items2 n2,slots:=sl2}/\
    R (.ok (.ret (.bool (lexLe ns ms)))) s):=
 .of_wp fun prog w A R s h=>by
  obtain⟨hp,g,d,tk,os⟩:=s;obtain⟨hl,hb,h⟩:=h
  have f2:=AutoSeq1.sub_tuple_tuple
  have z1:items.size=ns.length:=by rw[<-hi.length];simp
  have z2:items2.size=ms.length:=by rw[<-hj.length];simp
  wp_walk using wpAny_loadPart' hl,wpAny_loadPart' hb,wpAny_forIn_list _ (fun rest b s'=>b.1=none/\s'=⟨hp,g,d,tk,os⟩/\∃(vs ws:List Value) (ns' ms':List Int),rest=vs.zip ws/\
   IntsAre vs ns'/\IntsAre ws ms'/\ns'.length+items2.size=ms'.length+items.size/\R (.ok (.ret (.bool (lexLe ns' ms')))) ⟨hp,g,d,tk,os⟩) _
  case turn=>
   rintro⟨y,x⟩ rest b s' ⟨hb',rfl,vs,ws,ns',ms',hz,hvi,hwi,hlen,hR⟩
   cases hvi with
   | nil=>rw[List.zip_nil_left] at hz;cases hz
   | cons a t hvi'=>
    cases hwi with
    | nil=>rw[List.zip_nil_right] at hz;cases hz
    | cons c u hwi'=>
     rw[lVt] at hz
     injection hz with hyx hrest
     injection hyx with hy hx
     subst hy hx
     rw[lexLe_cons] at hR
     simp only[lKl] at hlen
     obtain⟨e,he,hiff⟩:=qQp A.in1 ⟨hp,g,d,tk,os⟩ a t c u
     refine lJa (he prog w _ _ ?_)
     cases e with
     | true=>
      rw[lJc (hiff.mp rfl)] at hR
      wp_walk
      exact⟨rfl,rfl,_,_,_,_,hrest,hvi',hwi',by omega,hR⟩
     | false=>
      rw[lJb (fun q=>absurd (hiff.mpr q) lJp)] at hR
      have hri:=qKf A.in1 ⟨hp,g,d,tk,os⟩ a t c u prog w
      wp_walk using hri
      exact⟨_,rfl,by simpa using hR⟩
  case fin=>
   rintro⟨b1,b2⟩ s' ⟨hb',rfl,vs,ws,ns',ms',hz,hvi,hwi,hlen,hR⟩
   simp only at hb'
   subst hb'
   have hv:lexLe ns' ms'=decide (items.size<=items2.size):=by
    cases hvi with
    | nil=>
     simp only[lQg] at hlen
     rw[lexLe_nil]
     exact (lJ1 (by omega)).symm
    | cons a t hv=>
     cases hwi with
     | nil=>
      simp only[lQg,lKl] at hlen
      rw[jZm]
      exact (lJq (by omega)).symm
     | cons c u hw=>
      rw[lVt] at hz
      cases hz
   rw[hv] at hR
   wp_walk
   exact⟨_,rfl,by simpa[Builtin.Tuple.tupleCompareSizes] using hR⟩
  case h=>
   exact⟨rfl,rfl,items.toList,items2.toList,ns,ms,rfl,hi,hj,by omega,h⟩
end
theorem le_tupInts {prog:Program} {w:World} {A:Around} {E:Value->Shared->Prop} {s:Shared} {l b:Addr} {items items2:Array Value} {ns ms:List Int} {Q:Value->Shared->Prop} (hl:IsTup s.heap l items) (hb:IsTup s.heap b items2) (hi:IntsAre items.toList ns) (hj:IntsAre items2.toList ms)
  (hu:A.units<cLine) (h:Q (.bool (lexLe ns ms)) s):wpAny (model prog w) A (compareOp .LtE (.ref l) (.ref b)) Q E s:=by
 obtain⟨⟨cls,dd,data,sl⟩,ho,hc,n,hd⟩:=id hl
 obtain⟨⟨cls2,dd2,data2,sl2⟩,ho2,hc2,n2,hd2⟩:=id hb
 simp only at hc hd hc2 hd2
 subst hc hd hc2 hd2
 exact richCompare_meets_room (op:= .LtE) ⟨_,ho,rfl⟩ ⟨_,ho2,rfl⟩ PySem.F.slot_tuple_le PySem.F.entry_tuple_le (PySem.F.args_tuple_le_2 _ _) (kJd l b items items2 n n2 dd dd2 sl sl2 ns ms hi hj)
  ⟨ho,ho2,show Value.bool (lexLe ns ms)≠Value.notImplemented/\Q (.bool (lexLe ns ms)) s from⟨(fun x=>nomatch x),h⟩⟩ hu
end HT
namespace L3
open PySem PySem.Spec PyProof.Rows L2
section
variable {X:Cx}
theorem jQl {K:PySem.W.Frag} {H:Hp}:∀ {ns:List Int} {vs:List V},Reps K H (ns.map T.int) vs->vs=ns.map V.int
 | [],_,h=>h
 | n::ns,_,⟨v,ws,e,r,rs⟩=>by
  subst e;cases (show v= .int n from r)
  rw[jQl rs];rfl
def rLeT:R3:=fun x y G Q=>∃ns ms,x= .tup (ns.map T.int)/\y= .tup (ms.map T.int)/\Q (.bl (HT.lexLe ns ms)) G
theorem o_leT (hu:X.A.units<cLine):Op3 X (compareOp .LtE) rLeT:=by
 rintro pins s τ G H x y v u Q ⟨σ,I,hs,hg⟩ ⟨a,ra,rv⟩ ⟨b,rb,ru⟩ ⟨ns,ms,ex,ey,q⟩
 subst ex;subst ey
 obtain⟨p,vs,e1,h1,h2⟩:=(show ∃p vs,a= .ref p/\H p=some (.tup vs)/\Reps X.K H (ns.map T.int) vs from ra)
 obtain⟨p',ws,e2,h3,h4⟩:=(show ∃p vs,b= .ref p/\H p=some (.tup vs)/\Reps X.K H (ms.map T.int) vs from rb)
 subst e1;subst e2
 cases rv;cases ru
 rw[jQl h2] at h1
 rw[jQl h4] at h3
 obtain⟨its,r1,p1,_⟩:=I.tuple (.of h1)
 obtain⟨its2,r2,p2,_⟩:=I.tuple (.of h3)
 exact HT.le_tupInts p1 p2 (show IntsAre its.toArray.toList ns from jZ3 r1) (show IntsAre its2.toArray.toList ms from jZ3 r2) hu ⟨.bl _,G,H,.refl H,⟨σ,I,hs,hg⟩,⟨.bl _,rfl,rfl⟩,q⟩
def rLeI:R3:=rI0 fun i j=> .bl (decide (i<=j))
def rLeA:R3:=fun x y G Q=>rLeI x y G Q\/rLeT x y G Q
theorem o_leA (hu:X.A.units+20<cLine):Op3 X (compareOp .LtE) rLeA:=o_le.or (o_leT (by omega))
theorem kZ4 {G:Gp} {x y:T} {b:Bool} (h:eqG G x y=some b):
  (∃p q xs ys,x= .ref p/\y= .ref q/\G p=some (.lst xs)/\G q=some (.lst ys)/\jX3 xs=true/\jX3 ys=true/\b=eqTs xs ys)\/(eqOk x=true/\eqOk y=true/\b=eqT x y):=by
 by_cases hr:∃p q,x= .ref p/\y= .ref q
 ·obtain⟨p,q,ex,ey⟩:=hr
  subst ex;subst ey
  refine .inl ?_
  simp only[eqG] at h
  split at h
  ·rename_i xs ys h1 h2
   split at h
   ·rename_i hc
    cases h
    exact⟨p,q,xs,ys,rfl,rfl,h1,h2,hc.1,hc.2,rfl⟩
   ·cases h
  ·cases h
 ·refine .inr ?_
  have e:eqG G x y=if eqOk x=true/\eqOk y=true then some (eqT x y) else none:=by
   cases x with
   | ref p=>cases y with
    | ref q=>exact absurd ⟨p,q,rfl,rfl⟩ hr
    | _=>rfl
   | _=>rfl
  rw[e] at h
  split at h
  ·rename_i hc
   cases h
   exact⟨hc.1,hc.2,rfl⟩
  ·cases h
mutual
theorem kJn {X:Cx} {pins:List (Addr×Obj)} {σ:L2.St} {H:Hp} {s:Shared} (I:Inv X pins σ H s):∀(x:T) {a:V} {u:Value},tree x=true->Rep X.K H x a->RelV a u->∃as,Reads s.heap u (td x) as
 | .non,a,u,_,r,q=>by cases (show a= .non from r);cases q;exact⟨_,.none⟩
 | .bl b,a,u,_,r,q=>by cases (show a= .bl b from r);cases q;exact⟨_,.bool b⟩
 | .int b,a,u,_,r,q=>by cases (show a= .int b from r);obtain⟨t,rfl⟩:=q;exact⟨_,.int b t⟩
 | .str b,a,u,_,r,q=>by cases (show a= .str b from r);obtain⟨t,rfl⟩:=q;exact⟨_,.str b t⟩
 | .tup xs,a,u,ht,r,q=>by
  obtain⟨p,vs,e1,h1,h2⟩:=(show ∃p vs,a= .ref p/\H p=some (.tup vs)/\Reps X.K H xs vs from r)
  subst e1;cases q
  obtain⟨its,rv,⟨o,ho,hc,n,hd⟩,_⟩:=I.tuple (.of h1)
  obtain⟨as,ra⟩:=jVy I xs (show jK6 xs=true from ht) h2 rv
  exact⟨_,.tuple ho hc hd (by simpa using ra)⟩
 | .ref _,_,_,ht,_,_=>absurd (show false=true from ht) lJp
 | .scr _,_,_,ht,_,_=>absurd (show false=true from ht) lJp
 | .ty _,_,_,ht,_,_=>absurd (show false=true from ht) lJp
theorem jVy {X:Cx} {pins:List (Addr×Obj)} {σ:L2.St} {H:Hp} {s:Shared} (I:Inv X pins σ H s):∀(xs:List T) {vs:List V} {us:List Value},jK6 xs=true->Reps X.K H xs vs->Vals vs us->∃as,ReadsAll s.heap us (tds xs) as
 | [],_,_,_,r,q=>by cases r;cases q;exact⟨_,.nil⟩
 | x::xs,_,_,ht,⟨v,ws,e,r1,r2⟩,q=>by
  subst e
  cases q with
  | cons q1 q2=>
   have hx:tree x=true/\jK6 xs=true:=by simpa[jK6] using ht
   obtain⟨as,ra⟩:=kJn I x hx.1 r1 q1
   obtain⟨bs,rb⟩:=jVy I xs hx.2 r2 q2
   exact⟨_,.cons ra rb⟩
end
mutual
theorem eqv_T:∀(x y:T),tree x=true->tree y=true->PyData.eqv (td x) (td y)=eqT x y
 | .non,y,_,hy=>by cases y<;>first | rfl | exact absurd (show false=true from hy) lJp
 | .bl b,y,_,hy=>by cases y<;>first | rfl | exact absurd (show false=true from hy) lJp
 | .int b,y,_,hy=>by cases y<;>first | rfl | exact absurd (show false=true from hy) lJp
 | .str b,y,_,hy=>by cases y<;>first | rfl | exact absurd (show false=true from hy) lJp
 | .tup xs,y,hx,hy=>by
  cases y with
  | tup ys=>exact kZ2 xs ys (show jK6 xs=true from hx) (show jK6 ys=true from hy)
  | _=>first | rfl | exact absurd (show false=true from hy) lJp
 | .ref _,_,ht,_=>absurd (show false=true from ht) lJp
 | .scr _,_,ht,_=>absurd (show false=true from ht) lJp
 | .ty _,_,ht,_=>absurd (show false=true from ht) lJp
theorem kZ2:∀(xs ys:List T),jK6 xs=true->jK6 ys=true->PyData.eqvAll (tds xs) (tds ys)=eqTs xs ys
 | [],[],_,_=>rfl
 | [],_::_,_,_=>rfl
 | _::_,[],_,_=>rfl
 | x::xs,y::ys,hx,hy=>by
  have hx':tree x=true/\jK6 xs=true:=by simpa[jK6] using hx
  have hy':tree y=true/\jK6 ys=true:=by simpa[jK6] using hy
  show (PyData.eqv (td x) (td y)&&PyData.eqvAll (tds xs) (tds ys))=(eqT x y&&eqTs xs ys)
  rw[eqv_T x y hx'.1 hy'.1,kZ2 xs ys hx'.2 hy'.2]
end
theorem kVl {pins:List (Addr×Obj)} {σ:L2.St} {H:Hp} {s:Shared} {G:Gp} {x y:T} {a b:V} {u v:Value} {k:Bool} (I:Inv X pins σ H s) (hg:GRel X.K H G) (ra:Rep X.K H x a) (rb:Rep X.K H y b) (ru:RelV a u) (rv:RelV b v) (h:eqG G x y=some k):
  ∃da db as bs,Reads s.heap u da as/\Reads s.heap v db bs/\da.canLay0=true/\db.canLay0=true/\da.depth<=50/\PyData.eqv da db=k:=by
 rcases kZ4 h with ⟨p,q,xs,ys,ex,ey,hp,hq,ox,oy,e⟩ | ⟨ox,oy,e⟩
 ·subst ex;subst ey
  cases (show a= .ref p from ra);cases (show b= .ref q from rb)
  cases ru;cases rv
  obtain⟨vs,h1,h2⟩:=hg.lst hp
  obtain⟨ws,h3,h4⟩:=hg.lst hq
  obtain⟨its,r1,⟨o,n,ho,hc,_,hd⟩,_⟩:=I.list (.of h1)
  obtain⟨its',r2,⟨o',n',ho',hc',_,hd'⟩,_⟩:=I.list (.of h3)
  simp only[jX3,lKs,lKx] at ox oy
  obtain⟨as,r3⟩:=jVy I xs ox.1.1 h2 r1
  obtain⟨bs,r4⟩:=jVy I ys oy.1.1 h4 r2
  exact⟨.list (tds xs),.list (tds ys),_,_,.list ho hc hd (by simpa using r3),.list ho' hc' hd' (by simpa using r4),ox.1.2,oy.1.2,ox.2,by rw[e];exact kZ2 xs ys ox.1.1 oy.1.1⟩
 ·simp only[eqOk,lKs,lKx] at ox oy
  obtain⟨as,r3⟩:=kJn I x ox.1.1 ra ru
  obtain⟨bs,r4⟩:=kJn I y oy.1.1 rb rv
  exact⟨td x,td y,_,_,r3,r4,ox.1.2,oy.1.2,ox.2,by rw[e];exact eqv_T x y ox.1.1 oy.1.1⟩
theorem jUy (hu:X.A.units+64<cLine):Op3 X (compareOp .Eq) rEqA:=by
 rintro pins s τ G H x y v u Q ⟨σ,I,hs,hg⟩ ⟨a,ra,rv⟩ ⟨b,rb,ru⟩ ⟨k,hk,q⟩
 obtain⟨da,db,as,bs,r1,r2,c1,c2,d,e⟩:=kVl I hg ra rb rv ru hk
 exact SeqAt.compareEq_reads r1 r2 c1 c2 (by omega) ⟨.bl k,G,H,.refl H,⟨σ,I,hs,hg⟩,⟨.bl k,rfl,by rw[e];rfl⟩,q⟩
theorem kXd (hu:X.A.units+64<cLine):Op3 X (compareOp .NotEq) rNeA:=by
 rintro pins s τ G H x y v u Q ⟨σ,I,hs,hg⟩ ⟨a,ra,rv⟩ ⟨b,rb,ru⟩ ⟨k,hk,q⟩
 obtain⟨da,db,as,bs,r1,r2,c1,c2,d,e⟩:=kVl I hg ra rb rv ru hk
 exact SeqAt.compareNe_reads r1 r2 c1 c2 (by omega) ⟨.bl (!k),G,H,.refl H,⟨σ,I,hs,hg⟩,⟨.bl (!k),rfl,by rw[e];rfl⟩,q⟩
end
section
variable {X:Cx}
def jZo:T->Bool
 | .non=>true
 | .bl _=>true
 | .int _=>true
 | .str _=>true
 | _=>false
theorem kVk {K:PySem.W.Frag} {H:Hp} {x:T} {a:V} (r:Rep K H x a) (f:jZo x=true):jZn a=true:=by
 cases x with
 | non=>cases (show a= .non from r);rfl
 | bl _=>cases (show a= .bl _ from r);rfl
 | int _=>cases (show a= .int _ from r);rfl
 | str _=>cases (show a= .str _ from r);rfl
 | _=>exact absurd (show false=true from f) lJp
theorem qXb {K:PySem.W.Frag} {H:Hp} {x y:T} {a b:V} (r:Rep K H x a) (q:Rep K H y b) (f:jZo x=true) (g:jZo y=true):eqV a b=eqT x y:=by
 cases x with
 | non=>cases (show a= .non from r);cases y with
  | non=>cases (show b= .non from q);rfl
  | bl _=>cases (show b= .bl _ from q);rfl
  | int _=>cases (show b= .int _ from q);rfl
  | str _=>cases (show b= .str _ from q);rfl
  | _=>exact absurd (show false=true from g) lJp
 | bl _=>cases (show a= .bl _ from r);cases y with
  | non=>cases (show b= .non from q);rfl
  | bl _=>cases (show b= .bl _ from q);rfl
  | int _=>cases (show b= .int _ from q);rfl
  | str _=>cases (show b= .str _ from q);rfl
  | _=>exact absurd (show false=true from g) lJp
 | int _=>cases (show a= .int _ from r);cases y with
  | non=>cases (show b= .non from q);rfl
  | bl _=>cases (show b= .bl _ from q);rfl
  | int _=>cases (show b= .int _ from q);rfl
  | str _=>cases (show b= .str _ from q);rfl
  | _=>exact absurd (show false=true from g) lJp
 | str _=>cases (show a= .str _ from r);cases y with
  | non=>cases (show b= .non from q);rfl
  | bl _=>cases (show b= .bl _ from q);rfl
  | int _=>cases (show b= .int _ from q);rfl
  | str _=>cases (show b= .str _ from q);rfl
  | _=>exact absurd (show false=true from g) lJp
 | _=>exact absurd (show false=true from f) lJp
def inT (x:T) (xs:List T):Bool:=xs.any fun y=>eqT y x
theorem kVj {K:PySem.W.Frag} {H:Hp} {x:T} {a:V} (r:Rep K H x a) (f:jZo x=true):∀ {xs:List T} {vs:List V},Reps K H xs vs->xs.all jZo=true->vs.all jZn=true/\inV a vs=inT x xs
 | [],_,h,_=>by cases h;exact⟨rfl,rfl⟩
 | y::ys,_,⟨v,ws,e,r1,r2⟩,g=>by
  subst e
  rw[lVd,lKs] at g
  obtain⟨h1,h2⟩:=kVj r f r2 g.2
  refine⟨by rw[lVd,kVk r1 g.1,h1];rfl,?_⟩
  unfold inV inT at h2 ⊢
  rw[lQs,lQs,qXb r1 r g.1 f,h2]
def rInF (neg:Bool):R3:=fun x y G Q=>∃xs,seqT G y=some xs/\jZo x=true/\xs.all jZo=true/\Q (.bl (if neg then !inT x xs else inT x xs)) G
theorem qV5 {neg:Bool} {op:CmpOp} (h:OpR X (compareOp op) (L2.rIn X.K neg)):Op3 X (compareOp op) (rInF neg):=
 Op3.of h fun H G x y a b Q hg ra rb ⟨xs,hx,fx,fs,q⟩=>by
  obtain⟨p,vs,e,hq,r⟩:=jUv hg rb hx
  obtain⟨h1,h2⟩:=kVj ra fx r fs
  exact⟨p,vs,e,hq,kVk ra fx,h1,.bl _,G,.refl H,hg,by rw[h2];rfl,q⟩
theorem o_notInF:Op3 X (compareOp .NotIn) (rInF true):=qV5 kKw
def jQ6:T->Option Key
 | .int i=>some (.inl i)
 | .str x=>some (.inr x)
 | _=>none
def allK {K:Type} (f:T->Option K):List T->Option (List K)
 | []=>some []
 | x::xs=>match f x,allK f xs with
  | some k,some ks=>some (k::ks)
  | _,_=>none
def key1:T->Option K1
 | .tup ts=>(allK jQ6 ts).map .inr
 | x=>(jQ6 x).map .inl
def key2:T->Option K2
 | .tup ts=>(allK key1 ts).map .inr
 | x=>(jQ6 x).map .inl
def jQn:List T->Option TKey:=allK key2
theorem jV6 {K:PySem.W.Frag} {H:Hp} {x:T} {a:V} {k:Key} (h:jQ6 x=some k) (r:Rep K H x a):a=kV k:=by
 cases x with
 | int i=>cases h;exact r
 | str i=>cases h;exact r
 | non=>cases h
 | bl _=>cases h
 | tup _=>cases h
 | scr _=>cases h
 | ref _=>cases h
 | ty _=>cases h
theorem jYj {K:PySem.W.Frag} {H:Hp} {κ:Type} {f:T->Option κ} {R:κ->V->Prop} (hf:∀x k a,f x=some k->Rep K H x a->R k a):∀ {xs:List T} {vs:List V} {ks:List κ},allK f xs=some ks->Reps K H xs vs->Paired R ks vs
 | [],_,_,h,r=>by cases h;cases (show _=[] from r);exact .nil
 | x::xs,_,ks,h,⟨v,ws,e,r1,r2⟩=>by
  subst e
  unfold allK at h
  cases e1:f x with
  | none=>rw[e1] at h;cases h
  | some k=>
   cases e2:allK f xs with
   | none=>rw[e1,e2] at h;cases h
   | some ks'=>
    rw[e1,e2] at h;cases h
    exact .cons (hf _ _ _ e1 r1) (jYj hf e2 r2)
theorem qK9 {K:PySem.W.Frag} {H:Hp} (x:T) (k:K1) (a:V) (h:key1 x=some k) (r:Rep K H x a):Rk1 H k a:=by
 cases x with
 | tup ts=>
  obtain⟨ks,h1,rfl⟩:=lQh.mp (show (allK jQ6 ts).map Sum.inr=some k from h)
  obtain⟨p,vs,e,h3,h4⟩:=(show ∃p vs,a= .ref p/\H p=some (.tup vs)/\Reps K H ts vs from r)
  exact⟨p,vs,e,h3,jYj (fun x k a h r=>jV6 h r) h1 h4⟩
 | int i=>cases h;exact r
 | str i=>cases h;exact r
 | non=>cases h
 | bl _=>cases h
 | scr _=>cases h
 | ref _=>cases h
 | ty _=>cases h
theorem qK7 {K:PySem.W.Frag} {H:Hp} (x:T) (k:K2) (a:V) (h:key2 x=some k) (r:Rep K H x a):Rk2 H k a:=by
 cases x with
 | tup ts=>
  obtain⟨ks,h1,rfl⟩:=lQh.mp (show (allK key1 ts).map Sum.inr=some k from h)
  obtain⟨p,vs,e,h3,h4⟩:=(show ∃p vs,a= .ref p/\H p=some (.tup vs)/\Reps K H ts vs from r)
  exact⟨p,vs,e,h3,jYj qK9 h1 h4⟩
 | int i=>cases h;exact r
 | str i=>cases h;exact r
 | non=>cases h
 | bl _=>cases h
 | scr _=>cases h
 | ref _=>cases h
 | ty _=>cases h
theorem jU7 {K:PySem.W.Frag} {H:Hp} {xs:List T} {vs:List V} {ks:TKey} {p:Addr} (h:jQn xs=some ks) (e:H p=some (.tup vs)) (r:Reps K H xs vs):TKeyAt H ks p:=⟨vs,e,jYj qK7 h r⟩
def valT {κ:Type} [DecidableEq κ] (kvs:List (κ×T)) (k:κ):Option T:=(kvs.find? fun kv=>decide (kv.1=k)).map (·.2)
noncomputable def putT {κ:Type} [DecidableEq κ] (kvs:List (κ×T)) (k:κ) (v:T):List (κ×T):=
 if (kvs.any fun kv=>decide (kv.1=k))=true then kvs.map (fun kv=>if kv.1=k then (kv.1,v) else kv) else kvs++[(k,v)]
theorem PKV.val {κ:Type} [DecidableEq κ] {K:PySem.W.Frag} {H:Hp} {kvs:List (κ×T)} {ws:List (κ×V)} (r:PKV K H kvs ws) (k:κ):(∀t,valT kvs k=some t->∃v,valV ws k=some v/\Rep K H t v)/\(valT kvs k).isSome=(valV ws k).isSome:=by
 unfold PKV at r
 induction r with
 | nil=>exact⟨fun t h=>by simp[valT] at h,rfl⟩
 | @cons p q ps qs h t ih=>
  by_cases e:p.1=k
  ·have e':q.1=k:=h.1.symm.trans e
   have b:valT (p::ps) k=some p.2:=by simp[valT,lQt,e]
   rw[b,jX8 e']
   exact⟨fun t ht=>by cases ht;exact⟨q.2,rfl,h.2⟩,rfl⟩
  ·have e':¬ q.1=k:=fun z=>e (h.1.trans z)
   have b:valT (p::ps) k=valT ps k:=by simp[valT,lQt,e]
   rw[b,jX9 e']
   exact ih
theorem PKV.any {κ:Type} [DecidableEq κ] {K:PySem.W.Frag} {H:Hp} {kvs:List (κ×T)} {ws:List (κ×V)} (r:PKV K H kvs ws) (k:κ):(kvs.any fun kv=>decide (kv.1=k))=ws.any fun kv=>decide (kv.1=k):=by
 unfold PKV at r
 induction r with
 | nil=>rfl
 | cons h t ih=>rw[lQs,lQs,ih,h.1]
theorem PKV.put {κ:Type} [DecidableEq κ] {K:PySem.W.Frag} {H:Hp} {kvs:List (κ×T)} {ws:List (κ×V)} (r:PKV K H kvs ws) (k:κ) {t:T} {v:V} (rt:Rep K H t v):PKV K H (putT kvs k t) (putK ws k v):=by
 unfold putT putK
 rw[r.any k]
 by_cases e:(ws.any fun kv=>decide (kv.1=k))=true
 ·rw[lJc e,lJc e]
  unfold PKV at r ⊢
  clear e
  induction r with
  | nil=>exact .nil
  | @cons p q ps qs h t' ih=>
   rw[lJn,lJn]
   refine .cons ?_ ih
   obtain⟨h1,h2⟩:=h
   by_cases e:p.1=k
   ·rw[lJc e,lJc (h1.symm.trans e)];exact⟨h1,rt⟩
   ·rw[lJb e,lJb (fun z=>e (h1.trans z))];exact⟨h1,h2⟩
 ·rw[lJb e,lJb e];exact Paired.snoc r ⟨rfl,rt⟩
theorem PKV.length {κ:Type} {K:PySem.W.Frag} {H:Hp} {kvs:List (κ×T)} {ws:List (κ×V)} (r:PKV K H kvs ws):kvs.length=ws.length:=lV7 r
noncomputable def dAt (G:Gp) (x y:T):Option (Option T):=match x with
 | .ref p=>match G p with
  | some (.dct kvs)=>match y with
   | .tup ys=>match jQn ys with
    | some ks=>some (valT kvs ks)
    | none=>none
   | _=>none
  | some (.dck kvs)=>match jQ6 y with
   | some k=>some (valT kvs k)
   | none=>none
  | some (.fdc kvs)=>match y with
   | .tup ys=>match jQn ys with
    | some ks=>some (valT kvs ks)
    | none=>none
   | _=>none
  | _=>none
 | _=>none
theorem qJc {K:PySem.W.Frag} {H:Hp} {G:Gp} {x y:T} {a b:V} {o:Option T} (hg:GRel K H G) (ra:Rep K H x a) (rb:Rep K H y b) (h:dAt G x y=some o):
  ∃p ov,a= .ref p/\DGet H p b ov/\o.isSome=ov.isSome/\∀t,o=some t->∃v,ov=some v/\Rep K H t v:=by
 unfold dAt at h
 split at h
 ·rename_i p
  cases (show a= .ref p from ra)
  split at h
  ·rename_i kvs hG
   split at h
   ·rename_i ys
    split at h
    ·rename_i ks hk
     cases h
     obtain⟨ws,h1,h2⟩:=hg p _ hG
     obtain⟨q,vs,e,h3,h4⟩:=(show ∃q vs,b= .ref q/\H q=some (.tup vs)/\Reps K H ys vs from rb)
     subst e
     exact⟨p,_,rfl,DGet.t h1 (jU7 hk h3 h4),(h2.val ks).2,(h2.val ks).1⟩
    ·cases h
   ·cases h
  ·rename_i kvs hG
   split at h
   ·rename_i k hk
    cases h
    obtain⟨ws,h1,h2⟩:=hg p _ hG
    rw[jV6 hk rb]
    exact⟨p,_,rfl,DGet.k h1,(h2.val k).2,(h2.val k).1⟩
   ·cases h
  ·rename_i kvs hG
   split at h
   ·rename_i ys
    split at h
    ·rename_i ks hk
     cases h
     obtain⟨ob,ws,h1,h2⟩:=(show ∃ob ws,H p=some (.frz ob (.dT ws))/\PKV K H kvs ws from hg p _ hG)
     obtain⟨q,vs,e,h3,h4⟩:=(show ∃q vs,b= .ref q/\H q=some (.tup vs)/\Reps K H ys vs from rb)
     subst e
     exact⟨p,_,rfl,.inr ⟨ws,ks,q,.inr ⟨ob,h1⟩,rfl,jU7 hk h3 h4,rfl⟩,(h2.val ks).2,(h2.val ks).1⟩
    ·cases h
   ·cases h
  ·cases h
 ·cases h
def rDGet:R3:=fun x y G Q=>∃t,dAt G x y=some (some t)/\Q t G
theorem qVw (hu:X.A.units+20<cLine):Ix3 X rDGet:=by
 rintro value slice pins s τ G H x y v u Q ⟨σ,I,hs,hg⟩ ⟨a,ra,rv⟩ ⟨b,rb,ru⟩ ⟨t,hd,q⟩ hsl
 obtain⟨p,ov,e,g,_,hh⟩:=qJc hg ra rb hd
 obtain⟨w,ew,rw'⟩:=hh t rfl
 subst e;subst ew
 cases rv
 have hT:s.TypeIs (.ref p) "dict":=kUm I g
 unfold subscriptTail
 refine lJa ?_
 rw[getitemInPython_of_ne hT.not_modules]
 refine lJa (wpAny_specialOf hT PySem.F.slot_dict_getitem.lookup ?_)
 have fin:wpAny (model X.prog X.w) X.A (subscripted slice false (.ref p) u) (fun r s₃=>wpAny (model X.prog X.w) X.A (letTemporaryGo value (.ref p) r >>= fun _=>pure r) (EP3 X pins τ H Q) X.xe s₃) X.xe s:=by
  rw[hsl]
  exact wpAny_operating (qJb hu I g ru fun w' s' I' r'=>lJa (wpAny_letTemporaryGo (lJd ⟨t,G,H,.refl H,⟨σ,I',hs,hg⟩,⟨w,rw',r'⟩,q⟩)))
 first
  | exact lJd (lJa fin)
  | exact lJa (lJd (lJa fin))
  | exact lJa fin
theorem Ix3.or {r r':R3} (h:Ix3 X r) (h':Ix3 X r'):Ix3 X (fun x y G Q=>r x y G Q\/r' x y G Q):=by
 intro value slice pins s τ G H x y v u Q I rx ry q hs
 rcases q with q | q
 ·exact h value slice pins s τ G H x y v u Q I rx ry q hs
 ·exact h' value slice pins s τ G H x y v u Q I rx ry q hs
def rIxA:R3:=fun x y G Q=>rIx x y G Q\/rDGet x y G Q
theorem qVx (hu:X.A.units+20<cLine):Ix3 X rIxA:=ix_any.or (qVw hu)
def kYu:R3:=fun x y G Q=>∃o,dAt G y x=some o/\Q (.bl (!o.isSome)) G
theorem qKu (hu:X.A.units+20<cLine):Op3 X (compareOp .NotIn) kYu:=by
 rintro pins s τ G H x y v u Q ⟨σ,I,hs,hg⟩ ⟨a,ra,rv⟩ ⟨b,rb,ru⟩ ⟨o,hd,q⟩
 obtain⟨p,ov,e,g,e2,_⟩:=qJc hg rb ra hd
 subst e;cases ru
 exact qXm hu I g rv fun s' I'=>⟨.bl _,G,H,.refl H,⟨σ,I',hs,hg⟩,⟨.bl _,rfl,by rw[<-e2];rfl⟩,q⟩
def kYr:R3:=fun x y G Q=>rInF true x y G Q\/kYu x y G Q
theorem qVo (hu:X.A.units+20<cLine):Op3 X (compareOp .NotIn) kYr:=o_notInF.or (qKu hu)
def jQi:TE3:=fun _ G Q=>(∀p,G p=none->Q (.ref p) (gup G p (.dct [])))\/∀p,G p=none->Q (.ref p) (gup G p (.dck []))
theorem qXi {pos:Pos}:PE3 X (.Dict [] [] pos) jQi:=by
 rintro pins s τ G H Q ⟨σ,I,hs,hg⟩ h
 rcases h with h | h
 ·exact thn (qKm pins s σ H (up X.K H Q) I fun p hp=>⟨.ref p,_,.upd (.none hp),hg.upd (.none hp) (go:= .dct []) ⟨[],jKp,.nil⟩,rfl,h p (hg.fresh hp)⟩) fun u s' z=>jVn hs z
 ·exact thn (qKn pins s σ H (up X.K H Q) I fun p hp=>⟨.ref p,_,.upd (.none hp),hg.upd (.none hp) (go:= .dck []) ⟨[],jKp,.nil⟩,rfl,h p (hg.fresh hp)⟩) fun u s' z=>jVn hs z
noncomputable def qQ9:T->T->T->Gp->(Gp->Prop)->Prop:=fun o i v G Q=>∃p ys ks kvs,o= .ref p/\i= .tup ys/\jQn ys=some ks/\G p=some (.dct kvs)/\kvs.length<sizeLine/\Q (gup G p (.dct (putT kvs ks v)))
def qUa:T->T->T->Gp->(Gp->Prop)->Prop:=fun o i v G Q=>∃p k kvs,o= .ref p/\jQ6 i=some k/\G p=some (.dck kvs)/\kvs.length<sizeLine/\Q (gup G p (.dck (putT kvs k v)))
theorem qU7 (hu:X.A.units+20<cLine):Set3 X qQ9:=by
 rintro pins s τ G H o i v ov iv u Q ⟨σ,I,hs,hg⟩ ⟨a,ra,rv⟩ ⟨b,rb,ru⟩ ⟨c,rc,rw'⟩ ⟨p,ys,ks,kvs,eo,ei,hk,hG,hz,q⟩
 subst eo;subst ei
 cases (show a= .ref p from ra);cases rv
 obtain⟨ws,h1,h2⟩:=hg p _ hG
 obtain⟨b',vs,e,h3,h4⟩:=(show ∃q vs,b= .ref q/\H q=some (.tup vs)/\Reps X.K H ys vs from rb)
 subst e
 have h3:=jU7 hk h3 h4
 have e:Ext H (upd H p (.dT (putK ws ks c))):= .upd (.dT h1)
 exact kQb hu I (DPut.t h1 h3 (by rw[<-h2.length];exact hz)) ru rw' fun s' I'=>⟨_,_,e,⟨σ,I',hs.mono e,hg.upd (.dT h1) (go:= .dct (putT kvs ks v)) ⟨_,jKp,(h2.put ks rc).mono e⟩⟩,q⟩
theorem qU8 (hu:X.A.units+20<cLine):Set3 X qUa:=by
 rintro pins s τ G H o i v ov iv u Q ⟨σ,I,hs,hg⟩ ⟨a,ra,rv⟩ ⟨b,rb,ru⟩ ⟨c,rc,rw'⟩ ⟨p,k,kvs,eo,hk,hG,hz,q⟩
 subst eo
 cases (show a= .ref p from ra);cases rv
 obtain⟨ws,h1,h2⟩:=hg p _ hG
 have eb:=jV6 hk rb
 subst eb
 have e:Ext H (upd H p (.dK (putK ws k c))):= .upd (.dK h1)
 exact kQb hu I (DPut.k h1 (by rw[<-h2.length];exact hz)) ru rw' fun s' I'=>⟨_,_,e,⟨σ,I',hs.mono e,hg.upd (.dK h1) (go:= .dck (putT kvs k v)) ⟨_,jKp,(h2.put k rc).mono e⟩⟩,q⟩
theorem Set3.or {r r':T->T->T->Gp->(Gp->Prop)->Prop} (h:Set3 X r) (h':Set3 X r'):Set3 X (fun o i v G Q=>r o i v G Q\/r' o i v G Q):=by
 intro pins s τ G H o i v ov iv u Q I ro ri rv q
 rcases q with q | q
 ·exact h pins s τ G H o i v ov iv u Q I ro ri rv q
 ·exact h' pins s τ G H o i v ov iv u Q I ro ri rv q
def rSetA:T->T->T->Gp->(Gp->Prop)->Prop:=fun o i v G Q=>qKh o i v G Q\/qQ9 o i v G Q\/qUa o i v G Q
theorem s_any (hu:X.A.units+20<cLine):Set3 X rSetA:=s_list.or ((qU7 hu).or (qU8 hu))
end
noncomputable def kJb (G:Gp):T->Option String
 | .non=>some "NoneType"
 | .bl _=>some "bool"
 | .int _=>some "int"
 | .str _=>some "str"
 | .tup _=>some "tuple"
 | .scr _=>some "list"
 | .ref p=>match G p with
  | some (.lst _)=>some "list"
  | some (.dct _)=>some "dict"
  | some (.dck _)=>some "dict"
  | some (.fdc _)=>none
  | some (.ins _ _)=>none
  | none=>none
 | .ty _=>none
def subT (t n:String):Option Bool:=
 if n="bool"\/n="int"\/n="str"\/n="list"\/n="tuple" then some (t == n||(t == "bool"&&n == "int")) else none
theorem qK6 (K:PySem.W.Frag) {n:String} {b:Bool} (h:subT "bool" n=some b):PySem.W.kitOne K (.type "bool") (.type n)=some b:=by
 unfold subT at h
 split at h
 ·rename_i hn
  rcases hn with rfl | rfl | rfl | rfl | rfl<;>(cases h;kernel_rfl)
 ·cases h
theorem qK5 (K:PySem.W.Frag) {n:String} {b:Bool} (h:subT "NoneType" n=some b):PySem.W.kitOne K (.type "NoneType") (.type n)=some b:=by
 unfold subT at h
 split at h
 ·rename_i hn
  rcases hn with rfl | rfl | rfl | rfl | rfl<;>(cases h;kernel_rfl)
 ·cases h
theorem qVu (K:PySem.W.Frag) {n:String} {b:Bool} (h:subT "int" n=some b):PySem.W.kitOne K (.type "int") (.type n)=some b:=by
 unfold subT at h
 split at h
 ·rename_i hn
  rcases hn with rfl | rfl | rfl | rfl | rfl<;>(cases h;kernel_rfl)
 ·cases h
theorem qVt (K:PySem.W.Frag) {n:String} {b:Bool} (h:subT "str" n=some b):PySem.W.kitOne K (.type "str") (.type n)=some b:=by
 unfold subT at h
 split at h
 ·rename_i hn
  rcases hn with rfl | rfl | rfl | rfl | rfl<;>(cases h;kernel_rfl)
 ·cases h
theorem kZj (K:PySem.W.Frag) {n:String} {b:Bool} (h:subT "tuple" n=some b):PySem.W.kitOne K (.type "tuple") (.type n)=some b:=by
 unfold subT at h
 split at h
 ·rename_i hn
  rcases hn with rfl | rfl | rfl | rfl | rfl<;>(cases h;kernel_rfl)
 ·cases h
theorem kVd (K:PySem.W.Frag) {n:String} {b:Bool} (h:subT "list" n=some b):PySem.W.kitOne K (.type "list") (.type n)=some b:=by
 unfold subT at h
 split at h
 ·rename_i hn
  rcases hn with rfl | rfl | rfl | rfl | rfl<;>(cases h;kernel_rfl)
 ·cases h
theorem kVe (K:PySem.W.Frag) {n:String} {b:Bool} (h:subT "dict" n=some b):PySem.W.kitOne K (.type "dict") (.type n)=some b:=by
 unfold subT at h
 split at h
 ·rename_i hn
  rcases hn with rfl | rfl | rfl | rfl | rfl<;>(cases h;kernel_rfl)
 ·cases h
section
variable {X:Cx}
theorem e_ty {x:Str} {n:String} {pos:Pos} (hg:Gl X x) (hm:X.mg x=none) (hv:bootBuiltins x=some (.type n)) (hn:x≠"__name__":=by decide) (hd:(x == ("__debug__":Str))=false:=by decide):PE3 X (.Name x pos) (tC (.ty n)):=
 fun pins s τ G H Q ⟨σ,I,hs,hg'⟩ q=>thn (qVe (v:= .ty n) hg hm hv rfl hn hd pins s σ H (up X.K H Q) I ⟨.ty n,G,.refl H,hg',rfl,q⟩) fun u s' h=>jVn hs h
def kitT (t:String):List T->Option Bool
 | []=>some false
 | .ty n::r=>match subT t n with
  | some true=>some true
  | some false=>kitT t r
  | none=>none
 | _::_=>none
def isiC:Option String->T->Option Bool
 | some t,.ty n=>subT t n
 | some t,.tup cs=>kitT t cs
 | _,_=>none
def isiT (G:Gp) (x c:T):Option Bool:=isiC (kJb G x) c
def rIsi:List T->Gp->VK3->Prop:=fun xs G Q=>∃x c b,xs=[x,c]/\isiT G x c=some b/\Q (.bl b) G
theorem kZk {K:PySem.W.Frag} {H:Hp} {t:String} (ok:∀n b,subT t n=some b->PySem.W.kitOne K (.type t) (.type n)=some b):∀ {cs:List T} {vs:List V} {us:List Value} {b:Bool},Reps K H cs vs->Vals vs us->kitT t cs=some b->PySem.W.kitAny K (.type t) us=some b
 | [],_,_,_,r,q,h=>by cases r;cases q;exact h
 | c::cs,_,_,b,⟨v,ws,e,r1,r2⟩,q,h=>by
  subst e
  cases q with
  | cons q1 q2=>
   cases c with
   | ty n=>
    cases (show v= .ty n from r1)
    cases q1
    unfold kitT at h
    unfold PySem.W.kitAny
    cases e:subT t n with
    | none=>rw[e] at h;cases h
    | some k=>
     rw[e] at h
     rw[ok n k e]
     cases k with
     | true=>exact h
     | false=>exact kZk ok r2 q2 h
   | _=>cases h
theorem jQe {pins:List (Addr×Obj)} {τ:St3} {G:Gp} {H:Hp} {s:Shared} {σ:L2.St} {c:T} {cv:V} {u cu:Value} {t:String} {b:Bool} {Q:VK3} {Hh:Heap->Prop} (I:Inv X pins σ H s) (hs:SRel X.K H σ τ) (hg:GRel X.K H G)
  (Z:PySem.W.KitX X.K u (.type t) Hh) (p:Hh s.heap) (hx:u≠ .builtin "__main__.__loader__#opaque") (ok:∀n b,subT t n=some b->PySem.W.kitOne X.K (.type t) (.type n)=some b)
  (rc:Rep X.K H c cv) (ru:RelV cv cu) (h:isiC (some t) c=some b) (q:Q (.bl b) G):
  wpAny (model X.prog X.w) X.A (call (.builtin "isinstance") [u,cu]) (EP3 X pins τ H Q) X.xe s:=by
 have fin:∀tk,EP3 X pins τ H Q (.bool b) {s with toks:=tk}:=fun tk=>⟨.bl b,G,H,.refl H,⟨σ,I.tok tk,hs,hg⟩,⟨.bl b,rfl,rfl⟩,q⟩
 cases c with
 | ty n=>
  cases (show cv= .ty n from rc);cases ru
  exact PySem.W.kia_one Z I.kIn p (ok n b h) hx fin
 | tup cs=>
  obtain⟨pp,vs,e,h1,h2⟩:=(show ∃p vs,cv= .ref p/\H p=some (.tup vs)/\Reps X.K H cs vs from rc)
  subst e;cases ru
  obtain⟨its,rv,⟨⟨cls,dd,data,sl⟩,ho,hc,n,hd⟩,_⟩:=I.tuple (.of h1)
  simp only at hc hd
  subst hc hd
  exact PySem.W.kia_tup Z I.kIn p ho (kZk ok h2 rv h) hx fin
 | _=>cases h
theorem kUr:Call3 X (.builtin "isinstance") rIsi:=by
 rintro pins s τ G H xs us Q ⟨σ,I,hs,hg⟩ ⟨as,ras,rvs⟩ ⟨x,c,b,e,h,q⟩
 subst e
 obtain⟨a,cv,rfl,ra,rc⟩:=kV2 ras
 obtain⟨u,cu,rfl,ru,rcu⟩:=rvs.two
 unfold isiT at h
 cases x with
 | non=>cases (show a= .non from ra);cases ru;exact jQe I hs hg PySem.W.kitx_none True.intro (fun z=>nomatch z) (fun n b=>qK5 _) rc rcu h q
 | bl k=>cases (show a= .bl k from ra);cases ru;exact jQe I hs hg PySem.W.kitx_bool True.intro (fun z=>nomatch z) (fun n b=>qK6 _) rc rcu h q
 | int k=>cases (show a= .int k from ra);obtain⟨t,rfl⟩:=ru;exact jQe I hs hg PySem.W.kitx_int True.intro (fun z=>nomatch z) (fun n b=>qVu _) rc rcu h q
 | str k=>cases (show a= .str k from ra);obtain⟨t,rfl⟩:=ru;exact jQe I hs hg PySem.W.kitx_str True.intro (fun z=>nomatch z) (fun n b=>qVt _) rc rcu h q
 | tup ys=>
  obtain⟨p,vs,e,h1,h2⟩:=(show ∃p vs,a= .ref p/\H p=some (.tup vs)/\Reps X.K H ys vs from ra)
  subst e;cases ru
  obtain⟨its,rv,⟨o,ho,hc,_⟩,_⟩:=I.tuple (.of h1)
  exact jQe I hs hg PySem.W.kitx_tuple ⟨o,ho,hc⟩ (fun z=>nomatch z) (fun n b=>kZj _) rc rcu h q
 | scr ys=>
  obtain⟨p,vs,e,h1,h2⟩:=(show ∃p vs,a= .ref p/\FrL X.K H p vs/\Reps X.K H ys vs from ra)
  subst e;cases ru
  obtain⟨its,rv,⟨o,n,ho,hc,_⟩,_⟩:=I.list h1.sq
  exact jQe I hs hg PySem.W.kitx_list ⟨o,ho,hc⟩ (fun z=>nomatch z) (fun n b=>kVd _) rc rcu h q
 | ref p=>
  cases (show a= .ref p from ra);cases ru
  cases hG:G p with
  | none=>simp only[kJb,hG] at h;cases h
  | some g=>
   cases g with
   | lst ys=>
    simp only[kJb,hG] at h
    obtain⟨vs,h1,h2⟩:=hg.lst hG
    obtain⟨its,rv,⟨o,n,ho,hc,_⟩,_⟩:=I.list (.of h1)
    exact jQe I hs hg PySem.W.kitx_list ⟨o,ho,hc⟩ (fun z=>nomatch z) (fun n b=>kVd _) rc rcu h q
   | fdc kvs=>simp only[kJb,hG] at h;cases h
   | ins _ _=>simp only[kJb,hG] at h;cases h
   | dct kvs=>
    simp only[kJb,hG] at h
    obtain⟨ws,h1,_⟩:=hg p _ hG
    obtain⟨_,_,xs,_,o,es,ep,h3,h4,_⟩:=(show ObjOk X.prog X.w H s.heap p (.dT ws) from I.hok p _ h1)
    exact jQe I hs hg PySem.W.kitx_dict ⟨o,h3,h4.1⟩ (fun z=>nomatch z) (fun n b=>kVe _) rc rcu h q
   | dck kvs=>
    simp only[kJb,hG] at h
    obtain⟨ws,h1,_⟩:=hg p _ hG
    obtain⟨_,_,vs,_,pp⟩:=(show ObjOk X.prog X.w H s.heap p (.dK ws) from I.hok p _ h1)
    obtain⟨o,es,ep,h3,h4,_⟩:=pp
    exact jQe I hs hg PySem.W.kitx_dict ⟨o,h3,h4.1⟩ (fun z=>nomatch z) (fun n b=>kVe _) rc rcu h q
 | ty _=>cases h
abbrev TO3:=St3->Gp->(Option Int->Gp->Prop)->Prop
def PO3 (X:Cx) (e:Option Expr) (t:TO3):Prop:=
 ∀(pins:List (Addr×Obj)) (s:Shared) (τ:St3) (G:Gp) (H:Hp) (Q:Option Int->Gp->Prop),Inv3 X pins τ G H s->t τ G Q->
  wpAny (model X.prog X.w) X.A (evalPart e X.env) (fun u s'=>∃o G' H',Ext H H'/\Inv3 X pins τ G' H' s'/\IsPart u o/\Q o G') X.xe s
def jQt:TO3:=fun _ G Q=>Q none G
def jVi (t:TE3):TO3:=fun τ G Q=>t τ G fun x G1=>∃i,x= .int i/\Q (some i) G1
theorem jZw:PO3 X none jQt:=by
 intro pins s τ G H Q I h
 rw[evalPart_none]
 exact lJd ⟨none,G,H,.refl H,I,.none,h⟩
theorem jV3 {e:Expr} {te:TE3} (h:PE3 X e te):PO3 X (some e) (jVi te):=by
 intro pins s τ G H Q I hw
 rw[evalPart_some]
 refine thn (h pins s τ G H _ I hw) fun u s1 w_=>w_.el fun x G1 H1 e1 I1 r_ ⟨i,ex,q⟩=>r_.el fun v rv ru=> ?_
 subst ex
 cases (show v= .int i from rv)
 obtain⟨t,rfl⟩:=ru
 exact⟨some i,G1,H1,e1,I1,.int i t,q⟩
def Sl3 (X:Cx) (r:T->Option Int->Option Int->Gp->VK3->Prop):Prop:=
 ∀(pins:List (Addr×Obj)) (s:Shared) (τ:St3) (G:Gp) (H:Hp) (x:T) (v vl vu:Value) (lo hi:Option Int) (sl:Addr) (Q:VK3),Inv3 X pins τ G H s->RU X.K H x v->s.heap.IsSliceOf sl vl vu .none->IsPart vl lo->IsPart vu hi->r x lo hi G Q->
  ∃T id,typeLookup (.type T) "__getitem__"=pure (some (.builtin id))/\s.TypeIs v T/\wpAny (model X.prog X.w) X.A (getItem v (.ref sl)) (EP3 X pins τ H Q) X.xe s
def tSl (r:T->Option Int->Option Int->Gp->VK3->Prop) (te:TE3) (tl th:TO3):TE3:=fun τ G Q=>te τ G fun x G1=>tl τ G1 fun l G2=>th τ G2 fun u G3=>r x l u G3 Q
theorem jXq {r:T->Option Int->Option Int->Gp->VK3->Prop} {e:Expr} {te:TE3} {lo hi:Option Expr} {tl th:TO3} {pos p2:Pos} (hr:Sl3 X r) (he:PE3 X e te) (hl:PO3 X lo tl) (hu:PO3 X hi th):PE3 X (.Subscript e (.Slice lo hi none p2) pos) (tSl r te tl th):=by
 intro pins s τ G H Q I h
 refine Subscript_ (thn (he pins s τ G H _ I h) fun v s1 w_=>w_.el fun x G1 H1 e1 I1 r1 q1=> ?_)
 refine wpAny_Slice (thn (hl pins s1 τ G1 H1 _ I1 q1) fun vl s2 ⟨l,G2,H2,e2,I2,pl,q2⟩=>thn (hu pins s2 τ G2 H2 _ I2 q2) fun vu s3 ⟨u,G3,H3,e3,⟨σ,I3,hs3,hg3⟩,pu,q3⟩=> ?_)
 rw[evalPart_none]
 refine lJd ?_
 have I4:Inv X pins σ H3 {s3 with heap:=s3.heap.push {cls:= .type "slice",data:= .fields #[vl,vu,.none]} }:=I3.kept (t':=s3.toks) fun b ob q=>lJm _ q
 obtain⟨T0,id,hT,ht,hg⟩:=hr pins {s3 with heap:=s3.heap.push {cls:= .type "slice",data:= .fields #[vl,vu,.none]} } τ G3 H3 x v vl vu l u s3.heap.objs.size Q ⟨σ,I4,hs3,hg3⟩ ((r1.mono e2).mono e3) (Heap.IsSliceOf.new ..) pl pu q3
 show wpAny (model X.prog X.w) X.A (subscriptTail e (.Slice lo hi none p2) v (.ref s3.heap.objs.size)) (EP3 X pins τ H Q) X.xe {s3 with heap:=s3.heap.push {cls:= .type "slice",data:= .fields #[vl,vu,.none]} }
 exact thn (tail_any (ops:=[.ref s3.heap.objs.size,v]) ht hT hg (by with_unfolding_all rfl)) fun _ _ z=>z.ext ((e1.trans e2).trans e3)
def cutT (xs:List T) (lo hi:Option Int):List T:=(xs.drop (HT.sIx xs.length 0 lo)).take (HT.sIx xs.length xs.length hi-HT.sIx xs.length 0 lo)
noncomputable def rSlA:T->Option Int->Option Int->Gp->VK3->Prop:=fun x lo hi G Q=>
 (∃xs,jK1 G x=some xs/\∀p,G p=none->Q (.ref p) (gup G p (.lst (cutT xs lo hi))))\/∃xs,x= .tup xs/\Q (.tup (cutT xs lo hi)) G
end
end L3
namespace HT
open PySem PyProof.Rows
theorem getItem_tuple_whole {prog:Program} {w:World} {A:Around} {E:Value->Shared->Prop} {s:Shared} {t sl:Addr} {items:Array Value} {vl vu:Value} {lo hi:Option Int} {Q:Value->Shared->Prop} (ht:IsTup s.heap t items) (hs:s.heap.IsSliceOf sl vl vu .none) (pl:IsPart vl lo) (pu:IsPart vu hi)
  (hw:sIx items.size 0 lo=0/\sIx items.size items.size hi=items.size) (h:Q (.ref t) s):wpAny (model prog w) A (getItem (.ref t) (.ref sl)) Q E s:=by
 obtain⟨os,hos,hcs,hds⟩:=id hs
 have hTs:s.TypeIs (.ref sl) "slice":=⟨os,hos,hcs⟩
 unfold getItem
 try with_reducible refine lK8 ?_
 first | refine lJa (lJd ?_) | skip
 refine lJa (wpAny_sequenceKey ht.typeIs (by decide) ?_)
 refine lJa (lVm (name:=Str.ofString "__getitem__") ht.typeIs lV8
  (lQo lV8 ht.typeIs entry_tuple_getitem ?_ (args_tuple_getitem _ _)))
 show wpAny _ _ (Builtin.Tuple.tupleItemsOf (.ref t) >>= _) _ _ s
 refine lJa (tupleItemsOf_ ht ?_)
 refine lJa (lXl hTs ?_)
 rw[lJc (by decide)]
 refine lJa (jUn hs pl pu ?_)
 have hyes:(((sIx items.size 0 lo:Nat):Int) == 0&&(1:Int) == 1&&(sIx items.size items.size hi-sIx items.size 0 lo) == items.size)=true:=by
  rw[hw.1,hw.2];simp
 show wpAny _ _ (if (((sIx items.size 0 lo:Nat):Int) == 0&&(1:Int) == 1&&(sIx items.size items.size hi-sIx items.size 0 lo) == items.size)=true then _ else _) _ _ s
 rw[lJc hyes]
 refine lJa ?_
 unfold Builtin.Tuple.tupleIsExact
 refine lJa (lXl ht.typeIs (lJd ?_))
 rw[lJc (by decide)]
 exact lJa (lQe (lJd ⟨_,rfl,lJd h⟩))
end HT
namespace L3
open PySem PySem.Spec PyProof.Rows L2
section
variable {X:Cx}
theorem Reps.cut {K:PySem.W.Frag} {H:Hp} {xs:List T} {vs:List V} (r:Reps K H xs vs) (lo hi:Option Int):Reps K H (cutT xs lo hi) (cutV vs lo hi):=by
 unfold cutT cutV
 rw[<-r.length]
 exact (r.drop _).take _
theorem kXl {xs:List T} {lo hi:Option Int} (h:HT.sIx xs.length 0 lo=0/\HT.sIx xs.length xs.length hi=xs.length):cutT xs lo hi=xs:=by
 unfold cutT
 rw[h.1,h.2]
 simp
theorem sl_any:Sl3 X rSlA:=by
 rintro pins s τ G H x v vl vu lo hi sl Q ⟨σ,I,hs,hg⟩ ⟨a,ra,rv⟩ hsl pl pu h
 rcases h with ⟨xs,hx,q⟩ | ⟨xs,ex,q⟩
 ·obtain⟨p,vs,e,hq,r⟩:=jQd hg ra hx
  subst e
  obtain⟨T0,id,h1,h2,h3⟩:=qU6 pins s σ H (.ref p) v vl vu lo hi sl (up X.K H Q) I rv hsl pl pu ⟨p,vs,rfl,hq,fun l hl=>⟨.ref l,_,.upd (.none hl),hg.lstNew (r.cut lo hi) (.none hl),rfl,q l (hg.fresh hl)⟩⟩
  exact⟨T0,id,h1,h2,thn h3 fun _ _ z=>jVn hs z⟩
 ·subst ex
  obtain⟨p,vs,e,h1,h2⟩:=(show ∃p vs,a= .ref p/\H p=some (.tup vs)/\Reps X.K H xs vs from ra)
  subst e
  by_cases hw:HT.sIx xs.length 0 lo=0/\HT.sIx xs.length xs.length hi=xs.length
  ·cases rv
   obtain⟨its,rv',ht,hz⟩:=I.tuple (.of h1)
   have hlen:its.toArray.size=xs.length:=by rw[lJv,<-rv'.length,h2.length]
   refine⟨"tuple",_,lV8.lookup,ht.typeIs,HT.getItem_tuple_whole ht hsl pl pu (by rw[hlen];exact hw) ?_⟩
   rw[kXl hw] at q
   exact⟨.tup xs,G,H,.refl H,⟨σ,I,hs,hg⟩,⟨.ref p,ra,rfl⟩,q⟩
  ·obtain⟨T0,id,h3,h4,h5⟩:=sl_tup pins s σ H (.ref p) v vl vu lo hi sl (up X.K H Q) I rv hsl pl pu ⟨p,vs,rfl,.of h1,by rw[<-h2.length];exact hw,fun l hl=>⟨.tup (cutT xs lo hi),G,.upd (.none hl),hg.tupNew hl,Rep.tupNew (h2.cut lo hi) hl,q⟩⟩
   exact⟨T0,id,h3,h4,thn h5 fun _ _ z=>jVn hs z⟩
def jU2 (ta:TA3):TE3:=fun τ G Q=>ta τ G fun vs G1=>∃j:Int,vs=[.int j]/\ -(2^62)<=j/\j<=2^20/\∀p,G1 p=none->Q (.ref p) (gup G1 p (.lst (rngT 0 j.toNat)))
theorem qKb {K:PySem.W.Frag} {H:Hp} {n:Nat} {vs:List V} (hl:vs.length=n) (h:∀(i:Nat) v,vs[i]? =some v->v= .int (0+i)):Reps K H (rngT 0 n) vs:=by
 have e:vs=(List.range n).map fun (k:Nat)=>V.int (0+k):=by
  apply lVo
  intro i
  cases hv:vs[i]? with
  | none=>
   have:n<=i:=by rw[<-hl];exact lYn.mp hv
   simp[this]
  | some v=>
   have hi:i<n:=by rw[<-hl];exact (lJi.mp hv).1
   rw[h i v hv];simp[hi]
 rw[e]
 unfold rngT
 generalize List.range n=l
 induction l with
 | nil=>rfl
 | cons k ks ih=>exact⟨_,_,rfl,rfl,ih⟩
end
section
variable {X:Cx}
theorem kUk {a:Expr} {ta:TA3} {pos p p2 p3:Pos} (hgl:Gl X "list") (hml:X.mg "list"=none) (hgr:Gl X "range") (hmr:X.mg "range"=none) (hc:X.calm=true) (ha:PA3 X [a] ta) (hs:starEach [a] X.env=[(false,eval a X.env)]:=by rfl)
  (ho:starEach [Expr.Call (.Name "range" p2) [a] [] p3] X.env=[(false,eval (.Call (.Name "range" p2) [a] [] p3) X.env)]:=by rfl):
  PE3 X (.Call (.Name "list" p) [.Call (.Name "range" p2) [a] [] p3] [] pos) (jU2 ta):=by
 intro pins s τ G H Q I h
 obtain⟨σ0,I0,hs0,hg0⟩:=id I
 refine lYl (jUz I0 hgl hml (u:= .type "list") (by rfl) ?_)
 refine lVe (T:="list") ?_ ho rfl
 rw[ho]
 show wpAny _ _ (spliced ((false,eval (.Call (.Name "range" p2) [a] [] p3) X.env)::backTo pos [])) _ _ s
 refine Calls.spliced_cons ?_
 refine Call_ (jUz I0 hgr hmr boot_range (lVe (thn (ha p3 pins s τ G H _ I h) fun us s1 w_=>w_.el fun xs G1 H1 e1 i_ r_ ⟨j,e,q1,q2,q⟩=>i_.el fun σ I1 hs1 hg1=>r_.el fun as ras rvs=> ?_) hs rfl))
 subst e
 obtain⟨v,rfl,rv⟩:=jVx ras
 cases (show v= .int j from rv)
 obtain⟨u,rfl,ru⟩:=rvs.one
 obtain⟨t,rfl⟩:=ru
 refine call_range_1 ?_
 refine Calls.spliced_nil ?_
 have I2:Inv X pins σ H1 {s1 with heap:=s1.heap.push {cls:= .type "range",data:= .fields #[.int 0 s1.toks,.int j t,.int 1 (s1.toks+1)]},toks:=s1.toks+1+1}:=I1.kept fun b o e=>lJm _ e
 refine call_list_range (n:=j.toNat) (I1.ok.hd hc) (IsRange.new ..) (small_one (by omega) (by omega) q1 (by omega)) (by rw[rangeSize_one];split<;>omega) (by omega) fun h' tk acc' c' hk hobj hit=> ?_
 have hf:H1 (s1.heap.push {cls:= .type "range",data:= .fields #[.int 0 s1.toks,.int j t,.int 1 (s1.toks+1)]}).objs.size=none:=I2.hok.fresh (lJg _)
 have hz:acc'.size<=sizeLine:=by rw[hit.1,lKw];omega
 obtain⟨vs,hvs,rr⟩:∃vs:List V,Vals vs acc'.toList/\Reps X.K H1 (rngT 0 j.toNat) vs:=by
  refine⟨(List.range j.toNat).map fun (k:Nat)=>V.int (0+k),?_,qKb (by simp) (fun i v hv=> ?_)⟩
  ·have all:∀(l:List Value) (n0:Nat),(∀(i:Nat) v,l[i]? =some v->∃t,v= .int ((0:Int)+((n0+i:Nat):Int)*1) t)->Vals ((List.range' n0 l.length).map fun (k:Nat)=>V.int (0+k)) l:=by
    intro l
    induction l with
    | nil=>intro n0 _;exact .nil
    | cons v l ih=>
     intro n0 hh
     obtain⟨t,ht⟩:=hh 0 v rfl
     rw[lKl,List.range'_succ,lJn]
     refine .cons ⟨t,by rw[ht];simp⟩ (ih (n0+1) fun i w hw=> ?_)
     obtain⟨t',ht'⟩:=hh (i+1) w (by simpa using hw)
     exact⟨t',by rw[ht'];congr 1;omega⟩
   have:=all acc'.toList 0 (fun i v hv=>by
    obtain⟨t,ht⟩:=hit.2 i v (by simpa using hv)
    exact⟨t,by rw[ht];simp⟩)
   rw[List.range_eq_range']
   rw[show acc'.toList.length=j.toNat by simpa using hit.1] at this
   exact this
  ·rw[lKa] at hv
   cases e:(List.range j.toNat)[i]? with
   | none=>rw[e] at hv;cases hv
   | some k=>
    rw[e] at hv;cases hv
    have:=lJi.mp e
    obtain⟨h1,h2⟩:=this
    simp at h2;rw[<-h2]
 refine⟨.ref _,_,_,e1.trans (.upd (.none hf)),⟨σ,I2.laid (t':=tk) (o:= .lst vs) hk (lJg _) ⟨by rw[hvs.length];simpa using hz,acc'.toList,c',hvs,by simpa using hobj⟩,hs1.mono (.upd (.none hf)),hg1.lstNew rr (.none hf)⟩,⟨.ref _,rfl,rfl⟩,q _ (hg1.fresh hf)⟩
def insT (xs:List T) (k:Nat) (y:T):List T:=xs.take k++y::xs.drop k
noncomputable def jXm:T->List T->Gp->VK3->Prop:=fun x as G Q=>∃p xs k y,x= .ref p/\as=[.int k,y]/\G p=some (.lst xs)/\0<=k/\k<=xs.length/\xs.length<sizeLine/\Q .non (gup G p (.lst (insT xs k.toNat y)))
theorem kVa:Mt3 X "list.insert" jXm:=by
 rintro pins s τ G H x as v us Q ⟨σ,I,hs,hg⟩ ⟨a,ra,rv⟩ ⟨bs,rbs,rus⟩ ⟨p,xs,k,y,ex,ea,hp,k0,k1,hz,q⟩
 subst ex;subst ea
 cases (show a= .ref p from ra);cases rv
 obtain⟨b1,b2,rfl,r1,r2⟩:=kV2 rbs
 cases (show b1= .int k from r1)
 obtain⟨u1,u2,rfl,ru1,ru2⟩:=rus.two
 obtain⟨t,rfl⟩:=ru1
 obtain⟨vs,h1,h2⟩:=hg.lst hp
 obtain⟨z,its,n,r,hl,e⟩:=I.lstM h1
 have hlen:=h2.length
 have hfit:¬ (!Builtin.List.listFitsIndex k)=true:=by
  have h63:=jZ0
  rw[fitsIndex_both (by omega) (by omega)]
  exact lJp
 refine call_meets F.slot_list_insert ⟨_,e,rfl⟩ F.entry_list_insert (F.args_list_insert_3 _ _ _) (AutoSeq1.list_insert_list_int_val_1 p its.toArray n k t u2 hfit (by rw[lJv];omega)) ⟨e,?_⟩
 have e2:Ext H (upd H p (.lst (vs.take k.toNat++b2::vs.drop k.toNat))):= .upd (.lst h1)
 refine⟨.non,_,_,e2,⟨σ,I.lset (its':=its.take k.toNat++u2::its.drop k.toNat) h1 e ?_ ((r.take _).append (.cons ru2 (r.drop _))) ?_,hs.mono e2,hg.lstNew (xs:=insT xs k.toNat y) ((h2.take _).append ⟨b2,_,rfl,r2,h2.drop _⟩) (.lst h1)⟩,⟨.non,rfl,rfl⟩,q⟩
 ·have hk:¬ k<0:=by omega
  have hm:min k.toNat its.toArray.size=k.toNat:=by rw[lJv];omega
  simp only[hk,lKc,hm]
  apply Array.ext'
  simp[Array.toList_extract]
  rw[lQi (Nat.le_of_eq (by simp))]
 ·simp only[lKk,lKl,lK1,lVc]
  omega
def kUt:List T->Option Bool
 | []=>some true
 | .bl b::r=>match kUt r with
  | some c=>some (b&&c)
  | none=>none
 | _::_=>none
def rAll:List T->Gp->VK3->Prop:=fun as G Q=>∃p xs b,as=[.ref p]/\G p=some (.lst xs)/\kUt xs=some b/\Q (.bl b) G
theorem kQl:∀ {xs:List T} {b:Bool},kUt xs=some b->∃bs:List Bool,xs=bs.map T.bl/\b=bs.all (fun x=>x)
 | [],b,h=>by cases h;exact⟨[],rfl,rfl⟩
 | .bl c::r,b,h=>by
  unfold kUt at h
  cases e:kUt r with
  | none=>rw[e] at h;cases h
  | some d=>
   rw[e] at h;cases h
   obtain⟨bs,h1,h2⟩:=kQl e
   exact⟨c::bs,by rw[h1];rfl,by rw[h2];rfl⟩
 | .non::_,_,h=>by cases h
 | .int _::_,_,h=>by cases h
 | .str _::_,_,h=>by cases h
 | .tup _::_,_,h=>by cases h
 | .scr _::_,_,h=>by cases h
 | .ref _::_,_,h=>by cases h
 | .ty _::_,_,h=>by cases h
theorem kU5 {K:PySem.W.Frag} {H:Hp}:∀ {bs:List Bool} {vs:List V} {us:List Value},Reps K H (bs.map T.bl) vs->Vals vs us->us=bs.map Value.bool
 | [],_,_,h,q=>by cases h;cases q;rfl
 | n::ns,_,_,⟨v,ws,e,r,rs⟩,q=>by
  subst e;cases (show v= .bl n from r)
  cases q with
  | cons q1 q2=>cases q1;rw[kU5 rs q2];rfl
theorem kQk:∀(bs:List Bool),bs.all (fun x=>x)=(List.range bs.length).all fun i=>bs.getD i true
 | []=>rfl
 | b::bs=>by
  rw[lVd,kQk bs,lKl,List.range_succ_eq_map,lVd,List.all_map]
  simp[Function.comp_def,List.getD]
theorem c_all (hc:X.calm=true):Call3 X (.builtin "all") rAll:=by
 rintro pins s τ G H as us Q ⟨σ,I,hs,hg⟩ ⟨bs',rbs,rus⟩ ⟨p,xs,b,e,hp,hb,q⟩
 subst e
 obtain⟨a,rfl,ra⟩:=jVx rbs
 cases (show a= .ref p from ra)
 obtain⟨u,rfl,ru⟩:=rus.one
 cases ru
 obtain⟨vs,h1,h2⟩:=hg.lst hp
 obtain⟨bs,ex,eb⟩:=kQl hb
 subst ex
 obtain⟨its,rv,pl,hz⟩:=I.list (.of h1)
 have eit:=kU5 h2 rv
 subst eit
 refine call_all_walk (wpAny_pyIter_list pl.isList ?_)
 have hne:p≠s.heap.objs.size:=by obtain⟨o,n,ho,_⟩:=pl;exact lJr (lJj ho)
 refine⟨s.heap.objs.size,[s.heap.objs.size,p],[s.heap.objs.size],(bs.map Value.bool).toArray.size,_,_,fun i=>bs.getD i true,rfl,Walks.list (A:=X.A.in1) (show X.A.in1.handled=none from I.ok.hd hc) s.heap.objs.size p hne (bs.map Value.bool).toArray,⟨⟨_,lJ6 _ rfl,rfl,rfl⟩,pl.isList.push _⟩,?_,?_⟩
 ·intro i v s' Q' E' hP hQ
  have hP':(bs.map Value.bool)[i]? =some v:=by simpa using hP
  rw[lKa] at hP'
  cases e:bs[i]? with
  | none=>rw[e] at hP';cases hP'
  | some c=>
   rw[e] at hP';cases hP'
   have:bs.getD i true=c:=by simp[List.getD,e]
   have hQ':Q' (bs.getD i true) s':=hQ
   rw[this] at hQ'
   exact lV2 hQ'
 ·intro h' tk hk
  have hk2:∀b o,s.heap.get? b=some o->h'.get? b=some o:=fun b o e=>hk b o (by simpa using lJr (lJj e)) (lJm _ e)
  refine⟨.bl b,G,H,.refl H,⟨σ,I.kept hk2,hs,hg⟩,⟨.bl b,rfl,?_⟩,q⟩
  rw[eb,kQk]
  simp
  rfl
end
structure Cal (P:Program) (w:World) (K:PySem.W.Frag) (mg:Str->Option Value) (base:Heap) (k:Nat) (x:Str) (ps:List Str) (sp:Sp3):Prop where
 ex:∃f fd,Fn3 P w K mg base k f fd ps sp/\mg x=some (.ref f)/\PySem.W.keepIn K (.ref f)=true/\Binds K fd ps []
 mono:Mono sp
 len:∀xs G Q,sp xs G Q->xs.length=ps.length
theorem jKa {X:Cx} {k:Nat} {ps:List Str} {sp:Sp3} {x:Str} {p pos:Pos} {e:Expr} {es:List Expr} {t:TA3} (C:Cal X.prog X.w X.K X.mg X.base k x ps sp) (hr:Room k X.A) (ha:PA3 X (e::es) t) (hg:Gl X x:=by rfl)
  (hdb:(x == ("__debug__":Str))=false:=by decide) (he:starEach (e::es) X.env=(false,eval e X.env)::starEach es X.env:=by rfl) (hpl:(backTo pos (starEach es X.env)).any (·.1)=false:=by rfl):
  PE3 X (.Call (.Name x p) (e::es) [] pos) (jJ0 sp t):=by
 intro pins s τ G H Q I h
 obtain⟨f,fd,F,hm,hk,hb⟩:=C.ex
 obtain⟨σ0,I0,hs0,hg0⟩:=id I
 refine lYl (qVs I0 hg hm ?_ hdb)
 refine PySem.W.callWith_K (h₀:=X.base) I0.ok.mod.kin hk (thn (ha pos pins s τ G H _ I h) fun us s1 w_=>w_.el fun xs G1 H1 e1 i_ r_ q=>i_.el fun σ I1 hs1 hg1=>r_.el fun as ras rvs=>⟨I1.kIn,?_⟩) he hpl
 refine thn (run_fn (dvs:=[]) (ds:=[]) (E:=E0) (Q:=up X.K H1 Q) F hr hb .nil pass0 I1 rvs ?_) fun u s' z=>(jVn hs1 z).ext e1
 rw[lVp]
 exact⟨by rw[<-ras.length];exact C.len _ _ _ q,xs,G1,ras,hg1,C.mono _ _ _ _ (fun t G' hq v H' e g r=>⟨t,G',e,g,r,hq⟩) q⟩
end L3
namespace L3
open PySem PySem.Spec PyProof.Rows
inductive Res where
 | val (t:T) | newL (xs:List T)
def fin3:Res->Gp->VK3->Prop
 | .val t,G,Q=>Q t G
 | .newL xs,G,Q=>∀p,G p=none->Q (.ref p) (gup G p (.lst xs))
theorem Op3.imp {X:L2.Cx} {f:Value->Value->Sem Value} {r r':R3} (h:Op3 X f r) (i:∀x y G Q,r' x y G Q->r x y G Q):Op3 X f r':=fun pins s τ G H x y v u Q I rx ry q=>h pins s τ G H x y v u Q I rx ry (i x y G Q q)
theorem Ix3.imp {X:L2.Cx} {r r':R3} (h:Ix3 X r) (i:∀x y G Q,r' x y G Q->r x y G Q):Ix3 X r':=fun a b pins s τ G H x y v u Q I rx ry q hs=>h a b pins s τ G H x y v u Q I rx ry (i x y G Q q) hs
theorem Set3.imp {X:L2.Cx} {r r':T->T->T->Gp->(Gp->Prop)->Prop} (h:Set3 X r) (i:∀o j v G Q,r' o j v G Q->r o j v G Q):Set3 X r':=fun pins s τ G H o j v a b c Q I ro rj rv q=>h pins s τ G H o j v a b c Q I ro rj rv (i o j v G Q q)
theorem Sl3.imp {X:L2.Cx} {r r':T->Option Int->Option Int->Gp->VK3->Prop} (h:Sl3 X r) (i:∀x l u G Q,r' x l u G Q->r x l u G Q):Sl3 X r':=fun pins s τ G H x v vl vu lo hi sl Q I rx hs pl pu q=>h pins s τ G H x v vl vu lo hi sl Q I rx hs pl pu (i x lo hi G Q q)
noncomputable def addR (G:Gp):T->T->Option Res
 | .int i,.int j=>some (.val (.int (i+j)))
 | .ref p,.ref q=>match G p,G q with
  | some (.lst xs),some (.lst ys)=>if xs.length+ys.length<=sizeLine then some (.newL (xs++ys)) else none
  | _,_=>none
 | .tup xs,.tup ys=>if xs.length≠0/\xs.length+ys.length<=sizeLine then some (.val (.tup (xs++ys))) else none
 | _,_=>none
def jKn:R3:=fun x y G Q=>∃r,addR G x y=some r/\fin3 r G Q
theorem add_F {x y:T} {G:Gp} {Q:VK3} (h:jKn x y G Q):rAddA x y G Q:=by
 obtain⟨r,hr,q⟩:=h
 unfold addR at hr
 split at hr
 ·cases hr;exact .inl ⟨_,_,rfl,rfl,q⟩
 ·rename_i p q'
  split at hr
  ·rename_i xs ys h1 h2
   split at hr
   ·rename_i hz;cases hr;exact .inr (.inl ⟨p,q',xs,ys,rfl,rfl,h1,h2,hz,q⟩)
   ·cases hr
  ·cases hr
 ·rename_i xs ys
  split at hr
  ·rename_i hz;cases hr;exact .inr (.inr ⟨xs,ys,rfl,rfl,fun z=>hz.1 (by rw[z];rfl),hz.2,q⟩)
  ·cases hr
 ·cases hr
theorem o_addF {X:L2.Cx}:Op3 X (binaryOp .Add) jKn:=o_addA.imp fun _ _ _ _=>add_F
noncomputable def mulR (G:Gp):T->T->Option Res
 | .int i,.int j=>some (.val (.int (i*j)))
 | .ref p,.int n=>match G p with
  | some (.lst xs)=>if n.toNat * xs.length<=sizeLine/\n<2^62/\ -(2^62)<n then some (.newL (List.replicate n.toNat xs).flatten) else none
  | _=>none
 | _,_=>none
def mulC:T->T->Prop
 | .int i,.int j=>L2.CMul i j
 | _,_=>True
def kJx:R3:=fun x y G Q=>∃r,mulR G x y=some r/\mulC x y/\fin3 r G Q
theorem mul_F {x y:T} {G:Gp} {Q:VK3} (h:kJx x y G Q):rMulA x y G Q:=by
 obtain⟨r,hr,c,q⟩:=h
 unfold mulR at hr
 split at hr
 ·cases hr;exact .inl ⟨_,_,rfl,rfl,c,q⟩
 ·rename_i p n
  split at hr
  ·rename_i xs h1
   split at hr
   ·rename_i hz;cases hr;exact .inr ⟨p,xs,n,rfl,rfl,h1,hz.1,hz.2.1,hz.2.2,q⟩
   ·cases hr
  ·cases hr
 ·cases hr
theorem jZy {X:L2.Cx}:Op3 X (binaryOp .Mult) kJx:=o_mulA.imp fun _ _ _ _=>mul_F
def ixR (G:Gp) (x y:T):Option T:=match seqT G x with
 | some xs=>match y with
  | .int i=>L2.atI xs i
  | _=>none
 | none=>match dAt G x y with
  | some o=>o
  | none=>none
def rIxF:R3:=fun x y G Q=>∃t,ixR G x y=some t/\Q t G
theorem ix_F' {x y:T} {G:Gp} {Q:VK3} (h:rIxF x y G Q):rIxA x y G Q:=by
 obtain⟨t,ht,q⟩:=h
 unfold ixR at ht
 split at ht
 ·rename_i xs hx
  split at ht
  ·rename_i i;exact .inl ⟨xs,i,t,hx,rfl,ht,q⟩
  ·cases ht
 ·split at ht
  ·rename_i o ho;subst ht;exact .inr ⟨t,ho,q⟩
  ·cases ht
theorem ix_F {X:L2.Cx} (hu:X.A.units+20<cLine):Ix3 X rIxF:=(qVx hu).imp fun _ _ _ _=>ix_F'
noncomputable def setR (G:Gp) (o i v:T):Option Gp:=match o with
 | .ref p=>match G p with
  | some (.lst xs)=>match i with
   | .int k=>match L2.ixN xs.length k with
    | some j=>some (gup G p (.lst (xs.set j v)))
    | none=>none
   | _=>none
  | some (.dct kvs)=>match i with
   | .tup ys=>match jQn ys with
    | some ks=>if kvs.length<sizeLine then some (gup G p (.dct (putT kvs ks v))) else none
    | none=>none
   | _=>none
  | some (.dck kvs)=>match jQ6 i with
   | some k=>if kvs.length<sizeLine then some (gup G p (.dck (putT kvs k v))) else none
   | none=>none
  | some (.fdc _)=>none
  | some (.ins _ _)=>none
  | none=>none
 | _=>none
def jQ3:T->T->T->Gp->(Gp->Prop)->Prop:=fun o i v G Q=>∃G',setR G o i v=some G'/\Q G'
theorem set_F' {o i v:T} {G:Gp} {Q:Gp->Prop} (h:jQ3 o i v G Q):rSetA o i v G Q:=by
 obtain⟨G',hr,q⟩:=h
 unfold setR at hr
 split at hr
 ·rename_i p
  split at hr
  ·rename_i xs h1
   split at hr
   ·rename_i k
    split at hr
    ·rename_i j hj;cases hr;exact .inl ⟨p,xs,k,j,rfl,rfl,h1,hj,q⟩
    ·cases hr
   ·cases hr
  ·rename_i kvs h1
   split at hr
   ·rename_i ys
    split at hr
    ·rename_i ks hk
     split at hr
     ·rename_i hz;cases hr;exact .inr (.inl ⟨p,ys,ks,kvs,rfl,rfl,hk,h1,hz,q⟩)
     ·cases hr
    ·cases hr
   ·cases hr
  ·rename_i kvs h1
   split at hr
   ·rename_i k hk
    split at hr
    ·rename_i hz;cases hr;exact .inr (.inr ⟨p,k,kvs,rfl,hk,h1,hz,q⟩)
    ·cases hr
   ·cases hr
  ·cases hr
  ·cases hr
  ·cases hr
 ·cases hr
theorem s_F {X:L2.Cx} (hu:X.A.units+20<cLine):Set3 X jQ3:=(s_any hu).imp fun _ _ _ _ _=>set_F'
noncomputable def rLeF:R3:=fun x y G Q=>∃b,(match x,y with
 | .int i,.int j=>some (decide (i<=j))
 | .tup [.int a,.int b],.tup [.int c,.int d]=>some (HT.lexLe [a,b] [c,d])
 | _,_=>none)=some b/\Q (.bl b) G
theorem le_F' {x y:T} {G:Gp} {Q:VK3} (h:rLeF x y G Q):rLeA x y G Q:=by
 obtain⟨b,hb,q⟩:=h
 split at hb
 ·cases hb;exact .inl ⟨_,_,rfl,rfl,q⟩
 ·cases hb;exact .inr ⟨_,_,rfl,rfl,q⟩
 ·cases hb
theorem qKt {X:L2.Cx} (hu:X.A.units+20<cLine):Op3 X (compareOp .LtE) rLeF:=(o_leA hu).imp fun _ _ _ _=>le_F'
noncomputable def inR (G:Gp) (x y:T):Option Bool:=match seqT G y with
 | some xs=>if jZo x=true/\xs.all jZo=true then some (inT x xs) else none
 | none=>match dAt G y x with
  | some o=>some o.isSome
  | none=>none
def jQc:R3:=fun x y G Q=>∃b,inR G x y=some b/\Q (.bl (!b)) G
theorem qKw {x y:T} {G:Gp} {Q:VK3} (h:jQc x y G Q):kYr x y G Q:=by
 obtain⟨b,hb,q⟩:=h
 unfold inR at hb
 split at hb
 ·rename_i xs hx
  split at hb
  ·rename_i hc;cases hb;exact .inl ⟨xs,hx,hc.1,hc.2,q⟩
  ·cases hb
 ·split at hb
  ·rename_i o ho;cases hb;exact .inr ⟨o,ho,q⟩
  ·cases hb
theorem kKz {X:L2.Cx} (hu:X.A.units+20<cLine):Op3 X (compareOp .NotIn) jQc:=(qVo hu).imp fun _ _ _ _=>qKw
noncomputable def slR (G:Gp) (x:T) (lo hi:Option Int):Option Res:=match x with
 | .tup xs=>some (.val (.tup (cutT xs lo hi)))
 | .scr xs=>some (.newL (cutT xs lo hi))
 | .ref p=>match G p with
  | some (.lst xs)=>some (.newL (cutT xs lo hi))
  | _=>none
 | _=>none
def rSlF:T->Option Int->Option Int->Gp->VK3->Prop:=fun x lo hi G Q=>∃r,slR G x lo hi=some r/\fin3 r G Q
theorem sl_F' {x:T} {lo hi:Option Int} {G:Gp} {Q:VK3} (h:rSlF x lo hi G Q):rSlA x lo hi G Q:=by
 obtain⟨r,hr,q⟩:=h
 unfold slR at hr
 split at hr
 ·cases hr;exact .inr ⟨_,rfl,q⟩
 ·cases hr;exact .inl ⟨_,rfl,q⟩
 ·split at hr
  ·rename_i xs h1;cases hr;exact .inl ⟨xs,by simp only[jK1,h1,asL],q⟩
  ·cases hr
 ·cases hr
theorem sl_F {X:L2.Cx}:Sl3 X rSlF:=sl_any.imp fun _ _ _ _ _=>sl_F'
end L3
namespace L2
open PySem PySem.Spec PyProof.Rows
section
variable {X:Cx} {tg:Expr}
end
end L2
namespace L3
open PySem PySem.Spec PyProof.Rows L2
def Off (cs:List Addr) (g g':Heap):Prop:=∀c,c∉cs->∀o,g.get? c=some o->g'.get? c=some o
theorem Off.then {cs:List Addr} {g g' g'':Heap} (p:Off cs g g') (q:Off cs g' g''):Off cs g g'':=fun c n o e=>q c n o (p c n o e)
theorem Off.ext {cs:List Addr} {c:Addr} {g g':Heap} (h:Heap.ExtBut c g g') (m:c∈cs):Off cs g g':=fun b n o e=>h b o (fun q=>n (q▸m)) e
theorem Off.one {cs:List Addr} {c:Addr} {g g':Heap} (h:Heap.SameBut c g g') (m:c∈cs):Off cs g g':= .ext h.extBut m
theorem Off.new (cs:List Addr) (g:Heap) (o:Obj):Off cs g (g.push o):=fun _ _ _ e=>lJm _ e
theorem Off.at {cs:List Addr} {g g':Heap} (p:Off cs g g') {c:Addr} {o:Obj} (n:c∉cs) (e:g.get? c=some o):g'.get? c=some o:=p c n o e
def jZf (cs:List Addr) (S:Heap->Prop):Prop:=∀g g',Off cs g g'->S g->S g'
def Draw (P:Program) (w:World) (A:Around) (i:Addr) (r:Option Value) (S S':Heap->Prop):Prop:=
 ∀(s:Shared) (Q E:Value->Shared->Prop),S s.heap->
  (∀x g,r=some x->S' g->Heap.SameBut i s.heap g->Q x {s with heap:=g})->
  (∀g e o,r=none->Heap.ExtBut i s.heap g->g.get? e=some o->o.cls= .type "StopIteration"->E (.ref e) {s with heap:=g})->
  wpAny (model P w) A (Builtin.SmallTypes.nextOf (.ref i)) Q E s
def OnTup (i t:Addr) (k:Nat) (xs:Array Value) (h:Heap):Prop:=h.IsTupleIter i t k/\h.IsTuple t xs
theorem OnTup.still {cs:List Addr} {i t:Addr} {k:Nat} {xs:Array Value} (hi:i∉cs) (ht:t∉cs):jZf cs (OnTup i t k xs):=
 fun _ _ p ⟨⟨o,e,c⟩,⟨q,e',c'⟩⟩=>⟨⟨o,p.at hi e,c⟩,⟨q,p.at ht e',c'⟩⟩
theorem jUb {P:Program} {w:World} {A:Around} {i t:Addr} {k:Nat} {xs:Array Value} (hh:A.handled=none) (ne:t≠i):Draw P w A i xs[k]? (OnTup i t k xs) (OnTup i t (k+1) xs):=by
 rintro s Q E ⟨⟨o,ho,hc,hd⟩,q,hq,hqc,n,hn⟩ item stop
 have ty:s.TypeIs (.ref i) "tuple_iterator":=⟨o,ho,hc⟩
 refine lJa (lVm (name:=Str.ofString "__next__") ty F.slot_tuple_iterator_next (lQo F.slot_tuple_iterator_next ty F.entry_tuple_iterator_next ?_ (F.args_tuple_iterator_next_1 _)))
 refine (show wpAny _ _ (field (.ref i) 0 >>= _) _ _ s from lJa (lQ0 ho hd (x:= .ref t) rfl ?_))
 refine (show wpAny _ _ (if (Value.ref t == Value.none)=true then _ else field (.ref i) 1 >>= _) _ _ s from ?_)
 rw[lJb (by exact lJp)]
 refine lJa (lQ0 ho hd (x:= .int k 0) rfl (show wpAny _ _ (seqItems? (.ref t) >>= _) _ _ s from lJa (lVl hq hn ?_)))
 cases hx:xs[k]? with
 | some x=>
  simp only[hx,lXo]
  have up:OnTup i t (k+1) xs (s.heap.update i (Obj.mapFields (·.setIfInBounds 1 (rawInt ((k:Int)+1))))):=by
   refine⟨⟨_,lXp _ ho (Obj.isFreed_of_fields (Obj.data_mapFields hd _)),(Obj.cls_mapFields ..).trans hc,?_⟩,q,(lXu ..).extBut t q ne hq,hqc,n,hn⟩
   rw[Obj.data_mapFields hd];simp[rawInt]
  exact lJa (wpAny_setField ho hd (by simp) (lJd ⟨x,rfl,lJd (item x _ hx up (lXu ..))⟩))
 | none=>
  simp only[hx,lXo]
  refine lJa (lQe (lJa (wpAny_setField ho hd (by simp) (show wpAny _ _ (newExc (.type "StopIteration") [] >>= _) _ _ _ from lJa ?_))))
  simp only[newExc,newTuple,raiseNew]
  refine lJa (lK9 (lJa (m:=firstArgMember _ _) (wpAny_of_eq (a:=Value.none) (by first | rfl | (simp only[firstArgMember];rfl)) (lK9 ?_ (by size_fits)))) (by size_fits))
  refine lJa (wpAny_handled ?_);rw[show A.in1.handled=none from hh]
  exact lJa (lJd (wpAny_throw (stop _ _ _ hx (((lXu ..).extBut.push _).push _) (lJ6 _ rfl) rfl)))
structure ZipAt (z TI TO i j:Addr):Prop where
 nd:[z,TI,TO,i,j].Nodup
theorem qJv {P:Program} {w:World} {A:Around} {z TI TO i j:Addr} {r1 r2:Option Value} {S S' U U':Heap->Prop} {a b:Value} {s:Shared} {Q E:Value->Shared->Prop}
  (D1:Draw P w A i r1 S S') (D2:Draw P w A j r2 U U') (nd:ZipAt z TI TO i j) (s1:jZf [z,TO,j] S) (s1':jZf [z,TO,j] S') (s2:jZf [z,TO,i] U) (s2':jZf [z,TO,i] U')
  (hz:IsZip s.heap z TI TO .none) (hTI:IsPair s.heap TI (.ref i) (.ref j)) (hTO:IsPair s.heap TO a b) (h1:S s.heap) (h2:U s.heap)
  (item:∀x y g,r1=some x->r2=some y->IsZip g z TI TO (rawInt s.heap.objs.size)->IsPair g TO x y->S' g->U' g->IsPair g s.heap.objs.size x y->Off [z,TO,i,j] s.heap g->Q (.ref s.heap.objs.size) {s with heap:=g})
  (stop:∀g e o,(r1=none\/r2=none)->Off [z,TO,i,j] s.heap g->g.get? e=some o->o.cls= .type "StopIteration"->E (.ref e) {s with heap:=g}):
  wpAny (model P w) A (Builtin.«zip.__next__» ⟨[.ref z],[]⟩) (fun f s'=>∃v,f= .done (.ret v)/\Q v s') E s:=by
 have ap:=nd.nd
 simp only[lK0,lJk,lJ2,lKd,not_or] at ap
 obtain⟨⟨zTI,zTO,zi,zj⟩,⟨TITO,TIi,TIj⟩,⟨TOi,TOj⟩,ij,_⟩:=ap
 refine (show wpAny _ _ (field (.ref z) 2 >>= _) _ _ _ from lJa (lQ0 hz rfl (x:= .bool false) rfl (show wpAny _ _ (field (.ref z) 3 >>= _) _ _ _ from lJa (lQ0 hz rfl (x:= .ref TI) rfl (lJa (lVl hTI rfl ?_))))))
 refine (show wpAny _ _ (Builtin.SmallTypes.ownedTupleIsFree (.ref z) >>= _) _ _ _ from lJa ?_)
 unfold Builtin.SmallTypes.ownedTupleIsFree;refine lJa (lQ0 hz rfl (x:= .none) rfl (lJd ?_))
 rw[lJc rfl]
 refine lJa (lQe (lJa (lQ0 hz rfl (x:= .ref TO) rfl (lJa (lVn hz (by simp) fun g1 hz1 b1=>lJa ?_)))))
 replace hz1:IsZip g1 z TI TO .ellipsis:=hz1
 have o1:Off [z,TO,i,j] s.heap g1:= .one b1 (by simp)
 simp only[List.forIn_cons,List.forIn_nil,List.zipIdx_cons,List.zipIdx_nil]
 refine lJa (lJa (wpAny_onRaise (show wpAny _ _ (Builtin.SmallTypes.nextOf (.ref i) >>= _) _ _ _ from lJa (D1 _ _ _ (s1 _ _ (.one b1 (by simp)) h1) (fun x g2 ex S2 b2=>lJd ?_) fun g2 e o en b2 he hc=> ?_))))
 ·have o2:Off [z,TO,i,j] s.heap g2:=o1.then (.one b2 (by simp))
  have hz2:IsZip g2 z TI TO .ellipsis:=b2.extBut _ _ zi hz1
  have hp2:IsPair g2 TO a b:=b2.extBut _ _ TOi (b1.extBut _ _ (Ne.symm zTO) hTO)
  refine lJa (lVl hp2 rfl (lJa (wpAny_updateSeq_pair hp2 fun g3 hp3 b3=>lJa (wpAny_letGo (lJd ?_)))))
  replace hp3:IsPair g3 TO x b:=hp3
  have o3:Off [z,TO,i,j] s.heap g3:=o2.then (.one b3 (by simp))
  have hz3:IsZip g3 z TI TO .ellipsis:=b3.extBut _ _ zTO hz2
  have U3:U g3:=s2 _ _ (((Off.one b1 (by simp)).then (.one b2 (by simp))).then (.one b3 (by simp))) h2
  refine lJa (lJa (wpAny_onRaise (show wpAny _ _ (Builtin.SmallTypes.nextOf (.ref j) >>= _) _ _ _ from lJa (D2 _ _ _ U3 (fun y g4 ey U4 b4=>lJd ?_) fun g4 e o en b4 he hc=> ?_))))
  ·have hp4:IsPair g4 TO x b:=b4.extBut _ _ TOj hp3
   refine lJa (lVl hp4 rfl (lJa (wpAny_updateSeq_pair hp4 fun g5 hp5 b5=>lJa (wpAny_letGo (lJd (lJd ?_))))))
   replace hp5:IsPair g5 TO x y:=hp5
   have o5:Off [z,TO,i,j] s.heap g5:=(o3.then (.one b4 (by simp))).then (.one b5 (by simp))
   have hz5:IsZip g5 z TI TO .ellipsis:=b5.extBut _ _ zTO (b4.extBut _ _ zj hz3)
   have S5:S' g5:=s1' _ _ (((Off.one b3 (by simp)).then (.one b4 (by simp))).then (.one b5 (by simp))) S2
   have U5:U' g5:=s2' _ _ (.one b5 (by simp)) U4
   have n5:g5.objs.size=s.heap.objs.size:=by rw[b5.1,b4.1,b3.1,b2.1,b1.1]
   refine lJa (lVl hp5 rfl (lJa (wpAny_newTuple ?_)))
   refine (show wpAny _ _ (Builtin.SmallTypes.ownedTupleHandOut (.ref z) (.ref g5.objs.size) >>= _) _ _ _ from lJa ?_)
   unfold Builtin.SmallTypes.ownedTupleHandOut;refine lJa (lVn (show IsZip (g5.push {cls:= .type "tuple",data:= .seq #[x,y]}) z TI TO .ellipsis from lJm _ hz5) (by simp) fun g6 hz6 b6=> ?_)
   refine lVn hz6 (by simp) fun g7 hz7 b7=>lJd ⟨_,rfl,?_⟩
   have o7:Off [z] g5 g7:=((Off.new _ _ _).then (.one b6 (by simp))).then (.one b7 (by simp))
   have zl:z<g5.objs.size:=lJj hz5
   have new:IsPair g7 g5.objs.size x y:=b7.extBut _ _ (lK4 zl) (b6.extBut _ _ (lK4 zl) (lJ6 _ rfl))
   replace hz7:IsZip g7 z TI TO (rawInt g5.objs.size):=hz7
   show Q (.ref g5.objs.size) _
   rw[n5] at hz7 new ⊢
   have w1:∀ {cs:List Addr},z∈cs->Off cs g5 g7:=fun m c n=>o7 c (by simp only[lJ4];exact fun q=>n (q▸m))
   exact item x y g7 ex ey hz7 (o7.at (by simpa using Ne.symm zTO) hp5) (s1' _ _ (w1 (by simp)) S5) (s2' _ _ (w1 (by simp)) U5) new (o5.then (w1 (by simp)))
  ·have hz4:IsZip g4 z TI TO .ellipsis:=b4 _ _ zj hz3
   have ez:e≠z:=fun q=>by subst q;rw[hz4] at he;cases he;simp at hc
   exact lVn hz4 (by simp) fun g5 _ b5=>stop g5 e o (.inr en) ((o3.then (.ext b4 (by simp))).then (.one b5 (by simp))) (b5.extBut _ _ ez he) hc
 ·have hz2:IsZip g2 z TI TO .ellipsis:=b2 _ _ zi hz1
  have ez:e≠z:=fun q=>by subst q;rw[hz2] at he;cases he;simp at hc
  exact lVn hz2 (by simp) fun g3 _ b3=>stop g3 e o (.inl en) ((o1.then (.ext b2 (by simp))).then (.one b3 (by simp))) (b3.extBut _ _ ez he) hc
theorem kUx {P:Program} {w:World} {A:Around} {z TI TO i j:Addr} {r1 r2:Option Value} {S S' U U':Heap->Prop} {a b:Value} {s:Shared} {Q:Option Value->Shared->Prop} {E:Value->Shared->Prop}
  (D1:Draw P w A.in1 i r1 S S') (D2:Draw P w A.in1 j r2 U U') (nd:ZipAt z TI TO i j) (s1:jZf [z,TO,j] S) (s1':jZf [z,TO,j] S') (s2:jZf [z,TO,i] U) (s2':jZf [z,TO,i] U')
  (hz:IsZip s.heap z TI TO .none) (hTI:IsPair s.heap TI (.ref i) (.ref j)) (hTO:IsPair s.heap TO a b) (h1:S s.heap) (h2:U s.heap)
  (item:∀x y g,r1=some x->r2=some y->IsZip g z TI TO (rawInt s.heap.objs.size)->IsPair g TO x y->S' g->U' g->IsPair g s.heap.objs.size x y->Off [z,TO,i,j] s.heap g->Q (some (.ref s.heap.objs.size)) {s with heap:=g})
  (stop:∀g,(r1=none\/r2=none)->Off [z,TO,i,j] s.heap g->Q none {s with heap:=g}):wpAny (model P w) A (pyNext (.ref z)) Q E s:=by
 have ty:s.TypeIs (.ref z) "zip":=⟨_,hz,rfl⟩
 refine lJa (wpAny_attempt (lVm (name:=Str.ofString "__next__") ty F.slot_zip_next (lQo F.slot_zip_next ty F.entry_zip_next ?_ (F.args_zip_next_1 _))))
 refine qJv D1 D2 nd s1 s1' s2 s2' hz hTI hTO h1 h2 (fun x y g q1 q2 q3 q4 q5 q6 q7 q8=>lJd (item x y g q1 q2 q3 q4 q5 q6 q7 q8)) fun g e o en f he hc=> ?_
 exact lJa (lX5 (T:="StopIteration") (b:=true) ⟨o,he,hc⟩ isSubtype_stop (lJd (stop g en f)))
def itOf (t:Addr):Obj:={cls:= .type "tuple_iterator",data:= .fields #[.ref t,.int 0 0]}
def jXc (xs:Array Value):Obj:={cls:= .type "tuple",data:= .seq xs}
noncomputable def zips (g:Heap) (t u:Addr):Heap:=
 let g2:=(g.push (itOf t)).push (itOf u)
 let g3:=g2.push (jXc #[.ref g.objs.size,.ref (g.push (itOf t)).objs.size])
 let g4:=g3.push (jXc #[.none,.none])
 g4.push {cls:= .type "zip",data:= .fields #[.none,.bool false,.bool false,.ref g2.objs.size,.ref g3.objs.size]}
theorem qUx (t u:Addr) (xs ys:Array Value):
  Meets (Builtin.«zip.__new__» ⟨[.type "zip",.ref t,.ref u],[]⟩) fun _ R s=>s.heap.IsTuple t xs/\s.heap.IsTuple u ys/\R (.ok (.ret (.ref (((((s.heap.push (itOf t)).push (itOf u)).push (jXc #[.ref s.heap.objs.size,.ref (s.heap.push (itOf t)).objs.size])).push (jXc #[.none,.none])).objs.size)))) {s with heap:=zips s.heap t u}:=by
 refine .of_wp fun P w A R s ⟨ht,hu,h⟩=> ?_
 obtain⟨g,a1,a2,a3,a4⟩:=s
 have sb:=sub_zip
 have m1:Heap.IsTuple (Shared.heap ⟨g,a1,a2,a3,a4⟩) t xs:=ht
 have m2:Heap.IsTuple (Shared.heap ⟨g.push {cls:= .type "tuple_iterator",data:= .fields #[.ref t,.int 0 0]},a1,a2,a3,a4⟩) u ys:=hu.push _
 wp_walk using wpAny_pyIter_tuple m1,wpAny_pyIter_tuple m2
 exact⟨_,rfl,h⟩
theorem qJu {P:Program} {w:World} {A:Around} {s:Shared} {t u:Addr} {xs ys:Array Value} {Q E:Value->Shared->Prop} (ht:s.heap.IsTuple t xs) (hu:s.heap.IsTuple u ys)
  (h:∀g n,n=s.heap.objs.size->IsZip g (n+4) (n+2) (n+3) .none->IsPair g (n+2) (.ref n) (.ref (n+1))->IsPair g (n+3) .none .none->OnTup n t 0 xs g->OnTup (n+1) u 0 ys g->
   (∀c o,s.heap.get? c=some o->g.get? c=some o)->Q (.ref (n+4)) {s with heap:=g}):wpAny (model P w) A (call (.type "zip") [.ref t,.ref u]) Q E s:=by
 refine callType_new F.called_zip (by decide) (F.typeCall_zip_2 _ _) (F.newCall_zip_2 _ _) (fun obj=>F.args_object_init_3 obj _ _) F.entry_zip_new (qUx t u xs ys) ⟨ht,hu,?_⟩
 have hn:∀(g:Heap) (o:Obj),(g.push o).objs.size=g.objs.size+1:=fun _ _=>lVf ..
 have up:∀ {g:Heap} {o q:Obj} {c:Addr},g.get? c=some q->(g.push o).get? c=some q:=fun e=>lJm _ e
 have at':∀(g:Heap) (o:Obj),o.isFreed=false->(g.push o).get? g.objs.size=some o:=fun g o h=>lJ6 _ h
 have kp:∀c o,s.heap.get? c=some o->(zips s.heap t u).get? c=some o:=fun c o e=>up (up (up (up (up e))))
 obtain⟨q,hq,hr⟩:=ht
 obtain⟨q',hq',hr'⟩:=hu
 have c0:(zips s.heap t u).get? s.heap.objs.size=some (itOf t):=up (up (up (up (at' _ _ rfl))))
 have c1:(zips s.heap t u).get? (s.heap.push (itOf t)).objs.size=some (itOf u):=up (up (up (at' _ _ rfl)))
 have c2:=up (g:=((s.heap.push (itOf t)).push (itOf u)).push (jXc #[.ref s.heap.objs.size,.ref (s.heap.push (itOf t)).objs.size])) (o:=jXc #[.none,.none]) (at' ((s.heap.push (itOf t)).push (itOf u)) (jXc #[.ref s.heap.objs.size,.ref (s.heap.push (itOf t)).objs.size]) rfl)
 have c2':(zips s.heap t u).get? ((s.heap.push (itOf t)).push (itOf u)).objs.size=some (jXc #[.ref s.heap.objs.size,.ref (s.heap.push (itOf t)).objs.size]):=up c2
 have c3:(zips s.heap t u).get? (((s.heap.push (itOf t)).push (itOf u)).push (jXc #[.ref s.heap.objs.size,.ref (s.heap.push (itOf t)).objs.size])).objs.size=some (jXc #[.none,.none]):=up (at' _ _ rfl)
 have c4:(zips s.heap t u).get? ((((s.heap.push (itOf t)).push (itOf u)).push (jXc #[.ref s.heap.objs.size,.ref (s.heap.push (itOf t)).objs.size])).push (jXc #[.none,.none])).objs.size=some {cls:= .type "zip",data:= .fields #[.none,.bool false,.bool false,.ref ((s.heap.push (itOf t)).push (itOf u)).objs.size,.ref (((s.heap.push (itOf t)).push (itOf u)).push (jXc #[.ref s.heap.objs.size,.ref (s.heap.push (itOf t)).objs.size])).objs.size]}:=at' _ _ rfl
 show _/\_
 simp only[hn] at c1 c2' c3 c4 ⊢
 exact⟨⟨_,c4,rfl⟩,h _ _ rfl c4 c2' c3 ⟨⟨_,c0,rfl,rfl⟩,q,kp _ _ hq,hr⟩ ⟨⟨_,c1,rfl,rfl⟩,q',kp _ _ hq',hr'⟩ kp⟩
noncomputable def Itz (K:PySem.W.Frag) (a1 a2:Addr):It:=
 ⟨fun i H=>∃xs ys x y,SqT K H a1 xs/\SqT K H a2 ys/\xs[i]? =some x/\ys[i]? =some y,
  fun i H v H'=>∃p x y,H p=none/\v= .ref p/\(∀xs,SqT K H a1 xs->xs[i]? =some x)/\(∀ys,SqT K H a2 ys->ys[i]? =some y)/\H'=upd H p (.tup [x,y]),
  fun i H=>∃xs ys,SqT K H a1 xs/\SqT K H a2 ys/\(xs.length<=i\/ys.length<=i)⟩
theorem qQ5 {z TI TO i1 i2 a1 a2:Addr} (D:ZipApart z TI TO i1 i2 a1 a2):ZipAt z TI TO i1 i2:=
 ⟨by simp[D.TIz.symm,D.TOz.symm,D.i1z.symm,D.i2z.symm,D.TITO,D.TIi1,D.TIi2,D.TOi1,D.TOi2,D.i12]⟩
theorem kJh {z TI TO i1 i2 a1 a2:Addr} {k:Nat} {xs:Array Value} (D:ZipApart z TI TO i1 i2 a1 a2):jZf [z,TO,i2] (OnTup i1 a1 k xs):=
 OnTup.still (by simp[D.i1z,D.TOi1.symm,D.i12]) (by simp[D.l1z,D.l1TO,D.l1i2])
theorem kJg {z TI TO i1 i2 a1 a2:Addr} {k:Nat} {xs:Array Value} (D:ZipApart z TI TO i1 i2 a1 a2):jZf [z,TO,i1] (OnTup i2 a2 k xs):=
 OnTup.still (by simp[D.i2z,D.TOi2.symm,D.i12.symm]) (by simp[D.l2z,D.l2TO,D.l2i1])
theorem qJy {P:Program} {w:World} {K:PySem.W.Frag} {elts:List Expr} {k:Nat} {pos:Pos} (z TI TO i1 i2 a1 a2:Addr) (D:ZipApart z TI TO i1 i2 a1 a2):
  Turn P w K (.Tuple elts k pos) (Itz K a1 a2) [z,TI,TO,i1,i2] z (fun i h=>IsZip h z TI TO .none/\IsPair h TI (.ref i1) (.ref i2)/\(∃a b,IsPair h TO a b)/\h.IsTupleIter i1 a1 i/\h.IsTupleIter i2 a2 i) where
 mem:=by simp
 obj:=fun i h ⟨hz,hTI,⟨a,b,hTO⟩,h1,h2⟩ c hc=>by
  simp only[lJk,lJ2,lKd] at hc
  rcases hc with rfl | rfl | rfl | rfl | rfl
  ·exact⟨_,hz,fun v z=>nomatch (show Data.fields _=Data.cell v from z)⟩
  ·exact⟨_,hTI,fun v z=>nomatch (show Data.seq _ _=Data.cell v from z)⟩
  ·exact⟨_,hTO,fun v z=>nomatch (show Data.seq _ _=Data.cell v from z)⟩
  ·obtain⟨o,e,c,d⟩:=h1;exact⟨o,e,fun v z=>by rw[d] at z;cases z⟩
  ·obtain⟨o,e,c,d⟩:=h2;exact⟨o,e,fun v z=>by rw[d] at z;cases z⟩
 keep:=fun i h h' ⟨hz,hTI,⟨a,b,hTO⟩,h1,h2⟩ kp=>⟨kp z (by simp) _ hz,kp TI (by simp) _ hTI,⟨a,b,kp TO (by simp) _ hTO⟩,h1.at fun o q=>kp i1 (by simp) o q,h2.at fun o q=>kp i2 (by simp) o q⟩
 item:=by
  rintro X hP hw hK hc i pins s σ H E I hf ⟨hz,hTI,⟨a,b,hTO⟩,h1,h2⟩ hg
  subst hP hw hK
  obtain⟨xs,ys,x,y,hq1,hq2,hx,hy⟩:=hg
  obtain⟨its1,rv1,p1,hz1⟩:=I.tuple hq1
  obtain⟨its2,rv2,p2,hz2⟩:=I.tuple hq2
  obtain⟨u1,hu1,ru1⟩:=rv1.get hx
  obtain⟨u2,hu2,ru2⟩:=rv2.get hy
  refine kUx (r1:=its1.toArray[i]?) (r2:=its2.toArray[i]?) (jUb (I.ok.hd hc) D.l1i1) (jUb (I.ok.hd hc) D.l2i2) (qQ5 D) (kJh D) (kJh D) (kJg D) (kJg D) hz hTI hTO ⟨h1,p1⟩ ⟨h2,p2⟩ (fun x' y' g1 ex ey ho gTO g3 g4 hT hk=> ?_) (fun g en _=> ?_)
  rotate_left
  ·rcases en with e | e
   ·rw[show its1.toArray[i]? =some u1 by simpa using hu1] at e;cases e
   ·rw[show its2.toArray[i]? =some u2 by simpa using hu2] at e;cases e
  obtain rfl:u1=x':=by simpa[hu1] using ex
  obtain rfl:u2=y':=by simpa[hu2] using ey
  refine⟨_,rfl,wpAny_letOwnedTupleGo_zip ho fun g2 gz hs2=> ?_⟩
  have hzl:z<s.heap.objs.size:=lJj hz
  have hp2:∀b o,b∉[z,TI,TO,i1,i2]->s.heap.get? b=some o->g2.get? b=some o:=fun b o hb q=>by
   simp only[lJk,lJ2,lKd,not_or] at hb
   exact (hs2.2 b hb.1).trans (hk b (by simp only[lJk,lJ2,lKd,not_or];exact⟨hb.1,hb.2.2.1,hb.2.2.2.1,hb.2.2.2.2⟩) o q)
  have hT2:g2.get? s.heap.objs.size=some {cls:= .type "tuple",data:= .seq #[u1,u2]}:=(hs2.2 _ (lK4 hzl)).trans hT
  have I2:=jVt (t':=s.toks) (h':=g2) (p:=s.heap.objs.size) (vs:=[x,y]) (us:=[u1,u2]) I hp2 hf (lJg _) ⟨_,hT2,rfl,_,rfl,rfl⟩ (.cons ru1 (.cons ru2 .nil)) (by show 2<=sizeLine;decide)
  refine⟨.ref s.heap.objs.size,_,I2,rfl,⟨_,x,y,I.hok.fresh (lJg _),rfl,fun zs hz=>by rw[I.tuple_inj hz hq1];exact hx,fun zs hz=>by rw[I.tuple_inj hz hq2];exact hy,rfl⟩,
   ⟨gz,(hs2.2 _ D.TIz).trans (hk _ (by simp[D.TIz,D.TITO,D.TIi1,D.TIi2]) _ hTI),⟨_,_,(hs2.2 _ D.TOz).trans gTO⟩,g3.1.at fun o q=>(hs2.2 _ D.i1z).trans q,g4.1.at fun o q=>(hs2.2 _ D.i2z).trans q⟩,fun b hb=> ?_⟩
  have hbs:∃o,s.heap.get? b=some o:=by
   have hbq:=hb
   simp only[lJk,lJ2,lKd] at hbq
   rcases hbq with rfl | rfl | rfl | rfl | rfl
   ·exact⟨_,hz⟩
   ·exact⟨_,hTI⟩
   ·exact⟨_,hTO⟩
   ·obtain⟨o,q,_⟩:=h1;exact⟨o,q⟩
   ·obtain⟨o,q,_⟩:=h2;exact⟨o,q⟩
  obtain⟨o,q⟩:=hbs
  rw[jJ2 (lJr (lJj q))]
  exact (hf b hb).1
 done:=by
  rintro X hP hw hK hc i pins s σ H E I hf ⟨hz,hTI,⟨a,b,hTO⟩,h1,h2⟩ hg
  subst hP hw hK
  obtain⟨xs,ys,hq1,hq2,hx⟩:=hg
  obtain⟨its1,rv1,p1,hz1⟩:=I.tuple hq1
  obtain⟨its2,rv2,p2,hz2⟩:=I.tuple hq2
  have hl1:=rv1.length
  have hl2:=rv2.length
  refine kUx (r1:=its1.toArray[i]?) (r2:=its2.toArray[i]?) (jUb (I.ok.hd hc) D.l1i1) (jUb (I.ok.hd hc) D.l2i2) (qQ5 D) (kJh D) (kJh D) (kJg D) (kJg D) hz hTI hTO ⟨h1,p1⟩ ⟨h2,p2⟩ (fun x' y' g1 ex ey _ _ _ _ _ _=> ?_) (fun g1 _ hk=>⟨rfl,kJc (t':=s.toks) (fp:=[z,TI,TO,i1,i2]) I (fun b o hb q=> ?_) hf⟩)
  ·have q1:i<its1.length:=by simpa using (lYa.mp ex).1
   have q2:i<its2.length:=by simpa using (lYa.mp ey).1
   omega
  ·exact hk b (fun m=>hb (by simp only[lJk,lJ2,lKd] at m ⊢; rcases m with h | h | h | h<;>simp[h])) o q
 self:=fun _ _ _ _ _ ⟨hz,_⟩ h=>wpAny_pyIter_zip hz h
theorem qQ6 {n a b:Nat} (ha:a<n) (hb:b<n):ZipApart (n+4) (n+2) (n+3) n (n+1) a b:=by
 constructor<;>(show @Ne Nat _ _;omega)
def zipT (xs ys:List T):List T:=(xs.zip ys).map fun p=>T.tup [p.1,p.2]
end L3
namespace L3
open PySem
theorem atN {α:Type} {xs:List α} {n:Nat}:L2.atI xs (n:Int)=xs[n]? :=by
 unfold L2.atI L2.ixN
 by_cases h:n<xs.length
 ·simp[h]
 ·simp[h]
theorem at0 {α:Type} {x:α} {xs:List α}:L2.atI (x::xs) 0=some x:=(atN (n:=0)).trans rfl
theorem at1 {α:Type} {x y:α} {xs:List α}:L2.atI (x::y::xs) 1=some y:=(atN (n:=1)).trans rfl
theorem at2 {α:Type} {x y z:α} {xs:List α}:L2.atI (x::y::z::xs) 2=some z:=(atN (n:=2)).trans rfl
theorem atZ {α:Type} {xs:List α} {i:Int} (h:0<=i):L2.atI xs i=xs[i.toNat]? :=by
 obtain⟨n,rfl⟩:=lXv h
 simpa using atN
theorem qV2 {n k:Nat} (h:k<n):L2.ixN n (k:Int)=some k:=by simp[L2.ixN,h]
theorem ix0 {n:Nat}:L2.ixN (n+1) 0=some 0:=qV2 (k:=0) (by omega)
theorem ix1 {n:Nat}:L2.ixN (n+2) 1=some 1:=qV2 (k:=1) (by omega)
theorem ix2 {n:Nat}:L2.ixN (n+3) 2=some 2:=qV2 (k:=2) (by omega)
theorem ix30:L2.ixN 3 0=some 0:=ix0
theorem ix31:L2.ixN 3 1=some 1:=ix1
theorem ix32:L2.ixN 3 2=some 2:=ix2
theorem qQz {G:Gp} {i j:Int}:addR G (.int i) (.int j)=some (.val (.int (i+j))):=rfl
theorem kKm {G:Gp} {p q:Addr} {xs ys:List T} (h1:G p=some (.lst xs)) (h2:G q=some (.lst ys)) (hz:xs.length+ys.length<=sizeLine):addR G (.ref p) (.ref q)=some (.newL (xs++ys)):=by simp only[addR,h1,h2,hz,lKn]
theorem qKy {G:Gp} {i j:Int}:mulR G (.int i) (.int j)=some (.val (.int (i*j))):=rfl
theorem qK0 {i j:Int}:mulC (.int i) (.int j)=L2.CMul i j:=rfl
theorem qKz {p:Addr} {j:Int}:mulC (.ref p) (.int j)=True:=rfl
theorem qXc {t:T} {G:Gp} {Q:VK3}:fin3 (.val t) G Q=Q t G:=rfl
theorem kKe {xs:List T} {G:Gp} {Q:VK3}:fin3 (.newL xs) G Q=∀p,G p=none->Q (.ref p) (gup G p (.lst xs)):=rfl
theorem qVy {G:Gp} {xs:List T} {i:Int}:ixR G (.tup xs) (.int i)=L2.atI xs i:=rfl
theorem qVz {G:Gp} {xs:List T} {i:Int}:ixR G (.scr xs) (.int i)=L2.atI xs i:=rfl
theorem jKs {G:Gp} {p:Addr} {xs:List T} {i:Int} (h:G p=some (.lst xs)):ixR G (.ref p) (.int i)=L2.atI xs i:=by simp only[ixR,seqT,h,asL]
theorem qJ9 {G:Gp} {xs:List T}:seqT G (.tup xs)=some xs:=rfl
theorem jJj {G:Gp} {p:Addr} {xs:List T} (h:G p=some (.lst xs)):seqT G (.ref p)=some xs:=by simp only[seqT,h,asL]
theorem qQ8 {G:Gp} {p:Addr} {xs:List T} {k:Int} {v:T} (h:G p=some (.lst xs)):setR G (.ref p) (.int k) v=(L2.ixN xs.length k).map fun j=>gup G p (.lst (xs.set j v)):=by
 cases e:L2.ixN xs.length k with
 | none=>simp only[setR,h,e,Option.map_none]
 | some j=>simp only[setR,h,e,lQj]
theorem qJ7 {G:Gp} {p:Addr} {xs:List T} {k:Int} {v:T}:setR (gup G p (.lst xs)) (.ref p) (.int k) v=(L2.ixN xs.length k).map fun j=>gup G p (.lst (xs.set j v)):=by
 rw[qQ8 jJh];simp only[kZv]
theorem qV0 {G:Gp} {p:Addr} {xs:List T} {i:Int}:ixR (gup G p (.lst xs)) (.ref p) (.int i)=L2.atI xs i:=jKs jJh
theorem jYd {G:Gp} {p:Addr} {xs:List T}:seqT (gup G p (.lst xs)) (.ref p)=some xs:=jJj jJh
def ForAt (g:TG3) (tb:TS3) (D:Ends3) (τ:St3) (xs:List T) (stay:Gp->Prop) (G:Gp):Prop:=∃P:Nat->St3->Gp->Prop,P 0 τ G/\(∀i τ G,i<=xs.length->P i τ G->stay G)/\
 (∀i x τ G,xs[i]? =some x->P i τ G->g x τ G fun τ2 G2=>tb {D with nx:=P (i+1),ct:=P (i+1),bk:=D.nx} τ2 G2)/\∀ τ G,P xs.length τ G->D.nx τ G
theorem jJ3 {wi:TI3} {g:TG3} {tb:TS3} {D:Ends3} {τ:St3} {G:Gp}:tFor wi g tb D τ G=wi τ G fun xs stay G1=>ForAt g tb D τ xs stay G1:=rfl
def jU0 (mask:List Bool) (g:TG3) (tif:TT3) (te:TE3) (τ:St3) (xs:List T) (stay:Gp->Prop) (G:Gp) (Q:VK3):Prop:=kJf mask g tif te τ xs stay G Q
theorem qJ2 {mask:List Bool} {wi:TI3} {g:TG3} {tif:TT3} {te:TE3} {τ:St3} {G:Gp} {Q:VK3}:jKf mask wi g tif te τ G Q=wi τ G fun xs stay G1=>jU0 mask g tif te τ xs stay G1 Q:=rfl
def Sub (G G':Gp):Prop:=∀c o,G c=some o->G' c=some o
theorem Sub.refl (G:Gp):Sub G G:=fun _ _ h=>h
theorem Sub.trans {G G1 G2:Gp} (h:Sub G G1) (h':Sub G1 G2):Sub G G2:=fun c o e=>h' c o (h c o e)
theorem Sub.new {p:Addr} {G:Gp} {o:GO} (hp:G p=none):Sub G (gup G p o):=fun c u e=>by rw[jJp];exact e;rintro rfl;rw[hp] at e;cases e
theorem Sub.over {p:Addr} {G G':Gp} {o:GO} (h:Sub G G') (hp:G p=none):Sub G (gup G' p o):=fun c u e=>by rw[jJp];exact h c u e;rintro rfl;rw[hp] at e;cases e
theorem Sub.none {G G':Gp} {p:Addr} (h:Sub G G') (hp:G' p=none):G p=none:=by
 cases e:G p with
 | none=>rfl
 | some o=>rw[h p o e] at hp;cases hp
theorem qQi {G:Gp} {a p:Addr} {o:GO} (h:gup G a o p=none):p≠a/\G p=none:=by
 by_cases e:p=a
 ·subst e;rw[jJh] at h;cases h
 ·rw[jJp e] at h;exact⟨e,h⟩
theorem jJi {G:Gp} {a p:Addr} {o:GO} (h:G a=some o) (hp:G p=none):a≠p:=by rintro rfl;rw[h] at hp;cases hp
theorem Sub.seq {G G':Gp} {x:T} {xs:List T} (h:Sub G G') (e:seqT G x=some xs):seqT G' x=some xs:=by
 cases x with
 | ref p=>have:=jVc e;simp only[seqT,h p _ this,asL]
 | tup _=>exact e
 | scr _=>exact e
 | non=>exact e
 | bl _=>exact e
 | int _=>exact e
 | str _=>exact e
 | ty _=>exact e
theorem jJ7 {α β:Type} {enc:α->β} {es:List α} {i:Nat} {x:β} (h:(es.map enc)[i]? =some x):∃e,es[i]? =some e/\x=enc e:=by
 rw[lKa] at h
 cases e1:es[i]? with
 | none=>rw[e1] at h;cases h
 | some e=>rw[e1] at h;exact⟨e,rfl,(lJw h).symm⟩
theorem jUk {α:Type} {mask:List Bool} {g:TG3} {tif:TT3} {te:TE3} {τ:St3} {es:List α} {enc:α->T} {stay:Gp->Prop} {G:Gp} {Q:VK3} (f:α->Option T) (hz:es.length<=sizeLine) (hst:∀G',Sub G G'->stay G')
  (h:∀(i:Nat) e,es[i]? =some e->∀G' (K:T->Gp->Prop) (K0:Gp->Prop),Sub G G'->(∀y G4,f e=some y->Sub G' G4->K y G4)->(f e=none->∀G4,Sub G' G4->K0 G4)->g (enc e) (msk mask τ) G' fun τ2 G2=>tif τ2 G2 fun b G3=>if b=true then te τ2 G3 K else K0 G3)
  (hq:∀D G',G D=none->G' D=some (.lst (es.filterMap f))->Sub G G'->Q (.ref D) G'):jU0 mask g tif te τ (es.map enc) stay G Q:=by
 intro D hD
 refine⟨fun i acc G'=>acc=(es.take i).filterMap f/\G' D=some (.lst acc)/\Sub G G',⟨by simp,jJh,.new hD⟩,?_,?_,?_⟩
 ·rintro i acc G' hi ⟨ea,eg,hs⟩
  exact⟨hst G' hs,eg⟩
 ·rintro i x acc G' hx0 ⟨ea,eg,hs⟩
  obtain⟨e,hx,rfl⟩:=jJ7 hx0
  have hi:i<es.length:=(lJi.mp hx).1
  have tk:es.take (i+1)=es.take i++[e]:=by rw[lVg,hx];rfl
  have hlen:acc.length<sizeLine:=by
   have h1:acc.length<=(es.take i).length:=by rw[ea];exact lYp _ _
   rw[lK1] at h1;omega
  refine h i e hx G' _ _ hs (fun y G4 hy h4=>⟨h4 D _ eg,hlen,?_,jJh,(hs.trans h4).over hD⟩) fun hn G4 h4=>⟨?_,h4 D _ eg,hs.trans h4⟩
  ·rw[tk,lQu,<-ea];simp[hy]
  ·rw[tk,lQu,<-ea];simp[hn]
 ·rintro acc G' ⟨ea,eg,hs⟩
  rw[lJh,lVu] at ea
  rw[ea] at eg
  exact hq D G' hD eg hs
theorem jQs {α:Type} {mask:List Bool} {g:TG3} {tif:TT3} {te:TE3} {τ:St3} {es:List α} {enc:α->T} {stay:Gp->Prop} {G:Gp} {Q:VK3} (f:α->T) (hz:es.length<=sizeLine) (hst:∀G',Sub G G'->stay G')
  (h:∀(i:Nat) e,es[i]? =some e->∀G' (K:T->Gp->Prop) (K0:Gp->Prop),Sub G G'->(∀G4,Sub G' G4->K (f e) G4)->g (enc e) (msk mask τ) G' fun τ2 G2=>tif τ2 G2 fun b G3=>if b=true then te τ2 G3 K else K0 G3)
  (hq:∀D G',G D=none->G' D=some (.lst (es.map f))->Sub G G'->Q (.ref D) G'):jU0 mask g tif te τ (es.map enc) stay G Q:=by
 refine jUk (fun e=>some (f e)) hz hst (fun i e he G' K K0 hs hk _=>h i e he G' K K0 hs fun G4 h4=>hk _ G4 rfl h4) fun D G' hD h1 h2=>hq D G' hD ?_ h2
 rw[h1];congr 2;induction es with
 | nil=>rfl
 | cons a as ih=>simp
theorem jKy {G:Gp} {p:Addr} {xs:List T} (h:G p=some (.lst xs)):tyT G "list" (.ref p)=True:=by simp[tyT,h]
theorem kXt {G:Gp} {p:Addr} {xs:List T}:tyT (gup G p (.lst xs)) "list" (.ref p)=True:=jKy jJh
theorem jZ5 {α:Type} {mask:List Bool} {g:TG3} {tif:TT3} {te:TE3} {τ:St3} {es:List α} {enc:α->T} {stay:Gp->Prop} {G:Gp} {Q:VK3} (f:α->List T) (hz:es.length<=sizeLine) (hst:∀G',Sub G G'->stay G')
  (h:∀(i:Nat) e,es[i]? =some e->∀G' (K:T->Gp->Prop) (K0:Gp->Prop),Sub G G'->(∀p G4,G' p=none->G4 p=some (.lst (f e))->Sub G' G4->K (.ref p) G4)->g (enc e) (msk mask τ) G' fun τ2 G2=>tif τ2 G2 fun b G3=>if b=true then te τ2 G3 K else K0 G3)
  (hq:∀D rs G',G D=none->G' D=some (.lst (rs.map T.ref))->Sub G G'->rs.length=es.length->(D::rs).Nodup->(∀(i:Nat) (r:Addr) (e:α),rs[i]? =some r->es[i]? =some e->G r=none/\G' r=some (.lst (f e)))->Q (.ref D) G'):jU0 mask g tif te τ (es.map enc) stay G Q:=by
 intro D hD
 refine⟨fun i acc G'=>∃rs:List Addr,acc=rs.map T.ref/\rs.length=i/\G' D=some (.lst acc)/\Sub G G'/\(D::rs).Nodup/\(∀(i:Nat) (r:Addr) (e:α),rs[i]? =some r->es[i]? =some e->G r=none/\G' r=some (.lst (f e))),⟨[],rfl,rfl,jJh,.new hD,by simp,by simp⟩,?_,?_,?_⟩
 ·rintro i acc G' hi ⟨rs,ea,hl,eg,hs,hn,hr⟩
  exact⟨hst G' hs,eg⟩
 ·rintro i x acc G' hx0 ⟨rs,ea,hl,eg,hs,hn,hr⟩
  obtain⟨e,hx,rfl⟩:=jJ7 hx0
  have hi:i<es.length:=(lJi.mp hx).1
  have hlen:acc.length<sizeLine:=by rw[ea,lJh];omega
  refine h i e hx G' _ _ hs fun p G4 hp h4 s4=>⟨s4 D _ eg,hlen,rs++[p],by simp[ea],by simp[hl],jJh,(hs.trans s4).over hD,?_,?_⟩
  ·have hDp:D≠p:=jJi eg hp
   have hpr:p∉rs:=by
    intro hm
    obtain⟨j,hj⟩:∃j:Nat,_:=lKg hm
    have hjl:j<rs.length:=(lJi.mp hj).1
    have:=(hr j p es[j] hj (lJo (by omega))).2
    rw[hp] at this;cases this
   rw[lK0] at hn
   simp only[lK0,lJt,lJ4,not_or,lXc,lJ2,not_false_eq_true,lXb,and_true]
   exact⟨⟨hn.1,hDp⟩,hn.2,trivial,fun a ha b hb=>by subst hb;rintro rfl;exact hpr ha⟩
  ·intro j r e' hj he'
   have hjl:j<rs.length+1:=by have:=(lJi.mp hj).1;simpa using this
   by_cases hjr:j<rs.length
   ·rw[lK6 hjr] at hj
    obtain⟨q1,q2⟩:=hr j r e' hj he'
    have:r≠D:=by rintro rfl;exact (lK0.mp hn).1 (lJy hj)
    exact⟨q1,by rw[jJp this];exact s4 _ _ q2⟩
   ·have hj2:j=rs.length:=by omega
    subst hj2
    rw[lK5 (lJg _)] at hj
    simp at hj
    subst hj
    rw[hl,hx] at he';cases he'
    exact⟨hs.none hp,by rw[jJp (jJi eg hp).symm];exact h4⟩
 ·rintro acc G' ⟨rs,ea,hl,eg,hs,hn,hr⟩
  rw[ea] at eg
  exact hq D rs G' hD eg hs (by simpa using hl) hn hr
end L3
namespace L3
open PySem PySem.Spec PyProof.Rows L2
section
variable {X:Cx}
def rAddE:R3:=fun x y G Q=>∃ys,x= .tup []/\y= .tup ys/\Q (.tup ys) G
theorem o_addE:Op3 X (binaryOp .Add) rAddE:=by
 rintro pins s τ G H x y v u Q ⟨σ,I,hs,hg⟩ ⟨a,ra,rv⟩ ⟨b,rb,ru⟩ ⟨ys,ex,ey,q⟩
 subst ex;subst ey
 obtain⟨pa,vs,rfl,h1,r1⟩:=(show ∃p vs,a= .ref p/\H p=some (.tup vs)/\Reps X.K H [] vs from ra)
 obtain⟨pb,ws,rfl,h2,r2⟩:=(show ∃p vs,b= .ref p/\H p=some (.tup vs)/\Reps X.K H ys vs from rb)
 cases rv;cases ru
 obtain⟨its,q1,p1,_⟩:=I.tuple (.of h1)
 obtain⟨its2,q2,p2,_⟩:=I.tuple (.of h2)
 have e0:its.toArray.isEmpty=true:=by
  have e1:=r1.length
  have e2:=q1.length
  have:its=[]:=List.eq_nil_of_length_eq_zero (by simp at e1;omega)
  rw[this];rfl
 obtain⟨⟨cls,dd,data,sl⟩,ho,hc,n,hd⟩:=id p1
 obtain⟨⟨cls2,dd2,data2,sl2⟩,ho2,hc2,n2,hd2⟩:=id p2
 simp only at hc hd hc2 hd2
 subst hc hd hc2 hd2
 exact concat_meets ⟨_,ho,rfl⟩ ⟨_,ho2,rfl⟩ noFill_tuple_add seq_tuple_add PySem.F.slot_tuple_add PySem.F.entry_tuple_add (lYo _ _) (tuple_addW0 pa pb its.toArray its2.toArray n n2 dd dd2 sl sl2 e0)
  ⟨ho,ho2,.tup ys,G,H,.refl H,⟨σ,I,hs,hg⟩,⟨.ref pb,⟨pb,ws,rfl,h2,r2⟩,rfl⟩,q⟩
def kJy:R3:=fun x y G Q=>jKn x y G Q\/rAddE x y G Q
theorem jZz:Op3 X (binaryOp .Add) kJy:=o_addF.or o_addE
end
theorem kZ9 {P:Program} {w:World} {A:Around} (hh:A.handled=none) (it t:Addr) (ne:t≠it) (xs:Array Value):Draws P w A it [it,t] xs.size (fun i v=>xs[i]? =some v) (fun i h=>OnTup it t i xs h) where
 live:=fun _ _ ⟨⟨o,ho,_⟩,_⟩=>⟨o,ho⟩
 frame:=fun _ _ _ ⟨⟨o,ho,r⟩,⟨q,hq,r'⟩⟩ k=>⟨⟨o,k it (by simp) o ho,r⟩,⟨q,k t (by simp) q hq,r'⟩⟩
 item:=fun i s Q E hi st hQ=>jUb hh ne s Q E st (fun x g e s' b=>hQ x g s.toks e s' b) fun _ _ _ e=>by rw[lKt hi] at e;cases e
 done:=fun s Q E st hE=>jUb hh ne s Q E st (fun x _ e=>by rw[lQ3 (lJg _)] at e;cases e) fun g e o _ b he hc=>hE g e b ⟨o,he,hc⟩
def kVo (i:Addr):Obj:={cls:= .type "enumerate",data:= .fields #[.none,.bool false,.ref i,rawInt 0,.none,.none]}
theorem qQq (t:Addr) (xs:Array Value):
  Meets (Builtin.«enumerate.__new__» ⟨[.type "enumerate",.ref t],[]⟩) fun _ R s=>s.heap.IsTuple t xs/\R (.ok (.ret (.ref (s.heap.push (itOf t)).objs.size))) {s with heap:=(s.heap.push (itOf t)).push (kVo s.heap.objs.size)}:=by
 refine .of_wp fun P w A R s ⟨ht,h⟩=> ?_
 obtain⟨g,a1,a2,a3,a4⟩:=s
 have sb:=sub_enumerate
 have m1:Heap.IsTuple (Shared.heap ⟨g,a1,a2,a3,a4⟩) t xs:=ht
 obtain⟨⟨c,dct,dt,sl⟩,hl,hc,n,hd⟩:=id ht
 replace hc:c= .type "tuple":=hc
 replace hd:dt= .seq xs n:=hd
 subst hc hd
 wp_walk using AutoSeq1.wpAny_loadPart' hl
 refine wpAny_stack_any (fun stk=>lJd ?_)
 split
 ·rename_i k _ _ _ _ _
  cases (k == Value.type "enumerate")<;>(wp_walk using AutoSeq1.wpAny_loadPart' hl,wpAny_pyIter_tuple m1;exact⟨_,rfl,h⟩)
 ·wp_walk using AutoSeq1.wpAny_loadPart' hl,wpAny_pyIter_tuple m1;exact⟨_,rfl,h⟩
theorem kZ6 {P:Program} {w:World} {A:Around} {s:Shared} {t:Addr} {xs:Array Value} {Q E:Value->Shared->Prop} (ht:s.heap.IsTuple t xs)
  (h:∀g n,n=s.heap.objs.size->IsEnum g (n+1) n 0 .none->OnTup n t 0 xs g->(∀c o,s.heap.get? c=some o->g.get? c=some o)->Q (.ref (n+1)) {s with heap:=g}):wpAny (model P w) A (call (.type "enumerate") [.ref t]) Q E s:=by
 refine callType_new F.called_enumerate (by decide) (F.typeCall_enumerate_1 _) (F.newCall_enumerate_1 _) (fun obj=>F.args_object_init_2 obj _) F.entry_enumerate_new (qQq t xs) ⟨ht,?_⟩
 have hn:∀(g:Heap) (o:Obj),(g.push o).objs.size=g.objs.size+1:=fun _ _=>lVf ..
 have up:∀ {g:Heap} {o q:Obj} {c:Addr},g.get? c=some q->(g.push o).get? c=some q:=fun e=>lJm _ e
 obtain⟨q,hq,hr⟩:=ht
 have c0:((s.heap.push (itOf t)).push (kVo s.heap.objs.size)).get? s.heap.objs.size=some (itOf t):=up (lJ6 _ rfl)
 have c1:((s.heap.push (itOf t)).push (kVo s.heap.objs.size)).get? (s.heap.push (itOf t)).objs.size=some (kVo s.heap.objs.size):=lJ6 _ rfl
 show _/\_
 simp only[hn] at c1 ⊢
 exact⟨⟨_,c1,rfl⟩,h _ _ rfl c1 ⟨⟨_,c0,rfl,rfl⟩,q,up (up hq),hr⟩ fun c o e=>up (up e)⟩
theorem jUa {P:Program} {w:World} {A:Around} {s:Shared} {e it t:Addr} {i:Int} {k:Nat} {old:Value} {xs:Array Value} {Q:Option Value->Shared->Prop} {E:Value->Shared->Prop} (hh:A.handled=none) (ne:t≠it) (he:IsEnum s.heap e it i old) (st:OnTup it t k xs s.heap) (hk:xs.size<=k)
  (hQ:∀g,Heap.ExtBut it s.heap g->Q none {s with heap:=g}):wpAny (model P w) A (pyNext (.ref e)) Q E s:=by
 have ty:s.TypeIs (.ref e) "enumerate":=⟨_,he,rfl⟩
 refine lJa (wpAny_attempt (lVm (name:=Str.ofString "__next__") ty F.slot_enumerate_next (lQo F.slot_enumerate_next ty F.entry_enumerate_next ?_ (F.args_enumerate_next_1 _))))
 refine (show wpAny _ _ (field (.ref e) 2 >>= _) _ _ _ from lJa (lQ0 he rfl (x:= .ref it) rfl (lJa ?_)))
 refine jUb (A:=A.in1) hh ne s _ _ st (fun x _ e=>by rw[lQ3 hk] at e;cases e) fun g x o _ b hx hc=> ?_
 exact lJa (lX5 (T:="StopIteration") (b:=true) ⟨o,hx,hc⟩ isSubtype_stop (lJd (hQ g b)))
noncomputable def Itn (K:PySem.W.Frag) (a:Addr):It:=
 ⟨fun i H=>∃xs x,SqT K H a xs/\xs[i]? =some x,fun i H x H'=>∃p y,H p=none/\x= .ref p/\(∀xs,SqT K H a xs->xs[i]? =some y)/\H'=upd H p (.tup [.int i,y]),fun i H=>∃xs,SqT K H a xs/\xs.length<=i⟩
theorem kVn {h:Heap} {a e it:Addr} {i:Int} {old:Value} {k:Nat} {xs:Array Value} (he:IsEnum h e it i old) (hi:h.IsTupleIter it a k) (ht:h.IsTuple a xs):a≠it/\e∉[it,a]:=by
 obtain⟨o,ho,hc,_⟩:=hi
 obtain⟨q,hq,hqc,_⟩:=ht
 refine⟨fun z=> ?_,fun m=> ?_⟩
 ·subst z;rw[ho] at hq;cases hq;rw[hc] at hqc;simp at hqc
 ·simp only[lJk,lJ2,lKd] at m
  rcases m with rfl | rfl
  ·rw[he] at ho;cases ho;simp at hc
  ·rw[he] at hq;cases hq;simp at hqc
theorem kVw {P:Program} {w:World} {K:PySem.W.Frag} {elts:List Expr} {k:Nat} {pos:Pos} (a e it:Addr) (hei:e≠it):
  Turn P w K (.Tuple elts k pos) (Itn K a) [e,it] e (fun i h=>(∃old,IsEnum h e it i old)/\h.IsTupleIter it a i) where
 mem:=lJx ..
 obj:=fun i h ⟨⟨old,h1⟩,h2⟩ b hb=>by
  simp only[lJ2,lJk,lKd] at hb
  rcases hb with rfl | rfl
  ·exact⟨_,h1,fun v z=>nomatch (show Data.fields _=Data.cell v from z)⟩
  ·obtain⟨o,e2,c,d⟩:=h2
   exact⟨o,e2,fun v z=>by rw[d] at z;cases z⟩
 keep:=fun i h h' ⟨⟨old,h1⟩,h2⟩ kp=>⟨⟨old,kp e (by simp) _ h1⟩,h2.at fun o q=>kp it (by simp) o q⟩
 item:=by
  rintro X hP hw hK hc i pins s σ H E I hf ⟨⟨old,he⟩,hit⟩ ⟨xs,x,hq,hx⟩
  subst hP hw hK
  obtain⟨its,rv,p,hz⟩:=I.tuple hq
  obtain⟨u,hu,ru⟩:=rv.get hx
  have p':s.heap.IsTuple a its.toArray:=p
  obtain⟨nei,hef⟩:=kVn he hit p'
  have hlt:i<its.toArray.size:=by simpa using (lJi.mp hu).1
  refine wpAny_pyNext_enum_itemD (kZ9 (A:=X.A.in1) (I.ok.hd hc) it a nei its.toArray) he ⟨hit,p'⟩ hlt hei hef fun x' h1 tk hx' ho hit1 hT hsz hk=> ?_
  obtain rfl:u=x':=by simpa[hu] using hx'
  refine⟨_,rfl,wpAny_letOwnedTupleGo_enum ho fun h2 he2 hs2=> ?_⟩
  have hel:e<s.heap.objs.size:=lJj he
  have hp2:∀b o,b∉[e,it]->s.heap.get? b=some o->h2.get? b=some o:=fun b o hb q=>by
   simp only[lJk,lJ2,lKd,not_or] at hb
   exact (hs2.2 b hb.1).trans (hk b o hb.1 hb.2 q)
  have hT2:h2.get? s.heap.objs.size=some {cls:= .type "tuple",data:= .seq #[.int i tk,u]}:=(hs2.2 _ (lK4 hel)).trans hT
  have I2:=jVt (t':=tk+1) (h':=h2) (p:=s.heap.objs.size) (vs:=[.int i,x]) (us:=[.int i tk,u]) I hp2 hf (lJg _) ⟨_,hT2,rfl,_,rfl,rfl⟩ (.cons ⟨_,rfl⟩ (.cons ru .nil)) (by show 2<=sizeLine;decide)
  refine⟨.ref s.heap.objs.size,_,I2,rfl,⟨_,x,I.hok.fresh (lJg _),rfl,fun ys hy=>by rw[I.tuple_inj hy hq];exact hx,rfl⟩,⟨⟨u,by simpa using he2⟩,hit1.1.at fun o q=>(hs2.2 it hei.symm).trans q⟩,fun b hb=> ?_⟩
  have hbs:∃o,s.heap.get? b=some o:=by
   have hb':=hb
   simp only[lJ2,lJk,lKd] at hb'
   rcases hb' with rfl | rfl
   ·exact⟨_,he⟩
   ·obtain⟨o,q,_⟩:=hit;exact⟨o,q⟩
  obtain⟨o,q⟩:=hbs
  rw[jJ2 (lJr (lJj q))]
  exact (hf b hb).1
 done:=by
  rintro X hP hw hK hc i pins s σ H E I hf ⟨⟨old,he⟩,hit⟩ ⟨xs,hq,hx⟩
  subst hP hw hK
  obtain⟨its,rv,p,hz⟩:=I.tuple hq
  have p':s.heap.IsTuple a its.toArray:=p
  obtain⟨nei,hef⟩:=kVn he hit p'
  have hl:=rv.length
  refine jUa (I.ok.hd hc) nei he ⟨hit,p'⟩ (by simp;omega) fun h1 hx1=>⟨rfl,kJc (t':=s.toks) I (fun b o hb q=>hx1 b o (fun z=>hb (by simp[z])) q) hf⟩
 self:=fun _ _ _ _ _ ⟨⟨old,he⟩,_⟩ h=>lYm he h
def iEnT (ta:TA3):TI3:=fun τ G R=>ta τ G fun vs G1=>∃xs,vs=[.tup xs]/\R (numT xs) (fun _=>True) G1
theorem kUh {X:Cx} {elts:List Expr} {k:Nat} {tpos pos p:Pos} {a:Expr} {ta:TA3} (hg:Gl X "enumerate") (hm:X.mg "enumerate"=none) (hv:bootBuiltins "enumerate"=some (.type "enumerate")) (ha:PA3 X [a] ta) (hs:starEach [a] X.env=[(false,eval a X.env)]:=by rfl):
  PI3 X (.Tuple elts k tpos) (.Call (.Name "enumerate" p) [a] [] pos) (iEnT ta):=by
 intro pins s τ G H R I h
 obtain⟨σ0,I0,_,_⟩:=id I
 refine Call_ (jUz I0 hg hm hv (lVe (thn (ha pos pins s τ G H _ I h) fun us s1 w_=>w_.el fun xs' G1 H1 e1 i_ r_ q1=>i_.el fun σ I1 hs1 hg1=>r_.el fun as ras rvs=> ?_) hs rfl))
 obtain⟨xs,e,q⟩:=q1
 subst e
 obtain⟨v,rfl,rv⟩:=jVx ras
 obtain⟨u,rfl,ru⟩:=rvs.one
 obtain⟨pa,vs,rfl,hq,r⟩:=(show ∃p vs,v= .ref p/\H1 p=some (.tup vs)/\Reps X.K H1 xs vs from rv)
 cases ru
 obtain⟨its,rvv,pl,hz⟩:=I1.tuple (.of hq)
 refine kZ6 (show s1.heap.IsTuple pa its.toArray from pl) fun h1 n hn he hit hk=> ?_
 subst hn
 have I2:Inv X pins σ H1 {s1 with heap:=h1}:=I1.kept (t':=s1.toks) hk
 refine lYm (Q:=PIE3 X pins τ H (.Tuple elts k tpos) R) he ?_
 have fr:∀b∈[s1.heap.objs.size+1,s1.heap.objs.size],FpOk X pins H1 b:=fun b hb=>by
  simp only[lJ2,lJk,lKd] at hb
  have hle:s1.heap.objs.size<=b:=by omega
  exact I1.fpOk hle (I1.hok.fresh hle)
 refine⟨s1.heap.objs.size+1,[s1.heap.objs.size+1,s1.heap.objs.size],_,_,numT xs,fun _=>True,G1,H1,rfl,e1,⟨σ,I2,hs1,hg1⟩,kVw pa _ _ (Nat.succ_ne_self _),⟨⟨.none,he⟩,hit.1⟩,fr,?_,q⟩
 intro i H2 G2 e2 g2 _
 obtain⟨pb,ws,eb,h1',h2⟩:=(show ∃p vs,V.ref pa= .ref p/\H2 p=some (.tup vs)/\Reps X.K H2 xs vs from Rep.mono e2 _ rv)
 cases eb
 have hlen:=h2.length
 refine⟨fun hi=> ?_,fun hi=>⟨ws,.of h1',by rw[jK0] at hi;omega⟩,fun hi y H' ⟨pp,z,hn,ey,hy,eH⟩=> ?_⟩
 ·rw[jK0] at hi
  exact⟨ws,ws[i]'(by omega),.of h1',by simp[hlen▸hi]⟩
 ·subst ey;subst eH
  obtain⟨t,ht,rt⟩:=h2.get' (hy ws (.of h1'))
  exact⟨.upd (.none hn),g2.tupNew hn,_,kJ2 ht,Rep.tupNew ⟨_,_,rfl,rfl,_,_,rfl,rt,rfl⟩ hn⟩
section
variable {X:Cx}
noncomputable def kX1 (tk tv:TE3):TE3:=fun τ G Q=>∀p,G p=none->tk τ (gup G p (.dck [])) fun x G1=>tv τ G1 fun y G2=>∃k,jQ6 x=some k/\G2 p=some (.dck [])/\Q (.ref p) (gup G2 p (.dck [(k,y)]))
theorem qXh {pos:Pos} {k v:Expr} {tk tv:TE3} (hk:PE3 X k tk) (hv:PE3 X v tv):PE3 X (.Dict [some k] [v] pos) (kX1 tk tv):=by
 rintro pins s τ G H Q ⟨σ,I,hs,hg⟩ h
 have hn:=I.hok.fresh (lJg s.heap.objs.size)
 have I1:=I.laid (a:=s.heap.objs.size) (o:= .dK []) (h':=s.heap.push {cls:= .type "dict",data:= .dict #[]}) (t':=s.toks) (fun _ _ q=>lJm _ q) (lJg _) (kVp s.heap I.big)
 have I3:Inv3 X pins τ (gup G s.heap.objs.size (.dck [])) (upd H s.heap.objs.size (.dK [])) {s with heap:=s.heap.push {cls:= .type "dict",data:= .dict #[]},toks:=s.toks}:=
  ⟨σ,I1,hs.mono (.upd (.none hn)),hg.upd (.none hn) (go:= .dck []) ⟨[],jKp,.nil⟩⟩
 refine wpAny_Dict_walk (knd:=jKh X.prog X.w) rfl rfl (by simp) (by simp) (pairTrees_cons_walk (thn (hk pins _ τ _ _ _ I3 (h _ (hg.fresh hn))) fun u s1 w_=>w_.el fun x G1 H1 e1 J1 ru q1=>thn (hv pins s1 τ G1 H1 _ J1 q1) fun u2 s2 w_=>w_.el fun y G2 H2 e2 i_ ru2 ⟨key,hkey,hd,q2⟩=>i_.el fun σ2 J2 hs2 hg2=>pairTrees_nil_walk ?_))
 obtain⟨ws,hH2,pk⟩:=(show ∃ws,H2 s.heap.objs.size=some (.dK ws)/\PKV X.K H2 [] ws from hg2 _ _ hd)
 cases pk
 obtain⟨a,ra,rva⟩:=ru.mono e2
 obtain⟨c,rc,rvc⟩:=ru2
 obtain rfl:=jV6 hkey ra
 obtain⟨rs,cr,rk⟩:=jZ8 (P:=X.prog) (w:=X.w) (kvs:=[(key,c)]) (ws:=[(u,u2)]) (.cons ⟨rva,rvc⟩ .nil)
 obtain⟨z,hdd,vs0,r0,dd⟩:=dk_of J2.hok hH2
 cases r0
 refine⟨rs,cr,dd,fun h' dd' hsb=> ?_⟩
 have he:∃q,h'.get? s.heap.objs.size=some q:=let ⟨q,_,_,hq,_⟩:=dd';⟨q,hq⟩
 have JJ:=kUn (t':=s2.toks+[(u,u2)].length) J2 (by rw[hH2];exact True.intro) hsb he (qUs (kvs:=[(key,c)]) (by rw[lKw];exact Nat.succ_le_of_lt (lXd _)) hdd (rk.merge .nil) dd')
 have ext:Ext H2 (upd H2 s.heap.objs.size (.dK [(key,c)])):= .upd (.dK hH2)
 exact⟨.ref s.heap.objs.size,_,_,(((Ext.upd (.none hn)).trans e1).trans e2).trans ext,⟨σ2,JJ,hs2.mono ext,hg2.upd (.dK hH2) (go:= .dck [(key,y)]) ⟨_,jKp,PKV.put (kvs:=[]) .nil key (Rep.mono ext _ rc)⟩⟩,⟨.ref _,rfl,rfl⟩,q2⟩
end
section
variable {X:Cx}
end
end L3
namespace L3
open PySem PySem.Spec PyProof.Rows L2 MeetsSeq
section
variable {X:Cx}
end
end L3
namespace L3
open PySem PySem.Spec PyProof.Rows L2
section
variable {X:Cx}
end
section
variable {X:Cx}
end
section
variable {P:Program} {w:World} {A:Around} {E:Value->Shared->Prop} {s:Shared} {d:Addr}
theorem jXw {o:Obj} {es:Array DictEntry} {ep:Nat} {Q:Value->Shared->Prop} (hd:(d == sysModules)=false) (ho:s.heap.get? d=some o) (hc:o.ExactDict) (hx:o.data= .dict es ep) (hz:es.size<=sizeLine)
  (h:Q (.int es.size (s.toks+1)) {s with toks:=s.toks+1+1}):wpAny (model P w) A (call (.builtin "len") [.ref d]) Q E s:=by
 have hsl:=lKw
 have ty:s.TypeIs (.ref d) "dict":=⟨o,ho,hc.1⟩
 refine Calls.call_function_entry kind_len plain_len entry_len (args_len1 _) ?_;unfold Builtin.«len»; refine lJa (m:=oneArg "len" _) (lJd ?_)
 have M:MeetsIn P w (Builtin.«dict.__len__» ⟨[.ref d],[]⟩) (fun _ R z=>(∃o es ep,z.heap.get? d=some o/\o.data= .dict es ep/\R (.ok (.ret (.int es.size z.toks))) {z with toks:=z.toks+1})):=
  .of_wp fun A R z ⟨o,es,ep,ho,hx,h⟩=>by
   refine (show wpAny _ _ (dictSize d >>= _) _ _ z from ?_)
   unfold dictSize;refine lJa (lJa (wpAny_dictEntries ho hx (lJd ?_)))
   refine (show wpAny _ _ (Builtin.Dict.pendingCount d >>= _) _ _ z from lJa (wpAny_pendingCount_other hd (wpAny_ret_mkInt ?_)))
   rw[lXe];exact h
 refine lJa (m:=callSpecial? (.ref d) (Str.ofString "__len__")) (lVm (name:=Str.ofString "__len__") ty F.slot_dict_len (call_meetsIn F.slot_dict_len ty F.entry_dict_len (F.args_dict_len_1 _) M ⟨o,es,ep,ho,hx,?_⟩))
 refine (show wpAny _ _ _ _ _ {s with toks:=s.toks+1} from lJa (lK8 (lJd (lJa (wpAny_letGo ?_)))))
 refine (show wpAny _ _ (if ((es.size:Nat):Int)<0 then _ else _) _ _ _ from ?_);rw[lJb (by omega)]
 refine (show wpAny _ _ (if ((es.size:Nat):Int)>=2^63 then _ else _) _ _ _ from ?_);rw[lJb (by omega)]
 exact (lJa (wpAny_mkInt (lJd ⟨_,rfl,h⟩)))
end
section
variable {X:Cx}
noncomputable def lenG (G:Gp):T->Option Nat
 | .ref p=>match G p with
  | some (.lst xs)=>some xs.length
  | some (.dct kvs)=>some kvs.length
  | some (.dck kvs)=>some kvs.length
  | some (.fdc _)=>none
  | some (.ins _ _)=>none
  | none=>none
 | .tup xs=>some xs.length
 | .scr xs=>some xs.length
 | _=>none
def qKi:List T->Gp->VK3->Prop:=fun xs G Q=>∃x n,xs=[x]/\lenG G x=some n/\Q (.int (n:Nat)) G
theorem qUu:Call3 X (.builtin "len") qKi:=by
 rintro pins s τ G H xs us Q I rs ⟨x,n,ex,hx,q⟩
 by_cases hd:∃p,x= .ref p/\((∃kvs,G p=some (.dct kvs))\/∃kvs,G p=some (.dck kvs))
 ·subst ex
  obtain⟨p,rfl,hk⟩:=hd
  obtain⟨σ,I,hs,hg⟩:=I
  obtain⟨as,ras,rvs⟩:=rs
  obtain⟨v,rfl,rv⟩:=jVx ras
  obtain⟨u,rfl,ru⟩:=rvs.one
  cases (show v= .ref p from rv);cases ru
  rcases hk with ⟨kvs,hG⟩ | ⟨kvs,hG⟩
  ·simp only[lenG,hG] at hx;cases hx
   obtain⟨ws,h1,h2⟩:=hg p _ hG
   obtain⟨z,y,xs,r,o,es,ep,e1,e2,e3,e4,e5⟩:=(show ObjOk X.prog X.w H s.heap p (.dT ws) from I.hok p _ h1)
   have l1:es.size=kvs.length:=by
    have a1:=lKp List.length e4
    have a2:=lV7 r
    have a3:=h2.length
    simp at a1;omega
   refine jXw y e1 e2 e3 (by have:=h2.length;omega) ?_
   rw[l1]
   exact⟨.int (kvs.length:Nat),G,H,.refl H,⟨σ,I.tok _,hs,hg⟩,⟨.int _,rfl,_,rfl⟩,q⟩
  ·simp only[lenG,hG] at hx;cases hx
   obtain⟨ws,h1,h2⟩:=hg p _ hG
   obtain⟨z,y,vs,rel,o,es,ep,e1,e2,e3,e4,e5,e6⟩:=(show ObjOk X.prog X.w H s.heap p (.dK ws) from I.hok p _ h1)
   have l1:es.size=kvs.length:=by
    have a1:=e5.length
    have a2:=rel.length
    have a3:=h2.length
    simp at a1;omega
   refine jXw y e1 e2 e3 (by have:=h2.length;omega) ?_
   rw[l1]
   exact⟨.int (kvs.length:Nat),G,H,.refl H,⟨σ,I.tok _,hs,hg⟩,⟨.int _,rfl,_,rfl⟩,q⟩
 ·refine jKw pins s τ G H xs us Q I rs ?_
  cases x with
  | ref p=>
   cases hG:G p with
   | none=>simp only[lenG,hG] at hx;cases hx
   | some g=>
    cases g with
    | lst ys=>simp only[lenG,hG] at hx;cases hx;exact⟨_,ys,ex,by simp only[seqT,hG,asL],q⟩
    | dct kvs=>exact absurd ⟨p,rfl,.inl ⟨kvs,hG⟩⟩ hd
    | fdc kvs=>simp only[lenG,hG] at hx;cases hx
    | ins _ _=>simp only[lenG,hG] at hx;cases hx
    | dck kvs=>exact absurd ⟨p,rfl,.inr ⟨kvs,hG⟩⟩ hd
  | tup ys=>cases hx;exact⟨_,ys,ex,rfl,q⟩
  | scr ys=>cases hx;exact⟨_,ys,ex,rfl,q⟩
  | non=>cases hx
  | bl _=>cases hx
  | int _=>cases hx
  | str _=>cases hx
  | ty _=>cases hx
end
noncomputable def Itl (K:PySem.W.Frag) (a1 a2:Addr):It:=
 ⟨fun i H=>∃xs ys x y,SqL K H a1 xs/\SqL K H a2 ys/\xs[i]? =some x/\ys[i]? =some y,
  fun i H v H'=>∃p x y,H p=none/\v= .ref p/\(∀xs,SqL K H a1 xs->xs[i]? =some x)/\(∀ys,SqL K H a2 ys->ys[i]? =some y)/\H'=upd H p (.tup [x,y]),
  fun i H=>∃xs ys,SqL K H a1 xs/\SqL K H a2 ys/\(xs.length<=i\/ys.length<=i)⟩
theorem kXu {P:Program} {w:World} {K:PySem.W.Frag} {elts:List Expr} {k:Nat} {pos:Pos} (z TI TO i1 i2 a1 a2:Addr) (D:ZipApart z TI TO i1 i2 a1 a2):
  Turn P w K (.Tuple elts k pos) (Itl K a1 a2) [z,TI,TO,i1,i2] z (fun i h=>IsZip h z TI TO .none/\IsPair h TI (.ref i1) (.ref i2)/\(∃a b,IsPair h TO a b)/\h.IsListIter i1 a1 i/\h.IsListIter i2 a2 i) where
 mem:=by simp
 obj:=fun i h ⟨hz,hTI,⟨a,b,hTO⟩,h1,h2⟩ c hc=>by
  simp only[lJk,lJ2,lKd] at hc
  rcases hc with rfl | rfl | rfl | rfl | rfl
  ·exact⟨_,hz,fun v z=>nomatch (show Data.fields _=Data.cell v from z)⟩
  ·exact⟨_,hTI,fun v z=>nomatch (show Data.seq _ _=Data.cell v from z)⟩
  ·exact⟨_,hTO,fun v z=>nomatch (show Data.seq _ _=Data.cell v from z)⟩
  ·obtain⟨o,e,c,d⟩:=h1;exact⟨o,e,fun v z=>by rw[d] at z;cases z⟩
  ·obtain⟨o,e,c,d⟩:=h2;exact⟨o,e,fun v z=>by rw[d] at z;cases z⟩
 keep:=fun i h h' ⟨hz,hTI,⟨a,b,hTO⟩,h1,h2⟩ kp=>⟨kp z (by simp) _ hz,kp TI (by simp) _ hTI,⟨a,b,kp TO (by simp) _ hTO⟩,h1.at fun o q=>kp i1 (by simp) o q,h2.at fun o q=>kp i2 (by simp) o q⟩
 item:=by
  rintro X hP hw hK hc i pins s σ H E I hf ⟨hz,hTI,⟨a,b,hTO⟩,h1,h2⟩ hg
  subst hP hw hK
  obtain⟨xs,ys,x,y,hq1,hq2,hx,hy⟩:=hg
  obtain⟨its1,rv1,p1,hz1⟩:=I.list hq1
  obtain⟨its2,rv2,p2,hz2⟩:=I.list hq2
  obtain⟨u1,hu1,ru1⟩:=rv1.get hx
  obtain⟨u2,hu2,ru2⟩:=rv2.get hy
  refine wpAny_pyNext_zip_item D hz hTI hTO h1 h2 p1.isList p2.isList (x:=u1) (y:=u2) (by simpa using hu1) (by simpa using hu2) fun g1 ho gTO g3 g4 hT hsz hk=> ?_
  refine⟨_,rfl,wpAny_letOwnedTupleGo_zip ho fun g2 gz hs2=> ?_⟩
  have hzl:z<s.heap.objs.size:=lJj hz
  have hp2:∀b o,b∉[z,TI,TO,i1,i2]->s.heap.get? b=some o->g2.get? b=some o:=fun b o hb q=>by
   simp only[lJk,lJ2,lKd,not_or] at hb
   exact (hs2.2 b hb.1).trans (hk b o hb.1 hb.2.2.1 hb.2.2.2.1 hb.2.2.2.2 q)
  have hT2:g2.get? s.heap.objs.size=some {cls:= .type "tuple",data:= .seq #[u1,u2]}:=(hs2.2 _ (lK4 hzl)).trans hT
  have I2:=jVt (t':=s.toks) (h':=g2) (p:=s.heap.objs.size) (vs:=[x,y]) (us:=[u1,u2]) I hp2 hf (lJg _) ⟨_,hT2,rfl,_,rfl,rfl⟩ (.cons ru1 (.cons ru2 .nil)) (by show 2<=sizeLine;decide)
  refine⟨.ref s.heap.objs.size,_,I2,rfl,⟨_,x,y,I.hok.fresh (lJg _),rfl,fun zs hz=>by rw[I.list_inj hz hq1];exact hx,fun zs hz=>by rw[I.list_inj hz hq2];exact hy,rfl⟩,
   ⟨gz,(hs2.2 _ D.TIz).trans (hk _ _ D.TIz D.TITO D.TIi1 D.TIi2 hTI),⟨_,_,(hs2.2 _ D.TOz).trans gTO⟩,g3.at fun o q=>(hs2.2 _ D.i1z).trans q,g4.at fun o q=>(hs2.2 _ D.i2z).trans q⟩,fun b hb=> ?_⟩
  have hbs:∃o,s.heap.get? b=some o:=by
   have hbq:=hb
   simp only[lJk,lJ2,lKd] at hbq
   rcases hbq with rfl | rfl | rfl | rfl | rfl
   ·exact⟨_,hz⟩
   ·exact⟨_,hTI⟩
   ·exact⟨_,hTO⟩
   ·obtain⟨o,q,_⟩:=h1;exact⟨o,q⟩
   ·obtain⟨o,q,_⟩:=h2;exact⟨o,q⟩
  obtain⟨o,q⟩:=hbs
  rw[jJ2 (lJr (lJj q))]
  exact (hf b hb).1
 done:=by
  rintro X hP hw hK hc i pins s σ H E I hf ⟨hz,hTI,⟨a,b,hTO⟩,h1,h2⟩ hg
  subst hP hw hK
  obtain⟨xs,ys,hq1,hq2,hx⟩:=hg
  obtain⟨its1,rv1,p1,hz1⟩:=I.list hq1
  obtain⟨its2,rv2,p2,hz2⟩:=I.list hq2
  have hl1:=rv1.length
  have hl2:=rv2.length
  refine wpAny_pyNext_zip_end (I.ok.hd hc) D hz hTI hTO h1 h2 p1.isList p2.isList ?_ fun g1 hk=>⟨rfl,kJc (t':=s.toks) (fp:=[z,TI,TO,i1,i2]) I (fun b o hb q=> ?_) hf⟩
  ·rcases hx with hx | hx
   ·exact .inl (by simp;omega)
   ·exact .inr (by simp;omega)
  ·simp only[lJk,lJ2,lKd,not_or] at hb
   exact hk b o hb.1 hb.2.2.1 hb.2.2.2.1 hb.2.2.2.2 q
 self:=fun _ _ _ _ _ ⟨hz,_⟩ h=>wpAny_pyIter_zip hz h
section
variable {X:Cx}
def qVa:List T->Gp->VK3->Prop:=fun xs G Q=>∃i j,xs=[.int i,.int j]/\Q (.int (if j<i then j else i)) G
theorem c_min2 (hc:X.calm=true):Call3 X (.builtin "min") qVa:=
 Call3.of (qJj hc) fun H G xs as Q hg ra ⟨i,j,e,q⟩=>by
  subst e
  obtain⟨v,w,rfl,rv,rw'⟩:=kV2 ra
  cases (show v= .int i from rv);cases (show w= .int j from rw')
  exact⟨i,j,rfl,.int _,G,.refl H,hg,rfl,q⟩
theorem jUs:∀ {is:List Int} {us:List Value},Vals (is.map V.int) us->∃ps:List (Int×Tok),us=ps.map (fun p=> .int p.1 p.2)/\ps.map (·.1)=is
 | [],_,.nil=>⟨[],rfl,rfl⟩
 | i::is,_,.cons ⟨t,e⟩ r=>by
  obtain⟨ps,e1,e2⟩:=jUs r
  subst e1;subst e2;subst e
  exact⟨(i,t)::ps,rfl,rfl⟩
end
section
variable {X:Cx}
end
section
variable {X:Cx}
end
section
variable {X:Cx} {pos:Pos}
end
theorem szle {n:Nat} (h:Nat.ble n 16777216=true):n<=sizeLine:=by rw[PySem.sizeLine_eq];exact Nat.le_of_ble_eq_true h
end L3
namespace L3
theorem xe1 {A0:Type} {σ:Type} {f:A0->σ} {p:A0->Prop} {τ:σ} {C:σ->Prop} (h:∃a0,τ=f a0/\p a0) (k:∀a0,p a0->C (f a0)):C τ:=by
 obtain⟨a0,e,h⟩:=h;rw[e];exact k _ h
theorem xe2 {A0 A1:Type} {σ:Type} {f:A0->A1->σ} {p:A0->A1->Prop} {τ:σ} {C:σ->Prop} (h:∃a0 a1,τ=f a0 a1/\p a0 a1) (k:∀a0 a1,p a0 a1->C (f a0 a1)):C τ:=by
 obtain⟨a0,a1,e,h⟩:=h;rw[e];exact k _ _ h
theorem xi2 {A0 A1:Type} {σ:Type} {f:A0->A1->σ} {p:A0->A1->Prop} {τ:σ} (a0:A0) (a1:A1) (e:τ=f a0 a1) (h:p a0 a1):∃a0 a1,τ=f a0 a1/\p a0 a1:=⟨a0,a1,e,h⟩
theorem xe3 {A0 A1 A2:Type} {σ:Type} {f:A0->A1->A2->σ} {p:A0->A1->A2->Prop} {τ:σ} {C:σ->Prop} (h:∃a0 a1 a2,τ=f a0 a1 a2/\p a0 a1 a2) (k:∀a0 a1 a2,p a0 a1 a2->C (f a0 a1 a2)):C τ:=by
 obtain⟨a0,a1,a2,e,h⟩:=h;rw[e];exact k _ _ _ h
theorem xi3 {A0 A1 A2:Type} {σ:Type} {f:A0->A1->A2->σ} {p:A0->A1->A2->Prop} {τ:σ} (a0:A0) (a1:A1) (a2:A2) (e:τ=f a0 a1 a2) (h:p a0 a1 a2):∃a0 a1 a2,τ=f a0 a1 a2/\p a0 a1 a2:=⟨a0,a1,a2,e,h⟩
theorem xe4 {A0 A1 A2 A3:Type} {σ:Type} {f:A0->A1->A2->A3->σ} {p:A0->A1->A2->A3->Prop} {τ:σ} {C:σ->Prop} (h:∃a0 a1 a2 a3,τ=f a0 a1 a2 a3/\p a0 a1 a2 a3) (k:∀a0 a1 a2 a3,p a0 a1 a2 a3->C (f a0 a1 a2 a3)):C τ:=by
 obtain⟨a0,a1,a2,a3,e,h⟩:=h;rw[e];exact k _ _ _ _ h
theorem xi4 {A0 A1 A2 A3:Type} {σ:Type} {f:A0->A1->A2->A3->σ} {p:A0->A1->A2->A3->Prop} {τ:σ} (a0:A0) (a1:A1) (a2:A2) (a3:A3) (e:τ=f a0 a1 a2 a3) (h:p a0 a1 a2 a3):∃a0 a1 a2 a3,τ=f a0 a1 a2 a3/\p a0 a1 a2 a3:=⟨a0,a1,a2,a3,e,h⟩
theorem xe5 {A0 A1 A2 A3 A4:Type} {σ:Type} {f:A0->A1->A2->A3->A4->σ} {p:A0->A1->A2->A3->A4->Prop} {τ:σ} {C:σ->Prop} (h:∃a0 a1 a2 a3 a4,τ=f a0 a1 a2 a3 a4/\p a0 a1 a2 a3 a4) (k:∀a0 a1 a2 a3 a4,p a0 a1 a2 a3 a4->C (f a0 a1 a2 a3 a4)):C τ:=by
 obtain⟨a0,a1,a2,a3,a4,e,h⟩:=h;rw[e];exact k _ _ _ _ _ h
theorem xi5 {A0 A1 A2 A3 A4:Type} {σ:Type} {f:A0->A1->A2->A3->A4->σ} {p:A0->A1->A2->A3->A4->Prop} {τ:σ} (a0:A0) (a1:A1) (a2:A2) (a3:A3) (a4:A4) (e:τ=f a0 a1 a2 a3 a4) (h:p a0 a1 a2 a3 a4):∃a0 a1 a2 a3 a4,τ=f a0 a1 a2 a3 a4/\p a0 a1 a2 a3 a4:=⟨a0,a1,a2,a3,a4,e,h⟩
theorem xe7 {A0 A1 A2 A3 A4 A5 A6:Type} {σ:Type} {f:A0->A1->A2->A3->A4->A5->A6->σ} {p:A0->A1->A2->A3->A4->A5->A6->Prop} {τ:σ} {C:σ->Prop} (h:∃a0 a1 a2 a3 a4 a5 a6,τ=f a0 a1 a2 a3 a4 a5 a6/\p a0 a1 a2 a3 a4 a5 a6) (k:∀a0 a1 a2 a3 a4 a5 a6,p a0 a1 a2 a3 a4 a5 a6->C (f a0 a1 a2 a3 a4 a5 a6)):C τ:=by
 obtain⟨a0,a1,a2,a3,a4,a5,a6,e,h⟩:=h;rw[e];exact k _ _ _ _ _ _ _ h
theorem xi7 {A0 A1 A2 A3 A4 A5 A6:Type} {σ:Type} {f:A0->A1->A2->A3->A4->A5->A6->σ} {p:A0->A1->A2->A3->A4->A5->A6->Prop} {τ:σ} (a0:A0) (a1:A1) (a2:A2) (a3:A3) (a4:A4) (a5:A5) (a6:A6) (e:τ=f a0 a1 a2 a3 a4 a5 a6) (h:p a0 a1 a2 a3 a4 a5 a6):∃a0 a1 a2 a3 a4 a5 a6,τ=f a0 a1 a2 a3 a4 a5 a6/\p a0 a1 a2 a3 a4 a5 a6:=⟨a0,a1,a2,a3,a4,a5,a6,e,h⟩
theorem xe8 {A0 A1 A2 A3 A4 A5 A6 A7:Type} {σ:Type} {f:A0->A1->A2->A3->A4->A5->A6->A7->σ} {p:A0->A1->A2->A3->A4->A5->A6->A7->Prop} {τ:σ} {C:σ->Prop} (h:∃a0 a1 a2 a3 a4 a5 a6 a7,τ=f a0 a1 a2 a3 a4 a5 a6 a7/\p a0 a1 a2 a3 a4 a5 a6 a7) (k:∀a0 a1 a2 a3 a4 a5 a6 a7,p a0 a1 a2 a3 a4 a5 a6 a7->C (f a0 a1 a2 a3 a4 a5 a6 a7)):C τ:=by
 obtain⟨a0,a1,a2,a3,a4,a5,a6,a7,e,h⟩:=h;rw[e];exact k _ _ _ _ _ _ _ _ h
theorem xe10 {A0 A1 A2 A3 A4 A5 A6 A7 A8 A9:Type} {σ:Type} {f:A0->A1->A2->A3->A4->A5->A6->A7->A8->A9->σ} {p:A0->A1->A2->A3->A4->A5->A6->A7->A8->A9->Prop} {τ:σ} {C:σ->Prop} (h:∃a0 a1 a2 a3 a4 a5 a6 a7 a8 a9,τ=f a0 a1 a2 a3 a4 a5 a6 a7 a8 a9/\p a0 a1 a2 a3 a4 a5 a6 a7 a8 a9) (k:∀a0 a1 a2 a3 a4 a5 a6 a7 a8 a9,p a0 a1 a2 a3 a4 a5 a6 a7 a8 a9->C (f a0 a1 a2 a3 a4 a5 a6 a7 a8 a9)):C τ:=by
 obtain⟨a0,a1,a2,a3,a4,a5,a6,a7,a8,a9,e,h⟩:=h;rw[e];exact k _ _ _ _ _ _ _ _ _ _ h
theorem xi10 {A0 A1 A2 A3 A4 A5 A6 A7 A8 A9:Type} {σ:Type} {f:A0->A1->A2->A3->A4->A5->A6->A7->A8->A9->σ} {p:A0->A1->A2->A3->A4->A5->A6->A7->A8->A9->Prop} {τ:σ} (a0:A0) (a1:A1) (a2:A2) (a3:A3) (a4:A4) (a5:A5) (a6:A6) (a7:A7) (a8:A8) (a9:A9) (e:τ=f a0 a1 a2 a3 a4 a5 a6 a7 a8 a9) (h:p a0 a1 a2 a3 a4 a5 a6 a7 a8 a9):∃a0 a1 a2 a3 a4 a5 a6 a7 a8 a9,τ=f a0 a1 a2 a3 a4 a5 a6 a7 a8 a9/\p a0 a1 a2 a3 a4 a5 a6 a7 a8 a9:=⟨a0,a1,a2,a3,a4,a5,a6,a7,a8,a9,e,h⟩
theorem ae2 {a0 a1 C:Prop} (h:a0/\a1) (k:a0->a1->C):C:=k h.1 h.2
theorem ae3 {a0 a1 a2 C:Prop} (h:a0/\a1/\a2) (k:a0->a1->a2->C):C:=k h.1 h.2.1 h.2.2
theorem ae4 {a0 a1 a2 a3 C:Prop} (h:a0/\a1/\a2/\a3) (k:a0->a1->a2->a3->C):C:=k h.1 h.2.1 h.2.2.1 h.2.2.2
theorem ae5 {a0 a1 a2 a3 a4 C:Prop} (h:a0/\a1/\a2/\a3/\a4) (k:a0->a1->a2->a3->a4->C):C:=k h.1 h.2.1 h.2.2.1 h.2.2.2.1 h.2.2.2.2
theorem ae6 {a0 a1 a2 a3 a4 a5 C:Prop} (h:a0/\a1/\a2/\a3/\a4/\a5) (k:a0->a1->a2->a3->a4->a5->C):C:=k h.1 h.2.1 h.2.2.1 h.2.2.2.1 h.2.2.2.2.1 h.2.2.2.2.2
theorem ae7 {a0 a1 a2 a3 a4 a5 a6 C:Prop} (h:a0/\a1/\a2/\a3/\a4/\a5/\a6) (k:a0->a1->a2->a3->a4->a5->a6->C):C:=k h.1 h.2.1 h.2.2.1 h.2.2.2.1 h.2.2.2.2.1 h.2.2.2.2.2.1 h.2.2.2.2.2.2
theorem ae8 {a0 a1 a2 a3 a4 a5 a6 a7 C:Prop} (h:a0/\a1/\a2/\a3/\a4/\a5/\a6/\a7) (k:a0->a1->a2->a3->a4->a5->a6->a7->C):C:=k h.1 h.2.1 h.2.2.1 h.2.2.2.1 h.2.2.2.2.1 h.2.2.2.2.2.1 h.2.2.2.2.2.2.1 h.2.2.2.2.2.2.2
theorem ae9 {a0 a1 a2 a3 a4 a5 a6 a7 a8 C:Prop} (h:a0/\a1/\a2/\a3/\a4/\a5/\a6/\a7/\a8) (k:a0->a1->a2->a3->a4->a5->a6->a7->a8->C):C:=k h.1 h.2.1 h.2.2.1 h.2.2.2.1 h.2.2.2.2.1 h.2.2.2.2.2.1 h.2.2.2.2.2.2.1 h.2.2.2.2.2.2.2.1 h.2.2.2.2.2.2.2.2
theorem ae10 {a0 a1 a2 a3 a4 a5 a6 a7 a8 a9 C:Prop} (h:a0/\a1/\a2/\a3/\a4/\a5/\a6/\a7/\a8/\a9) (k:a0->a1->a2->a3->a4->a5->a6->a7->a8->a9->C):C:=k h.1 h.2.1 h.2.2.1 h.2.2.2.1 h.2.2.2.2.1 h.2.2.2.2.2.1 h.2.2.2.2.2.2.1 h.2.2.2.2.2.2.2.1 h.2.2.2.2.2.2.2.2.1 h.2.2.2.2.2.2.2.2.2
end L3
namespace L3
open PySem PySem.Spec PyProof.Rows L2
section
variable {X:Cx}
theorem qJi (hc:X.calm=true):kQn X (.builtin "sum") (fun xs H Q=>∃(p:Addr) (is:List Int),xs=[.ref p]/\SqL X.K H p (is.map V.int)/\∀z,Q (.int z) H):=by
 intro pins s σ H xs us Q I r h
 obtain⟨p,is,rfl,hx,q⟩:=h
 obtain⟨u,rfl,ru⟩:=kVt r
 cases ru
 obtain⟨its,r',pl,hz⟩:=I.list hx
 obtain⟨ps,e1,e2⟩:=jUs r'
 subst e1
 have eI:(ps.map (fun p=>Value.int p.1 p.2)).toArray=intItems ps.toArray:=by simp[intItems]
 refine sum_intListG (xs:=ps.toArray) (I.ok.hd hc) (eI▸pl.isList) fun h' tk t' k=> ?_
 exact⟨.int _,H,I.kept k,⟨t',rfl⟩,q _⟩
def rSum:List T->Gp->VK3->Prop:=fun xs G Q=>∃(p:Addr) (is:List Int),xs=[.ref p]/\G p=some (.lst (is.map T.int))/\∀z,Q (.int z) G
theorem c_sum (hc:X.calm=true):Call3 X (.builtin "sum") rSum:=
 Call3.of (qJi hc) fun H G xs as Q hg ra ⟨p,is,e,hG,q⟩=>by
  subst e
  obtain⟨v,rfl,rv⟩:=jVx ra
  cases (show v= .ref p from rv)
  obtain⟨vs,h1,h2⟩:=hg.lst hG
  have e:=jQl h2
  subst e
  exact⟨p,is,rfl,.of h1,fun z=>⟨.int z,G,.refl H,hg,rfl,q z⟩⟩
theorem kJa {xs:List V} {us:List Value} (h:Vals xs us):∀is:List Nat,Vals (is.filterMap (xs[·]?)) (is.filterMap (us[·]?))
 | []=> .nil
 | i::is=>by
  rw[lKz,lKz]
  cases e:xs[i]? with
  | none=>rw[h.none_of e];exact kJa h is
  | some x=>
   obtain⟨u,e2,r⟩:=h.get e
   rw[e2];exact .cons r (kJa h is)
theorem kJm {K:PySem.W.Frag} {H:Hp} {xs:List T} {vs:List V} (h:Reps K H xs vs):∀is:List Nat,Reps K H (is.filterMap (xs[·]?)) (is.filterMap (vs[·]?))
 | []=>rfl
 | i::is=>by
  rw[lKz,lKz]
  cases e:xs[i]? with
  | none=>
   have:vs[i]? =none:=by
    cases e2:vs[i]? with
    | none=>rfl
    | some v=>obtain⟨x,e3,_⟩:=h.get' e2;rw[e] at e3;cases e3
   rw[this];exact kJm h is
  | some x=>
   obtain⟨v,e2,r⟩:=h.get e
   rw[e2];exact⟨v,_,rfl,r,kJm h is⟩
noncomputable def qJ0 (te:TE3) (tl th tk:TO3):TE3:=fun τ G Q=>te τ G fun x G1=>tl τ G1 fun l G2=>th τ G2 fun u G3=>tk τ G3 fun k G4=>k≠some 0/\∃xs,jK1 G4 x=some xs/\∀(is:List Nat) p,G4 p=none->Q (.ref p) (gup G4 p (.lst (is.filterMap (xs[·]?))))
theorem e_slSt {e st:Expr} {te:TE3} {lo hi:Option Expr} {tl th tk:TO3} {pos p2:Pos} (he:PE3 X e te) (hl:PO3 X lo tl) (hu:PO3 X hi th) (hk:PO3 X (some st) tk):PE3 X (.Subscript e (.Slice lo hi (some st) p2) pos) (qJ0 te tl th tk):=by
 intro pins s τ G H Q I h
 refine Subscript_ (thn (he pins s τ G H _ I h) fun v s1 w_=>w_.el fun x G1 H1 e1 I1 r1 q1=> ?_)
 refine wpAny_Slice (thn (hl pins s1 τ G1 H1 _ I1 q1) fun vl s2 ⟨l,G2,H2,e2,I2,pl,q2⟩=>thn (hu pins s2 τ G2 H2 _ I2 q2) fun vu s3 ⟨u,G3,H3,e3,I3,pu,q3⟩=>thn (hk pins s3 τ G3 H3 _ I3 q3) fun vk s4 ⟨k,G4,H4,e4,⟨σ,I4,hs4,hg4⟩,pk,ek,xs,hx,q4⟩=> ?_)
 have e14:=e2.trans (e3.trans e4)
 have I5:Inv X pins σ H4 {s4 with heap:=s4.heap.push {cls:= .type "slice",data:= .fields #[vl,vu,vk]} }:=I4.kept (t':=s4.toks) fun b ob q=>lJm _ q
 obtain⟨a,ra,rv⟩:=r1.mono e14
 obtain⟨p,vs,ea,hq,r⟩:=jQd hg4 ra hx
 subst ea
 cases rv
 obtain⟨its,rr,ht,hz⟩:=I5.list hq
 have hlen:=rr.length
 have hg:wpAny (model X.prog X.w) X.A (getItem (.ref p) (.ref s4.heap.objs.size)) (EP3 X pins τ H4 Q) X.xe {s4 with heap:=s4.heap.push {cls:= .type "slice",data:= .fields #[vl,vu,vk]} }:=by
  refine wpAny_getItem_list_slice ht.isList (Heap.IsSliceOf.new ..) pl pu pk ek ?_ (by rw[lJv]<;>omega)
  have hsz:=slicePick_size_le its.toArray l u k
  unfold slicePick at hsz ⊢
  generalize sliceRange _ _ _=is at hsz ⊢
  have ei:is.filterMap (its.toArray[·]?)=is.filterMap (its[·]?):=by congr 1;funext i;exact List.getElem?_toArray
  rw[ei] at hsz ⊢
  have vp:=kJa rr is
  refine jVn hs4 ⟨.ref _,_,I5.laid (t':=s4.toks) (o:= .lst (is.filterMap (vs[·]?))) (fun b ob q=>lJm _ q) (lJg _) ⟨?_,_,0,vp,lJ6 _ rfl⟩,rfl,?_⟩
  ·rw[vp.length];simp at hsz;omega
  ·exact⟨.ref _,_,.upd (.none (I5.hok.fresh (lJg _))),hg4.lstNew (kJm r is) (.none (I5.hok.fresh (lJg _))),rfl,q4 is _ (hg4.fresh (I5.hok.fresh (lJg _)))⟩
 show wpAny (model X.prog X.w) X.A (subscriptTail e (.Slice lo hi (some st) p2) (.ref p) (.ref s4.heap.objs.size)) (EP3 X pins τ H Q) X.xe {s4 with heap:=s4.heap.push {cls:= .type "slice",data:= .fields #[vl,vu,vk]} }
 exact thn (tail_any (ops:=[.ref p,.ref s4.heap.objs.size]) ht.isList.typeIs slot_list_getitem.lookup hg (by with_unfolding_all rfl)) fun _ _ z=>z.ext (e1.trans e14)
def kJw:R3:=fun x y G Q=>∃p xs,y= .ref p/\G p=some (.lst xs)/\eqOk x=true/\jX3 xs=true/\∀b:Bool,Q (.bl b) G
theorem qKs (hu:X.A.units+64<cLine):Op3 X (compareOp .NotIn) kJw:=by
 rintro pins s τ G H x y v u Q ⟨σ,I,hs,hg⟩ ⟨a,ra,rv⟩ ⟨b,rb,ru⟩ ⟨p,xs,ey,hp,ox,oxs,q⟩
 subst ey
 cases (show b= .ref p from rb)
 cases ru
 obtain⟨vs,h1,h2⟩:=hg.lst hp
 obtain⟨its,r1,⟨o,n,ho,hc,_,hd⟩,_⟩:=I.list (.of h1)
 simp only[eqOk,jX3,lKs,lKx] at ox oxs
 obtain⟨as,r3⟩:=jVy I xs oxs.1.1 h2 r1
 obtain⟨bs,r4⟩:=kJn I x ox.1.1 ra rv
 have hd':=ox.2
 exact SeqAt.notIn_list_reads (.list ho hc hd (by simpa using r3)) r4 (by simpa[PyData.canLay0] using oxs.1.2) ox.1.2 (by have:=Nat.min_le_right (PyData.depthAll (tds xs)) (td x).depth;omega) ⟨.bl _,G,H,.refl H,⟨σ,I,hs,hg⟩,⟨.bl _,rfl,rfl⟩,q _⟩
end
theorem qUz {X:Cx} {elts:List Expr} {k:Nat} {tpos:Pos} {pins:List (Addr×Obj)} {s1:Shared} {τ:St3} {σ:L2.St} {G1:Gp} {H H1:Hp} {R:List T->(Gp->Prop)->Gp->Prop} {x y:T} {xs ys:List T} {v w:V} {u u':Value} (St:Gp->Prop) (hSt:∀G',St G'->jK1 G' x=some xs/\jK1 G' y=some ys)
  (e1:Ext H H1) (I1:Inv X pins σ H1 s1) (hs1:SRel X.K H1 σ τ) (hg1:GRel X.K H1 G1) (rv:Rep X.K H1 x v) (rw':Rep X.K H1 y w) (ru:RelV v u) (ru':RelV w u') (hx:jK1 G1 x=some xs) (hy:jK1 G1 y=some ys) (q:R (zipT xs ys) St G1):
  wpAny (model X.prog X.w) X.A (call (.type "zip") [u,u']) (fun v s1=>wpAny (model X.prog X.w) X.A (pyIter v) (PIE3 X pins τ H (.Tuple elts k tpos) R) X.xe s1) X.xe s1:=by
 obtain⟨pa,vs,rfl,hq1,r1⟩:=jQd hg1 rv hx
 obtain⟨pb,ws,rfl,hq2,r2⟩:=jQd hg1 rw' hy
 cases ru;cases ru'
 obtain⟨its1,rv1,p1,hz1⟩:=I1.list hq1
 obtain⟨its2,rv2,p2,hz2⟩:=I1.list hq2
 have hal:pa<s1.heap.objs.size:=by obtain⟨o,ho,_⟩:=p1.isList;exact lJj ho
 have hbl:pb<s1.heap.objs.size:=by obtain⟨o,ho,_⟩:=p2.isList;exact lJj ho
 refine call_zip_2 p1.isList p2.isList fun h1 hz hTI hTO hi1 hi2 hsz hk=> ?_
 have I2:Inv X pins σ H1 {s1 with heap:=h1}:=I1.kept (t':=s1.toks) hk
 refine wpAny_pyIter_zip hz ?_
 have fr:∀c∈[s1.heap.objs.size+4,s1.heap.objs.size+2,s1.heap.objs.size+3,s1.heap.objs.size,s1.heap.objs.size+1],FpOk X pins H1 c:=fun c hc=>by
  simp only[lJk,lJ2,lKd] at hc
  have hle:s1.heap.objs.size<=c:=by omega
  exact I1.fpOk hle (I1.hok.fresh hle)
 have D:ZipApart (s1.heap.objs.size+4) (s1.heap.objs.size+2) (s1.heap.objs.size+3) s1.heap.objs.size (s1.heap.objs.size+1) pa pb:=qQ6 hal hbl
 refine⟨s1.heap.objs.size+4,_,_,_,zipT xs ys,St,G1,H1,rfl,e1,⟨σ,I2,hs1,hg1⟩,kXu _ _ _ _ _ pa pb D,⟨hz,hTI,⟨_,_,hTO⟩,hi1,hi2⟩,fr,?_,q⟩
 intro i H2 G2 e2 g2 st0
 have st:=hSt G2 st0
 obtain⟨pa',vs',ea,ha',ra'⟩:=jQd g2 (Rep.mono e2 _ rv) st.1
 obtain⟨pb',ws',eb,hbq,rb'⟩:=jQd g2 (Rep.mono e2 _ rw') st.2
 cases ea;cases eb
 have hl1:=ra'.length
 have hl2:=rb'.length
 have hzl:(zipT xs ys).length=min xs.length ys.length:=by simp[zipT]
 refine⟨fun hi=> ?_,fun hi=>⟨vs',ws',ha',hbq,by omega⟩,fun hi y H' ⟨pp,x1,x2,hn,ey,hy1,hy2,eH⟩=> ?_⟩
 ·exact⟨vs',ws',vs'[i]'(by omega),ws'[i]'(by omega),ha',hbq,lJo _,lJo _⟩
 ·subst ey;subst eH
  obtain⟨t1,ht1,rt1⟩:=ra'.get' (hy1 vs' ha')
  obtain⟨t2,ht2,rt2⟩:=rb'.get' (hy2 ws' hbq)
  have hzi:(zipT xs ys)[i]? =some (.tup [t1,t2]):=by
   unfold zipT
   rw[lKa,show (xs.zip ys)[i]? =some (t1,t2) from lXt.mpr ⟨ht1,ht2⟩];rfl
  exact⟨.upd (.none hn),g2.tupNew hn,_,hzi,Rep.tupNew ⟨_,_,rfl,rt1,_,_,rfl,rt2,rfl⟩ hn⟩
theorem qUy {X:Cx} {elts:List Expr} {k:Nat} {tpos:Pos} {pins:List (Addr×Obj)} {s1:Shared} {τ:St3} {σ:L2.St} {G1:Gp} {H H1:Hp} {R:List T->(Gp->Prop)->Gp->Prop} {xs ys:List T} {v w:V} {u u':Value} (St:Gp->Prop)
  (e1:Ext H H1) (I1:Inv X pins σ H1 s1) (hs1:SRel X.K H1 σ τ) (hg1:GRel X.K H1 G1) (rv:Rep X.K H1 (.tup xs) v) (rw':Rep X.K H1 (.tup ys) w) (ru:RelV v u) (ru':RelV w u') (q:R (zipT xs ys) St G1):
  wpAny (model X.prog X.w) X.A (call (.type "zip") [u,u']) (fun v s1=>wpAny (model X.prog X.w) X.A (pyIter v) (PIE3 X pins τ H (.Tuple elts k tpos) R) X.xe s1) X.xe s1:=by
 obtain⟨pa,vs,rfl,hq1,r1⟩:=(show ∃p vs,v= .ref p/\H1 p=some (.tup vs)/\Reps X.K H1 xs vs from rv)
 obtain⟨pb,ws,rfl,hq2,r2⟩:=(show ∃p vs,w= .ref p/\H1 p=some (.tup vs)/\Reps X.K H1 ys vs from rw')
 cases ru;cases ru'
 obtain⟨its1,rv1,p1,hz1⟩:=I1.tuple (.of hq1)
 obtain⟨its2,rv2,p2,hz2⟩:=I1.tuple (.of hq2)
 have hal:pa<s1.heap.objs.size:=by obtain⟨o,ho,_⟩:=p1;exact lJj ho
 have hbl:pb<s1.heap.objs.size:=by obtain⟨o,ho,_⟩:=p2;exact lJj ho
 refine qJu (show s1.heap.IsTuple pa its1.toArray from p1) (show s1.heap.IsTuple pb its2.toArray from p2) fun h1 n hn hz hTI hTO hi1 hi2 hk=> ?_
 subst hn
 have I2:Inv X pins σ H1 {s1 with heap:=h1}:=I1.kept (t':=s1.toks) hk
 refine wpAny_pyIter_zip hz ?_
 have fr:∀c∈[s1.heap.objs.size+4,s1.heap.objs.size+2,s1.heap.objs.size+3,s1.heap.objs.size,s1.heap.objs.size+1],FpOk X pins H1 c:=fun c hc=>by
  simp only[lJk,lJ2,lKd] at hc
  have hle:s1.heap.objs.size<=c:=by omega
  exact I1.fpOk hle (I1.hok.fresh hle)
 have D:ZipApart (s1.heap.objs.size+4) (s1.heap.objs.size+2) (s1.heap.objs.size+3) s1.heap.objs.size (s1.heap.objs.size+1) pa pb:=qQ6 hal hbl
 refine⟨s1.heap.objs.size+4,_,_,_,zipT xs ys,St,G1,H1,rfl,e1,⟨σ,I2,hs1,hg1⟩,qJy _ _ _ _ _ pa pb D,⟨hz,hTI,⟨_,_,hTO⟩,hi1.1,hi2.1⟩,fr,?_,q⟩
 intro i H2 G2 e2 g2 _
 obtain⟨pa',vs',ea,ha',ra'⟩:=(show ∃p vs,V.ref pa= .ref p/\H2 p=some (.tup vs)/\Reps X.K H2 xs vs from Rep.mono e2 _ rv)
 obtain⟨pb',ws',eb,hbq,rb'⟩:=(show ∃p vs,V.ref pb= .ref p/\H2 p=some (.tup vs)/\Reps X.K H2 ys vs from Rep.mono e2 _ rw')
 cases ea;cases eb
 have hl1:=ra'.length
 have hl2:=rb'.length
 have hzl:(zipT xs ys).length=min xs.length ys.length:=by simp[zipT]
 refine⟨fun hi=> ?_,fun hi=>⟨vs',ws',.of ha',.of hbq,by omega⟩,fun hi y H' ⟨pp,x1,x2,hn,ey,hy1,hy2,eH⟩=> ?_⟩
 ·exact⟨vs',ws',vs'[i]'(by omega),ws'[i]'(by omega),.of ha',.of hbq,lJo _,lJo _⟩
 ·subst ey;subst eH
  obtain⟨t1,ht1,rt1⟩:=ra'.get' (hy1 vs' (.of ha'))
  obtain⟨t2,ht2,rt2⟩:=rb'.get' (hy2 ws' (.of hbq))
  have hzi:(zipT xs ys)[i]? =some (.tup [t1,t2]):=by
   unfold zipT
   rw[lKa,show (xs.zip ys)[i]? =some (t1,t2) from lXt.mpr ⟨ht1,ht2⟩];rfl
  exact⟨.upd (.none hn),g2.tupNew hn,_,hzi,Rep.tupNew ⟨_,_,rfl,rt1,_,_,rfl,rt2,rfl⟩ hn⟩
noncomputable def qQf (ta:TA3):TI3:=fun τ G R=>ta τ G fun vs G1=>∃x y xs ys,vs=[x,y]/\((x= .tup xs/\y= .tup ys/\R (zipT xs ys) (fun _=>True) G1)\/(jK1 G1 x=some xs/\jK1 G1 y=some ys/\R (zipT xs ys) (fun G'=>jK1 G' x=some xs/\jK1 G' y=some ys) G1))
theorem i_zipB {X:Cx} {elts:List Expr} {k:Nat} {tpos pos p:Pos} {a b:Expr} {ta:TA3} (hg:Gl X "zip") (hm:X.mg "zip"=none) (hv:bootBuiltins "zip"=some (.type "zip")) (ha:PA3 X [a,b] ta) (hs:starEach [a,b] X.env=[(false,eval a X.env),(false,eval b X.env)]:=by rfl) (hs2:starEach [b] X.env=[(false,eval b X.env)]:=by rfl):
  PI3 X (.Tuple elts k tpos) (.Call (.Name "zip" p) [a,b] [] pos) (qQf ta):=by
 intro pins s τ G H R I h
 obtain⟨σ0,I0,hs0,hg0⟩:=id I
 refine Call_ (jUz I0 hg hm hv (lVe (thn (ha pos pins s τ G H _ I h) fun us s1 w_=>w_.el fun xs' G1 H1 e1 i_ r_ q1=>i_.el fun σ I1 hs1 hg1=>r_.el fun as ras rvs=> ?_) (by rw[hs,hs2]) (by rw[hs2];rfl)))
 obtain⟨x,y,xs,ys,e,hx⟩:=q1
 subst e
 obtain⟨v,w,rfl,rv,rw'⟩:=kV2 ras
 obtain⟨u,u',rfl,ru,ru'⟩:=rvs.two
 rcases hx with ⟨rfl,rfl,q⟩ | ⟨hx,hy,q⟩
 ·exact qUy _ e1 I1 hs1 hg1 rv rw' ru ru' q
 ·exact qUz _ (fun G' h=>h) e1 I1 hs1 hg1 rv rw' ru ru' hx hy q
section
variable {X:Cx}
end
section
variable {X:Cx}
end
section
variable {X:Cx}
end
section
variable {X:Cx}
end
section
variable {P:Program} {w:World} {A:Around} {E:Value->Shared->Prop} {s:Shared} {d it:Addr} {o:Obj} {es:Array DictEntry} {ep i:Nat}
end
section
variable {X:Cx}
end
theorem jKv:∀(names:List (Str×NameKind)) (n:Nat) (acc:List (Str×Addr)),cellsFrom n names acc=cellsFrom n names []++acc
 | [],_,_=>rfl
 | (x,k)::r,n,acc=>by
  unfold cellsFrom
  split
  ·rw[jKv r (n+1) ((x,n)::acc),jKv r (n+1) [(x,n)]];simp
  ·exact jKv r n acc
theorem jUl {x:Str} {c:Addr}:∀(names:List (Str×NameKind)) (n:Nat) (acc:List (Str×Addr)),(x,c)∈cellsFrom n names acc->(x,c)∈acc\/(x,NameKind.cell)∈names
 | [],_,_,h=> .inl h
 | (y,k)::r,n,acc,h=>by
  unfold cellsFrom at h
  split at h
  ·rename_i hk
   rcases jUl r _ _ h with z | z
   ·rcases (lJk.mp z) with q | q
    ·cases q;rw[show k= .cell from eq_of_beq hk];exact .inr lJx
    ·exact .inl q
   ·exact .inr (lJz _ z)
  ·exact (jUl r _ _ h).imp id (lJz _)
theorem jQ0 {x:Str}:∀(names:List (Str×NameKind)) (n:Nat) (acc:List (Str×Addr)),(∃c,acc.lookup x=some c)->∃c,(cellsFrom n names acc).lookup x=some c
 | [],_,_,h=>h
 | (y,k)::r,n,acc,h=>by
  unfold cellsFrom
  split
  ·refine jQ0 r _ _ ?_
   rw[lKm]
   cases x == y with
   | true=>exact⟨_,rfl⟩
   | false=>exact h
  ·exact jQ0 r _ _ h
theorem jQf {x:Str}:∀(names:List (Str×NameKind)) (n:Nat) (acc:List (Str×Addr)),(x,NameKind.cell)∈names->∃c,(cellsFrom n names acc).lookup x=some c
 | [],_,_,h=>by cases h
 | (y,k)::r,n,acc,h=>by
  unfold cellsFrom
  rcases (lJk.mp h) with z | z
  ·cases z
   rw[lJc (show (NameKind.cell == NameKind.cell)=true from rfl)]
   exact jQ0 r _ _ ⟨n,by rw[lKm];simp⟩
  ·split
   ·exact jQf r _ _ z
   ·exact jQf r _ _ z
theorem jVj {env:Env} {x:Str}:∀(names:List (Str×NameKind)),
  (names.map fun (n,k)=>if (k == NameKind.free&&env.scope.kind == .function&&env.kindOf n == some .cell) then (n,NameKind.cell) else (n,k)).lookup x=
   (names.lookup x).map fun k=>if (k == NameKind.free&&env.scope.kind == .function&&env.kindOf x == some .cell) then NameKind.cell else k
 | []=>rfl
 | (n,k)::r=>by
  rw[lJn,lKm (b:=k)]
  by_cases hx:(x == n)=true
  ·obtain rfl:x=n:=eq_of_beq hx
   by_cases hf:(k == NameKind.free&&env.scope.kind == .function&&env.kindOf x == some .cell)=true
   ·simp only[hf,lKn,lKm,hx,lQj]
   ·simp only[hf,lKc,lKj,lKm,hx,lQj]
  ·by_cases hf:(k == NameKind.free&&env.scope.kind == .function&&env.kindOf n == some .cell)=true
   ·simp only[hf,lKn,lKm,hx];exact jVj r
   ·simp only[hf,lKc,lKj,lKm,hx];exact jVj r
theorem jXu {scope:Scope} {env:Env} {x:Str} (h:(relabel scope env).names.lookup x=some .cell\/(relabel scope env).names.lookup x=some .free):scope.names.lookup x=some .free\/scope.names.lookup x=some .cell:=by
 have e:(relabel scope env).names.lookup x=_:=jVj (env:=env) scope.names
 rw[e] at h
 cases hq:scope.names.lookup x with
 | none=>rw[hq] at h;simp at h
 | some k=>
  rw[hq,lQj] at h
  by_cases hf:(k == NameKind.free&&env.scope.kind == .function&&env.kindOf x == some .cell)=true
  ·have:(k == NameKind.free)=true:=by rw[lKs,lKs] at hf;exact hf.1.1
   rw[eq_of_beq this];exact .inl rfl
  ·rw[lJb hf] at h
   exact h.symm
noncomputable def jK5 (X:Cx) (scope:Scope) (cl:List (Str×Addr)) (C:Addr) (fp:List Addr) (s:Shared) (H:Hp):Cx:=
 {X with env:=compEnvC scope (cellsFrom (C+1) scope.names cl) C X.env,s₀:=s,H₀:=H,outer:=X.stack,stack:=X.stack,ex:=fp,fn:=fun x=>scope.names.lookup x == some .cell,pn:=[],xe:=fun _ _=>False}
structure CmpOkC (X:Cx) (scope:Scope) (cl:List (Str×Addr)) (mask:List Bool):Prop where
 cl:clGo X.env scope.names []=some cl
 kind:scope.kind= .function
 cells:(scope.names.all fun y=>y.2 != .cell||scope.names.lookup y.1 == some .cell)=true
 names:(scope.names.all fun y=>y.2 != .local||scope.names.lookup y.1 == some .local)=true
 vis:(scope.names.all fun y=>y.2 != .free||X.env.kindOf y.1 == some .cell||X.env.kindOf y.1 == some .free)=true
 len:mask.length=X.N.length
 mask:((X.N.zip mask).all fun p=>p.2||(scope.names.lookup p.1 != some .local&&scope.names.lookup p.1 != some .cell))=true
section
variable {A:Around} {E:Value->Shared->Prop} {s:Shared} {M:Model}
theorem jUr {scope:Scope} {globals:Addr} {closure:List (Str×Addr)} {qual:Str} {func:Option Addr} {code:Value} {outer:Env} {builtins:Addr} {Q:Env->Shared->Prop}
  (hQ:∀h',h'.Ns s.heap.objs.size (fun _=>none)->(∀b o,s.heap.get? b=some o->h'.get? b=some o)->CellsOk h' (s.heap.objs.size+1) (cellsFrom (s.heap.objs.size+1) scope.names [])->
   Q (newEnv scope s.heap.objs.size globals (cellsFrom (s.heap.objs.size+1) scope.names closure) qual func code (some outer) builtins) {s with heap:=h'}):
  wpAny M A (newFunctionEnv scope globals closure [] qual func code (some outer) builtins) Q E s:=by
 (simp only[newFunctionEnv,Option.isSome_some,lKn])
 (refine lJa (wpAny_alloc ?_))
 (refine lJa (wpAny_layCells _ (fun name kind cells=>by cases hkc:kind == NameKind.cell<;>simp[hkc]) _ _ _ _ ?_))
 have ok:=cellsFrom_ok scope.names (s.heap.push {cls:= .type "dict",data:= .dict #[]}) (s.heap.objs.size+1) [] ⟨fun _ _ hm=>(nomatch hm),List.Pairwise.nil⟩ (by rw[lVf];exact lJg _)
 rw[lVf] at ok
 rw[show ({s with heap:=s.heap.push {cls:= .type "dict",data:= .dict #[]} }:Shared).heap.objs.size=s.heap.objs.size+1 from lVf ..]
 refine lJa ?_
 rw[List.forIn_nil]
 exact lJd (lJd (hQ _ ((Heap.Ns.new s.heap (.type "dict")).keeps (pushCells_keeps _ _)) (fun b o e=>pushCells_keeps _ _ b o (lJm _ e)) ok))
end
section
variable {X:Cx} {scope:Scope} {cl:List (Str×Addr)} {mask:List Bool}
theorem CmpOkC.local (c:CmpOkC X scope cl mask) {i:Nat} {x:Str} (h1:X.N[i]? =some x) (h2:mask[i]? =some false):scope.names.lookup x≠some .local/\scope.names.lookup x≠some .cell:=by
 have h:=c.mask
 rw[lK2] at h
 have hz:(X.N.zip mask)[i]? =some (x,false):=by rw[lXt];exact⟨h1,h2⟩
 have:=h _ (lJy hz)
 simpa using this
theorem CmpOkC.free (c:CmpOkC X scope cl mask) {x:Str} (h:scope.names.lookup x=some .free):X.env.kindOf x=some .cell\/X.env.kindOf x=some .free:=by
 have hv:=c.vis
 rw[lK2] at hv
 have:=hv (x,.free) (lKr h)
 simpa using this
theorem CmpOkC.nm (c:CmpOkC X scope cl mask):∀y∈scope.names,y.2= .local->scope.names.lookup y.1=some .local:=by
 have hv:=c.names
 rw[lK2] at hv
 intro y hy e
 have:=hv y hy
 rw[e] at this
 simpa using this
theorem CmpOkC.own (c:CmpOkC X scope cl mask) {x:Str} {d:Addr} {n:Nat} (h:(cellsFrom n scope.names []).lookup x=some d):scope.names.lookup x=some .cell:=by
 rcases jUl _ _ _ (lKr h) with z | z
 ·cases z
 ·have hv:=c.cells
  rw[lK2] at hv
  have:=hv _ z
  simpa using this
theorem CmpOkC.two (_:CmpOkC X scope cl mask) {x:Str} {d:Addr} {n:Nat} (h:(cellsFrom n scope.names cl).lookup x=some d):(cellsFrom n scope.names []).lookup x=some d\/((cellsFrom n scope.names []).lookup x=none/\cl.lookup x=some d):=by
 rw[jKv,List.lookup_append] at h
 cases hf:(cellsFrom n scope.names []).lookup x with
 | none=>rw[hf] at h;exact .inr ⟨rfl,h⟩
 | some e=>rw[hf] at h;exact .inl h
theorem CmpOkC.apart (c:CmpOkC X scope cl mask) {pins:List (Addr×Obj)} {σ:L2.St} {H:Hp} {s:Shared} {h4:Heap} {b:Addr} {x:Str} {d:Addr} (hcs:CellsOk h4 (s.heap.objs.size+1) (cellsFrom (s.heap.objs.size+1) scope.names [])) (_:Inv X pins σ H s)
  (hf:∀x c,X.env.cells.lookup x=some c->c≠b) (hb:b<s.heap.objs.size) (h:(cellsFrom (s.heap.objs.size+1) scope.names cl).lookup x=some d):d≠b:=by
 rcases c.two h with z | ⟨_,z⟩
 ·have:=(hcs.empty _ _ (lKr z)).2
  exact lK4 (lJ7 hb (lXw this))
 ·exact hf x d (jU9 c.cl (by simp) _ _ z)
theorem kXm (c:CmpOkC X scope cl mask) {pins:List (Addr×Obj)} {σ:L2.St} {H:Hp} {s:Shared} {fp:List Addr} {h4:Heap} {tk:Nat} (I:Inv X pins σ H s) (hf:∀b∈fp,FpOk X pins H b) (ho:∀b∈fp,∃o,s.heap.get? b=some o)
  (hns:h4.Ns s.heap.objs.size fun _=>none) (hk:∀b o,s.heap.get? b=some o->h4.get? b=some o) (hcs:CellsOk h4 (s.heap.objs.size+1) (cellsFrom (s.heap.objs.size+1) scope.names [])):
  Inv (jK5 X scope cl s.heap.objs.size fp s H) [] (msk mask σ) H {s with heap:=h4,toks:=tk}:=by
 have sub:=jU9 c.cl (by simp)
 have old:∀x d,cl.lookup x=some d->d<s.heap.objs.size:=fun x d h=>let ⟨_,q⟩:=I.cell x d (sub _ _ h);q.lt
 have new:∀x d,(cellsFrom (s.heap.objs.size+1) scope.names []).lookup x=some d->s.heap.objs.size+1<=d:=fun x d h=>(hcs.empty _ _ (lKr h)).2
 have fre:∀x d,scope.names.lookup x=some .free->cl.lookup x=some d->(cellsFrom (s.heap.objs.size+1) scope.names cl).lookup x=some d:=fun x d h1 h2=>by
  rw[jKv,List.lookup_append]
  cases hq:(cellsFrom (s.heap.objs.size+1) scope.names []).lookup x with
  | none=>exact h2
  | some e=>exact absurd (c.own hq) (by rw[h1];simp)
 have ok:(jK5 X scope cl s.heap.objs.size fp s H).Ok:=by
  refine⟨I.ok.mod,c.kind,I.ok.glob,I.ok.blt,lJg _,fun x y d h1 h2=> ?_,fun x hx=> ?_,fun x d hx hd=> ?_,I.ok.hd,I.ok.gd,I.ok.frames,.inl rfl,
   fun b hb=> ?_,I.bs,lKo I.ok.bsz I.sz,fun b o e hb=> ?_,fun b hb hz=> ?_,I.stack,I.stkFree⟩
  ·rcases c.two h1 with z1 | ⟨_,z1⟩<;>rcases c.two h2 with z2 | ⟨_,z2⟩
   ·exact name_of_addr hcs.apart (lKr z1) (lKr z2)
   ·exact absurd (lJ7 (old _ _ z2) (lXw (new _ _ z1))) (lQq _)
   ·exact absurd (lJ7 (old _ _ z1) (lXw (new _ _ z2))) (lQq _)
   ·exact I.ok.inj x y d (sub _ _ z1) (sub _ _ z2)
  ·have hx':=jXu (scope:=scope) (env:=X.env) hx
   rcases hx' with z | z
   ·obtain⟨d,hd⟩:=jVa c.cl z
    exact⟨d,fre x d z hd⟩
   ·exact jQf _ _ _ (lKr z)
  ·have hx':scope.names.lookup x=some .cell:=eq_of_beq hx
   rcases c.two hd with z | ⟨z,_⟩
   ·exact lXw (new _ _ z)
   ·obtain⟨e,he⟩:=jQf scope.names (s.heap.objs.size+1) [] (lKr hx')
    rw[he] at z;cases z
  ·obtain⟨o,e⟩:=ho b hb
   exact⟨lJr (lJj e),fun x d hd=>c.apart hcs I (hf b hb).2.2.2.2.1 (lJj e) hd⟩
  ·rcases (hf b hb).2.2.2.1 with z | z
   ·exact I.ok.noex b o e z
   ·exact absurd (lJ7 (lJj e) I.ok.bsz) (Nat.not_lt.mpr z)
  ·rcases lJk.mp (I.stkSub b hz) with z | z
   ·exact (hf b hb).2.1 z
   ·exact (hf b hb).2.2.1 z
 refine⟨ok,rfl,I.bare,Un.kept hk,⟨_,hns,fun i x v h1 h2 h3=> ?_⟩,fun x d hd=> ?_,I.hok.fresh (lJg _),fun x d hd=> ?_,fun p hp=>absurd (show p∈([]:List (Addr×Obj)) from hp) (by simp),I.hok.kept hk,?_⟩
 ·obtain⟨m1,m2⟩:=jY3 h2
  obtain⟨nl,nc⟩:=c.local h1 m1
  have fr:scope.names.lookup x=some .free:=by
   rcases h3 with z | z
   ·exact absurd (jKr (env:=X.env) z) nl
   ·exact (jXu (scope:=scope) (env:=X.env) z).elim id fun q=>absurd q nc
  have hkk:=c.free fr
  obtain⟨m,hn,hl⟩:=I.loc
  have vis:Vis X.env.scope x:=by rcases hkk with z | z;exact .inr (.inl z);exact .inr (.inr z)
  obtain⟨u,ru,lk⟩:=hl i x v h1 m2 vis
  refine⟨u,ru,?_⟩
  rcases lk with ⟨z,_⟩ | ⟨_,d,hd,cd⟩
  ·exfalso;rcases hkk with q | q<;>(rw[z] at q;cases q)
  ·obtain⟨d',hd'⟩:=jVa c.cl fr
   have:d'=d:=by have:=sub _ _ hd';rw[hd] at this;exact (lJw this).symm
   subst this
   refine .inr ⟨?_,d',fre x d' fr hd',cd.keeps hk⟩
   rcases h3 with z | z
   ·exact absurd (jKr (env:=X.env) z) nl
   ·exact z
 ·rcases c.two hd with z | ⟨_,z⟩
  ·exact⟨none,(hcs.empty _ _ (lKr z)).1⟩
  ·obtain⟨v,hv⟩:=I.cell x d (sub _ _ z)
   exact⟨v,hv.keeps hk⟩
 ·rcases c.two hd with z | ⟨_,z⟩
  ·exact I.hok.fresh (lXw (new _ _ z))
  ·exact I.freeC x d (sub _ _ z)
 ·exact (jUi (c.len.trans I.len.symm)).trans I.len
theorem qQw {pins:List (Addr×Obj)} {σ σ':L2.St} {H H':Hp} {s s':Shared} {fp:List Addr} {pl:List (Addr×Obj)} {C:Addr} (I:Inv X pins σ H s) (hf:∀b∈fp,FpOk X pins H b) (hC:s.heap.objs.size<=C)
  (J:Inv (jK5 X scope cl C fp s H) pl σ' H' s') {h':Heap} (hb:Heap.SameBut C s'.heap h'):Inv X pins σ H' {s' with heap:=h'}:=by
 have ne:∀b o,s.heap.get? b=some o->b≠C:=fun b o e=>lJr (lJ7 (lJj e) hC)
 have u:=J.base
 have hfree:H' C=none:=J.free
 have u':Un (frs X.stack) fp H H' s.heap h':=⟨fun b o e n hb' hx=>(hb.2 b (ne b o e)).trans (u.keep b o e n hb' hx),fun b o e n hb' hx=>let ⟨sl,z⟩:=u.slot b o e n hb' hx;⟨sl,(hb.2 b (ne b o e)).trans z⟩,
  u.free,fun b o e hx=>let ⟨o',z⟩:=u.there b o e hx;⟨o',(hb.2 b (ne b o e)).trans z⟩,u.tups,u.frzs,u.tbls⟩
 have hok:HOk X.prog X.w H' h':=fun b ob e=>(J.hok b ob e).stay (fun c w' hc q=>(hb.2 c (by
  rintro rfl
  rcases hc with rfl | hc
  ·rw[hfree] at e;cases e
  ·rw[hfree] at hc;cases hc)).trans q) (fun _ q=>q) fun _ _ q=>q
 exact I.call' (s':={s' with heap:=h'}) J.os u' hok J.bare fun b hb=>⟨(hf b hb).2.2.2.1,(hf b hb).2.1,(hf b hb).2.2.2.2.1,(hf b hb).2.2.2.2.2⟩
end
section
variable {X:Cx} {scope:Scope} {cl:List (Str×Addr)} {mask:List Bool} {elt iter tg:Expr} {ifs:List Expr} {pos:Pos} {wi:TI3} {g:TG3} {tif:TT3} {te:TE3}
theorem kUp (hc:X.calm=true) (ok:CmpOkC X scope cl mask)
  (hgk:kQm mask g) (hg:∀C fp s H,PG3 (jK5 X scope cl C fp s H) tg g) (hif:∀C fp s H,PIf3 (jK5 X scope cl C fp s H) ifs tif) (he:∀C fp s H,PE3 (jK5 X scope cl C fp s H) elt te)
  {pins:List (Addr×Obj)} {τ:St3} {H:Hp} {Q:VK3} {itv:Value} {s2:Shared} {E:Value->Shared->Prop} {RR:Value->Addr->Result->Shared->Prop}
  (h2:PIE3 X pins τ H tg (fun xs stay G=>kJf mask g tif te τ xs stay G Q) itv s2)
  (hRR:∀D C s' m,s'.heap.Ns C m->(∃G1 H1,Ext H H1/\H1 C=none/\Q (.ref D) G1/\∀h',Heap.SameBut C s'.heap h'->Inv3 X pins τ G1 H1 {s' with heap:=h'})->(∃oC,s'.heap.get? C=some oC/\C≠X.env.locals/\C∉X.fs/\∀v,oC.data≠ .cell v)->(∀x c,X.env.cells.lookup x=some c->c≠C)->(∀p∈X.pn++pins,p.1≠C)->X.s₀.heap.objs.size<=C->RR (.ref D) C (.ok .next) s'):
  wpAny (model X.prog X.w) X.A (newList []) (fun acc s₃=>wpAny (model X.prog X.w) X.A (newFunctionEnv scope X.env.globals cl [] X.env.qual none .none (some X.env)) (fun cenv s₄=>
   codeAny (model X.prog X.w) X.A (.compStart (.ListComp elt [⟨tg,iter,ifs,0⟩] scope pos) 0 itv acc {cenv with scope:=relabel scope X.env}) (RR acc cenv.locals) s₄) E s₃) E s2:=by
 obtain⟨it,fp,tn,J,xs,stay,G2,H2,e,eH,⟨σ,I2,hs2,hg2⟩,T0,st2,f2,IT,hq⟩:=h2
 subst e
 refine lK9 (jUr fun h4 hns hk4 hcs=> ?_)
 dsimp only at hns hk4 hcs ⊢
 have hD:H2 s2.heap.objs.size=none:=I2.hok.fresh (lJg _)
 generalize hs3:({s2 with heap:=s2.heap.push {cls:= .type "list",dict:=none,data:= .seq ([]:List Value).toArray} }:Shared)=s3
 have eh3:s2.heap.push {cls:= .type "list",dict:=none,data:= .seq ([]:List Value).toArray}=s3.heap:=by rw[<-hs3]
 have I3:Inv X pins σ (upd H2 s2.heap.objs.size (.lst [])) s3:=by
  rw[<-hs3]
  exact I2.laid (t':=s2.toks) (fun b u e=>lJm _ e) (lJg _) ⟨lJu _,[],0,.nil,lJ6 _ rfl⟩
 rw[eh3] at hns hk4 hcs ⊢
 generalize hDd:s2.heap.objs.size=D at *
 have e3:Ext H2 (upd H2 D (.lst [])):= .upd (.none hD)
 have hg3:GRel X.K (upd H2 D (.lst [])) (gup G2 D (.lst [])):=hg2.lstNew (show Reps X.K H2 [] [] from rfl) (.none hD)
 have obj2:∀b∈fp,∃o,s2.heap.get? b=some o:=fun b hb=>let ⟨o,e,_⟩:=T0.obj 0 _ st2 b hb;⟨o,e⟩
 have fD:∀b∈fp,b≠D:=fun b hb=>by obtain⟨o,e⟩:=obj2 b hb;rw[<-hDd];exact lJr (lJj e)
 have f3:∀b∈fp,FpOk X pins (upd H2 D (.lst [])) b:=fun b hb=>⟨by rw[jJ2 (fD b hb)];exact (f2 b hb).1,(f2 b hb).2⟩
 have k3:∀b o,s2.heap.get? b=some o->s3.heap.get? b=some o:=fun b o e=>by rw[<-eh3];exact lJm _ e
 have obj3:∀b∈fp,∃o,s3.heap.get? b=some o:=fun b hb=>let ⟨o,e⟩:=obj2 b hb;⟨o,k3 b o e⟩
 have k4:∀b o,s3.heap.get? b=some o->h4.get? b=some o:=hk4
 have Ic:Inv (jK5 X scope cl s3.heap.objs.size fp s3 (upd H2 D (.lst []))) [] (msk mask σ) (upd H2 D (.lst [])) {s3 with heap:=h4,toks:=s3.toks}:=kXm ok I3 f3 obj3 hns k4 hcs
 have st4:tn 0 h4:=T0.keep _ _ _ st2 fun b _ o e=>k4 b o (k3 b o e)
 have hl3:mask.length=τ.length:=ok.len.trans (I3.len.symm.trans hs2.1)
 obtain⟨P,p0,hst,turn,fin⟩:=hq D (hg2.fresh hD)
 have fpc:∀ {H':Hp} {pl:List (Addr×Obj)},(∀b∈fp,H' b=none)->(∀p∈pl,p.1∉fp)->∀b∈fp,FpOk (jK5 X scope cl s3.heap.objs.size fp s3 (upd H2 D (.lst []))) pl H' b:=fun {H' pl} hn hp b hb=>by
  obtain⟨o,e⟩:=obj3 b hb
  refine⟨hn b hb,lJr (lJj e),?_,.inl hb,fun x d hd=>ok.apart hcs I3 (f3 b hb).2.2.2.2.1 (lJj e) hd,fun p hpp z=> ?_⟩
  ·intro z
   rcases lJk.mp (I3.stkSub b z) with q | q
   ·exact (f3 b hb).2.1 q
   ·exact (f3 b hb).2.2.1 q
  ·have hpp':p∈pl:=by simpa[jK5] using hpp
   exact hp p hpp' (z▸hb)
 have loop:∀s4:Shared,s4={s3 with heap:=h4,toks:=s3.toks}->
   codeAny (model X.prog X.w) X.A (.compLoop (.ListComp elt [⟨tg,iter,ifs,0⟩] scope pos) 0 (.ref it) (.ref D) (compEnvC scope (cellsFrom (s3.heap.objs.size+1) scope.names cl) s3.heap.objs.size X.env)) (RR (.ref D) s3.heap.objs.size) s4:=by
  rintro s4 rfl
  refine kQc (fun n s'=>∃i acc G' H',n=xs.length-i/\i<=xs.length/\Ext H2 H'/\Inv3 (jK5 X scope cl s3.heap.objs.size fp s3 (upd H2 D (.lst []))) [] (msk mask τ) G' H' s'/\tn i s'.heap/\(∀b∈fp,H' b=none)/\P i acc G') ?_ xs.length
   ⟨0,[],_,_,rfl,lJu _,e3,⟨_,Ic,kJ3 (hs2.mono e3) hl3,hg3⟩,st4,fun b hb=>(f3 b hb).1,p0⟩
  rintro n s5 ⟨i,acc,G5,H5,en,hi5,e5,⟨σ5,I5,hs5,hg5⟩,st5,fr5,p5⟩
  obtain⟨hstay,hacc⟩:=hst i acc G5 hi5 p5
  obtain⟨go,stop,yl⟩:=IT i H5 G5 e5 hg5 hstay
  by_cases hlt:i<xs.length
  ·refine thn (T0.item (jK5 X scope cl s3.heap.objs.size fp s3 (upd H2 D (.lst []))) rfl rfl rfl hc i [] s5 σ5 H5 (fun _ _=>False) I5 (fpc fr5 (by simp)) st5 (go hlt)) fun r s6 ⟨u,hr,h6⟩=> ?_
   subst hr
   refine thn h6 fun _ s7 ⟨x,H7,I7,r7,y7,st7,fr7⟩=> ?_
   obtain⟨e7,g7,t,ht,rt⟩:=yl hlt x H7 y7
   have I7':=I7.pinned (fpc fr7 (by simp)) (T0.obj _ _ st7)
   refine thn (hg _ _ _ _ ([]++jQm fp s7.heap) s7 (msk mask τ) G5 H7 t u _ ⟨σ5,I7',hs5.mono e7,g7⟩ ⟨x,rt,r7⟩ (hgk _ _ _ _ (turn i t acc G5 ht p5))) fun _ s8 ⟨τ8,G8,H8,e8,I8,q8,ql8,qk8⟩=> ?_
   refine thn (hif _ _ _ _ ([]++jQm fp s7.heap) s8 τ8 G8 H8 _ I8 q8) fun b s9 ⟨G9,H9,e9,I9,q9⟩=> ?_
   have back:∀ {Ga:Gp} {Ha:Hp} {sa:Shared} {acc':List T},Ext H7 Ha->Inv3 (jK5 X scope cl s3.heap.objs.size fp s3 (upd H2 D (.lst []))) ([]++jQm fp s7.heap) τ8 Ga Ha sa->P (i+1) acc' Ga->
     ∃m,m<n/\∃i acc G' H',m=xs.length-i/\i<=xs.length/\Ext H2 H'/\Inv3 (jK5 X scope cl s3.heap.objs.size fp s3 (upd H2 D (.lst []))) [] (msk mask τ) G' H' sa/\tn i sa.heap/\(∀b∈fp,H' b=none)/\P i acc G':=by
    rintro Ga Ha sa acc' ea ⟨σa,Ia,hsa,hga⟩ pa
    have e2a:Ext H5 Ha:=e7.trans ea
    have hla:mask.length=τ8.length:=by rw[ql8,jUi hl3];exact hl3
    have hsm:=kJ3 (mask:=mask) hsa hla
    rw[kU9 hl3 ql8 qk8] at hsm
    refine⟨xs.length-(i+1),by omega,i+1,acc',Ga,Ha,rfl,hlt,e5.trans e2a,⟨msk mask σa,(Ia.weak (jUi (hla.trans hsa.1.symm)) fun j v hv=>(jY3 hv).2).pins_of (fun p hp=>absurd hp (by simp)),hsm,hga⟩,?_,fun b hb=> ?_,pa⟩
    ·exact T0.keep _ _ _ st7 fun b hb o e=>(Ia.pin (b,o) (lJ0 _ (lJ0 _ (jQg hb e)))).1
    ·obtain⟨o,e,d⟩:=T0.obj _ _ st7 b hb
     exact (Ia.pin (b,o) (lJ0 _ (lJ0 _ (jQg hb e)))).2.1
   cases b with
   | false=>
    rw[lJb lJp] at q9 ⊢
    exact back (e8.trans e9) I9 q9
   | true=>
    rw[lJc rfl] at q9 ⊢
    refine thn (he _ _ _ _ ([]++jQm fp s7.heap) s9 τ8 G9 H9 _ I9 q9) fun y s10 w_=>w_.el fun ty G10 H10 e10 I10 r10 ⟨hD10,hz10,q10⟩=> ?_
    obtain⟨vy,rvy,ruy⟩:=r10
    refine thn (jKd ([]++jQm fp s7.heap) s10 τ8 G10 H10 (.ref D) [ty] (.ref D) [y] (fun _ G'=>P (i+1) (acc++[ty]) G') I10 ⟨.ref D,rfl,rfl⟩ ⟨[vy],.one rvy,.cons ruy .nil⟩ ⟨D,acc,ty,rfl,rfl,hD10,hz10,q10⟩) fun _ s11 w_=>w_.el fun _ G11 H11 e11 I11 _ q11=> ?_
    exact back (((e8.trans e9).trans e10).trans e11) I11 q11
  ·have ei:i=xs.length:=by omega
   refine thn (T0.done (jK5 X scope cl s3.heap.objs.size fp s3 (upd H2 D (.lst []))) rfl rfl rfl hc i [] s5 σ5 H5 (fun _ _=>False) I5 (fpc fr5 (by simp)) st5 (stop (by omega))) fun r s6 ⟨hr,I6⟩=> ?_
   subst hr;subst ei
   obtain⟨m,hn,_⟩:=I6.loc
   obtain⟨oC,es,ep,hoC,hdC,_⟩:=id hn
   refine hRR D s3.heap.objs.size s6 m hn ⟨G5,H5,eH.trans e5,I6.free,fin acc G5 p5,fun h' hb=>⟨σ,qQw I3 f3 (lJg _) I6 hb,hs2.mono e5,hg5⟩⟩
    ⟨oC,hoC,lK4 I3.lt,I3.nofs (lJg _),fun v z=>by rw[hdC] at z;cases z⟩ (fun x d hd=> ?_) (fun p hp=> ?_) I3.sz
   ·obtain⟨v,q⟩:=I3.cell x d hd
    exact lJr q.lt
   ·exact lJr (lJj (I3.pin p hp).1)
 exact codeAny_compStart_list (loop _ (by rw[<-hs3])) (T0.self _ 0 _ _ _ st4 (loop _ (by rw[<-hs3])))
theorem qXj (hc:X.calm=true) (ok:CmpOkC X scope cl mask) (hi:PI3 X tg iter wi) (hgk:kQm mask g) (hg:∀C fp s H,PG3 (jK5 X scope cl C fp s H) tg g) (hif:∀C fp s H,PIf3 (jK5 X scope cl C fp s H) ifs tif) (he:∀C fp s H,PE3 (jK5 X scope cl C fp s H) elt te)
  (hs:∀x,foldedSetIterable iter X.env x=pure x:=by intro _;rfl):PE3 X (.ListComp elt [⟨tg,iter,ifs,0⟩] scope pos) (jKf mask wi g tif te):=by
 intro pins s τ G H Q I h
 rw[eval_ListComp]
 refine lYu (use:=none) rfl hs (jXr ok.cl) ok.kind ok.nm (thn (hi pins s τ G H _ I h) fun xv s1 h1=>thn h1 fun itv s2 h2=> ?_)
 refine kUp (RR:=fun acc C=>compPost (model X.prog X.w) X.A X.xe none (EP3 X pins τ H Q) acc C) hc ok hgk hg hif he h2 ?_
 rintro D C s' m hn ⟨G1,H1,e1,_,q1,hI⟩ _ _ _ _
 exact⟨m,hn,fun h' hb=>⟨.ref D,G1,H1,e1,hI h' hb,⟨.ref D,rfl,rfl⟩,q1⟩⟩
end
end L3
namespace L3
open PySem
def itr {α:Type} (f:α->α):Nat->α->α
 | 0,a=>a
 | n+1,a=>itr f n (f a)
theorem jKi {α:Type} (f:α->α):∀(m n:Nat) (a:α),itr f (m+n) a=itr f n (itr f m a)
 | 0,n,a=>by rw[lVv];rfl
 | m+1,n,a=>by rw[Nat.add_right_comm];exact jKi f m n (f a)
theorem jV7 {α:Type} (f:α->α) (n:Nat) (a:α):itr f (n+1) a=f (itr f n a):=jKi f n 1 a
namespace St
open SetTable
theorem getD_at {xs:Array Nat} {k d:Nat} (h:k<xs.size):xs.getD k d=xs[k]:=by simp[Array.getD,h]
theorem qV8 (xs:Array Nat) (j:Nat) (hs:∀a b:Nat,a<b->∀(hb:b<xs.size),xs.getD a 0<xs[b]):∀(fuel lo hi:Nat),hi<=xs.size->lo<=hi->hi-lo<=fuel->(∀k,k<lo->xs.getD k 0<j)->(∀k (h:k<xs.size),hi<=k->j<=xs[k])->
  (below.go xs j fuel lo hi)<=xs.size/\(∀k,k<below.go xs j fuel lo hi->xs.getD k 0<j)/\(∀k (h:k<xs.size),below.go xs j fuel lo hi<=k->j<=xs[k])
 | 0,lo,hi,h1,h2,h3,h4,h5=>by
  have e:hi=lo:=by omega
  subst e
  exact⟨h1,h4,h5⟩
 | fuel+1,lo,hi,h1,h2,h3,h4,h5=>by
  unfold below.go
  by_cases c:lo<hi
  ·rw[lJc c]
   have hm:(lo+hi) / 2<xs.size:=by omega
   by_cases d:xs.getD ((lo+hi) / 2) j<j
   ·simp only[d,lKn]
    refine qV8 xs j hs fuel _ hi h1 (by omega) (by omega) (fun k hk=> ?_) h5
    rw[getD_at hm] at d
    by_cases e:k=(lo+hi) / 2
    ·subst e;rw[getD_at hm];exact d
    ·exact Nat.lt_trans (hs k _ (by omega) hm) d
   ·simp only[d,lKc]
    refine qV8 xs j hs fuel lo _ (by omega) (by omega) (by omega) h4 fun k h hk=> ?_
    rw[getD_at hm] at d
    by_cases e:k=(lo+hi) / 2
    ·subst e;omega
    ·have:=hs ((lo+hi) / 2) k (by omega) h
     rw[getD_at hm] at this
     omega
  ·rw[lJb c]
   have e:hi=lo:=by omega
   subst e
   exact⟨h1,h4,h5⟩
def Ris (xs:Array Nat):Prop:=xs.toList.Pairwise (· < ·)
theorem Ris.lt {xs:Array Nat} (h:Ris xs) (a b:Nat) (hab:a<b) (hb:b<xs.size):xs.getD a 0<xs[b]:=by
 rw[getD_at (by omega)]
 have:=lYq.mp h a b (by simpa using (by omega:a<xs.size)) (by simpa using hb) hab
 simpa using this
theorem jYi {xs:Array Nat} (h:Ris xs) (j:Nat):below xs j<=xs.size/\(∀k,k<below xs j->xs.getD k 0<j)/\(∀k (h:k<xs.size),below xs j<=k->j<=xs[k]):=
 qV8 xs j h.lt xs.size 0 xs.size (lJg _) (lJu _) (lJg _) (fun k hk=>absurd hk (lKu _)) fun k h1 h2=>absurd h1 (by omega)
theorem kVr {xs:Array Nat} (h:Ris xs) {i:Nat} (hi:i<xs.size):below xs xs[i]=i:=by
 obtain⟨h1,h2,h3⟩:=jYi h xs[i]
 rcases lXx (below xs xs[i]) i with c | c | c
 ·have a:=h3 (below xs xs[i]) (by omega) (lJg _)
  have b:=h.lt _ i c hi
  rw[getD_at (by omega)] at b
  omega
 ·exact c
 ·have:=h2 i c
  rw[getD_at hi] at this
  omega
theorem below_next {xs:Array Nat} (h:Ris xs) {i:Nat} (hi:i<xs.size):below xs (xs[i]+1)=i+1:=by
 obtain⟨h1,h2,h3⟩:=jYi h (xs[i]+1)
 rcases lXx (below xs (xs[i]+1)) (i+1) with c | c | c
 ·have:=h3 i hi (by omega)
  omega
 ·exact c
 ·have a:=h2 (i+1) c
  have hi1:i+1<xs.size:=by omega
  rw[getD_at hi1] at a
  have b:=h.lt i (i+1) (by omega) hi1
  rw[getD_at hi] at b
  omega
theorem below_zero {xs:Array Nat} (h:Ris xs):below xs 0=0:=by
 obtain⟨h1,h2,h3⟩:=jYi h 0
 rcases Nat.eq_zero_or_pos (below xs 0) with c | c
 ·exact c
 ·exact absurd (h2 0 c) (lKu _)
theorem insertAt_ris {xs:Array Nat} (h:Ris xs) {j:Nat} (hj:j∉xs.toList):Ris (insertAt xs (below xs j) j):=by
 obtain⟨h1,h2,h3⟩:=jYi h j
 unfold Ris
 rw[SetTable.toList_insertAt,lKb,List.pairwise_cons]
 have up:∀b,b∈xs.toList.drop (below xs j)->j<b:=by
  intro b hb
  obtain⟨k,hk,e⟩:=lVw hb
  rw[lVc] at hk
  rw[List.getElem_drop] at e
  have hk':below xs j+k<xs.size:=by simp at hk;omega
  have:=h3 _ hk' (by omega)
  have e':xs[below xs j+k]=b:=by simpa using e
  have ne:b≠j:=fun z=>hj (z▸lQ4 hb)
  omega
 have dn:∀a,a∈xs.toList.take (below xs j)->a<j:=by
  intro a ha
  obtain⟨k,hk,e⟩:=lVw ha
  rw[lK1] at hk
  rw[List.getElem_take] at e
  have:=h2 k (by omega)
  rw[getD_at (by simp at hk;omega)] at this
  have e':xs[k]'(by simp at hk;omega)=a:=by simpa using e
  omega
 refine⟨List.Pairwise.sublist (lQ2 _ _) h,⟨up,List.Pairwise.sublist (lQ5 _ _) h⟩,?_⟩
 intro a ha b hb
 (rcases lJk.mp hb with rfl | hb)
 ·exact dn a ha
 ·exact Nat.lt_trans (dn a ha) (up b hb)
theorem has_nil (j:Nat):has #[] j=false:=rfl
theorem slot_cases {t:SetTable} (hd:t.dummies= #[]) (j:Nat):(t.slot j= .empty/\(Ris t.place->j∉t.place.toList))\/∃i,t.slot j= .live i/\∃h:i<t.place.size,t.place[i]=j/\i=below t.place j:=by
 unfold SetTable.slot
 by_cases c:(t.place[below t.place j]? == some j)=true
 ·right
  refine⟨below t.place j,?_,?_⟩
  ·simp only[c,lKn]
  ·have c':=eq_of_beq c
   obtain⟨h,e⟩:=lYa.mp c'
   exact⟨h,e,rfl⟩
 ·left
  refine⟨?_,fun hr hm=> ?_⟩
  ·rw[hd]
   simp only[c,has_nil,lKj,lKc]
  ·obtain⟨k,hk,e⟩:=lVw hm
   have hk':k<t.place.size:=by simpa using hk
   have e':t.place[k]=j:=by simpa using e
   apply c
   rw[<-e',kVr hr hk',lKt hk']
   exact beq_self_eq_true _
theorem slot_empty {t:SetTable} (hd:t.dummies= #[]) {j:Nat} (h:j∉t.place.toList):t.slot j= .empty:=by
 rcases slot_cases hd j with c | ⟨i,_,hi,e,_⟩
 ·exact c.1
 ·exact absurd (by rw[<-e];simp) h
theorem slot_live {t:SetTable} (hr:Ris t.place) {i:Nat} (hi:i<t.place.size):t.slot t.place[i]= .live i:=by
 unfold SetTable.slot
 rw[kVr hr hi]
 simp[hi]
theorem kYd (mask i:Nat):runEnd mask i-i<=9:=by unfold runEnd;split<;>omega
def jZ9 (t:SetTable) (p:Probe):Prop:=p.j=p.i/\p.more=runEnd t.mask p.i-p.i
theorem jYl (t:SetTable):∀(m:Nat) (p:Probe),m<=p.more->itr t.advance m p={p with j:=p.j+m,more:=p.more-m}
 | 0,p,_=>by cases p;rfl
 | m+1,p,h=>by
  show itr t.advance m (t.advance p)=_
  have e:t.advance p={p with j:=p.j+1,more:=p.more-1}:=by unfold SetTable.advance;rw[lJc (by omega)]
  rw[e,jYl t m _ (by show m<=p.more-1;omega)]
  simp only[Probe.mk.injEq,and_true,true_and]
  omega
theorem qQy (t:SetTable) (p:Probe):∃m,m<=p.more+1/\jZ9 t (itr t.advance m p)/\(itr t.advance m p).i=(leap t.mask p.i p.perturb).1/\(itr t.advance m p).perturb=p.perturb / 32:=by
 refine⟨p.more+1,lJg _,?_⟩
 rw[jV7,jYl t p.more p (lJg _)]
 unfold SetTable.advance
 rw[lJb (by show ¬ p.more-p.more>0;omega)]
 exact⟨⟨rfl,rfl⟩,rfl,rfl⟩
def lp (mask:Nat) (x:Nat×Nat):Nat×Nat:=leap mask x.1 x.2
theorem jZe (t:SetTable):∀(k:Nat) (p:Probe),jZ9 t p->∃m,m<=10*k/\jZ9 t (itr t.advance m p)/\((itr t.advance m p).i,(itr t.advance m p).perturb)=itr (lp t.mask) k (p.i,p.perturb)
 | 0,p,h=>⟨0,lJg _,h,rfl⟩
 | k+1,p,h=>by
  obtain⟨m,h1,h2,h3,h4⟩:=qQy t p
  obtain⟨m',h1',h2',h3'⟩:=jZe t k _ h2
  have hm:p.more<=9:=by rw[h.2];exact kYd _ _
  refine⟨m+m',by omega,?_,?_⟩
  ·rw[jKi];exact h2'
  ·rw[jKi,h3',h3,h4];rfl
theorem kUa (mask:Nat):∀(k:Nat) (x:Nat×Nat),(itr (lp mask) k x).2=x.2 / 32^k
 | 0,x=>by simp[itr]
 | k+1,x=>by
  show (itr (lp mask) k (lp mask x)).2=_
  rw[kUa mask k]
  show x.2 / 32 / 32^k=_
  rw[Nat.div_div_eq_div_mul,Nat.pow_succ,Nat.mul_comm]
def five (mask i:Nat):Nat:=(i*5+1)%(mask+1)
theorem kUb (mask:Nat):∀(k i:Nat),itr (lp mask) k (i,0)=(itr (five mask) k i,0)
 | 0,i=>rfl
 | k+1,i=>by
  show itr (lp mask) k (lp mask (i,0))=_
  have e:lp mask (i,0)=(five mask i,0):=by simp[lp,leap,five]
  rw[e];exact kUb mask k _
def orb (mask:Nat):Nat->Nat->List Nat
 | 0,_=>[]
 | n+1,i=>i::orb mask n (five mask i)
theorem kY4 (mask:Nat):∀(n i k:Nat),k<n->(orb mask n i)[k]? =some (itr (five mask) k i)
 | n+1,i,0,_=>rfl
 | n+1,i,k+1,h=>by
  show (orb mask n (five mask i))[k]? =_
  exact kY4 mask n _ k (by omega)
theorem kQ5 (mask:Nat):∀(n i:Nat),(orb mask n i).length=n
 | 0,_=>rfl
 | n+1,i=>by simp[orb,kQ5 mask n]
theorem qVg {mask n i j:Nat} (h:j∈orb mask n i):∃k,k<n/\itr (five mask) k i=j:=by
 obtain⟨k,hk,e⟩:=lVw h
 rw[kQ5] at hk
 refine⟨k,hk,?_⟩
 have:=kY4 mask n i k hk
 rw[lJo (by rw[kQ5];exact hk),e] at this
 (exact (lJw this).symm)
def Full (mask:Nat):Prop:=(∀j,j<=mask->∃k,k<=mask/\itr (five mask) k 0=j)/\itr (five mask) (mask+1) 0=0
theorem kUi {mask:Nat} (h:(List.range (mask+1)).all (fun j=>(orb mask (mask+1) 0).contains j)=true) (h0:itr (five mask) (mask+1) 0=0):Full mask:=by
 refine⟨fun j hj=> ?_,h0⟩
 rw[lK2] at h
 have:=h j (lKy.mpr (by omega))
 obtain⟨k,hk,e⟩:=qVg (List.contains_iff_mem.mp this)
 exact⟨k,by omega,e⟩
theorem full7:Full 7:=kUi (by decide +kernel) (by decide +kernel)
theorem full31:Full 31:=kUi (by decide +kernel) (by decide +kernel)
theorem full127:Full 127:=kUi (by decide +kernel) (by decide +kernel)
theorem Full.all {mask:Nat} (h:Full mask) {i j:Nat} (hi:i<=mask) (hj:j<=mask):∃k,k<=mask/\itr (five mask) k i=j:=by
 obtain⟨a,ha,ea⟩:=h.1 i hi
 obtain⟨b,hb,eb⟩:=h.1 j hj
 by_cases c:a<=b
 ·refine⟨b-a,by omega,?_⟩
  rw[<-ea,<-jKi,show a+(b-a)=b by omega,eb]
 ·refine⟨mask+1-a+b,by omega,?_⟩
  rw[<-ea,<-jKi,show a+(mask+1-a+b)=mask+1+b by omega,jKi,h.2,eb]
theorem qJm (h:Int):bits h<2^64:=by
 unfold bits
 have h1:=lXf h (show (2^64:Int)≠0 by decide)
 have h2:=lXg h (show (0:Int)<2^64 by decide)
 omega
theorem jZs (t:SetTable) (h:Int):jZ9 t (t.probeStart h):=⟨rfl,rfl⟩
theorem met {t:SetTable} (hf:Full t.mask) (h:Int) {j:Nat} (hj:j<=t.mask):∃n,n<=10*(t.mask+14)/\(itr t.advance n (t.probeStart h)).j=j:=by
 obtain⟨m,h1,h2,h3⟩:=jZe t 13 _ (jZs t h)
 have hp:(itr t.advance m (t.probeStart h)).perturb=0:=by
  have e:=lKp Prod.snd h3
  rw[kUa] at e
  refine e.trans (Nat.div_eq_of_lt (lJ7 (qJm h) (by decide)))
 have hi:(itr t.advance m (t.probeStart h)).i<=t.mask:=by
  have e:=lKp Prod.fst h3
  rw[jV7] at e
  have:(lp t.mask (itr (lp t.mask) 12 ((t.probeStart h).i,(t.probeStart h).perturb))).1<=t.mask:=by
   unfold lp leap
   exact lQ6 (Nat.mod_lt _ (lXd _))
  rw[<-e] at this
  exact this
 obtain⟨k,hk,ek⟩:=hf.all hi hj
 obtain⟨m',h1',h2',h3'⟩:=jZe t k _ h2
 refine⟨m+m',by omega,?_⟩
 rw[jKi,h2'.1]
 rw[hp,kUb] at h3'
 exact (lKp Prod.fst h3').trans ek
theorem adv_dummy (t:SetTable) (p:Probe):(t.advance p).dummy=p.dummy:=by unfold SetTable.advance;split<;>rfl
def Miss (t:SetTable) (hashAt:Nat->Int) (h:Int) (j:Nat):Prop:=∃i,t.slot j= .live i/\hashAt i≠h
theorem pgo_ok {t:SetTable} (hd:t.dummies= #[]) (hashAt:Nat->Int) (h:Int):∀(n fuel:Nat) (p:Probe),t.slot (itr t.advance n p).j= .empty->n<fuel->p.dummy=none->
  (∃m,m<=n/\t.slot (itr t.advance m p).j= .empty/\(∀k,k<m->Miss t hashAt h (itr t.advance k p).j)/\probe.go t hashAt h fuel p=some (.empty (itr t.advance m p).j none))\/
  (∃m i,m<n/\t.slot (itr t.advance m p).j= .live i/\hashAt i=h/\(∀k,k<m->Miss t hashAt h (itr t.advance k p).j)/\probe.go t hashAt h fuel p=some (.candidate (itr t.advance m p).j i (itr t.advance (m+1) p)))
 | n,0,p,_,hn,_=>absurd hn (lKu _)
 | n,fuel+1,p,he,hn,hp=>by
  rcases slot_cases hd p.j with ⟨c,_⟩ | ⟨i,c,_⟩
  ·left
   refine⟨0,lJu _,c,fun k hk=>absurd hk (lKu _),?_⟩
   unfold probe.go
   rw[c,hp];rfl
  ·by_cases q:hashAt i=h
   ·right
    have n0:n≠0:=by rintro rfl;rw[show itr t.advance 0 p=p from rfl,c] at he;cases he
    refine⟨0,i,by omega,c,q,fun k hk=>absurd hk (lKu _),?_⟩
    unfold probe.go
    simp only[c,q,beq_self_eq_true,lKn]
    rfl
   ·have n0:n≠0:=by rintro rfl;rw[show itr t.advance 0 p=p from rfl,c] at he;cases he
    obtain⟨n',rfl⟩:∃n',n=n'+1:=⟨n-1,by omega⟩
    have e:probe.go t hashAt h (fuel+1) p=probe.go t hashAt h fuel (t.advance p):=by
     conv=>lhs;unfold probe.go
     have q':(hashAt i == h)=false:=by simpa using q
     simp only[c,q',lKj,lKc]
    have ih:=pgo_ok hd hashAt h n' fuel (t.advance p) he (by omega) (by rw[adv_dummy];exact hp)
    rw[e]
    rcases ih with ⟨m,h1,h2,h3,h4⟩ | ⟨m,i',h1,h2,h3,h4,h5⟩
    ·left
     refine⟨m+1,by omega,h2,fun k hk=> ?_,h4⟩
     cases k with
     | zero=>exact⟨i,c,q⟩
     | succ k=>exact h3 k (by omega)
    ·right
     refine⟨m+1,i',by omega,h2,h3,fun k hk=> ?_,h5⟩
     cases k with
     | zero=>exact⟨i,c,q⟩
     | succ k=>exact h4 k (by omega)
end St
end L3
namespace L3
open PySem
namespace St
open SetTable
theorem fm_congr {α β:Type} {f g:α->Option β}:∀ {l:List α},(∀x,x∈l->f x=g x)->l.filterMap f=l.filterMap g
 | [],_=>rfl
 | a::l,h=>by rw[lKz,lKz,h a (lJx ..),fm_congr fun x hx=>h x (lJz _ hx)]
theorem jV9 {g f:Nat->Option Nat} {j k:Nat} (hf:f j=none) (hg:g j=some k) (he:∀i,i≠j->g i=f i):∀ {l:List Nat},l.Nodup->j∈l->(l.filterMap g).Perm (k::l.filterMap f)
 | [],_,h=>absurd h (lJ2)
 | a::l,hn,h=>by
  rw[lK0] at hn
  by_cases e:a=j
  ·subst e
   rw[lXy hg,lYr hf]
   refine List.Perm.cons _ (List.Perm.of_eq (fm_congr fun x hx=>he x ?_))
   rintro rfl;exact hn.1 hx
  ·have ih:=jV9 hf hg he hn.2 ((lJk.mp h).resolve_left (fun z=>e z.symm))
   cases q:f a with
   | none=>rw[lYr (by rw[he a e];exact q),lYr q];exact ih
   | some b=>
    rw[lXy (by rw[he a e];exact q),lXy q]
    exact (List.Perm.cons b ih).trans (List.Perm.swap _ _ _)
def jKm (owner:Array (Option Nat)) (j:Nat):Option Nat:=owner.getD j none
def ChainO (t:SetTable) (owner:Array (Option Nat)) (h:Int) (j:Nat):Prop:=∃n,(itr t.advance n (t.probeStart h)).j=j/\∀k,k<n->jKm owner (itr t.advance k (t.probeStart h)).j≠none
structure Own (t:SetTable) (hashes:List Int) (owner:Array (Option Nat)) (n:Nat):Prop where
 size:owner.size=t.mask+1
 perm:((List.range (t.mask+1)).filterMap (jKm owner)).Perm (List.range n)
 chain:∀j i,jKm owner j=some i->∃h,hashes[i]? =some h/\ChainO t owner h j
theorem qVq {mask:Nat} {x:Nat×Nat} (hx:x.1<=mask):∀(k:Nat),(itr (lp mask) k x).1<=mask
 | 0=>hx
 | k+1=>by
  rw[jV7]
  unfold lp leap
  exact lQ6 (Nat.mod_lt _ (lXd _))
theorem kQw {mask i:Nat} (h:i<=mask):runEnd mask i<=mask:=by unfold runEnd;split<;>omega
theorem kYe (mask i:Nat):i<=runEnd mask i:=by unfold runEnd;split<;>omega
theorem kZz {t:SetTable} {owner:Array (Option Nat)} (hz:owner.size=t.mask+1):∀(fuel:Nat) (p:Probe),jZ9 t p->p.i<=t.mask->∀K,K<fuel->jKm owner (itr (lp t.mask) K (p.i,p.perturb)).1=none->
  ∃n j,layClean.free t.mask owner fuel p.i p.perturb=some j/\(itr t.advance n p).j=j/\j<=t.mask/\jKm owner j=none/\∀k,k<n->jKm owner (itr t.advance k p).j≠none
 | 0,p,_,_,K,hK,_=>absurd hK (lKu _)
 | fuel+1,p,hl,hi,K,hK,he=>by
  have hr:=kQw hi
  have hg:=kYe t.mask p.i
  have sl:∀k,k<runEnd t.mask p.i+1-p.i->((owner.getD (p.i+k) (some 0)).isNone=true↔jKm owner (p.i+k)=none):=by
   intro k hk
   unfold jKm
   have:p.i+k<owner.size:=by omega
   simp[Array.getD,this]
  have pj:∀k,k<runEnd t.mask p.i+1-p.i->(itr t.advance k p).j=p.i+k:=by
   intro k hk
   rw[jYl t k p (by rw[hl.2];omega)]
   show p.j+k=_
   rw[hl.1]
  unfold layClean.free
  cases q:(List.range (runEnd t.mask p.i+1-p.i)).find? (fun k=>(owner.getD (p.i+k) (some 0)).isNone) with
  | some k=>
   obtain⟨h1,as,bs,h2,h3⟩:=List.find?_eq_some_iff_append.mp q
   have hk:k<runEnd t.mask p.i+1-p.i:=by
    have:k∈List.range (runEnd t.mask p.i+1-p.i):=by rw[h2];simp
    exact lKy.mp this
   have ha:∀x,x<k->x∈as:=by
    intro x hx
    have e:as.length=k:=by
     have e1:(List.range (runEnd t.mask p.i+1-p.i))[as.length]? =some k:=by rw[h2];simp
     rw[lVx (by have:=lKp List.length h2;simp at this;omega)] at e1
     exact lJw e1
    have e2:(List.range (runEnd t.mask p.i+1-p.i))[x]? =as[x]? :=by rw[h2,lK6 (by omega)]
    rw[lVx (by omega)] at e2
    exact lJy e2.symm
   refine⟨k,p.i+k,rfl,pj k hk,by omega,(sl k hk).mp h1,fun x hx=> ?_⟩
   rw[pj x (by omega)]
   intro z
   have:=h3 x (ha x hx)
   rw[(sl x (by omega)).mpr z] at this
   exact absurd this (by decide)
  | none=>
   have none_:∀k,k<runEnd t.mask p.i+1-p.i->jKm owner (p.i+k)≠none:=by
    intro k hk z
    have:=List.find?_eq_none.mp q k (lKy.mpr hk)
    exact this ((sl k hk).mpr z)
   have K0:K≠0:=by
    rintro rfl
    exact none_ 0 (by omega) he
   obtain⟨K',rfl⟩:∃K',K=K'+1:=⟨K-1,by omega⟩
   have hm:p.more=runEnd t.mask p.i-p.i:=hl.2
   have e1:itr t.advance (p.more+1) p={p with j:=(leap t.mask p.i p.perturb).1,more:=runEnd t.mask (leap t.mask p.i p.perturb).1-(leap t.mask p.i p.perturb).1,i:=(leap t.mask p.i p.perturb).1,perturb:=(leap t.mask p.i p.perturb).2}:=by
    rw[jV7,jYl t p.more p (lJg _)]
    unfold SetTable.advance
    rw[lJb (by show ¬ p.more-p.more>0;omega)]
   have hl2:jZ9 t (itr t.advance (p.more+1) p):=by rw[e1];exact⟨rfl,rfl⟩
   have hi2:(itr t.advance (p.more+1) p).i<=t.mask:=by
    rw[e1];exact lQ6 (Nat.mod_lt _ (lXd _))
   obtain⟨n,j,g1,g2,g3,g4,g5⟩:=kZz hz fuel _ hl2 hi2 K' (by omega) (by rw[e1];exact he)
   refine⟨p.more+1+n,j,?_,?_,g3,g4,fun k hk=> ?_⟩
   ·rw[e1] at g1;exact g1
   ·rw[jKi];exact g2
   ·by_cases c:k<p.more+1
    ·rw[pj k (by omega)];exact none_ k (by omega)
    ·have:=g5 (k-(p.more+1)) (by omega)
     rw[<-jKi,show p.more+1+(k-(p.more+1))=k by omega] at this
     exact this
theorem jVv {owner:Array (Option Nat)} {j k:Nat} (hj:j<owner.size) (i:Nat):jKm (owner.setIfInBounds j (some k)) i=if i=j then some k else jKm owner i:=by
 unfold jKm
 rw[lXh,lXh,lYb]
 by_cases e:j=i
 ·subst e;simp[hj]
 ·rw[lJb e,lJb (fun z=>e z.symm)]
theorem kZy {t:SetTable} (hf:Full t.mask) {owner:Array (Option Nat)} {hashes:List Int} {n:Nat} (o:Own t hashes owner n) (hn:n<=t.mask) (h:Int):∃K,K<turns t.mask/\jKm owner (itr (lp t.mask) K ((t.probeStart h).i,(t.probeStart h).perturb)).1=none:=by
 have hex:∃j,j<=t.mask/\jKm owner j=none:=by
  apply lVa
  intro q
  have all:∀j,j∈List.range (t.mask+1)->(jKm owner j).isSome=true:=by
   intro j hj
   cases e:jKm owner j with
   | none=>exact absurd ⟨j,by have:=lKy.mp hj;omega,e⟩ q
   | some _=>rfl
  have len:∀l:List Nat,(∀j,j∈l->(jKm owner j).isSome=true)->(l.filterMap (jKm owner)).length=l.length:=by
   intro l hl
   induction l with
   | nil=>rfl
   | cons a l ih=>
    obtain⟨b,hb⟩:=lXn.mp (hl a (lJx ..))
    rw[lXy hb,lKl,lKl,ih fun j hj=>hl j (lJz _ hj)]
  have:=o.perm.length_eq
  rw[len _ all,lXz,lXz] at this
  omega
 obtain⟨j,hj,e⟩:=hex
 have hs:(t.probeStart h).i<=t.mask:=lQ6 (Nat.mod_lt _ (lXd _))
 have h13:=kUa t.mask 13 ((t.probeStart h).i,(t.probeStart h).perturb)
 have z:(t.probeStart h).perturb / 32^13=0:=Nat.div_eq_of_lt (lJ7 (qJm h) (by decide))
 obtain⟨k,hk,ek⟩:=hf.all (qVq (x:=((t.probeStart h).i,(t.probeStart h).perturb)) hs 13) hj
 refine⟨13+k,by unfold turns;omega,?_⟩
 rw[jKi]
 generalize hy:itr (lp t.mask) 13 ((t.probeStart h).i,(t.probeStart h).perturb)=y at h13 ek
 obtain⟨y1,y2⟩:=y
 have y0:y2=0:=h13.trans z
 subst y0
 rw[kUb,ek]
 exact e
theorem qKo {t:SetTable} (hf:Full t.mask) {owner:Array (Option Nat)} {hashes:List Int} {n:Nat} {h:Int} (o:Own t hashes owner n) (hn:n<t.mask+1) (hh:hashes[n]? =some h) (hn':n<=t.mask):
  ∃j,layClean.free t.mask owner (turns t.mask) (bits h%(t.mask+1)) (bits h)=some j/\Own t hashes (owner.setIfInBounds j (some n)) (n+1):=by
 obtain⟨K,hK,eK⟩:=kZy hf o hn' h
 have hs:(t.probeStart h).i<=t.mask:=lQ6 (Nat.mod_lt _ (lXd _))
 obtain⟨m,j,g1,g2,g3,g4,g5⟩:=kZz o.size (turns t.mask) (t.probeStart h) (jZs t h) hs K hK eK
 have hj:j<owner.size:=by rw[o.size];omega
 have grow:∀i,jKm owner i≠none->jKm (owner.setIfInBounds j (some n)) i≠none:=by
  intro i hi
  rw[jVv hj]
  split
  ·simp
  ·exact hi
 refine⟨j,g1,by rw[lYs];exact o.size,?_,?_⟩
 ·refine (jV9 (f:=jKm owner) (j:=j) (k:=n) g4 (by rw[jVv hj,lJc rfl]) (fun i hi=>by rw[jVv hj,lJb hi]) (List.nodup_range) (lKy.mpr (by omega))).trans ?_
  rw[lQk (n:=n)]
  exact (List.Perm.cons n o.perm).trans (List.perm_append_singleton n _).symm
 ·intro i x hx
  rw[jVv hj] at hx
  by_cases e:i=j
  ·subst e
   rw[lJc rfl] at hx;cases hx
   exact⟨h,hh,m,g2,fun k hk=>grow _ (g5 k hk)⟩
  ·rw[lJb e] at hx
   obtain⟨h',e1,n',e2,e3⟩:=o.chain i x hx
   exact⟨h',e1,n',e2,fun k hk=>grow _ (e3 k hk)⟩
theorem kY3 (t:SetTable) (hashes:List Int):Own t hashes (Array.replicate (t.mask+1) none) 0:=by
 have z:∀j,jKm (Array.replicate (t.mask+1) none) j=none:=by
  intro j
  unfold jKm
  rw[lXh,Array.getElem?_replicate]
  split<;>rfl
 refine⟨by simp,?_,fun j i h=>by rw[z] at h;cases h⟩
 have:(List.range (t.mask+1)).filterMap (jKm (Array.replicate (t.mask+1) none))=[]:=by
  rw[List.filterMap_eq_nil_iff];intro j _;exact z j
 rw[this];exact List.Perm.nil
theorem kZ0 {t:SetTable} (hf:Full t.mask) (all:List Int) (hn:all.length<=t.mask):∀(l:List Int) (done:List Int) (owner:Array (Option Nat)),all=done++l->Own t all owner done.length->
  ∃owner',l.foldl (fun (acc:Option (Array (Option Nat)×Nat)) h=>do
   let (owner,k) <-acc
   let j <-layClean.free t.mask owner (turns t.mask) (bits h%(t.mask+1)) (bits h)
   pure (owner.setIfInBounds j (some k),k+1)) (some (owner,done.length))=some (owner',all.length)/\Own t all owner' all.length
 | [],done,owner,e,o=>by
  rw[lVp] at e;subst e
  exact⟨owner,rfl,o⟩
 | h::l,done,owner,e,o=>by
  have hlt:done.length<all.length:=by rw[e];simp
  obtain⟨j,h1,o'⟩:=qKo (h:=h) hf o (by omega) (by rw[e];simp) (by omega)
  have e':all=(done++[h])++l:=by rw[e];simp
  obtain⟨owner',h2,h3⟩:=kZ0 hf all hn l (done++[h]) _ e' (by simpa using o')
  refine⟨owner',?_,h3⟩
  rw[lXa]
  have:(do
   let (owner,k) <-some (owner,done.length)
   let j <-layClean.free t.mask owner (turns t.mask) (bits h%(t.mask+1)) (bits h)
   pure (owner.setIfInBounds j (some k),k+1))=some (owner.setIfInBounds j (some done.length),done.length+1):=by
   show (layClean.free t.mask owner (turns t.mask) (bits h%(t.mask+1)) (bits h)).bind _=_
   rw[h1];rfl
  rw[this]
  simpa using h2
theorem kUd {t:SetTable} (hf:Full t.mask) (hashes:Array Int) (hn:hashes.size<=t.mask):∃owner,layClean t.mask hashes=some owner/\Own t hashes.toList owner hashes.size:=by
 obtain⟨owner,h1,h2⟩:=kZ0 hf hashes.toList (by simpa using hn) hashes.toList [] _ rfl (kY3 t _)
 refine⟨owner,?_,by simpa using h2⟩
 unfold layClean
 rw[<-Array.foldl_toList]
 have h1':=h1
 simp only[lQg] at h1'
 rw[h1'];rfl
def Chain (t:SetTable) (h:Int) (j:Nat):Prop:=∃n,(itr t.advance n (t.probeStart h)).j=j/\∀k,k<n->(itr t.advance k (t.probeStart h)).j∈t.place.toList
structure Good (t:SetTable) (hs:List Int):Prop where
 len:t.place.size=hs.length
 ris:Ris t.place
 dum:t.dummies= #[]
 chain:∀x,x∈t.place.toList.zip hs->Chain t x.2 x.1
theorem laid_ok {mask:Nat} (hf:Full mask) (finger moves:Nat) (led plain:Bool) (hashes:Array Int) (hn:hashes.size<=mask):
  ∃t order,laid mask finger moves led plain hashes=some (t,order)/\t.mask=mask/\t.led=led/\t.plain=plain/\order.toList.Perm (List.range hashes.size)/\Good t (order.toList.filterMap (hashes[·]?)):=by
 let t0:SetTable:={mask:=mask,place:= #[],dummies:= #[],finger:=finger,led:=led,moves:=moves,plain:=plain}
 obtain⟨owner,h1,o⟩:=kUd (t:=t0) hf hashes hn
 have hl:layClean mask hashes=some owner:=h1
 let live:=(List.range (mask+1)).filterMap fun j=>((owner.getD j none).map (j,·))
 refine⟨{mask:=mask,place:=(live.map (·.1)).toArray,dummies:= #[],finger:=finger,led:=led,moves:=moves,plain:=plain},(live.map (·.2)).toArray,?_,rfl,rfl,rfl,?_,?_⟩
 ·unfold laid
  rw[hl];rfl
 ·have e:live.map (·.2)=(List.range (mask+1)).filterMap (jKm owner):=by
   show ((List.range (mask+1)).filterMap fun j=>(owner.getD j none).map (j,·)).map (·.2)=_
   rw[List.map_filterMap]
   refine fm_congr fun j _=> ?_
   unfold jKm
   cases owner.getD j none<;>rfl
  show (live.map (·.2)).Perm _
  rw[e];exact o.perm
 ·have live_mem:∀j k,(j,k)∈live->jKm owner j=some k/\j<=mask:=by
   intro j k hm
   obtain⟨j',hj',e⟩:=lQ1.mp hm
   obtain⟨k',e1,e2⟩:=lQh.mp e
   cases e2
   exact⟨e1,by have:=lKy.mp hj';omega⟩
  have mem_place:∀j,j∈live.map (·.1)↔jKm owner j≠none/\j<=mask:=by
   intro j
   constructor
   ·intro hm
    obtain⟨⟨j',k⟩,h2,rfl⟩:=lJl.mp hm
    obtain⟨h3,h4⟩:=live_mem _ _ h2
    exact⟨by rw[h3];simp,h4⟩
   ·rintro⟨h2,h3⟩
    obtain⟨k,hk⟩:=Option.ne_none_iff_exists'.mp h2
    refine lJl.mpr ⟨(j,k),lQ1.mpr ⟨j,lKy.mpr (by omega),?_⟩,rfl⟩
    show (jKm owner j).map _=_
    rw[hk];rfl
  have hin:∀k,k∈live.map (·.2)->k<hashes.size:=by
   intro k hk
   obtain⟨⟨j,k'⟩,h2,rfl⟩:=lJl.mp hk
   obtain⟨h',e1,_⟩:=o.chain j k' (live_mem _ _ h2).1
   have:=(lJi.mp e1).1
   simpa using this
  have fm:∀l:List Nat,(∀k,k∈l->k<hashes.size)->∀i:Nat,(l.filterMap (hashes[·]?)).length=l.length/\(l.filterMap (hashes[·]?))[i]? =(l[i]?).bind (hashes[·]?):=by
   intro l
   induction l with
   | nil=>intro _ i;exact⟨rfl,by simp⟩
   | cons a l ih=>
    intro hl i
    have ha:=hl a (lJx ..)
    have e:hashes[a]? =some hashes[a]:=lKt ha
    have ih':=ih (fun k hk=>hl k (lJz _ hk))
    rw[lXy e]
    refine⟨by rw[lKl,lKl,(ih' 0).1],?_⟩
    cases i with
    | zero=>simp[e]
    | succ i=>simpa using (ih' i).2
  refine⟨?_,?_,rfl,?_⟩
  ·show (live.map (·.1)).toArray.size=_
   rw[lJv,lJh]
   have:=(fm (live.map (·.2)) hin 0).1
   rw[lJh] at this
   exact this.symm
  ·show (live.map (·.1)).Pairwise (· < ·)
   rw[lQ7]
   have:live.Pairwise fun a b=>a.1<b.1:=by
    show ((List.range (mask+1)).filterMap fun j=>(owner.getD j none).map (j,·)).Pairwise _
    rw[List.pairwise_filterMap]
    refine (List.pairwise_lt_range).imp fun {a b} hab x hx y hy=> ?_
    obtain⟨k,_,e⟩:=lQh.mp hx
    obtain⟨k',_,e'⟩:=lQh.mp hy
    rw[<-e,<-e'];exact hab
   exact this
  ·intro x hx
   obtain⟨i,hi,hxe⟩:=lVw hx
   rw[List.getElem_zip] at hxe
   obtain⟨xj,h⟩:=x
   obtain⟨pe,he⟩:=Prod.mk.inj hxe
   have hi':i<live.length:=by rw[List.length_zip] at hi;have:=lJ7 hi (Nat.min_le_left _ _);simpa using this
   have hh:((live.map (·.2)).filterMap (hashes[·]?))[i]? =some h:=by rw[<-he];exact lJo _
   have pl:live[i].1=xj:=by rw[<-pe];simp
   show Chain _ h xj
   rw[<-pl]
   have e2:=(fm (live.map (·.2)) hin i).2
   have hh':((live.map (·.2)).filterMap (hashes[·]?))[i]? =some h:=hh
   rw[hh',lKa,lJo hi'] at e2
   have e3:hashes[live[i].2]? =some h:=e2.symm
   obtain⟨h3,h4⟩:=live_mem live[i].1 live[i].2 (lX0 hi')
   obtain⟨h',e4,n,e5,e6⟩:=o.chain _ _ h3
   have:h'=h:=by
    have:hashes.toList[live[i].2]? =some h:=by simpa using e3
    rw[this] at e4;exact (lJw e4).symm
   subst this
   refine⟨n,e5,fun k hk=> ?_⟩
   show (itr t0.advance k (t0.probeStart h')).j∈live.map (·.1)
   refine (mem_place _).mpr ⟨e6 k hk,?_⟩
   apply lVa
   intro z
   refine e6 k hk ?_
   unfold jKm
   rw[lXh,lQ3 (by rw[o.size];show mask+1<=_;omega)]
   rfl
end St
end L3
namespace L3
open PySem PySem.Spec PyProof.Rows L2
def TupKept (h h':Heap):Prop:=∀b o,h.get? b=some o->o.cls= .type "tuple"->h'.get? b=some o
section
variable {prog:Program} {w:World} {K:Type} [DecidableEq K] {c:Nat}
def Stab (V:KeyV prog w K c):Prop:=∀ {h h':Heap} {k:K} {v:Value},TupKept h h'->V.is h k v->V.is h' k v
theorem kVy {V:KeyV prog w K c} (hV:Stab V) {h h':Heap} (kp:TupKept h h') {ks:List K} {vs:List Value} (hi:ItemsV V h ks vs):ItemsV V h' ks vs:=by
 induction hi with
 | nil=>exact .nil
 | cons a _ ih=>exact .cons (hV kp a) ih
theorem kU2 {V:KeyV prog w K c} (hV:Stab V):Stab (jUc V):=by
 rintro h h' k v kp ⟨a,o,items,n,rfl,ho,hc,hd,hi⟩
 exact⟨a,o,items,n,rfl,kp a o ho hc,hc,hd,kVy hV kp hi⟩
theorem kU3 {V:KeyV prog w K c} (hV:Stab V):Stab (kVx V):=by
 rintro h h' (k | k) v kp hx
 ·exact hx
 ·exact kU2 hV kp hx
theorem kX5:Stab (jXy prog w):=fun _ hx=>hx
theorem jKq {h h':Heap} {k:TKey} {a:Addr} (kp:TupKept h h') (hx:(jJg prog w).is h k a):(jJg prog w).is h' k a:=kU2 (kU3 (kU3 kX5)) kp hx
theorem TupKept.same {h h':Heap} {a:Addr} {o:Obj} (ho:h.get? a=some o) (hc:o.cls= .type "set") (hs:Heap.SameBut a h h'):TupKept h h':=by
 intro b ob hb hcb
 have ne:b≠a:=by
  rintro rfl
  rw[ho] at hb;cases hb
  rw[hc] at hcb
  exact absurd hcb (by decide)
 exact (hs.2 b ne).trans hb
def HbV (V:KeyV prog w K c) (f:K->Bool):Prop:=∀ {A:Around} {E:Value->Shared->Prop} {s:Shared} {k:K} {v:Value} {Q:Bool->Shared->Prop} (n:Nat),c<=n->f k=true->V.is s.heap k v->Q true s->wpAny (model prog w) A (hashByValue n v) Q E s
def intK:Key->Bool
 | .inl _=>true
 | .inr _=>false
def intS {α:Type} (f:α->Bool):Key ⊕ List α->Bool
 | .inl k=>intK k
 | .inr ks=>ks.all f
def intT:TKey->Bool:=fun ks=>ks.all (intS (intS intK))
theorem kZu:HbV (jXy prog w) intK:=by
 intro A E s k v Q n _ hk hv h
 rcases jJr (show jVo k v=true from hv) with ⟨i,t,_,rfl⟩ | ⟨i,t,rfl,rfl⟩
 ·cases n<;>exact lJd h
 ·cases hk
theorem qUj {V:KeyV prog w K c} {f:K->Bool} (hV:HbV V f):HbV (jUc V) (fun ks=>ks.all f):=by
 rintro A E s ks v Q n hn hf ⟨a,o,items,m,rfl,ho,hc,hd,hi⟩ h
 obtain⟨n,rfl⟩:∃nn,n=nn+1:=⟨n-1,by omega⟩
 have hT:s.TypeIs (.ref a) "tuple":=⟨o,ho,hc⟩
 unfold hashByValue
 (refine lJa (wpAny_specialOf hT F.slot_tuple_hash.lookup ?_))
 refine (show wpAny _ _ (seqItems? (.ref a) >>= _) _ _ s from ?_)
 refine lJa (lVl ho hd (lJa ?_))
 refine (show wpAny _ _ (forIn items _ _) _ _ s from ?_)
 rw[<-lX8]
 refine lV1 _ (fun rest r z=>r.1=none/\z=s/\∃left,left.all f=true/\ItemsV V s.heap left rest) _ ?_ ?_ _ _ ⟨rfl,rfl,ks,hf,hi⟩
 ·rintro x rest r z ⟨hr,rfl,left,hfl,hl⟩
  cases hl with
  | cons h1 hl'=>
   rw[lVd,lKs] at hfl
   refine lJa (hV n (by omega) hfl.1 h1 ?_)
   simp only[lKc,Bool.not_true,lKj]
   exact lJd ⟨rfl,rfl,_,hfl.2,hl'⟩
 ·rintro⟨r1,r2⟩ z ⟨hr,rfl,_⟩
  simp only at hr;subst hr
  exact lJd h
theorem qUk {V:KeyV prog w K c} {f:K->Bool} (hV:HbV V f):HbV (kVx V) (intS f):=by
 rintro A E s (k | k) v Q n hn hf hx h
 ·exact kZu n (lJu _) hf hx h
 ·exact qUj hV n hn hf hx h
theorem qV7 {A:Around} {E:Value->Shared->Prop} {s:Shared} {k:TKey} {a:Addr} {Q:Bool->Shared->Prop} (hf:intT k=true) (hx:(jJg prog w).is s.heap k a) (h:Q true s):wpAny (model prog w) A (hashByValue 8 (.ref a)) Q E s:=
 qUj (qUk (qUk kZu)) 8 (by decide) hf hx h
def OcV (V:KeyV prog w K c):Prop:=∀ {A:Around} {E:Value->Shared->Prop} {s:Shared} {k:K} {v:Value} {Q:Bool->Shared->Prop} (n:Nat),c<=n->V.is s.heap k v->Q false s->wpAny (model prog w) A (ofAClassStatement n v) Q E s
theorem kZd:OcV (jXy prog w):=by
 intro A E s k v Q n _ hv h
 rcases jJr (show jVo k v=true from hv) with ⟨i,t,_,rfl⟩ | ⟨i,t,rfl,rfl⟩<;>(cases n<;>exact lJd h)
theorem qUb {V:KeyV prog w K c} (hV:OcV V):OcV (jUc V):=by
 rintro A E s ks v Q n hn ⟨a,o,items,m,rfl,ho,hc,hd,hi⟩ h
 obtain⟨n,rfl⟩:∃nn,n=nn+1:=⟨n-1,by omega⟩
 have hT:s.TypeIs (.ref a) "tuple":=⟨o,ho,hc⟩
 unfold ofAClassStatement
 (refine lJa (lXl hT ?_))
 dsimp only
 rw[lJc (by decide)]
 refine lJa (lJd ?_)
 rw[lJb (by decide)]
 refine lJa (lVl ho hd (lJa ?_))
 rw[<-lX8]
 refine lV1 _ (fun rest r z=>r.1=none/\z=s/\∃left,ItemsV V s.heap left rest) _ ?_ ?_ _ _ ⟨rfl,rfl,ks,hi⟩
 ·rintro x rest r z ⟨hr,rfl,left,hl⟩
  cases hl with
  | cons h1 hl'=>
   refine lJa (hV n (by omega) h1 ?_)
   rw[lJb (by decide)]
   exact lJd ⟨rfl,rfl,_,hl'⟩
 ·rintro⟨r1,r2⟩ z ⟨hr,rfl,_⟩
  simp only at hr;subst hr
  exact lJd h
theorem qUc {V:KeyV prog w K c} (hV:OcV V):OcV (kVx V):=by
 rintro A E s (k | k) v Q n hn hx h
 ·exact kZd n (lJu _) hx h
 ·exact qUb hV n hn hx h
theorem kZc {A:Around} {E:Value->Shared->Prop} {s:Shared} {k:TKey} {a:Addr} {Q:Bool->Shared->Prop} (hx:(jJg prog w).is s.heap k a) (h:Q false s):wpAny (model prog w) A (ofAClassStatement 8 (.ref a)) Q E s:=
 qUb (qUc (qUc kZd)) 8 (by decide) hx h
theorem unseen {A:Around} {E:Value->Shared->Prop} {s:Shared} {k:TKey} {a:Addr} {Q:Bool->Shared->Prop} (hx:(jJg prog w).is s.heap k a) {ys:List Value} (hy:∀y,y∈ys->∃k' b,y= .ref b/\(jJg prog w).is s.heap k' b) (h:Q false s):wpAny (model prog w) A (searchCouldBeSeen (.ref a) ys) Q E s:=by
 unfold searchCouldBeSeen
 refine lJa ?_
 refine lV1 _ (fun rest r z=>r.1=none/\z=s/\∀y,y∈rest->∃k' b,y= .ref b/\(jJg prog w).is s.heap k' b) _ ?_ ?_ _ _ ⟨rfl,rfl,hy⟩
 ·rintro x rest r z ⟨hr,rfl,hl⟩
  obtain⟨k',b,rfl,hb⟩:=hl x (lJx ..)
  have hl':=fun y hy=>hl y (lJz _ hy)
  dsimp only
  split
  ·exact lJd ⟨rfl,rfl,hl'⟩
  ·refine lJa ((jJg prog w).quiet hx ?_)
   rw[lJb (by decide)]
   refine lJa ((jJg prog w).quiet hb ?_)
   rw[lJb (by decide)]
   refine lJa (kZc hx ?_)
   rw[lJb (by decide)]
   refine lJa (kZc hb ?_)
   rw[lJb (by decide)]
   exact lJd ⟨rfl,rfl,hl'⟩
 ·rintro⟨r1,r2⟩ z ⟨hr,rfl,_⟩
  simp only at hr;subst hr
  exact lJd h
end
section
variable {prog:Program} {w:World} {A:Around} {E:Value->Shared->Prop} {s:Shared}
def entS (prog:Program) (w:World) (e:TKey×Addr):Int×Value:=((jJg prog w).hash e.1,.ref e.2)
def hashes (prog:Program) (w:World) (es:List (TKey×Addr)):List Int:=es.map fun e=>(jJg prog w).hash e.1
def MaskOk (mask n:Nat):Prop:=(mask=7/\n<=4)\/(mask=31/\n<=18)\/(mask=127/\n<=76)
theorem MaskOk.full {mask n:Nat} (h:MaskOk mask n):St.Full mask/\n<=mask/\mask%2=1:=by
 rcases h with ⟨rfl,h⟩ | ⟨rfl,h⟩ | ⟨rfl,h⟩
 ·exact⟨St.full7,by omega,rfl⟩
 ·exact⟨St.full31,by omega,rfl⟩
 ·exact⟨St.full127,by omega,rfl⟩
theorem kV6 {t:SetTable} {f g:Nat->Int} {h:Int} {p:SetTable.Probe} (e:∀i,f i=g i):t.probe f h p=t.probe g h p:=by rw[funext e]
structure SetD (prog:Program) (w:World) (h:Heap) (a:Addr) (o:Obj) (arr:Array (Int×Value)) (ep:Nat) (t:SetTable) (es:List (TKey×Addr)):Prop where
 get:h.get? a=some o
 exact_:o.ExactSet
 data:o.data= .set arr ep t
 arr_:arr.toList=es.map (entS prog w)
 are:∀e,e∈es->(jJg prog w).is h e.1 e.2
 good:St.Good t (hashes prog w es)
 mask:MaskOk t.mask es.length
 plain:t.plain=true
theorem SetD.size {h:Heap} {a:Addr} {o:Obj} {arr:Array (Int×Value)} {ep:Nat} {t:SetTable} {es:List (TKey×Addr)} (d:SetD prog w h a o arr ep t es):arr.size=es.length:=by
 rw[<-lKf,d.arr_,lJh]
theorem SetD.fits {h:Heap} {a:Addr} {o:Obj} {arr:Array (Int×Value)} {ep:Nat} {t:SetTable} {es:List (TKey×Addr)} (d:SetD prog w h a o arr ep t es):t.fits arr.size=true:=by
 have l:=d.good.len
 unfold hashes at l
 rw[lJh] at l
 obtain⟨_,hm,_⟩:=d.mask.full
 simp only[SetTable.fits,SetTable.fill,d.good.dum,l,d.size,lKs,beq_iff_eq,lKx]
 exact⟨trivial,by simpa using hm⟩
theorem SetD.state {a:Addr} {o:Obj} {arr:Array (Int×Value)} {ep:Nat} {t:SetTable} {es:List (TKey×Addr)} (d:SetD prog w s.heap a o arr ep t es) {Q:(Array (Int×Value)×Nat×SetTable)->Shared->Prop} (h:Q (arr,ep,t) s):wpAny (model prog w) A (setState a) Q E s:=
 wpAny_setState_of d.get d.data d.fits h
theorem SetD.at {h:Heap} {a:Addr} {o:Obj} {arr:Array (Int×Value)} {ep:Nat} {t:SetTable} {es:List (TKey×Addr)} (d:SetD prog w h a o arr ep t es) {i:Nat} (hi:i<t.place.size):∃e,es[i]? =some e/\arr[i]? =some (entS prog w e):=by
 have l:=d.good.len
 unfold hashes at l
 rw[lJh] at l
 have hi':i<es.length:=by omega
 refine⟨es[i],lJo hi',?_⟩
 rw[<-lJ5,d.arr_,lKa,lJo hi']
 rfl
def Ahead (t:SetTable) (es:List (TKey×Addr)) (k:TKey) (p:SetTable.Probe):Prop:=∃n i b,t.slot (itr t.advance n p).j= .live i/\es[i]? =some (k,b)/\∀m,m<n->t.slot (itr t.advance m p).j≠ .empty
theorem kX9 {a:Addr} {o:Obj} {arr:Array (Int×Value)} {ep:Nat} {t:SetTable} {es:List (TKey×Addr)} (d:SetD prog w s.heap a o arr ep t es) {k:TKey} {b:Addr} (hk:(jJg prog w).is s.heap k b) (hu:(jJg prog w).room A) {Q:SetFound->Shared->Prop}
  (h1:∀j,t.slot j= .empty->k∉es.map (·.1)->St.Chain t ((jJg prog w).hash k) j->Q (.free j false) s) (h2:k∈es.map (·.1)->Q (.there none) s):∀(n fuel:Nat) (stand:Option SetTable.Probe) (p:SetTable.Probe),stand.getD (t.probeStart ((jJg prog w).hash k))=p->p.dummy=none->t.slot (itr t.advance n p).j= .empty->n<10*SetTable.turns t.mask->n<fuel->
  (k∈es.map (·.1)->Ahead t es k p)->(∃n0,p=itr t.advance n0 (t.probeStart ((jJg prog w).hash k))/\∀m,m<n0->(itr t.advance m (t.probeStart ((jJg prog w).hash k))).j∈t.place.toList)->
  wpAny (model prog w) A (setSearchFrom a (.ref b) ((jJg prog w).hash k) true fuel stand) Q E s:=by
 intro n
 induction n using Nat.strongRecOn with
 | ind n ih=>
 intro fuel stand p hp hdm he hn hfu hA hC
 obtain⟨fuel,rfl⟩:∃f,fuel=f+1:=⟨fuel-1,by omega⟩
 unfold setSearchFrom
 refine lJa (d.state ?_)
 dsimp only
 have gw:t.gaveWay=false:=by
  unfold SetTable.gaveWay
  rw[d.mask.full.2.2];rfl
 rw[gw,lJb (by decide),hp]
 rw[kV6 (g:=fun i=>((arr[i]?).map (·.1)).getD 0) ?hsw]
 case hsw=>exact fun i=>rfl
 have hash_at:∀(i:Nat) (k':TKey) (b':Addr),es[i]? =some (k',b')->((arr[i]?).map (·.1)).getD 0=(jJg prog w).hash k':=by
  intro i k' b' e
  have:arr[i]? =some (entS prog w (k',b')):=by rw[<-lJ5,d.arr_,lKa,e];rfl
  rw[this];rfl
 have onway:∀m,(∀q,q<m->St.Miss t (fun i=>((arr[i]?).map (·.1)).getD 0) ((jJg prog w).hash k) (itr t.advance q p).j)->∀q,q<m->(itr t.advance q p).j∈t.place.toList:=by
  intro m hm q hq
  obtain⟨i,hi,_⟩:=hm q hq
  rcases St.slot_cases d.good.dum (itr t.advance q p).j with c | ⟨i',c,hi',e,_⟩
  ·rw[c.1] at hi;cases hi
  ·rw[<-e];simp
 have way:∀m,(∀q,q<m->(itr t.advance q p).j∈t.place.toList)->∃n0,itr t.advance m p=itr t.advance n0 (t.probeStart ((jJg prog w).hash k))/\∀q,q<n0->(itr t.advance q (t.probeStart ((jJg prog w).hash k))).j∈t.place.toList:=by
  intro m hm
  obtain⟨n0,e0,c0⟩:=hC
  refine⟨n0+m,by rw[jKi,e0],fun q hq=> ?_⟩
  by_cases c:q<n0
  ·exact c0 q c
  ·have:=hm (q-n0) (by omega)
   rw[e0,<-jKi,show n0+(q-n0)=q by omega] at this
   exact this
 have ahead:∀m,(∀q,q<m->St.Miss t (fun i=>((arr[i]?).map (·.1)).getD 0) ((jJg prog w).hash k) (itr t.advance q p).j)->∀ {n' i:Nat} {b':Addr},t.slot (itr t.advance n' p).j= .live i->es[i]? =some (k,b')->m<=n':=by
  intro m hm n' i b' hs hi
  apply lVa
  intro z
  obtain⟨i',q1,q2⟩:=hm n' (by omega)
  rw[hs] at q1;cases q1
  exact q2 (hash_at _ _ _ hi)
 rcases St.pgo_ok d.good.dum (fun i=>((arr[i]?).map (·.1)).getD 0) ((jJg prog w).hash k) n (10*SetTable.turns t.mask) p he hn hdm with ⟨m,hm,e1,e2,e3⟩ | ⟨m,i,hm,e1,e2,e3,e4⟩
 ·rw[show t.probe (fun i=>((arr[i]?).map (·.1)).getD 0) ((jJg prog w).hash k) p=_ from e3]
  dsimp only
  refine lJd (h1 _ e1 (fun z=> ?_) ?_)
  ·obtain⟨n',i,b',q1,q2,q3⟩:=hA z
   have:=ahead m e2 q1 q2
   by_cases c:m=n'
   ·subst c;rw[e1] at q1;cases q1
   ·exact q3 m (by omega) e1
  ·obtain⟨n0,w1,w2⟩:=way m (onway m e2)
   exact⟨n0,by rw[w1],w2⟩
 ·rw[show t.probe (fun i=>((arr[i]?).map (·.1)).getD 0) ((jJg prog w).hash k) p=_ from e4]
  dsimp only
  have hi:i<t.place.size/\t.place.toList[i]? =some (itr t.advance m p).j:=by
   rcases St.slot_cases d.good.dum (itr t.advance m p).j with c | ⟨i',c,hi',e,_⟩
   ·rw[c.1] at e1;cases e1
   ·rw[c] at e1;cases e1
    exact⟨hi',by simp[hi',e]⟩
  obtain⟨⟨k',b'⟩,ee,ea⟩:=d.at hi.1
  have hk':(jJg prog w).is s.heap k' b':=d.are _ (lJy ee)
  have rest:∀(R:Unit->Shared->Prop),R () s->True:=fun _ _=>trivial
  have go:wpAny (model prog w) A (do
    let some (_,y):=arr[i]? | unsupported "internal:set-entry"
    let equal <-holding [y] (eqBool y (.ref b))
    let (es',_,t') <-setState a
    if true&&equal then return .there none
    let some same:=(t'.sameMemory t.moves t.mask) | unsupported "set.changed-during-lookup:is-the-new-block-at-the-old-address"
    let still <-match (if same then t'.slot (itr t.advance m p).j else .empty) with
     | .live i'=>match (es'[i']?) with
      | some (_,y')=>do pure (if (<-isSame y' y) then some i' else none)
      | none=>pure none
     | _=>pure none
    match still with
    | none=>rule "set.search.anew"; setSearchFrom a (.ref b) ((jJg prog w).hash k) true fuel none
    | some i'=>if equal then return .there (some i') else setSearchFrom a (.ref b) ((jJg prog w).hash k) true fuel (some (itr t.advance (m+1) p))) Q E s:=by
   rw[ea]
   dsimp only[entS]
   refine lJa (lK8 ((jJg prog w).eqBool hu hk' hk ?_))
   refine lJa (d.state ?_)
   dsimp only
   by_cases eq:k'=k
   ·subst eq
    rw[lJc (by simp)]
    exact lJd (h2 (lJl.mpr ⟨_,lJy ee,rfl⟩))
   ·rw[lJb (by simp[eq])]
    rw[show t.sameMemory t.moves t.mask=some true by simp[SetTable.sameMemory]]
    dsimp only
    rw[lJc rfl,e1]
    dsimp only
    rw[ea]
    dsimp only[entS]
    refine lJa (wpAny_isSame_ref_self (lJa (lJd ?_)))
    rw[lJc rfl]
    dsimp only
    rw[lJb (by simp[eq])]
    have ne:∀ {n' i' b''},t.slot (itr t.advance n' p).j= .live i'->es[i']? =some (k,b'')->m+1<=n':=by
     intro n' i' b'' q1 q2
     have:=ahead m e3 q1 q2
     by_cases c:m=n'
     ·subst c
      rw[e1] at q1;cases q1
      rw[ee] at q2
      exact absurd (Prod.mk.inj (lJw q2)).1 eq
     ·omega
    refine ih (n-(m+1)) (by omega) fuel (some (itr t.advance (m+1) p)) (itr t.advance (m+1) p) rfl ?_ ?_ (by omega) (by omega) ?_ ?_
    ·have dm:∀q,(itr t.advance q p).dummy=none:=by
      intro q
      induction q with
      | zero=>exact hdm
      | succ q ihq=>rw[jV7,St.adv_dummy];exact ihq
     exact dm _
    ·rw[<-jKi,show m+1+(n-(m+1))=n by omega];exact he
    ·intro z
     obtain⟨n',i',b'',q1,q2,q3⟩:=hA z
     have:=ne q1 q2
     refine⟨n'-(m+1),i',b'',?_,q2,fun q hq=> ?_⟩
     ·rw[<-jKi,show m+1+(n'-(m+1))=n' by omega];exact q1
     ·rw[<-jKi];exact q3 _ (by omega)
    ·refine way (m+1) fun q hq=> ?_
     by_cases c:q<m
     ·exact onway m e3 q c
     ·have:q=m:=by omega
      subst this
      exact lJy hi.2
  split
  ·refine lJa (unseen hk ?_ ?_)
   ·intro y hy
    obtain⟨x,hx,rfl⟩:=lJl.mp hy
    have hx':x∈arr.toList:=by
     have:=(Array.mem_filter.mp (lYc.mp hx)).1
     exact lYc.mpr this
    rw[d.arr_] at hx'
    obtain⟨e,he',rfl⟩:=lJl.mp hx'
    exact⟨e.1,e.2,rfl,d.are e he'⟩
   ·rw[lJb (by decide)]
    exact go
  ·exact go
theorem SetD.chain {h:Heap} {a:Addr} {o:Obj} {arr:Array (Int×Value)} {ep:Nat} {t:SetTable} {es:List (TKey×Addr)} (d:SetD prog w h a o arr ep t es) {k:TKey} (hk:k∈es.map (·.1)):Ahead t es k (t.probeStart ((jJg prog w).hash k)):=by
 obtain⟨⟨k',b⟩,he,e⟩:=lJl.mp hk
 cases (show k'=k from e)
 obtain⟨i,hi,ei⟩:=lVw he
 have l:=d.good.len
 unfold hashes at l
 rw[lJh] at l
 have hp:i<t.place.size:=by omega
 have hz:(t.place[i],(jJg prog w).hash k)∈t.place.toList.zip (hashes prog w es):=by
  refine lJy (i:=i) ?_
  unfold hashes
  simp[lXt,hp,hi,ei]
 obtain⟨n,h1,h2⟩:=d.good.chain _ hz
 refine⟨n,i,b,?_,by rw[lJo hi,ei],fun m hm=> ?_⟩
 ·rw[h1];exact St.slot_live d.good.ris hp
 ·obtain⟨q,hq,e⟩:=lVw (h2 m hm)
  have hq':q<t.place.size:=by simpa using hq
  have e':t.place[q]=(itr t.advance m (t.probeStart ((jJg prog w).hash k))).j:=by simpa using e
  rw[<-e',St.slot_live d.good.ris hq']
  simp
theorem free_j {t:SetTable} (hd:t.dummies= #[]) (hn:t.place.size<=t.mask):∃j,j<=t.mask/\t.slot j= .empty:=by
 have:∃j,j<=t.mask/\j∉t.place.toList:=by
  apply lVa
  intro q
  have sub:(List.range (t.mask+1)) ⊆ t.place.toList:=by
   intro j hj
   apply lVa
   intro z
   exact q ⟨j,by have:=lKy.mp hj;omega,z⟩
  have:=List.nodup_range.length_le_of_subset sub
  simp at this
  omega
 obtain⟨j,h1,h2⟩:=this
 exact⟨j,h1,St.slot_empty hd h2⟩
theorem kV0 {a:Addr} {o:Obj} {arr:Array (Int×Value)} {ep:Nat} {t:SetTable} {es:List (TKey×Addr)} (d:SetD prog w s.heap a o arr ep t es) {k:TKey} {b:Addr} (hk:(jJg prog w).is s.heap k b) (hu:(jJg prog w).room A) {Q:SetFound->Shared->Prop}
  (h1:∀j,t.slot j= .empty->k∉es.map (·.1)->St.Chain t ((jJg prog w).hash k) j->Q (.free j false) s) (h2:k∈es.map (·.1)->Q (.there none) s):wpAny (model prog w) A (setSearch a (.ref b) ((jJg prog w).hash k) true) Q E s:=by
 have l:=d.good.len
 unfold hashes at l
 rw[lJh] at l
 obtain⟨hf,hm,_⟩:=d.mask.full
 obtain⟨j,hj,ej⟩:=free_j (t:=t) d.good.dum (by omega)
 obtain⟨n,hn,en⟩:=St.met hf ((jJg prog w).hash k) hj
 have hm127:t.mask<=127:=by rcases d.mask with ⟨e,_⟩ | ⟨e,_⟩ | ⟨e,_⟩<;>omega
 unfold setSearch
 refine kX9 d hk hu h1 h2 n 100000 none (t.probeStart ((jJg prog w).hash k)) rfl rfl (by rw[en];exact ej) (by unfold SetTable.turns;omega) (by omega) d.chain ⟨0,rfl,fun m hm=>absurd hm (lKu _)⟩
end
section
variable {prog:Program} {w:World} {A:Around} {E:Value->Shared->Prop} {s:Shared}
theorem jZ7 {t t':SetTable} (hm:t'.mask=t.mask) (hp:∀j,j∈t.place.toList->j∈t'.place.toList) {h:Int} {j:Nat} (c:St.Chain t h j):St.Chain t' h j:=by
 obtain⟨n,h1,h2⟩:=c
 have ea:t'.advance=t.advance:=by funext p;unfold SetTable.advance;rw[hm]
 have eb:t'.probeStart h=t.probeStart h:=by unfold SetTable.probeStart;rw[hm]
 refine⟨n,by rw[ea,eb];exact h1,fun k hk=> ?_⟩
 rw[ea,eb]
 exact hp _ (h2 k hk)
theorem zipE {α β:Type} {xs:List α} {ys:List β} (hl:xs.length=ys.length) (p:Nat) {x:α} {y:β} {z:α×β} (h:z∈(xs.take p++x::xs.drop p).zip (ys.take p++y::ys.drop p)):z∈xs.zip ys\/z=(x,y):=by
 rw[List.zip_append (by simp[hl]),lVt] at h
 have e1:(xs.take p).zip (ys.take p)=(xs.zip ys).take p:=by rw[lYd,lYd,List.take_zipWith]
 have e2:(xs.drop p).zip (ys.drop p)=(xs.zip ys).drop p:=by rw[lYd,lYd,List.drop_zipWith]
 rw[e1,e2] at h
 (rcases lJt.mp h with h | h)
 ·exact .inl (lQl h)
 ·rcases (lJk.mp h) with h | h
  ·exact .inr h
  ·exact .inl (lQ4 h)
theorem qQj {t:SetTable} {hs:List Int} (g:St.Good t hs) {j:Nat} {h:Int} (he:t.slot j= .empty) (hc:St.Chain t h j):St.Good (t.put j).1 (hs.take (t.put j).2++h::hs.drop (t.put j).2):=by
 have hj:j∉t.place.toList:=by
  rcases St.slot_cases g.dum j with c | ⟨i,c,_⟩
  ·exact c.2 g.ris
  ·rw[c] at he;cases he
 have ep:(t.put j).1.place=SetTable.insertAt t.place (SetTable.below t.place j) j:=rfl
 have mem:∀q,q∈t.place.toList->q∈(t.put j).1.place.toList:=by
  intro q hq
  rw[ep,SetTable.toList_insertAt]
  rw[<-lK3 (SetTable.below t.place j) t.place.toList] at hq
  rcases (lJt.mp hq) with z | z
  ·(exact lJ8 _ z)
  ·exact lJ0 _ (lJz _ z)
 have hl:=g.len
 refine⟨?_,?_,?_,?_⟩
 ·rw[ep,<-lKf,SetTable.toList_insertAt]
  show _=(hs.take (SetTable.below t.place j)++h::hs.drop (SetTable.below t.place j)).length
  simp[hl]
 ·rw[ep];exact St.insertAt_ris g.ris hj
 ·show (if SetTable.has t.dummies j=true then _ else t.dummies)= #[]
  rw[g.dum,St.has_nil];rfl
 ·intro x hx
  rw[ep,SetTable.toList_insertAt] at hx
  rcases zipE (by simpa using hl) _ hx with z | rfl
  ·exact jZ7 (t:=t) (t':=(t.put j).1) rfl mem (g.chain x z)
  ·exact jZ7 (t:=t) (t':=(t.put j).1) rfl mem hc
def putE (p:Nat) (e:TKey×Addr) (es:List (TKey×Addr)):List (TKey×Addr):=es.take p++e::es.drop p
theorem jV2 (p:Nat) (e:TKey×Addr) (es:List (TKey×Addr)):(putE p e es).Perm (e::es):=by
 unfold putE
 refine List.perm_middle.trans ?_
 rw[lK3]
theorem kYv {h:Heap} {a:Addr} {o:Obj} {arr:Array (Int×Value)} {ep:Nat} {t:SetTable} (ho:h.get? a=some o) (hd:o.data= .set arr ep t) (arr':Array (Int×Value)) (t':SetTable):
  (h.update a (Obj.putSet arr' t')).get? a=some {o with data:= .set arr' (ep+1) t'}:=by
 have:=lXp (Obj.putSet arr' t') ho (by rw[putSet_of arr' t' hd];rfl)
 rw[putSet_of arr' t' hd] at this;exact this
theorem kV8 {α:Type} {l:List Nat} {xs:List α} (hp:l.Perm (List.range xs.length)):(l.filterMap (xs[·]?)).Perm xs:=by
 have:=hp.filterMap (fun i=>xs[i]?)
 rw[List.filterMap_getElem?_range_length] at this
 exact this
theorem jV5 {α β:Type} (f:α->β) (xs:List α):∀l:List Nat,(l.filterMap (xs[·]?)).map f=l.filterMap ((xs.map f)[·]?)
 | []=>rfl
 | a::l=>by
  rw[lKz,lKz,lKa]
  cases xs[a]? with
  | none=>exact jV5 f xs l
  | some x=>rw[lJn,jV5 f xs l];rfl
theorem qKc {a:Addr} {o:Obj} {arr:Array (Int×Value)} {ep:Nat} {t:SetTable} {es:List (TKey×Addr)} (ho:s.heap.get? a=some o) (hex:o.ExactSet) (hd:o.data= .set arr ep t) (harr:arr.toList=es.map (entS prog w)) (are:∀e,e∈es->(jJg prog w).is s.heap e.1 e.2) (hf:t.fits arr.size=true) (hpl:t.plain=true) {wanted mask:Nat} (hw:SetTable.sizeAbove wanted-1=mask) (hl:SetTable.sizeAbove wanted<=sizeLine) (hM:MaskOk mask es.length) {Q:Unit->Shared->Prop}
  (h:∀h' o' arr' ep' t' es',Heap.SameBut a s.heap h'->es'.Perm es->t'.led=t.led->SetD prog w h' a o' arr' ep' t' es'->Q () {s with heap:=h'}):wpAny (model prog w) A (setRelay a wanted) Q E s:=by
 have hsz:arr.size=es.length:=by rw[<-lKf,harr,lJh]
 obtain⟨hfull,hle,_⟩:=hM.full
 obtain⟨t',order,e1,e2,e3,e4,e5,e6⟩:=St.laid_ok hfull t.finger (t.movedTo mask) t.led t.plain (arr.map (·.1)) (by rw[Array.size_map,hsz];exact hle)
 have e1':t.relaid (arr.map (·.1)) wanted=some (t',order):=by unfold SetTable.relaid;rw[hw];exact e1
 have hash_:(arr.map (·.1)).toList=hashes prog w es:=by
  rw[Array.toList_map,harr,lQb];rfl
 have po:order.toList.Perm (List.range es.length):=by
  have:=e5
  rw[Array.size_map,hsz] at this
  exact this
 have em:(order.filterMap (arr[·]?)).toList=(order.toList.filterMap (es[·]?)).map (entS prog w):=by
  rw[Array.toList_filterMap,jV5,<-harr]
  exact St.fm_congr fun x _=>by rw[lJ5]
 have pe:(order.toList.filterMap (es[·]?)).Perm es:=kV8 po
 have sz2:(order.filterMap (arr[·]?)).size=es.length:=by rw[<-lKf,em,lJh,pe.length_eq]
 unfold setRelay
 (refine lJa (wpAny_setState_of ho hd hf ?_))
 dsimp only
 rw[lJb (Nat.not_lt.mpr hl)]
 refine lJa ?_
 refine (show wpAny (model prog w) A (do
  let some (t,order):=t.relaid (arr.map (·.1)) wanted | unsupported "internal:set-table-without-room"
  let es':=order.filterMap (arr[·]?)
  if es'.size != arr.size then unsupported "internal:set-table-lost-an-element"
  pure (es',t)) _ _ _ from ?_)
 rw[e1']
 dsimp only
 rw[lJb (by rw[sz2,hsz];simp)]
 refine lJd ?_
 dsimp only
 refine wpAny_storeSet_of ho hd ?_ (by rw[sz2,<-hsz,lKw];have:=hM;rcases hM with ⟨_,z⟩ | ⟨_,z⟩ | ⟨_,z⟩<;>omega)
 have sb:=lXu s.heap a (Obj.putSet (order.filterMap (arr[·]?)) t')
 have kp:TupKept s.heap _:=TupKept.same ho hex.1 sb
 refine h _ _ _ _ t' (order.toList.filterMap (es[·]?)) sb pe e3 ⟨kYv ho hd _ _,hex,rfl,em,fun e he=>jKq kp (are e (pe.mem_iff.mp he)),?_,?_,e4.trans hpl⟩
 ·have:=e6
  have e7:order.toList.filterMap ((arr.map (·.1))[·]?)=hashes prog w (order.toList.filterMap (es[·]?)):=by
   unfold hashes
   rw[jV5]
   refine St.fm_congr fun x _=> ?_
   rw[<-lJ5,hash_];rfl
  rw[e7] at this
  exact this
 ·rw[pe.length_eq,e2];exact hM
theorem add_ok {a:Addr} {o:Obj} {arr:Array (Int×Value)} {ep:Nat} {t:SetTable} {es:List (TKey×Addr)} (d:SetD prog w s.heap a o arr ep t es) {k:TKey} {b:Addr} (hk:(jJg prog w).is s.heap k b) (hi:intT k=true) (hu:(jJg prog w).room A) (hn:es.length<76) {Q:Bool->Shared->Prop}
  (h1:k∈es.map (·.1)->Q false s)
  (h2:k∉es.map (·.1)->∀h' o' arr' ep' t' es',Heap.SameBut a s.heap h'->es'.Perm ((k,b)::es)->t'.led=t.led->SetD prog w h' a o' arr' ep' t' es'->Q true {s with heap:=h'}):
  wpAny (model prog w) A (setAddHashed a (.ref b) ((jJg prog w).hash k)) Q E s:=by
 unfold setAddHashed
 refine lK8 ?_
 unfold setAddHashedIn
 refine lJa (d.state ?_)
 dsimp only
 rw[show byScan (.ref b) arr=false from rfl,lJb (by decide)]
 refine lJa (kV0 d hk hu (fun j hj hnk hc=> ?_) fun z=>lJd (h1 z))
 dsimp only
 refine lJa (d.state ?_)
 dsimp only
 have hpl:(t.put j).1.plain=true:=d.plain
 rw[lJc hpl]
 refine lJa (qV7 hi hk ?_)
 simp only[↓reduceIte]
 have hsz:=d.size
 have hlen:t.place.size=es.length:=by have l:=d.good.len;unfold hashes at l;rw[lJh] at l;exact l
 have g1:St.Good (t.put j).1 (hashes prog w (putE (t.put j).2 (k,b) es)):=by
  have:=qQj d.good hj hc
  unfold hashes putE
  rw[lQv,lJn,List.map_take,List.map_drop]
  exact this
 have ae:(SetTable.insertAt arr (t.put j).2 ((jJg prog w).hash k,Value.ref b)).toList=(putE (t.put j).2 (k,b) es).map (entS prog w):=by
  rw[SetTable.toList_insertAt,d.arr_]
  unfold putE
  rw[lQv,lJn,List.map_take,List.map_drop]
  rfl
 have pl:=(jV2 (t.put j).2 (k,b) es).length_eq
 rw[lKl] at pl
 have asz:(SetTable.insertAt arr (t.put j).2 ((jJg prog w).hash k,Value.ref b)).size=es.length+1:=by
  rw[<-lKf,ae,lJh,pl]
 refine lJa (wpAny_storeSet_of d.get d.data ?_ (by rw[asz,lKw];omega))
 have sb1:=lXu s.heap a (Obj.putSet (SetTable.insertAt arr (t.put j).2 ((jJg prog w).hash k,Value.ref b)) (t.put j).1)
 have kp1:TupKept s.heap _:=TupKept.same d.get d.exact_.1 sb1
 have ob1:=kYv d.get d.data (SetTable.insertAt arr (t.put j).2 ((jJg prog w).hash k,Value.ref b)) (t.put j).1
 have are1:∀e,e∈putE (t.put j).2 (k,b) es->(jJg prog w).is (s.heap.update a (Obj.putSet (SetTable.insertAt arr (t.put j).2 ((jJg prog w).hash k,Value.ref b)) (t.put j).1)) e.1 e.2:=by
  intro e he
  rcases lJk.mp ((jV2 _ _ _).mem_iff.mp he) with rfl | he
  ·exact jKq kp1 hk
  ·exact jKq kp1 (d.are e he)
 have fl:(t.put j).1.fill=es.length+1:=by
  have l:=g1.len
  unfold hashes at l
  rw[lJh,pl] at l
  unfold SetTable.fill
  rw[g1.dum,l];rfl
 have mk:(t.put j).1.mask=t.mask:=rfl
 by_cases full:(t.put j).1.tooFull=true
 ·rw[full]
  simp only[Bool.not_false,Bool.and_self,↓reduceIte]
  have full':(es.length+1)*5>=t.mask*3:=by
   unfold SetTable.tooFull at full
   rw[fl,mk] at full
   exact of_decide_eq_true full
  have w1:SetTable.sizeAbove (SetTable.grown (arr.size+1))<=sizeLine/\MaskOk (SetTable.sizeAbove (SetTable.grown (arr.size+1))-1) (putE (t.put j).2 (k,b) es).length:=by
   rw[pl,hsz]
   rcases d.mask with ⟨e,z⟩ | ⟨e,z⟩ | ⟨e,z⟩
   ·have:es.length=4:=by omega
    rw[this];exact⟨by rw[lKw];decide,.inr (.inl ⟨by decide,by omega⟩)⟩
   ·have:es.length=18:=by omega
    rw[this];exact⟨by rw[lKw];decide,.inr (.inr ⟨by decide,by omega⟩)⟩
   ·omega
  have ft:(t.put j).1.fits (SetTable.insertAt arr (t.put j).2 ((jJg prog w).hash k,Value.ref b)).size=true:=by
   have l:=g1.len
   unfold hashes at l
   rw[lJh,pl] at l
   simp only[SetTable.fits,lKs,beq_iff_eq,lKx]
   refine⟨by rw[asz];exact l,?_⟩
   rw[fl,mk]
   rcases d.mask with ⟨e,z⟩ | ⟨e,z⟩ | ⟨e,z⟩<;>omega
  refine lJa (qKc (s:={s with heap:=s.heap.update a (Obj.putSet (SetTable.insertAt arr (t.put j).2 ((jJg prog w).hash k,Value.ref b)) (t.put j).1)}) ob1 d.exact_ rfl ae are1 ft hpl rfl w1.1 w1.2 fun h' o' arr' ep' t' es' sb2 pe el d'=> ?_)
  exact lJd (h2 hnk h' o' arr' ep' t' es' (sb1.trans sb2) (pe.trans (jV2 _ _ _)) el d')
 ·rw[show (t.put j).1.tooFull=false from by simpa using full]
  simp only[Bool.and_false,lKj,↓reduceIte]
  have full':(es.length+1)*5<t.mask*3:=by
   unfold SetTable.tooFull at full
   rw[fl,mk] at full
   simpa using full
  refine lJd (h2 hnk _ _ _ _ (t.put j).1 _ sb1 (jV2 _ _ _) rfl ⟨ob1,d.exact_,rfl,ae,are1,g1,?_,hpl⟩)
  rw[pl,mk]
  rcases d.mask with ⟨e,_⟩ | ⟨e,_⟩ | ⟨e,_⟩
  ·exact .inl ⟨e,by omega⟩
  ·exact .inr (.inl ⟨e,by omega⟩)
  ·exact .inr (.inr ⟨e,by omega⟩)
end
section
variable {w:World} {prog:Program}
def bt (w:World):Bool:=w.params.followText "set-order"
structure Put (es kb:List (TKey×Addr)):Prop where
 sub:∀e,e∈es->e∈kb
 all:∀e,e∈kb->e.1∈es.map (·.1)
 nod:(es.map (·.1)).Nodup
theorem Put.old {es kb:List (TKey×Addr)} (p:Put es kb) {e:TKey×Addr} (h:e.1∈es.map (·.1)):Put es (kb++[e]):=by
 refine⟨fun x hx=>lJ8 _ (p.sub x hx),fun x hx=> ?_,p.nod⟩
 rcases (lJt.mp hx) with z | z
 ·exact p.all x z
 ·rw[lJ4.mp z];exact h
theorem Put.new {es es' kb:List (TKey×Addr)} (p:Put es kb) {e:TKey×Addr} (h:e.1∉es.map (·.1)) (hp:es'.Perm (e::es)):Put es' (kb++[e]):=by
 have hm:(es'.map (·.1)).Perm (e.1::es.map (·.1)):=hp.map _
 refine⟨fun x hx=> ?_,fun x hx=> ?_,?_⟩
 ·rcases lJk.mp (hp.mem_iff.mp hx) with rfl | z
  ·exact lJ0 _ (lJ4.mpr rfl)
  ·exact lJ8 _ (p.sub x z)
 ·refine hm.mem_iff.mpr ?_
  rcases (lJt.mp hx) with z | z
  ·exact lJz _ (p.all x z)
  ·rw[lJ4.mp z];exact lJx ..
 ·exact hm.nodup_iff.mpr (lK0.mpr ⟨h,p.nod⟩)
theorem Put.few {es kb:List (TKey×Addr)} (p:Put es kb) {us:List TKey} (h:∀e,e∈kb->e.1∈us):es.length<=us.length:=by
 have h1:(es.map (·.1)) ⊆ us:=by
  intro k hk
  obtain⟨e,he,rfl⟩:=lJl.mp hk
  exact h e (p.sub e he)
 have:=p.nod.length_le_of_subset h1
 simpa using this
theorem SetD.move {h h':Heap} {a:Addr} {o:Obj} {arr:Array (Int×Value)} {ep:Nat} {t:SetTable} {es:List (TKey×Addr)} (d:SetD prog w h a o arr ep t es) (hg:h'.get? a=some o) (kp:TupKept h h'):SetD prog w h' a o arr ep t es:=
 ⟨hg,d.exact_,d.data,d.arr_,fun e he=>jKq kp (d.are e he),d.good,d.mask,d.plain⟩
def SetIs (prog:Program) (w:World) (h:Heap) (a:Addr) (kb:List (TKey×Addr)):Prop:=∃o arr ep t es,SetD prog w h a o arr ep t es/\Put es kb/\t.led= !bt w
theorem SetIs.move {h h':Heap} {a:Addr} {kb:List (TKey×Addr)} (d:SetIs prog w h a kb) (hg:∀o,h.get? a=some o->h'.get? a=some o) (kp:TupKept h h'):SetIs prog w h' a kb:=by
 obtain⟨o,arr,ep,t,es,d,p,l⟩:=d
 exact⟨o,arr,ep,t,es,d.move (hg o d.get) kp,p,l⟩
section
variable {A:Around} {R:Result->Shared->Prop} {I:Addr} {fp:List Addr} {G:Array GenState->Array GenState->Prop} {n:Nat} {P:Nat->Value->Prop} {St:Nat->Shared->Prop}
theorem kUz {wr:List Addr} {s s':Shared} (hm:Moved wr G s s') (hw:∀b o,b∈wr->s.heap.get? b=some o->o.cls≠ .type "tuple"):TupKept s.heap s'.heap:=by
 intro b o hb hc
 exact hm.heap b o (fun z=>hw b o z hb hc) hb
theorem qJ6 (W:WalksS prog w A.in1 I fp [I] G n P St) (S:Addr) (hSf:S∉fp) (hIt:∀i s o,St i s->s.heap.get? I=some o->o.cls≠ .type "tuple") (kb:List (TKey×Addr)) (hu:(jJg prog w).room A.in1) (hk:∀e,e∈kb->intT e.1=true)
  (hval:∀i v,P i v->∃e,kb[i]? =some e/\v= .ref e.2) (hn:n=kb.length) {us:List TKey} (hus:us.length<76) (hkus:∀e,e∈kb->e.1∈us):
  ∀(q i:Nat) (s:Shared),n-i=q->i<=n->St i s->(∀e,e∈kb->(jJg prog w).is s.heap e.1 e.2)->SetIs prog w s.heap S (kb.take i)->
   (∀s',Moved (S::[I]) G s s'->SetIs prog w s'.heap S kb->R (.ok (.ret .none)) s')->codeAny (model prog w) A (.builtin "set.update.loop" ⟨[.ref S,.ref I],[]⟩) R s:=by
 have hSw:S∉[I]:=fun h=>hSf (W.sub _ h)
 have hsub:∀b∈[I],b∈S::[I]:=fun b hb=>lJz _ hb
 intro q
 induction q with
 | zero=>
  intro i s hq hi hst hks hS hR
  have hin:i=n:=by omega
  subst hin
  refine lXm PyProof.Rows.F.entry_set_update_loop ?_
  rw[lX1 lYe _]
  refine (show wpAny _ A.in1 (pyNext (.ref I) >>= _) _ _ s from ?_)
  (refine lJa (W.done s _ _ hst fun s' hm=> ?_))
  refine (show wpAny _ A.in1 (ret Value.none) _ _ s' from ?_)
  refine lJd (hR s' (hm.mono hsub) ?_)
  rw[hn,lVu] at hS
  exact hS.move (fun o e=>hm.heap S o hSw e) (kUz hm fun b o hb e=>by rw[lJ4.mp hb] at e;exact hIt _ _ _ hst e)
 | succ q ih=>
  intro i s hq hi hst hks hS hR
  have hlt:i<n:=by omega
  refine lXm PyProof.Rows.F.entry_set_update_loop ?_
  rw[lX1 lYe _]
  refine (show wpAny _ A.in1 (pyNext (.ref I) >>= _) _ _ s from ?_)
  (refine lJa (W.item i s _ _ hlt hst fun v s' hP hst' hm=> ?_))
  obtain⟨⟨k,b⟩,he,rfl⟩:=hval i v hP
  have hmem:(k,b)∈kb:=lJy he
  have tk:=kUz hm fun b o hb e=>by rw[lJ4.mp hb] at e;exact hIt _ _ _ hst e
  have hS':=hS.move (h':=s'.heap) (fun o e=>hm.heap S o hSw e) tk
  have hks':∀e,e∈kb->(jJg prog w).is s'.heap e.1 e.2:=fun e he=>jKq tk (hks e he)
  refine (show wpAny _ A.in1 (holding [Value.ref b] (setAdd S (.ref b)) >>= _) _ _ s' from ?_)
  (refine lJa (lK8 ?_))
  unfold setAdd
  refine lK8 ?_
  refine lJa ((jJg prog w).pyHash hu (hks' _ hmem) ?_)
  obtain⟨o,arr,ep,t,es,d,p,l⟩:=hS'
  have hl:=p.few fun e he=>hkus e (lQl he)
  have tk1:kb.take (i+1)=kb.take i++[(k,b)]:=by
   rw[lVg,he];rfl
  refine add_ok (s:={s' with toks:=s'.toks+(jJg prog w).draws k}) d (hks' _ hmem) (hk _ hmem) hu (by omega) (fun z=> ?_) (fun z h' o' arr' ep' t' es' sb pe el d'=> ?_)
  ·refine lJd ⟨plainId_quiet lYe _,ih (i+1) _ (by omega) hlt (W.frame _ s' _ _ hst' (Nat.le_add_right _ _) fun b hb o e=>e) hks' ?_ fun s'' hm'' hS''=> ?_⟩
   ·rw[tk1];exact⟨o,arr,ep,t,es,d,p.old z,l⟩
   ·exact hR s'' (Moved.trans W.gtrans ((hm.mono hsub).then_heap (Nat.le_add_right _ _) fun b o hb e=>e) hm'') hS''
  ·have tk2:TupKept s'.heap h':=TupKept.same d.get d.exact_.1 sb
   refine lJd ⟨plainId_quiet lYe _,ih (i+1) _ (by omega) hlt (W.frame _ s' _ _ hst' (Nat.le_add_right _ _) fun b hb o e=> ?_) (fun e he=>jKq tk2 (hks' e he)) ?_ fun s'' hm'' hS''=> ?_⟩
   ·exact (sb.2 b (fun z=>hSf (z▸hb))).trans e
   ·rw[tk1];exact⟨o',arr',ep',t',es',d',p.new z pe,el.trans l⟩
   ·refine hR s'' (Moved.trans W.gtrans ((hm.mono hsub).then_heap (Nat.le_add_right _ _) fun b o hb e=> ?_) hm'') hS''
    exact (sb.2 b (fun z=>hb (by rw[z];exact lJx ..))).trans e
end
section
variable {E:Value->Shared->Prop} {s:Shared} {A:Around}
theorem kX7 {led:Bool} (hl:led= !bt w) {h:Heap}:SetIs prog w (h.push {cls:= .type "set",dict:=none,data:= .set #[] 0 (.fresh 0 0 led)}) h.objs.size []:=by
 refine⟨_,#[],0,_,[],⟨lJ6 _ rfl,⟨rfl,rfl,rfl⟩,rfl,rfl,fun e he=>absurd he (lJ2),⟨rfl,List.Pairwise.nil,rfl,fun x hx=> ?_⟩,.inl ⟨rfl,lJu _⟩,rfl⟩,⟨fun _ h=>h,fun e he=>absurd he (lJ2),lXb⟩,hl⟩
 exact absurd hx (by simp[hashes])
theorem qJ5 (a:Value) {Q₁:Value->Shared->Prop}
  (h:Q₁ (.ref s.heap.objs.size) {s with heap:=s.heap.push {cls:= .type "set",dict:=none,data:= .set #[] 0 (.fresh 0 0 (!bt w))} }):codeAny (model prog w) A (.call (.builtin "set.__new__") ⟨[.type "set",a],[]⟩) (wants Q₁ E) s:=by
 refine codeAny_of_tree ?_
 refine (show wpAny _ A.in1 (do checkBuiltinCall "set.__new__" ⟨[.type "set",a],[]⟩;again (.builtin "set.__new__" ⟨[.type "set",a],[]⟩)) _ _ s from ?_)
 (refine lJa (wpAny_of_eq (F.newCall_set_1 a) (lJd ⟨plainId_quiet F.plain_set_new _,lXm F.entry_set_new ?_⟩)))
 (rw[lX1 F.plain_set_new _])
 (unfold Builtin.«set.__new__» Builtin.Frozenset.newClass)
 have hsub:=sub_set_self
 (obtain⟨hp,g,d,tk,os⟩:=s)
 dsimp only
 wp_walk
 (refine lX7 (lJd ?_))
 dsimp only
 simp only[newObj]
 (refine lJa (wpAny_alloc (lJd ?_)))
 exact lJd h
def jVf (w:World):Obj:={cls:= .type "set",dict:=none,data:= .set #[] 0 (.fresh 0 0 (!bt w))}
set_option maxHeartbeats 3201000 in
theorem kJl {l:Addr} {items:Array Value} {kb:List (TKey×Addr)} {Q:Value->Shared->Prop} (hh:A.handled=none) (hu:A.units+20<cLine) (hl:s.heap.IsList l items) (hi:items.toList=kb.map fun e=> .ref e.2) (hk:∀e,e∈kb->intT e.1=true/\(jJg prog w).is s.heap e.1 e.2) {us:List TKey} (hus:us.length<76) (hkus:∀e,e∈kb->e.1∈us)
  (h:∀(h':Heap) (tk:Nat),SetIs prog w h' s.heap.objs.size kb->(∀b o,s.heap.get? b=some o->h'.get? b=some o)->Q (.ref s.heap.objs.size) {s with heap:=h',toks:=tk}):wpAny (model prog w) A (call (.type "set") [.ref l]) Q E s:=by
 (obtain⟨c,tl,hmro⟩:=lVh.mro)
 (have hmade:=lVh.made)
 have hsub:=lVh.sub
 have hsz:items.size=kb.length:=by rw[<-lKf,hi,lJh]
 (refine wpAny_call (codeAny_of_tree ?_))
 refine (show wpAny _ _ (callAny (.type "set") _) _ _ _ from ?_)
 (refine lJd ⟨Code.quiet_builtin _ (by decide +kernel),lXm F.entry_type_call ?_⟩)
 (rw[Around.under_plain (weight_type_call_type "set" [.ref l] []) rfl])
 (have h1:=lVh.notType)
 (have h2:=lVh.canCreate)
 (have hct:=F.typeCall_set_1 (.ref l))
 (repeat (any_goals (first | assumption | wp_step)))
 refine codeAny_mono (qJ5 (.ref l) (E:=E) (Q₁:=fun obj s₁=>obj= .ref s.heap.objs.size/\s₁={s with heap:=s.heap.push (jVf w)}) ⟨rfl,rfl⟩) fun r s₁ hr=> ?_
 cases r with
 | error e=>exact hr
 | ok fl=>
  cases fl with
  | ret obj=>
   obtain⟨rfl,rfl⟩:=hr
   have hS:(s.heap.push (jVf w)).get? s.heap.objs.size=some (jVf w):=lJ6 _ rfl
   have hT:Shared.TypeIs {s with heap:=s.heap.push (jVf w)} (.ref s.heap.objs.size) "set":=⟨_,hS,rfl⟩
   (have hli:=lVh.init.lookup)
   (have hbi:=lVh.init.bind (.ref s.heap.objs.size))
   (repeat (any_goals (first | assumption | wp_step)))
   refine codeAny_mono (codeAny_call_builtin (R:=wants (fun r s₂=>r= .none/\∃h' tk,s₂={s with heap:=h',toks:=tk}/\SetIs prog w h' s.heap.objs.size kb/\(∀b o,s.heap.get? b=some o->h'.get? b=some o)) E) lVh.init.plain F.entry_set_init (check_set_init_1 hT ?_)) fun r₂ s₂ hr₂=> ?_
   ·(obtain⟨ol,hol,hcl,nl,hdl⟩:=hl)
    (obtain⟨ocls,odict,odata,oslots⟩:=ol)
    simp only at hcl hdl
    subst hcl;subst hdl
    have hol':(s.heap.push (jVf w)).get? l=some {cls:= .type "list",dict:=odict,data:= .seq items nl,slots:=oslots}:=lJm _ hol
    have hsls:=F.sub_list_set
    (have hslf:=F.sub_list_frozenset)
    (have hne:(Value.type "list" == Value.type "dict")=false:=by decide)
    have hl1:(s.heap.push (jVf w)).IsList l items:=⟨_,hol',rfl,nl,rfl⟩
    (unfold Builtin.«set.__init__» noKeywords Builtin.Frozenset.updateFrom)
    generalize hPI:pyIter=PI
    unfold jVf at hS hol' hl1 ⊢
    wp_walk
    subst hPI
    (refine wpAny_pyIter_list hl1 ?_)
    (refine lJa (wpAny_runValue ?_))
    (have hlS:l<s.heap.objs.size:=lJj hol)
    (have hh3:A.in1.in1.in1.handled=none:=by simp[hh])
    have hneI:l≠(s.heap.push (jVf w)).objs.size:=by
     (rw[lVf];exact lJr (Nat.lt_succ_of_lt hlS))
    have hSf:s.heap.objs.size∉[(s.heap.push (jVf w)).objs.size,l]:=by
     rw[lVf];simp only[lJk,lJ2,lKd,not_or]
     (exact⟨lJr (Nat.lt_succ_self _),lK4 hlS⟩)
    have hval:∀(i:Nat) (v:Value),items[i]? =some v->∃e,kb[i]? =some e/\v= .ref e.2:=by
     intro i v hv
     rw[<-lJ5,hi,lKa] at hv
     obtain⟨e,e1,e2⟩:=lQh.mp hv
     exact⟨e,e1,e2.symm⟩
    have up:∀b o,s.heap.get? b=some o->((s.heap.push (jVf w)).push {cls:= .type "list_iterator",data:= .fields #[.ref l,.int 0 0]}).get? b=some o:=fun b o e=>lJm _ (lJm _ e)
    refine qJ6 (A:=A.in1.in1) ((Walks.list hh3 _ l hneI items).toS) s.heap.objs.size hSf ?hIt kb ?hu (fun e he=>(hk e he).1) hval hsz hus hkus (items.size-0) 0 _ (by omega) (lJu _) ⟨⟨_,lJ6 _ rfl,rfl,rfl⟩,(hl1.push _)⟩ ?hks ?hS0 ?hR
    case hIt=>
     rintro i s2 o2 ⟨⟨o3,e3,c3,_⟩,_⟩ e2
     rw[e3] at e2;cases e2
     rw[c3];decide
    case hu=>
     show A.in1.in1.in1.units+6<cLine
     rw[lQp,lQp,lQp];omega
    case hks=>
     exact fun e he=>jKq (fun b o e _=>up b o e) (hk e he).2
    case hS0=>
     exact (kX7 (prog:=prog) (w:=w) rfl (h:=s.heap)).move (fun o e=>lJm _ e) fun b o e _=>lJm _ e
    case hR=>
     intro s' hm hS'
     (obtain⟨h',g',d',tk',os'⟩:=s')
     cases (show g'=s.gens from hm.gens)
     cases (show d'=s.drawn from hm.drawn)
     cases (show os'=s.os from hm.os)
     refine (show wpAny _ _ _ _ _ _ from lJd ?_)
     refine (show wpAny _ _ (ret Value.none) _ _ _ from lJd ⟨rfl,h',tk',rfl,hS',fun b o e=> ?_⟩)
     have hb:=lJj e
     refine hm.heap b o ?_ (up b o e)
     simp only[lJk,lJ2,lKd,not_or]
     exact⟨lJr hb,by rw[lVf];exact lJr (Nat.lt_succ_of_lt hb)⟩
   ·cases r₂ with
    | error e=>exact hr₂
    | ok fl₂=>
     cases fl₂ with
     | ret r=>
      (obtain⟨rfl,h',tk,rfl,hS',hk'⟩:=hr₂)
      (repeat (any_goals (first | assumption | wp_step)))
      exact h _ _ hS' hk'
     | _=>exact hr₂.elim
  | _=>exact hr.elim
end
end
namespace Si
theorem own:Manifest.owners.lookup (String.ofList ['r','o','t','a','r','e','t','i','_','t','e','s'].reverse)=some Manifest.sig_set_iterator:=by kernel_rfl
theorem slot_next:Slot "set_iterator" "__next__" "set_iterator.__next__":=
 .of (owner:="set_iterator") (n:="__next__") (by rw[typeLookup_type,builtinLookup_eq_fast];kernel_rfl) (by decide +kernel) (by decide +kernel) (by decide +kernel) (by first | exact .inl (by decide +kernel) | exact .inr (by decide +kernel)) (by rw[isSubtype_type];kernel_rfl)
theorem entry_next:entryFor table "set_iterator.__next__"=some Builtin.«set_iterator.__next__» :=entryFor_of_tree (by kernel_rfl)
theorem args_next (a:Value):argsOk "set_iterator.__next__" ⟨[a],[]⟩:=by
 unfold argsOk;rw[signature?_of (id:="set_iterator.__next__") (n:=['_','_','t','x','e','n','_','_']) (o:=['r','o','t','a','r','e','t','i','_','t','e','s']) (by kernel_rfl) own];kernel_rfl
theorem entry_iter:entryFor table "set.__iter__"=some Builtin.«frozenset.__iter__» :=entryFor_alias (id':="frozenset.__iter__") (by kernel_rfl) rfl (by decide +kernel) (by kernel_rfl)
theorem slot_iter:Slot "set_iterator" "__iter__" "set_iterator.__iter__":=
 .of (owner:="set_iterator") (n:="__iter__") (by rw[typeLookup_type,builtinLookup_eq_fast];kernel_rfl) (by decide +kernel) (by decide +kernel) (by decide +kernel) (by first | exact .inl (by decide +kernel) | exact .inr (by decide +kernel)) (by rw[isSubtype_type];kernel_rfl)
theorem entry_it:entryFor table "set_iterator.__iter__"=some Builtin.«dict_keyiterator.__iter__» :=entryFor_alias (id':="dict_keyiterator.__iter__") (by kernel_rfl) rfl (by decide +kernel) (by kernel_rfl)
theorem args_it (a:Value):argsOk "set_iterator.__iter__" ⟨[a],[]⟩:=by
 unfold argsOk;rw[signature?_of (id:="set_iterator.__iter__") (n:=['_','_','r','e','t','i','_','_']) (o:=['r','o','t','a','r','e','t','i','_','t','e','s']) (by kernel_rfl) own];kernel_rfl
end Si
section
variable {prog:Program} {w:World} {A:Around} {E:Value->Shared->Prop} {s:Shared}
theorem SetD.stateB {h0:Heap} {S:Addr} {o:Obj} {arr:Array (Int×Value)} {ep:Nat} {t:SetTable} {es:List (TKey×Addr)} (d:SetD prog w h0 S o arr ep t es) (hg:s.heap.get? S=some o) {Q:(Array (Int×Value)×Nat×SetTable)->Shared->Prop} (h:Q (arr,ep,t) s):wpAny (model prog w) A (setState S) Q E s:=
 wpAny_setState_of hg d.data d.fits h
theorem qQb {S:Addr} {o:Obj} {arr:Array (Int×Value)} {ep:Nat} {t:SetTable} {es:List (TKey×Addr)} (d:SetD prog w s.heap S o arr ep t es) {Q:Value->Shared->Prop}
  (hQ:Q (.ref s.heap.objs.size) {s with heap:=s.heap.push {cls:= .type "set_iterator",data:= .fields #[.int 0 0,.int 0 0,.ref S,.int es.length 0,.int ep 0]} }):wpAny (model prog w) A (pyIter (.ref S)) Q E s:=by
 have hT:s.TypeIs (.ref S) "set":=⟨o,d.get,d.exact_.1⟩
 refine wpAny_pyIter_slot hT PySem.F.slot_set_iter (lQo PySem.F.slot_set_iter hT Si.entry_iter ?_ (PySem.F.args_set_iter_1 _))
 unfold Builtin.«frozenset.__iter__» Builtin.Frozenset.slot0 slotArgs
 (simp only[List.isEmpty_nil,Bool.not_true,lKj,↓reduceIte,bind_assoc,lQg,bne_self_eq_false])
 (unfold Builtin.Frozenset.addrOf Builtin.Frozenset.sizeOf)
 refine lJa (lJd ?_)
 try dsimp only
 refine lJa (lJd ?_)
 simp only[setEntries,setDrawn,bind_assoc]
 refine lJa (d.state ?_)
 refine lJa (lJd (lJa (lJd (lJa (d.state ?_)))))
 dsimp only[setsByText]
 refine lJa (lJa (lX7 (lJd (lJa (lJd ?_)))))
 rw[lJb (fun z=> ?_)]
 ·(refine lJa (lJd ?_))
  unfold setEpoch
  refine lJa (lJa (d.state (lJd ?_)))
  refine lJa (lK9 (lJd ⟨_,rfl,"set_iterator",_,⟨_,lJ6 _ rfl,rfl⟩,Si.slot_next.lookup,?_⟩))
  have:=d.size
  simpa[rawInt,this] using hQ
 ·have z':(!(w.params.followText "set-order")&&(!t.plain&&decide (arr.size>1)))=true:=z
  rw[d.plain] at z'
  simp at z'
theorem jZ4 {α:Type}:∀ {l:List α} {i:Nat} (h:i<l.length),(l[i]::l.eraseIdx i).Perm l
 | a::l,0,_=> .refl _
 | a::l,i+1,h=>by
  have hi:i<l.length:=by simpa using h
  exact (List.Perm.swap _ _ _).trans (List.Perm.cons a (jZ4 hi))
theorem kY1 {α:Type} (next:Nat->Nat):∀(fuel k:Nat) (left:List α) (out:Array α),fuel=left.length->(pickOrder.go next fuel k left out).toList.Perm (out.toList++left)
 | 0,k,left,out,h=>by
  have:left=[]:=List.eq_nil_of_length_eq_zero h.symm
  subst this
  rw[lVp];exact .refl _
 | fuel+1,k,left,out,h=>by
  have hl:next k%left.length<left.length:=Nat.mod_lt _ (by omega)
  unfold pickOrder.go
  rw[lJo hl]
  dsimp only
  refine (kY1 next fuel (k+1) _ _ (by rw[List.length_eraseIdx_of_lt hl];omega)).trans ?_
  rw[Array.toList_push,lJs]
  (refine lXi _ ?_)
  rw[List.singleton_append]
  exact jZ4 hl
theorem kY0 {α:Type} (next:Nat->Nat) (xs:Array α):(pickOrder next xs).toList.Perm xs.toList:=by
 have:=kY1 next xs.size 0 xs.toList #[] (by simp)
 rw[show (#[]:Array α).toList++xs.toList=xs.toList from rfl] at this
 exact this
def ordS (w:World) (S:Addr) (ep:Nat) (arr:Array (Int×Value)):Array (Int×Value):=if bt w=true then pickOrder (w.params.setOrder S ep) arr else arr
theorem jV4 (w:World) (S:Addr) (ep:Nat) (arr:Array (Int×Value)):(ordS w S ep arr).toList.Perm arr.toList:=by
 unfold ordS
 split
 ·exact kY0 _ _
 ·exact .refl _
def jVd (w:World) (t:SetTable) (i:Nat):Nat:=if bt w=true then 0 else if i=0 then 0 else t.place.getD (i-1) 0+1
theorem kXn {t:SetTable} {hs:List Int} (g:St.Good t hs) (hb:bt w=false) {i:Nat} (hi:i<=t.place.size):SetTable.below t.place (jVd w t i)=i:=by
 unfold jVd
 rw[hb,lJb (by decide)]
 by_cases c:i=0
 ·subst c;exact St.below_zero g.ris
 ·rw[lJb c,St.getD_at (by omega),St.below_next g.ris (by omega)]
  omega
theorem jZu {h0:Heap} {S:Addr} {o:Obj} {arr:Array (Int×Value)} {ep:Nat} {t:SetTable} {es:List (TKey×Addr)} (d:SetD prog w h0 S o arr ep t es) (hg:s.heap.get? S=some o) (hl:t.led= !bt w) {i:Nat} (hi:i<=arr.size) {Q:Option (Value×Nat)->Shared->Prop}
  (hQ:Q (((ordS w S ep arr)[i]?).map fun e=>(e.2,jVd w t (i+1))) s):wpAny (model prog w) A (setNext S (jVd w t i) i ep) Q E s:=by
 have hp:t.place.size=arr.size:=by
  have l:=d.good.len
  unfold hashes at l
  rw[lJh] at l
  rw[l,d.size]
 unfold setNext
 refine lJa (d.stateB hg ?_)
 dsimp only[setsByText]
 (refine lJa (lJa (lX7 (lJd ?_))))
 refine (show wpAny _ _ (if bt w=true then _ else _) _ _ _ from ?_)
 cases hb:bt w with
 | true=>
  rw[lJc rfl,lJb (by simp)]
  unfold setWalk
  refine lJa (lJa (d.stateB hg ?_))
  dsimp only[setsByText]
  (refine lJa (lJa (lX7 (lJd ?_))))
  refine (show wpAny _ _ (if bt w=true then _ else _) _ _ _ from ?_)
  rw[hb,lJc rfl]
  refine lJa (lX7 (lJd (lJd ?_)))
  have e1:jVd w t i=jVd w t (i+1):=by unfold jVd;rw[hb];rfl
  unfold ordS at hQ
  rw[hb,lJc rfl,<-e1] at hQ
  exact hQ
 | false=>
  rw[lJb (by decide)]
  rw[lJb (fun z=> ?_)]
  ·refine lJa (m:=(if (!t.led&& !arr.isEmpty)=true then unsupported "set:maker-not-led" else pure ())) ?_
   rw[hl,hb]
   simp only[Bool.not_false,Bool.not_true,Bool.false_and,lKj,↓reduceIte]
   (refine lJd (lJd ?_))
   rw[kXn d.good hb (by omega)]
   unfold ordS at hQ
   rw[hb,lJb (by decide)] at hQ
   by_cases c:i<arr.size
   ·have hi':i<t.place.size:=by omega
    rw[lKt c,lKt hi']
    rw[lKt c] at hQ
    dsimp only
    have e1:jVd w t (i+1)=t.place[i]+1:=by
     unfold jVd
     rw[hb,lJb (by decide),lJb (by omega),lYf,St.getD_at hi']
    rw[e1] at hQ
    exact hQ
   ·rw[lQ3 (by omega)]
    rw[lQ3 (by omega)] at hQ
    exact hQ
  ·have z':(!t.plain&&decide (arr.size>1))=true:=z
   rw[d.plain] at z'
   simp at z'
def kXi (S:Addr) (ep n slot i:Nat):Obj:={cls:= .type "set_iterator",dict:=none,data:= .fields #[.int slot 0,.int i 0,.ref S,.int n 0,.int ep 0],slots:= #[]}
theorem qKx {h0:Heap} {S I:Addr} {o:Obj} {arr:Array (Int×Value)} {ep:Nat} {t:SetTable} {es:List (TKey×Addr)} (d:SetD prog w h0 S o arr ep t es) (hl:t.led= !bt w) (hg:s.heap.get? S=some o) {i:Nat} (hI:s.heap.get? I=some (kXi S ep arr.size (jVd w t i) i)) {e:Int×Value} (he:(ordS w S ep arr)[i]? =some e) {Q:Option Value->Shared->Prop}
  (hQ:∀h',Heap.SameBut I s.heap h'->h'.get? I=some (kXi S ep arr.size (jVd w t (i+1)) (i+1))->Q (some e.2) {s with heap:=h'}):wpAny (model prog w) A (pyNext (.ref I)) Q E s:=by
 have hT:s.TypeIs (.ref I) "set_iterator":=⟨_,hI,rfl⟩
 have hsz:(ordS w S ep arr).size=arr.size:=by rw[<-lKf,(jV4 w S ep arr).length_eq,lKf]
 have hi:i<arr.size:=by have:=(lYa.mp he).1;omega
 unfold pyNext
 refine lJa (wpAny_attempt (lVm (name:=Str.ofString "__next__") hT Si.slot_next (lQo Si.slot_next hT Si.entry_next ?_ (Si.args_next _))))
 unfold Builtin.«set_iterator.__next__»
 refine lJa (lJd ?_)
 refine lJa (wpAny_fieldsOf hI rfl ?_)
 dsimp only
 unfold setEntries
 refine lJa (lJa (d.stateB hg (lJd ?_)))
 dsimp only
 rw[lJb (by simp)]
 simp only[lXo]
 refine lJa (jZu d hg hl (lVq hi) ?_)
 rw[he]
 dsimp only[Option.map_some]
 refine lJa (lVn hI (by simp) fun h1 e1 sb1=> ?_)
 refine lJa (lVn (s:={s with heap:=h1}) e1 (by simp) fun h2 e2 sb2=> ?_)
 refine lJd ⟨_,rfl,lJd (hQ h2 (sb1.trans sb2) ?_)⟩
 simpa[rawInt,kXi] using e2
theorem qXf {h0:Heap} {S I:Addr} {o:Obj} {arr:Array (Int×Value)} {ep:Nat} {t:SetTable} {es:List (TKey×Addr)} (d:SetD prog w h0 S o arr ep t es) (hl:t.led= !bt w) (hh:A.handled=none) (hg:s.heap.get? S=some o) (hI:s.heap.get? I=some (kXi S ep arr.size (jVd w t arr.size) arr.size)) {Q:Option Value->Shared->Prop}
  (hQ:∀h',Heap.ExtBut I s.heap h'->Q none {s with heap:=h'}):wpAny (model prog w) A (pyNext (.ref I)) Q E s:=by
 have hT:s.TypeIs (.ref I) "set_iterator":=⟨_,hI,rfl⟩
 have hsz:(ordS w S ep arr).size=arr.size:=by rw[<-lKf,(jV4 w S ep arr).length_eq,lKf]
 unfold pyNext
 refine lJa (wpAny_attempt (lVm (name:=Str.ofString "__next__") hT Si.slot_next (lQo Si.slot_next hT Si.entry_next ?_ (Si.args_next _))))
 unfold Builtin.«set_iterator.__next__»
 refine lJa (lJd ?_)
 refine lJa (wpAny_fieldsOf hI rfl ?_)
 dsimp only
 unfold setEntries
 refine lJa (lJa (d.stateB hg (lJd ?_)))
 dsimp only
 rw[lJb (by simp)]
 simp only[lXo]
 refine lJa (jZu d hg hl (lJg _) ?_)
 rw[lQ3 (by omega)]
 dsimp only[Option.map_none]
 refine lJa (lVn hI (by simp) fun h1 e1 sb1=> ?_)
 refine (show wpAny _ _ (newExc (.type "StopIteration") [] >>= _) _ _ _ from lJa ?_)
 simp only[newExc,newTuple];refine lJa (lK9 ?_ (by size_fits));refine lJa (m:=firstArgMember _ _) (wpAny_of_eq (a:=Value.none) (by first | rfl | (simp only[firstArgMember];rfl)) (lK9 ?_ (by size_fits)))
 simp only[raiseNew];refine lJa (wpAny_handled ?_);rw[show A.in1.handled=none from hh];refine lJa (lJd (wpAny_throw ?_))
 exact lJa (lX5 (T:="StopIteration") (b:=true) ⟨_,lJ6 _ rfl,rfl⟩ isSubtype_stop (lJd (hQ _ ((sb1.extBut.push _).push _))))
theorem kXr {h0:Heap} {S I:Addr} {o:Obj} {arr:Array (Int×Value)} {ep:Nat} {t:SetTable} {es:List (TKey×Addr)} (d:SetD prog w h0 S o arr ep t es) (hl:t.led= !bt w) (hh:A.handled=none) (hIS:I≠S):
  WalksS prog w A I [I,S] [I] (fun a b=>b=a) arr.size (fun i v=>((ordS w S ep arr)[i]?).map (·.2)=some v) (fun i s=>s.heap.get? S=some o/\s.heap.get? I=some (kXi S ep arr.size (jVd w t i) i)) where
 sub:=fun b hb=>by rw[lJ4.mp hb];exact lJx ..
 grefl:=fun _=>rfl
 gtrans:=fun _ _ _ h1 h2=>(h2.trans h1)
 frame:=fun i s h' _ st _ hk=>⟨hk S (by simp) _ st.1,hk I (by simp) _ st.2⟩
 item:=by
  intro i s Q E hi st hQ
  have hsz:(ordS w S ep arr).size=arr.size:=by rw[<-lKf,(jV4 w S ep arr).length_eq,lKf]
  refine qKx d hl st.1 st.2 (e:=(ordS w S ep arr)[i]) (lKt (by omega)) fun h' sb e=> ?_
  refine hQ _ _ (by rw[lKt (by omega)];rfl) ⟨(sb.2 S (fun z=>hIS z.symm)).trans st.1,e⟩ ⟨fun b ob hb e=> ?_,rfl,rfl,rfl,lJg _⟩
  exact (sb.2 b (fun z=>hb (lJ4.mpr z))).trans e
 done:=by
  intro s Q E st hQ
  refine qXf d hl hh st.1 st.2 fun h' eb=>hQ _ ⟨fun b ob hb e=> ?_,rfl,rfl,rfl,lJg _⟩
  exact eb b ob (fun z=>hb (lJ4.mpr z)) e
 self:=by
  intro i s Q E st hQ
  have hT:s.TypeIs (.ref I) "set_iterator":=⟨_,st.2,rfl⟩
  refine wpAny_pyIter_slot hT Si.slot_iter (lQo Si.slot_iter hT Si.entry_it ?_ (Si.args_it _))
  exact (show wpAny _ _ (ret (.ref I)) _ _ s from lJd ⟨_,rfl,"set_iterator",_,hT,Si.slot_next.lookup,hQ⟩)
theorem qQg {S:Addr} {o:Obj} (hg:s.heap.get? S=some o) (hc:o.cls= .type "set") {Q:Bool->Shared->Prop} (h:Q false s):wpAny (model prog w) A (Builtin.List.listLengthHint (.ref S)) Q E s:=by
 have hT:s.TypeIs (.ref S) "set":=⟨o,hg,hc⟩
 (unfold Builtin.List.listLengthHint)
 refine lJa (wpAny_specialOf hT PySem.F.slot_set_len.lookup ?_)
 generalize hn:("set.__len__":String)=nm
 wp_delta
 rw[show splitId nm=some ("set","__len__") by subst hn;decide +kernel];subst hn
 refine lJa (lX5 (T:="set") (b:=true) hT (by rw[isSubtype_type];kernel_rfl) (wpAny_ite_split (fun z=>absurd z (by decide)) fun _=> ?_))
 refine wpAny_ite_split (fun _=> ?_) fun z=>absurd (by decide +kernel) z
 exact lJa (lXl hT (lJd h))
theorem kXk {R:Result->Shared->Prop} {S L:Addr} {o:Obj} {arr:Array (Int×Value)} {ep:Nat} {t:SetTable} {es:List (TKey×Addr)} (d:SetD prog w s.heap S o arr ep t es) (hl:t.led= !bt w) (hh:A.handled=none) (res:Value) (c0:Nat)
  (hL:s.heap.get? L=some {cls:= .type "list",data:= .seq #[] c0}) (hLS:L≠S)
  (hR:∀(g:Heap) (tk:Nat) (acc:Array Value) (c':Nat),(∀b ob,b≠L->s.heap.get? b=some ob->g.get? b=some ob)->g.get? L=some {cls:= .type "list",dict:=none,data:= .seq acc c',slots:= #[]}->ItemsOf (fun i v=>((ordS w S ep arr)[i]?).map (·.2)=some v) acc arr.size->R (.ok (.ret res)) {s with heap:=g,toks:=tk}):
  wpAny (model prog w) A.in1 (Builtin.List.listExtendWith (.ref L) (.ref S) res) (fun fin z=>match fin with | .done f=>R (.ok f) z | .again c'=>c'.quiet=true/\codeAny (model prog w) A c' R z) (fun e z=>R (.error e) z) s:=by
 have hT:s.TypeIs (.ref S) "set":=⟨o,d.get,d.exact_.1⟩
 have hIS:s.heap.objs.size≠S:=lK4 (lJj d.get)
 have hIL:L≠s.heap.objs.size:=lJr (lJj hL)
 have hSf:L∉[s.heap.objs.size,S]:=by simp[hIL,hLS]
 have asz:arr.size<=sizeLine:=by
  rw[d.size,lKw]
  rcases d.mask with ⟨_,z⟩ | ⟨_,z⟩ | ⟨_,z⟩<;>omega
 (unfold Builtin.List.listExtendWith)
 (refine lJa (lXl hT ?_))
 have z1:Builtin.List.listSameRef (.ref L) (.ref S)=false:=by simp[Builtin.List.listSameRef,hLS]
 have z2:(Value.type "set" == Value.type "list")=false:=by decide
 have z3:(Value.type "set" == Value.type "tuple")=false:=by decide
 simp only[z1,z2,z3,Bool.or_false,lKj,lKc]
 refine lJa (qQb d ?_)
 refine lJa (lK8 (qQg (o:=o) (lJm _ d.get) d.exact_.1 ?_))
 refine wpAny_ite_split (fun _=> ?_) fun z=>absurd (by decide +kernel) z
 refine lJa (lQe ?_)
 generalize hg1:s.heap.push {cls:=Value.type "set_iterator",data:=Data.fields #[Value.int 0 0,Value.int 0 0,Value.ref S,Value.int (es.length:Int) 0,Value.int (ep:Int) 0]}=h1
 have hI1:h1.get? s.heap.objs.size=some (kXi S ep arr.size (jVd w t 0) 0):=by
  rw[<-hg1,d.size,show jVd w t 0=0 by unfold jVd;split<;>rfl]
  exact lJ6 _ rfl
 have up:∀b ob,s.heap.get? b=some ob->h1.get? b=some ob:=fun b ob e=>by rw[<-hg1];exact lJm _ e
 have hL1:=up L _ hL
 refine lJa ?_
 refine (show wpAny _ A.in1 (updateSeq L (·.push .none) >>= fun _=>updateSeq L (·.pop)) _ _ {s with heap:=h1} from ?_)
 refine lJa (wpAny_updateSeq hL1 rfl ?_)
 have hL2:=lXp (Obj.mapSeq (·.push Value.none)) hL1 rfl
 refine wpAny_updateSeq (s:={s with heap:=h1.update L (Obj.mapSeq (·.push Value.none))}) hL2 rfl ?_
 have hL3:=lXp (Obj.mapSeq (·.pop)) hL2 rfl
 have oth:∀b ob,b≠L->h1.get? b=some ob->((h1.update L (Obj.mapSeq (·.push Value.none))).update L (Obj.mapSeq (·.pop))).get? b=some ob:=
  fun b ob hb e=>(lX9 _ _ (Ne.symm hb)).trans ((lX9 _ _ (Ne.symm hb)).trans e)
 refine lJd ⟨plainId_quiet F.plain_extend_loop _,?_⟩
 refine codeAny_extend_loopS (kXr (A:=A.in1) d hl hh hIS) asz L hSf res arr.size 0 _ #[] _ rfl (lJu _) ⟨oth S o (Ne.symm hLS) (up S o d.get),oth _ _ (Ne.symm hIL) hI1⟩ hL3 (ItemsOf.nil _) fun z acc c' hm hL' hacc=> ?_
 rw[Moved.eq_with hm]
 refine hR z.heap z.toks acc c' (fun b ob hb e=>hm.heap b ob ?_ (oth b ob hb (up b ob e))) hL' hacc
 simp only[lJk,lJ2,lKd,not_or]
 exact⟨hb,lJr (lJj e)⟩
theorem kUq {S:Addr} {o:Obj} {arr:Array (Int×Value)} {ep:Nat} {t:SetTable} {es:List (TKey×Addr)} (d:SetD prog w s.heap S o arr ep t es) (hl:t.led= !bt w) (hh:A.handled=none) {Q:List Value->Shared->Prop}
  (hQ:∀(g:Heap) (tk:Nat) (acc:List Value),(∀b ob,s.heap.get? b=some ob->g.get? b=some ob)->s.heap.objs.size<g.objs.size->acc.Perm (es.map fun e=> .ref e.2)->Q acc {s with heap:=g,toks:=tk}):wpAny (model prog w) A (collect (.ref S)) Q E s:=by
 have hLS:s.heap.objs.size≠S:=lK4 (lJj d.get)
 have key:∀R:Result->Shared->Prop,(∀(g:Heap) (tk:Nat) (acc:Array Value) (c':Nat),(∀b ob,s.heap.get? b=some ob->g.get? b=some ob)->g.get? s.heap.objs.size=some {cls:= .type "list",dict:=none,data:= .seq acc c',slots:= #[]}->ItemsOf (fun i v=>((ordS w S ep arr)[i]?).map (·.2)=some v) acc arr.size->R (.ok (.ret (.ref s.heap.objs.size))) {s with heap:=g,toks:=tk})->
   codeAny (model prog w) A (.builtin "proto.collect" ⟨[.ref S],[]⟩) R s:=by
  intro R hR
  refine lXm F.entry_proto_collect ?_
  (rw[lX1 F.plain_proto_collect _])
  refine (show wpAny _ A.in1 (newList [] >>= fun l=>again (.builtin "list.__iadd__" ⟨[l,.ref S],[]⟩)) _ _ s from lJa (lK9 (lJd ⟨plainId_quiet F.plain_list_iadd _,lXm F.entry_list_iadd ?_⟩)))
  (rw[lX1 F.plain_list_iadd _])
  have hS1:(s.heap.push {cls:= .type "list",data:= .seq ([]:List Value).toArray}).get? s.heap.objs.size=some {cls:= .type "list",data:= .seq ([]:List Value).toArray}:=lJ6 _ rfl
  have d1:SetD prog w (s.heap.push {cls:= .type "list",data:= .seq ([]:List Value).toArray}) S o arr ep t es:=d.move (lJm _ d.get) fun b ob e _=>lJm _ e
  exact kXk (A:=A) (R:=R) (s:={s with heap:=s.heap.push {cls:= .type "list",data:= .seq ([]:List Value).toArray} }) d1 hl hh (.ref s.heap.objs.size) 0 hS1 hLS fun g tk acc c' kp hL' hacc=>hR g tk acc c' (fun b ob e=>kp b ob (lJr (lJj e)) (lJm _ e)) hL' hacc
 unfold collect
 refine lJa (wpAny_runValue (key _ fun g tk acc c' kp hL' hacc=>(show wpAny _ A (load s.heap.objs.size >>= _) _ _ _ from lJa (wpAny_load hL' (lJd (hQ g tk acc.toList kp (lJj hL') ?_))))))
 have e1:acc.toList=(ordS w S ep arr).toList.map (·.2):=by
  have hsz:(ordS w S ep arr).size=arr.size:=by rw[<-lKf,(jV4 w S ep arr).length_eq,lKf]
  apply lVo
  intro i
  rw[lKa,lJ5,lJ5]
  by_cases hi:i<acc.size
  ·have:=hacc.2 i acc[i] (lKt hi)
   rw[lKt hi]
   exact this.symm
  ·rw[lQ3 (by omega),lQ3 (by rw[hsz,<-hacc.1];omega)]
   rfl
 rw[e1]
 refine ((jV4 w S ep arr).map _).trans ?_
 rw[d.arr_,lQb]
 exact .refl _
end
end L3
namespace L3
open PySem PySem.Spec PyProof.Rows L2
noncomputable def lexLt {K:Type} [DecidableEq K] (lt:K->K->Option Bool):List K->List K->Option Bool
 | [],[]=>some false
 | [],_::_=>some true
 | _::_,[]=>some false
 | x::xs,y::ys=>if x=y then lexLt lt xs ys else lt x y
def ltI:Key->Key->Option Bool
 | .inl i,.inl j=>some (decide (i<j))
 | _,_=>none
def ltS {K:Type} [DecidableEq K] (lt:K->K->Option Bool):Key ⊕ List K->Key ⊕ List K->Option Bool
 | .inl x,.inl y=>ltI x y
 | .inr x,.inr y=>lexLt lt x y
 | _,_=>none
def ltK:TKey->TKey->Option Bool:=lexLt (ltS (ltS ltI))
section
variable {prog:Program} {w:World} {K:Type} [DecidableEq K] {c:Nat}
def LtV (V:KeyV prog w K c) (lt:K->K->Option Bool):Prop:=∀ {A:Around} {E:Value->Shared->Prop} {s:Shared} {x y:K} {u v:Value} {b:Bool} {Q:Value->Shared->Prop},A.units+c<cLine->V.is s.heap x u->V.is s.heap y v->lt x y=some b->Q (.bool b) s->wpAny (model prog w) A (compareOp .Lt u v) Q E s
theorem kZi:LtV (jXy prog w) ltI:=by
 intro A E s x y u v b Q _ hx hy hl h
 rcases jJr (show jVo x u=true from hx) with ⟨i,t,rfl,rfl⟩ | ⟨i,t,rfl,rfl⟩
 ·rcases jJr (show jVo y v=true from hy) with ⟨j,t',rfl,rfl⟩ | ⟨j,t',rfl,rfl⟩
  ·cases hl
   exact PyProof.Rows.lt_int h
  ·cases hl
 ·cases hl
open PySem.SeqAt in
open PySem.AutoSeq1 (wpAny_loadPart') in
open PySem.MeetsSeq PySem.MeetsSeq2 PySem.MeetsSeq3 in
theorem lt_tup {V:KeyV prog w K c} {lt:K->K->Option Bool} (hV:LtV V lt):LtV (jUc V) (lexLt lt):=by
 rintro A E s x y u v b Q hu ⟨a1,o1,its1,n1,rfl,ho1,hc1,hd1,hi1⟩ ⟨a2,o2,its2,n2,rfl,ho2,hc2,hd2,hi2⟩ hl h
 obtain⟨cls,dd,data,sl⟩:=o1
 obtain⟨cls2,dd2,data2,sl2⟩:=o2
 simp only at hc1 hd1 hc2 hd2
 subst hc1 hd1 hc2 hd2
 have hT1:s.TypeIs (.ref a1) "tuple":=⟨_,ho1,rfl⟩
 have hT2:s.TypeIs (.ref a2) "tuple":=⟨_,ho2,rfl⟩
 refine (show wpAny _ _ (richCompare .Lt (.ref a1) (.ref a2)) _ _ s from wpAny_richCompare_same_room hT1 hT2 PySem.F.slot_tuple_lt (lQo PySem.F.slot_tuple_lt hT1 PySem.F.entry_tuple_lt ?_ (PySem.F.args_tuple_lt_2 _ _)) (by omega))
 have f2:=AutoSeq1.sub_tuple_tuple
 (obtain⟨hp,g,d,tk,os⟩:=s)
 have z1:its1.size=x.length:=by rw[hi1.length];simp
 have z2:its2.size=y.length:=by rw[hi2.length];simp
 wp_walk using wpAny_loadPart' ho1,wpAny_loadPart' ho2,wpAny_forIn_list _ (fun rest bb s'=>bb.1=none/\s'=⟨hp,g,d,tk,os⟩/\∃(vs ws:List Value) (x' y':List K),rest=vs.zip ws/\ItemsV V hp x' vs/\ItemsV V hp y' ws/\x'.length+its2.size=y'.length+its1.size/\lexLt lt x' y'=some b) _
 case turn=>
  rintro⟨p,q⟩ rest bb s' ⟨hb',rfl,vs,ws,x',y',hz,hv1,hv2,hlen,hR⟩
  cases hv1 with
  | nil=>rw[List.zip_nil_left] at hz;cases hz
  | @cons k1 v1 ks1 vs1 h1 hv1'=>
   cases hv2 with
   | nil=>rw[List.zip_nil_right] at hz;cases hz
   | @cons k2 v2 ks2 vs2 h2 hv2'=>
    rw[lVt] at hz
    injection hz with hyx hrest
    injection hyx with hy hx
    subst hy hx
    simp only[lKl] at hlen
    have he:=V.eqAt (A:=A.in1) (s:=⟨hp,g,d,tk,os⟩) (by rw[lQp];omega) h1 h2
    refine lJa (he prog w _ _ ?_)
    by_cases e:k1=k2
    ·have hR':lexLt lt ks1 ks2=some b:=by
      have:=hR
      unfold lexLt at this
      rw[lJc e] at this;exact this
     rw[lJ1 e]
     wp_walk
     exact⟨rfl,rfl,_,_,_,_,hrest,hv1',hv2',by omega,hR'⟩
    ·have hR':lt k1 k2=some b:=by
      have:=hR
      unfold lexLt at this
      rw[lJb e] at this;exact this
     rw[lJq e]
     have hri:∀ {Q':Value->Shared->Prop} {E':Value->Shared->Prop},Q' (.bool b) ⟨hp,g,d,tk,os⟩->wpAny (model prog w) A.in1 (richCompare .Lt p q) Q' E' ⟨hp,g,d,tk,os⟩:=fun hq=>(hV (A:=A.in1) (s:=⟨hp,g,d,tk,os⟩) (by rw[lQp];omega) h1 h2 hR' hq:wpAny (model prog w) A.in1 (compareOp .Lt p q) _ _ _)
     wp_walk using hri
     exact⟨_,rfl,(fun z=>nomatch z),h⟩
 case fin=>
  rintro⟨b1,b2⟩ s' ⟨hb',rfl,vs,ws,x',y',hz,hv1,hv2,hlen,hR⟩
  simp only at hb'
  subst hb'
  have hv:b=decide (its1.size<its2.size):=by
   cases hv1 with
   | nil=>
    cases hv2 with
    | nil=>simp only[lQg] at hlen;cases hR;exact (lJq (by omega)).symm
    | cons _ _=>simp only[lQg,lKl] at hlen;cases hR;exact (lJ1 (by omega)).symm
   | cons _ hv1'=>
    cases hv2 with
    | nil=>simp only[lQg,lKl] at hlen;cases hR;exact (lJq (by omega)).symm
    | cons _ _=>rw[lVt] at hz;cases hz
  wp_walk
  refine⟨_,rfl,(fun z=>nomatch z),?_⟩
  simpa[Builtin.Tuple.tupleCompareSizes,<-hv] using h
 case h=>
  exact⟨rfl,rfl,its1.toList,its2.toList,x,y,rfl,hi1,hi2,by omega,hl⟩
theorem qUf {V:KeyV prog w K c} {lt:K->K->Option Bool} (hV:LtV V lt):LtV (kVx V) (ltS lt):=by
 rintro A E s (x | x) (y | y) u v b Q hu hx hy hl h
 ·exact kZi (by omega) hx hy hl h
 ·cases hl
 ·cases hl
 ·exact lt_tup hV hu hx hy hl h
end
end L3
namespace L3
open PySem PySem.Spec PyProof.Rows L2 PySem.W
section
variable {n:Nat} {lt:Nat->Nat->Bool}
end
structure KOrd {K:Type} (lt:K->K->Option Bool):Prop where
 neg:∀ {a b},a≠b->∀ {c},lt a b=some c->lt b a=some !c
 tr:∀ {a b c},a≠b->b≠c->lt a b=some true->lt b c=some true->lt a c=some true
 ir:∀ {a b},a≠b->lt a b=some true->lt b a=some true->False
theorem kord_I:KOrd ltI:=by
 refine⟨?_,?_,?_⟩
 ·rintro (a | a) (b | b) h c e
  ·have hab:a≠b:=fun z=>h (by rw[z])
   simp only[ltI,lYg] at e ⊢
   rw[<-e]
   by_cases q:a<b
   ·rw[lJ1 q,lJq (by omega)];rfl
   ·rw[lJq q,lJ1 (by omega)];rfl
  ·cases e
  ·cases e
  ·cases e
 ·rintro (a | a) (b | b) (c | c) _ _ e1 e2<;>first | cases e1;done | cases e2;done | skip
  simp only[ltI,lYg,lKx] at e1 e2 ⊢
  omega
 ·rintro (a | a) (b | b) _ e1 e2<;>first | cases e1;done | skip
  simp only[ltI,lYg,lKx] at e1 e2
  omega
section
variable {K:Type} [DecidableEq K] {lt:K->K->Option Bool}
theorem kUc (o:KOrd lt):∀ {a b:List K},a≠b->∀ {c},lexLt lt a b=some c->lexLt lt b a=some !c
 | [],[],h,_,_=>absurd rfl h
 | [],_::_,_,c,e=>by cases e;rfl
 | _::_,[],_,c,e=>by cases e;rfl
 | x::xs,y::ys,h,c,e=>by
  unfold lexLt at e ⊢
  by_cases q:x=y
  ·rw[lJc q] at e;rw[lJc q.symm]
   exact kUc o (fun z=>h (by rw[q,z])) e
  ·rw[lJb q] at e;rw[lJb (fun z=>q z.symm)]
   exact o.neg q e
theorem jU6:∀(a:List K),lexLt lt a a=some false
 | []=>rfl
 | x::xs=>by unfold lexLt;rw[lJc rfl];exact jU6 xs
theorem kVb (o:KOrd lt):∀ {a b c:List K},lexLt lt a b=some true->lexLt lt b c=some true->lexLt lt a c=some true
 | [],[],_,e,_=>by cases e
 | _::_,[],_,e,_=>by cases e
 | [],_::_,[],_,e=>by cases e
 | [],_::_,_::_,_,_=>(rfl)
 | _::_,_::_,[],_,e=>by cases e
 | x::xs,y::ys,z::zs,e1,e2=>by
  unfold lexLt at e1 e2 ⊢
  by_cases q1:x=y
  ·subst q1
   rw[lJc rfl] at e1
   by_cases q2:x=z
   ·rw[lJc q2] at e2 ⊢
    exact kVb o e1 e2
   ·rw[lJb q2] at e2 ⊢
    exact e2
  ·rw[lJb q1] at e1
   by_cases q2:y=z
   ·subst q2
    rw[lJb q1]
    exact e1
   ·rw[lJb q2] at e2
    by_cases q3:x=z
    ·subst q3
     exact (o.ir q1 e1 e2).elim
    ·rw[lJb q3]
     exact o.tr q1 q2 e1 e2
theorem kJ5 (o:KOrd lt):KOrd (lexLt lt):=by
 refine⟨?_,?_,?_⟩
 ·intro a b h c e;exact kUc o h e
 ·intro a b c _ _ e1 e2;exact kVb o e1 e2
 ·intro a b h e1 e2
  have:=kUc o h e1
  rw[e2] at this;cases this
theorem kVc (o:KOrd lt):KOrd (ltS lt):=by
 refine⟨?_,?_,?_⟩
 ·rintro (a | a) (b | b) h c e
  ·exact kord_I.neg (fun z=>h (by rw[z])) e
  ·cases e
  ·cases e
  ·exact (kJ5 o).neg (fun z=>h (by rw[z])) e
 ·rintro (a | a) (b | b) (c | c) h1 h2 e1 e2<;>first | cases e1;done | cases e2;done | skip
  ·exact kord_I.tr (fun z=>h1 (by rw[z])) (fun z=>h2 (by rw[z])) e1 e2
  ·exact kVb o e1 e2
 ·rintro (a | a) (b | b) h e1 e2<;>first | cases e1;done | skip
  ·exact kord_I.ir (fun z=>h (by rw[z])) e1 e2
  ·exact (kJ5 o).ir (fun z=>h (by rw[z])) e1 e2
end
theorem kord:KOrd ltK:=kJ5 (kVc (kVc kord_I))
theorem kUe {a b c:TKey} (h1:ltK a b=some true) (h2:ltK b c=some true):ltK a c=some true:=kVb (kVc (kVc kord_I)) h1 h2
def kK4:TKey->Bool->Prop
 | .inl _::_,b=>b=true
 | .inr _::_,b=>b=false
 | [],_=>False
section
variable {prog:Program} {w:World} {A:Around} {E:Value->Shared->Prop} {s:Shared}
theorem kK3 {Q:Bool->Shared->Prop} {b:Bool} {n1 n2:Nat} {c:Bool} (hu:A.units+6<cLine) (hq:Q c s):∀(i:Nat) (x y:TKey) (vs ws:List Value),ItemsV (vk2 prog w) s.heap x vs->ItemsV (vk2 prog w) s.heap y ws->x.length+n2=y.length+n1->lexLt (ltS (ltS ltI)) x y=some c->((b&&i == 0)=true->(∀k,k∈x->i=0->x.head? =some k->∃z,k= .inl z)/\(∀k,k∈y->i=0->y.head? =some k->∃z,k= .inl z))->
  KatLex prog w A b (decide (n1<n2)) Q (vs.zip ws) i s
 | i,_,_,_,_,.nil,.nil,hn,hl,_=>by
  simp only[lQg] at hn
  cases hl
  refine kat_nil ?_
  rw[lJq (by omega)];exact hq
 | i,_,_,_,_,.nil,.cons _ _,hn,hl,_=>by
  simp only[lQg,lKl] at hn
  cases hl
  refine kat_nil ?_
  rw[lJ1 (by omega)];exact hq
 | i,_,_,_,_,.cons _ _,.nil,hn,hl,_=>by
  simp only[lQg,lKl] at hn
  cases hl
  refine kat_nil ?_
  rw[lJq (by omega)];exact hq
 | i,_,_,_,_,@ItemsV.cons _ _ _ _ _ _ _ k1 v1 ks1 vs1 h1 t1,@ItemsV.cons _ _ _ _ _ _ _ k2 v2 ks2 vs2 h2 t2,hn,hl,hb=>by
  simp only[lKl] at hn
  rw[lVt]
  refine kat_cons (((vk2 prog w).eqAt (by omega) h1 h2) prog w _ _ ?_)
  unfold lexLt at hl
  by_cases e:k1=k2
  ·rw[lJc e] at hl
   rw[lJ1 e]
   refine kat_yes (kK3 hu hq (i+1) _ _ _ _ t1 t2 (by omega) hl fun z=> ?_)
   simp at z
  ·rw[lJb e] at hl
   rw[lJq e]
   refine kat_no ?_
   cases q:(b&&i == 0) with
   | false=>exact kat_one _ _ (qUf (qUf kZi) (by omega) h1 h2 hl hq)
   | true=>
    have hi:i=0:=by simp at q;exact q.2
    obtain⟨z1,z2⟩:=hb q
    obtain⟨a,rfl⟩:=z1 k1 (lJx ..) hi rfl
    obtain⟨a',rfl⟩:=z2 k2 (lJx ..) hi rfl
    rcases jJr (show jVo a v1=true from h1) with ⟨p,t,rfl,rfl⟩ | ⟨p,t,rfl,rfl⟩
    ·rcases jJr (show jVo a' v2=true from h2) with ⟨p',t',rfl,rfl⟩ | ⟨p',t',rfl,rfl⟩
     ·cases hl
      exact oneLt_int hq
     ·cases hl
    ·cases hl
theorem ask_ok {b:Bool} {x y:TKey} {a1 a2:Addr} {c:Bool} {Q:Bool->Shared->Prop} (hu:A.units+6<cLine) (h1:(jJg prog w).is s.heap x a1) (h2:(jJg prog w).is s.heap y a2) (hl:ltK x y=some c) (hx:kK4 x b) (hy:kK4 y b) (hq:Q c s):wpAny (model prog w) A (keyLt' (tuples' b) (.ref a1) (.ref a2)) Q E s:=by
 obtain⟨p1,o1,its1,n1,e1,ho1,hc1,hd1,hi1⟩:=(show jZi _ _ _ _ from h1)
 obtain⟨p2,o2,its2,n2,e2,ho2,hc2,hd2,hi2⟩:=(show jZi _ _ _ _ from h2)
 cases e1;cases e2
 refine kat_lt ho1 hd1 ho2 hd2 (kK3 hu hq 0 x y _ _ hi1 hi2 ?_ hl fun z=> ?_)
 ·have l1:=hi1.length
  have l2:=hi2.length
  simp at l1 l2
  omega
 ·have hb:b=true:=by simpa using z
  subst hb
  refine⟨fun k _ _ hk=> ?_,fun k _ _ hk=> ?_⟩
  ·match x,hx,hk with
   | .inl u::_,_,e=>cases e;exact⟨u,rfl⟩
  ·match y,hy,hk with
   | .inl u::_,_,e=>cases e;exact⟨u,rfl⟩
def tyOf (b:Bool):Value:=if b=true then .type "int" else .type "tuple"
theorem kK0 {b:Bool}:∀(es:List (TKey×Addr)),(∀e,e∈es->(jJg prog w).is s.heap e.1 e.2/\kK4 e.1 b/\intT e.1=true)->∃fs,KatTups s.heap (es.map fun e=> .ref e.2) fs/\fs.length=es.length/\∀v,v∈fs->Looks (model prog w) s.heap (typeOf v) (tyOf b)
 | [],_=>⟨[],.nil,rfl,fun v hv=>absurd hv (lJ2)⟩
 | (k,a)::es,h=>by
  obtain⟨fs,t,l,hf⟩:=kK0 es fun e he=>h e (lJz _ he)
  obtain⟨h1,h2,h3⟩:=h (k,a) (lJx ..)
  obtain⟨p1,o1,its1,n1,e1,ho1,hc1,hd1,hi1⟩:=(show jZi _ _ _ _ from h1)
  cases e1
  match k,h2,h3,hi1 with
  | .inl u::ks,hb,h3,hi=>
   cases (show b=true from hb)
   generalize hits:its1.toList=its at hi
   cases hi with
   | @cons _ v _ vs hv ht=>
    refine⟨v::fs,.cons ho1 hc1 hd1 (by rw[<-lJ5,hits];rfl) t,by simp[l],fun x hx=> ?_⟩
    (rcases lJk.mp hx with rfl | hx)
    ·rcases jJr (show jVo u x=true from hv) with ⟨i,tk,_,rfl⟩ | ⟨i,tk,rfl,rfl⟩
     ·exact Looks.of_pure rfl
     ·simp[intT,intS,intK] at h3
    ·exact hf x hx
  | .inr u::ks,hb,h3,hi=>
   cases (show b=false from hb)
   generalize hits:its1.toList=its at hi
   cases hi with
   | @cons _ v _ vs hv ht=>
    obtain⟨p2,o2,its2,n2,e2,ho2,hc2,hd2,hi2⟩:=(show jZi _ _ u v from hv)
    subst e2
    refine⟨.ref p2::fs,.cons ho1 hc1 hd1 (by rw[<-lJ5,hits];rfl) t,by simp[l],fun x hx=> ?_⟩
    (rcases lJk.mp hx with rfl | hx)
    ·have:=(Looks.ld (M:=model prog w) (part:=none) ho2).andThen (f:=fun o=>pure o.cls) .now
     rw[hc2] at this
     exact this
    ·exact hf x hx
theorem qVv {b:Bool} {es:List (TKey×Addr)} (h:∀e,e∈es->(jJg prog w).is s.heap e.1 e.2/\kK4 e.1 b/\intT e.1=true) (hne:0<es.length) {Q:SortKind->Shared->Prop} (hq:Q (tuples' b) s):wpAny (model prog w) A (keyKind' (List.toArray (es.map fun e=>Value.ref e.2))) Q E s:=by
 obtain⟨fs,t,l,hf⟩:=kK0 es h
 refine kat_kind (T:=tyOf b) t (by omega) hf (by cases b<;>decide) ?_
 rw[show (tyOf b != Value.type "tuple")=b by cases b<;>decide]
 exact hq
end
theorem jY0 {α β:Type} {f:α->β} {l l':List β} (h:l.Perm l'):∀es:List α,l'=es.map f->∃es':List α,es'.Perm es/\l=es'.map f:=by
 induction h with
 | nil=>intro es e;cases es with | nil=>exact⟨[],.refl _,rfl⟩ | cons _ _=>cases e
 | cons x _ ih=>
  intro es e
  cases es with
  | nil=>cases e
  | cons a es=>
   rw[lJn,lVy] at e
   obtain⟨es',h1,h2⟩:=ih es e.2
   exact⟨a::es',h1.cons a,by rw[lJn,e.1,h2]⟩
 | swap x y l=>
  intro es e
  match es,e with
  | a::b::es,e=>
   rw[lJn,lJn,lVy,lVy] at e
   exact⟨b::a::es,.swap _ _ _,by rw[lJn,lJn,e.1,e.2.1,e.2.2]⟩
 | trans _ _ ih1 ih2=>
  intro es e
  obtain⟨es',h1,h2⟩:=ih2 es e
  obtain⟨es'',h3,h4⟩:=ih1 es' h2
  exact⟨es'',h3.trans h1,h4⟩
section
variable {prog:Program} {w:World} {A:Around} {E:Value->Shared->Prop} {s:Shared}
end
theorem jY5 {x y:T} {k:Key} (h1:jQ6 x=some k) (h2:jQ6 y=some k):x=y:=by
 cases x<;>cases h1<;>(cases y<;>cases h2;rfl)
theorem jYk {κ:Type} {f:T->Option κ} (hf:∀x y k,f x=some k->f y=some k->x=y):∀ {xs ys:List T} {ks:List κ},allK f xs=some ks->allK f ys=some ks->xs=ys
 | [],[],_,_,_=>rfl
 | [],y::ys,_,h1,h2=>by
  cases h1
  unfold allK at h2
  cases e1:f y<;>cases e2:allK f ys<;>rw[e1,e2] at h2<;>cases h2
 | x::xs,[],_,h1,h2=>by
  cases h2
  unfold allK at h1
  cases e1:f x<;>cases e2:allK f xs<;>rw[e1,e2] at h1<;>cases h1
 | x::xs,y::ys,ks,h1,h2=>by
  unfold allK at h1 h2
  cases e1:f x with
  | none=>rw[e1] at h1;cases h1
  | some k1=>
   cases e2:allK f xs with
   | none=>rw[e1,e2] at h1;cases h1
   | some k2=>
    rw[e1,e2] at h1;cases h1
    cases e3:f y with
    | none=>rw[e3] at h2;cases h2
    | some k3=>
     cases e4:allK f ys with
     | none=>rw[e3,e4] at h2;cases h2
     | some k4=>
      rw[e3,e4] at h2;cases h2
      rw[hf _ _ _ e1 e3,jYk hf e2 e4]
theorem qQa (x y:T) (k:K1) (h1:key1 x=some k) (h2:key1 y=some k):x=y:=by
 cases k with
 | inl k=>
  have f:∀z:T,key1 z=some (.inl k)->jQ6 z=some k:=by
   intro z hz
   cases z with
   | tup ts=>
    obtain⟨_,_,e⟩:=lQh.mp (show (allK jQ6 ts).map Sum.inr=some (Sum.inl k) from hz)
    cases e
   | int i=>cases hz;rfl
   | str i=>cases hz;rfl
   | _=>cases hz
  exact jY5 (f x h1) (f y h2)
 | inr ks=>
  have f:∀z:T,key1 z=some (.inr ks)->∃ts,z= .tup ts/\allK jQ6 ts=some ks:=by
   intro z hz
   cases z with
   | tup ts=>
    obtain⟨k',h,e⟩:=lQh.mp (show (allK jQ6 ts).map Sum.inr=some (Sum.inr ks) from hz)
    cases e
    exact⟨ts,rfl,h⟩
   | _=>cases hz
  obtain⟨t1,rfl,e1⟩:=f x h1
  obtain⟨t2,rfl,e2⟩:=f y h2
  rw[jYk (fun _ _ _=>jY5) e1 e2]
theorem qK8 (x y:T) (k:K2) (h1:key2 x=some k) (h2:key2 y=some k):x=y:=by
 cases k with
 | inl k=>
  have f:∀z:T,key2 z=some (.inl k)->jQ6 z=some k:=by
   intro z hz
   cases z with
   | tup ts=>
    obtain⟨_,_,e⟩:=lQh.mp (show (allK key1 ts).map Sum.inr=some (Sum.inl k) from hz)
    cases e
   | int i=>cases hz;rfl
   | str i=>cases hz;rfl
   | _=>cases hz
  exact jY5 (f x h1) (f y h2)
 | inr ks=>
  have f:∀z:T,key2 z=some (.inr ks)->∃ts,z= .tup ts/\allK key1 ts=some ks:=by
   intro z hz
   cases z with
   | tup ts=>
    obtain⟨k',h,e⟩:=lQh.mp (show (allK key1 ts).map Sum.inr=some (Sum.inr ks) from hz)
    cases e
    exact⟨ts,rfl,h⟩
   | _=>cases hz
  obtain⟨t1,rfl,e1⟩:=f x h1
  obtain⟨t2,rfl,e2⟩:=f y h2
  rw[jYk qQa e1 e2]
theorem jZ1 {xs ys:List T} {k:TKey} (h1:jQn xs=some k) (h2:jQn ys=some k):xs=ys:=jYk qK8 h1 h2
def SKey (b:Bool) (ts:List T) (k:TKey):Prop:=jQn ts=some k/\kK4 k b/\intT k=true
theorem kXx {K:PySem.W.Frag} {H:Hp} {b:Bool}:∀ {tks:List (List T×TKey)} {vs:List V} {its:List Value},(∀e,e∈tks->SKey b e.1 e.2)->Reps K H (tks.map fun e=> .tup e.1) vs->Vals vs its->
  ∃tb:List ((List T×TKey)×Addr),tb.map (·.1)=tks/\vs=tb.map (fun e=> .ref e.2)/\its=tb.map (fun e=>Value.ref e.2)/\∀e,e∈tb->TKeyAt H e.1.2 e.2/\Rep K H (.tup e.1.1) (.ref e.2)
 | [],_,_,_,r,v=>by
  cases (show _=[] from r)
  cases v
  exact⟨[],rfl,rfl,rfl,fun e he=>absurd he (lJ2)⟩
 | (ts,k)::tks,_,its,hk,⟨v,ws,e,r1,r2⟩,vv=>by
  subst e
  cases vv with
  | @cons _ u _ us hr hrs=>
  obtain⟨tb,h1,h2,h3,h4⟩:=kXx (fun e he=>hk e (lJz _ he)) r2 hrs
  obtain⟨a,vs',e,ha,hrep⟩:=(show ∃a vs',v= .ref a/\H a=some (.tup vs')/\Reps K H ts vs' from r1)
  subst e
  cases (show u=Value.ref a from hr)
  refine⟨((ts,k),a)::tb,by rw[lJn,h1],by rw[lJn,h2],by rw[lJn,h3],fun e he=> ?_⟩
  (rcases lJk.mp he with rfl | he)
  ·exact⟨jU7 (hk _ (lJx ..)).1 ha hrep,r1⟩
  ·exact h4 e he
theorem kYz {tb:List ((List T×TKey)×Addr)}:∀(es:List (TKey×Addr)),(∀e,e∈es->e∈tb.map fun x=>(x.1.2,x.2))->∃tb':List ((List T×TKey)×Addr),tb'.map (fun x=>(x.1.2,x.2))=es/\∀e,e∈tb'->e∈tb
 | [],_=>⟨[],rfl,fun e he=>absurd he (lJ2)⟩
 | e::es,h=>by
  obtain⟨tb',h1,h2⟩:=kYz es fun x hx=>h x (lJz _ hx)
  obtain⟨x,hx,ex⟩:=lJl.mp (h e (lJx ..))
  refine⟨x::tb',by rw[lJn,h1,ex],fun y hy=> ?_⟩
  (rcases lJk.mp hy with rfl | hy)
  ·exact hx
  ·exact h2 y hy
theorem kYg {K:PySem.W.Frag} {H:Hp}:∀(tb:List ((List T×TKey)×Addr)),(∀e,e∈tb->Rep K H (.tup e.1.1) (.ref e.2))->Reps K H (tb.map fun e=> .tup e.1.1) (tb.map fun e=>V.ref e.2)
 | [],_=>rfl
 | e::tb,h=>⟨_,_,rfl,h e (lJx ..),kYg tb fun x hx=>h x (lJz _ hx)⟩
theorem jZq:∀(bs:List ((List T×TKey)×Addr)),Vals (bs.map fun e=>V.ref e.2) (bs.map fun e=>Value.ref e.2)
 | []=> .nil
 | e::bs=> .cons rfl (jZq bs)
section
variable {X:Cx}
structure Rising (xs ys:List T) (kys:List (List T×TKey)):Prop where
 eq:ys=kys.map fun e=> .tup e.1
 keys:∀e,e∈kys->jQn e.1=some e.2
 mem:∀t,t∈ys↔t∈xs
 up:kys.Pairwise fun x y=>ltK x.2 y.2=some true
end
end L3
namespace L3
open PySem PySem.Spec PyProof.Rows L2
section
variable {X:Cx}
noncomputable def kYt:T->List T->Gp->VK3->Prop:=fun x as G Q=>∃p q xs ys,x= .ref p/\as=[.ref q]/\G p=some (.lst xs)/\G q=some (.lst ys)/\xs.length+ys.length<=sizeLine/\Q .non (gup G p (.lst (xs++ys)))
theorem qK3:Mt3 X "list.extend" kYt:=by
 rintro pins s τ G H x as v us Q ⟨σ,I,hs,hg⟩ ⟨a,ra,rv⟩ ⟨bs,rbs,rus⟩ ⟨p,q,xs,ys,ex,ea,hp,hq,hz,k⟩
 subst ex;subst ea
 cases (show a= .ref p from ra);cases rv
 obtain⟨b1,rfl,r1⟩:=jVx rbs
 cases (show b1= .ref q from r1)
 obtain⟨u1,rfl,ru1⟩:=rus.one
 cases ru1
 obtain⟨vs,h1,h2⟩:=hg.lst hp
 obtain⟨ws,h3,h4⟩:=hg.lst hq
 obtain⟨z,its,n,r,hl,e⟩:=I.lstM h1
 obtain⟨z',its',n',r',hl',e'⟩:=I.lstM h3
 have hlen:=h2.length
 have hlen':=h4.length
 have q1:=r.length
 have q2:=r'.length
 have hc:¬(!its.toArray.isEmpty&&Builtin.List.listTooLong (its.toArray.size+its'.toArray.size))=true:=by
  have:Builtin.List.listTooLong (its.toArray.size+its'.toArray.size)=false:=by
   unfold Builtin.List.listTooLong
   (rw[lJv,lJv])
   exact lJq (by omega)
  rw[this,Bool.and_false];exact lJp
 refine call_meets F.slot_list_extend ⟨_,e,rfl⟩ F.entry_list_extend (F.args_list_extend_2 _ _) (AutoSeq1.list_extend_list_list_0 p its.toArray n q its'.toArray n' hc (by rw[lJv];omega) (by rw[lJv,lJv];omega)) ⟨e,e',?_⟩
 have e2:Ext H (upd H p (.lst (vs++ws))):= .upd (.lst h1)
 refine⟨.non,_,_,e2,⟨σ,I.lset (its':=its++its') h1 e ?_ (r.append r') ?_,hs.mono e2,hg.lstNew (xs:=xs++ys) (h2.append h4) (.lst h1)⟩,⟨.non,rfl,rfl⟩,k⟩
 ·simp
 ·rw[lKk];omega
end
end L3
namespace L3
open PySem PyProof.Rows
def qXa:Bool->Keyed->Array Keyed->Nat->Nat->Nat->StateT SortSt Sem (Option Nat):=sortPriv%PySem.Builtin.gallop
def qK1:Array Keyed->Array Keyed->StateT SortSt Sem (Array Keyed):=sortPriv%PySem.Builtin.mergeLo
def qK2:Array Keyed->Array Keyed->StateT SortSt Sem (Array Keyed):=sortPriv%PySem.Builtin.mergeHi
section
variable {A:Around} {E:Value->Shared->Prop} {s:Shared} {M:Model}
structure Asks (M:Model) (A:Around) (s:Shared) (κ:SortKind) (mem:Keyed->Prop) (le:Keyed->Keyed->Prop) [∀x y,Decidable (le x y)]:Prop where
 ask:∀x y,mem x->mem y->∀(E:Value->Shared->Prop) (Q:Bool->Shared->Prop),Q (!decide (le y x)) s->wpAny M A (keyLt' κ x.1 y.1) Q E s
 tot:∀x y,mem x->mem y->le x y\/le y x
 tr:∀x y z,mem x->mem y->mem z->le x y->le y z->le x z
variable {κ:SortKind} {mem:Keyed->Prop} {le:Keyed->Keyed->Prop} [∀x y,Decidable (le x y)]
theorem kZh (H:Asks M A s κ mem le) {x y:Keyed} (hx:mem x) (hy:mem y) {st:SortSt} (hk:kindOf st=κ) {Q:Option Bool->SortSt->Prop} (h:Q (some (!decide (le y x))) st):wpS M A E s (lt' x y) Q st:=by
 rw[lt'_eq]
 refine lJe (lQa ?_)
 rw[hk]
 refine lJe (wpS_lift (wpAny_attempt (H.ask x y hx hy _ _ ?_)))
 exact⟨rfl,lJf h⟩
theorem jJ5 {arr:Array Keyed} {i:Nat} {x:Keyed} {st:SortSt} {Q:Keyed->SortSt->Prop} (hi:arr[i]? =some x) (h:Q x st):wpS M A E s (elem' arr i) Q st:=by
 rw[elem'_eq,hi];exact lJf h
def bey (le:Keyed->Keyed->Prop) [∀x y,Decidable (le x y)] (left:Bool) (key x:Keyed):Bool:=if left=true then !decide (le key x) else decide (le x key)
theorem qJn (H:Asks M A s κ mem le) {left:Bool} {key x:Keyed} {arr:Array Keyed} {b:Nat} {st:SortSt} {Q:Option Bool->SortSt->Prop} (hk:kindOf st=κ) (hkey:mem key) (hx:arr[b]? =some x) (hm:mem x) (h:Q (some (bey le left key x)) st):
  wpS M A E s (do let y <-elem' arr b;if left=true then lt' y key else do let r <-lt' key y;pure (r.map fun z=> !z)) Q st:=by
 refine lJe (jJ5 hx ?_)
 cases left with
 | true=>rw[lJc rfl];exact kZh H hm hkey hk h
 | false=>
  rw[lJb (by decide)]
  refine lJe (kZh H hkey hm hk (lJf ?_))
  simpa[bey] using h
theorem jQ8 {left:Bool} {key:Keyed} {arr:Array Keyed} {base n hint:Nat} {st:SortSt} {Q:Option Nat->SortSt->Prop} (H:Asks M A s κ mem le) (hk:kindOf st=κ) (hkey:mem key) {f:Nat->Keyed} (hf:∀i,i<n->arr[base+i]? =some (f i)) (hm:∀i,i<n->mem (f i)) (hs:∀i j,i<=j->j<n->le (f i) (f j)) (hh:hint<n)
  (h:∀k,k<=n->(∀i,i<k->bey le left key (f i)=true)->(∀i,k<=i->i<n->bey le left key (f i)=false)->Q (some k) st):
  wpS M A E s (qXa left key arr base n hint) Q st:=by
 have ask:∀(i:Nat) {Q:Option Bool->SortSt->Prop},i<n->Q (some (bey le left key (f i))) st->wpS M A E s (do let y <-elem' arr (base+i);if left=true then lt' y key else do let r <-lt' key y;pure (r.map fun z=> !z)) Q st:=fun i {Q} hi q=>qJn H hk hkey (hf i hi) (hm i hi) q
 have mono:∀i j,i<=j->j<n->bey le left key (f j)=true->bey le left key (f i)=true:=by
  intro i j hij hj hb
  unfold bey at hb ⊢
  cases left with
  | true=>
   rw[lJc rfl] at hb ⊢
   simp only[lYh,lV5] at hb ⊢
   exact fun z=>hb (H.tr _ _ _ hkey (hm i (by omega)) (hm j hj) z (hs i j hij hj))
  | false=>
   rw[lJb (by decide)] at hb ⊢
   rw[lKx] at hb ⊢
   exact H.tr _ _ _ (hm i (by omega)) (hm j hj) hkey (hs i j hij hj) hb
 refine lJe (ask hint hh ?_)
 cases hbh:bey le left key (f hint) with
 | true=>
  dsimp only
  rw[lJc rfl]
  refine lJe (lKh (lKi (I:=fun i (c:Option (Option Nat)×Nat×Nat) st'=>st=st'/\c.1=none/\c.2.1<c.2.2/\i+1<=c.2.2/\hint+c.2.1<n/\bey le left key (f (hint+c.2.1))=true)
   (Q:=fun (c:Option (Option Nat)×Nat×Nat) st'=>st=st'/\c.1=none/\c.2.1<c.2.2/\hint+c.2.1<n/\bey le left key (f (hint+c.2.1))=true/\(c.2.2<n-hint->bey le left key (f (hint+c.2.2))=false)) ?_ ?_ ⟨rfl,rfl,by decide,by decide,hh,hbh⟩) ?_)
  ·rintro x ⟨r,la,of⟩ st' _ hx ⟨rfl,rfl,i1,i2,i3,i4⟩
   dsimp only at i1 i2 i3 i4 ⊢
   by_cases c:of>=n-hint
   ·rw[lJc c]
    exact wpS_pure ⟨rfl,rfl,i1,i3,i4,fun z=>absurd c (by dsimp only at z;omega)⟩
   ·rw[lJb c]
    refine lJe (ask _ (by omega) ?_)
    cases hbo:bey le left key (f (hint+of)) with
    | false=>
     dsimp only
     (rw[lJc (show (!false)=true from rfl)])
     exact lJf ⟨rfl,rfl,i1,i3,i4,fun _=>hbo⟩
    | true=>
     dsimp only
     rw[lJb (by decide)]
     exact wpS_pure ⟨rfl,rfl,by dsimp only;omega,by dsimp only;omega,by dsimp only;omega,hbo⟩
  ·rintro⟨r,la,of⟩ st' ⟨rfl,rfl,i1,i2,i3,i4⟩
   dsimp only at i1 i2 i3 i4 ⊢
   exact⟨rfl,rfl,i1,i3,i4,fun z=>absurd z (by omega)⟩
  ·rintro⟨r,la,of⟩ st' ⟨rfl,rfl,i1,i3,i4,i5⟩
   dsimp only at i1 i3 i4 i5 ⊢
   have PL:∀i,i<hint+la+1->bey le left key (f i)=true:=fun i hi=>mono i _ (by omega) i3 i4
   have PH:∀i,hint+min of (n-hint)<=i->i<n->bey le left key (f i)=false:=fun i hi hin=>by
    have hon:=i5 (by omega)
    cases hbi:bey le left key (f i) with
    | false=>rfl
    | true=>rw[mono (hint+of) i (by omega) hin hbi] at hon;cases hon
   have LO:hint+la+1<=hint+min of (n-hint):=by omega
   have HI:hint+min of (n-hint)<=n:=by omega
   refine lJe (lKh (lKi (I:=fun i (c:Option (Option Nat)×Nat×Nat) st'=>st=st'/\c.1=none/\c.2.1<=c.2.2/\c.2.2<=n/\c.2.2-c.2.1<=n-i/\(∀i,i<c.2.1->bey le left key (f i)=true)/\(∀i,c.2.2<=i->i<n->bey le left key (f i)=false))
    (Q:=fun (c:Option (Option Nat)×Nat×Nat) st'=>st=st'/\c.1=none/\c.2.2<=n/\(∀i,i<c.2.2->bey le left key (f i)=true)/\(∀i,c.2.2<=i->i<n->bey le left key (f i)=false)) ?_ ?_ ⟨rfl,rfl,LO,HI,by dsimp only;omega,PL,PH⟩) ?_)
   ·rintro x ⟨r,lo,hi⟩ st' _ hx ⟨rfl,rfl,i1,i2,i3,i4,i5⟩
    dsimp only at i1 i2 i3 i4 i5 ⊢
    by_cases c:lo>=hi
    ·rw[lJc c]
     exact wpS_pure ⟨rfl,rfl,i2,fun i hi'=>i4 i (by dsimp only at hi';omega),i5⟩
    ·rw[lJb c]
     have hmm:lo+(hi-lo) / 2<hi:=by omega
     refine lJe (ask _ (by omega) ?_)
     cases hbm:bey le left key (f (lo+(hi-lo) / 2)) with
     | true=>
      dsimp only
      rw[lJc rfl]
      exact wpS_pure ⟨rfl,rfl,by dsimp only;omega,i2,by dsimp only;omega,fun i hi'=>mono i _ (by dsimp only at hi';omega) (by omega) hbm,i5⟩
     | false=>
      dsimp only
      rw[lJb (by decide)]
      refine wpS_pure ⟨rfl,rfl,by dsimp only;omega,by dsimp only;omega,by dsimp only;omega,i4,fun i hi' hin=> ?_⟩
      dsimp only at hi'
      cases hbi:bey le left key (f i) with
      | false=>rfl
      | true=>rw[mono _ i hi' hin hbi] at hbm;cases hbm
   ·rintro⟨r,lo,hi⟩ st' ⟨rfl,rfl,i1,i2,i3,i4,i5⟩
    dsimp only at i1 i2 i3 i4 i5 ⊢
    exact⟨rfl,rfl,i2,fun i hi'=>i4 i (by omega),i5⟩
   ·rintro⟨r,lo,hi⟩ st' ⟨rfl,rfl,i1,i2,i3⟩
    dsimp only at i1 i2 i3 ⊢
    exact lJf (h hi i1 i2 i3)
 | false=>
  dsimp only
  rw[lJb (by decide)]
  refine lJe (lKh (lKi (I:=fun i (c:Option (Option Nat)×Nat×Nat) st'=>st=st'/\c.1=none/\c.2.1<c.2.2/\i+1<=c.2.2/\c.2.1<=hint/\bey le left key (f (hint-c.2.1))=false)
   (Q:=fun (c:Option (Option Nat)×Nat×Nat) st'=>st=st'/\c.1=none/\c.2.1<c.2.2/\c.2.1<=hint/\bey le left key (f (hint-c.2.1))=false/\(c.2.2<hint+1->bey le left key (f (hint-c.2.2))=true)) ?_ ?_ ⟨rfl,rfl,by decide,by decide,lJu _,hbh⟩) ?_)
  ·rintro x ⟨r,la,of⟩ st' _ hx ⟨rfl,rfl,i1,i2,i3,i4⟩
   dsimp only at i1 i2 i3 i4 ⊢
   by_cases c:of>=hint+1
   ·rw[lJc c]
    exact wpS_pure ⟨rfl,rfl,i1,i3,i4,fun z=>absurd c (by dsimp only at z;omega)⟩
   ·rw[lJb c]
    refine lJe (ask _ (by omega) ?_)
    cases hbo:bey le left key (f (hint-of)) with
    | true=>
     dsimp only
     rw[lJc rfl]
     exact lJf ⟨rfl,rfl,i1,i3,i4,fun _=>hbo⟩
    | false=>
     dsimp only
     rw[lJb (by decide)]
     exact wpS_pure ⟨rfl,rfl,by dsimp only;omega,by dsimp only;omega,by dsimp only;omega,hbo⟩
  ·rintro⟨r,la,of⟩ st' ⟨rfl,rfl,i1,i2,i3,i4⟩
   dsimp only at i1 i2 i3 i4 ⊢
   exact⟨rfl,rfl,i1,i3,i4,fun z=>absurd z (by omega)⟩
  ·rintro⟨r,la,of⟩ st' ⟨rfl,rfl,i1,i3,i4,i5⟩
   dsimp only at i1 i3 i4 i5 ⊢
   have PL:∀i,i<hint+1-min of (hint+1)->bey le left key (f i)=true:=fun i hi=>mono i (hint-of) (by omega) (by omega) (i5 (by omega))
   have PH:∀i,hint-la<=i->i<n->bey le left key (f i)=false:=fun i hi hin=>by
    cases hbi:bey le left key (f i) with
    | false=>rfl
    | true=>rw[mono (hint-la) i hi hin hbi] at i4;cases i4
   have LO:hint+1-min of (hint+1)<=hint-la:=by omega
   have HI:hint-la<=n:=by omega
   refine lJe (lKh (lKi (I:=fun i (c:Option (Option Nat)×Nat×Nat) st'=>st=st'/\c.1=none/\c.2.1<=c.2.2/\c.2.2<=n/\c.2.2-c.2.1<=n-i/\(∀i,i<c.2.1->bey le left key (f i)=true)/\(∀i,c.2.2<=i->i<n->bey le left key (f i)=false))
    (Q:=fun (c:Option (Option Nat)×Nat×Nat) st'=>st=st'/\c.1=none/\c.2.2<=n/\(∀i,i<c.2.2->bey le left key (f i)=true)/\(∀i,c.2.2<=i->i<n->bey le left key (f i)=false)) ?_ ?_ ⟨rfl,rfl,LO,HI,by dsimp only;omega,PL,PH⟩) ?_)
   ·rintro x ⟨r,lo,hi⟩ st' _ hx ⟨rfl,rfl,i1,i2,i3,i4,i5⟩
    dsimp only at i1 i2 i3 i4 i5 ⊢
    by_cases c:lo>=hi
    ·rw[lJc c]
     exact wpS_pure ⟨rfl,rfl,i2,fun i hi'=>i4 i (by dsimp only at hi';omega),i5⟩
    ·rw[lJb c]
     have hmm:lo+(hi-lo) / 2<hi:=by omega
     refine lJe (ask _ (by omega) ?_)
     cases hbm:bey le left key (f (lo+(hi-lo) / 2)) with
     | true=>
      dsimp only
      rw[lJc rfl]
      exact wpS_pure ⟨rfl,rfl,by dsimp only;omega,i2,by dsimp only;omega,fun i hi'=>mono i _ (by dsimp only at hi';omega) (by omega) hbm,i5⟩
     | false=>
      dsimp only
      rw[lJb (by decide)]
      refine wpS_pure ⟨rfl,rfl,by dsimp only;omega,by dsimp only;omega,by dsimp only;omega,i4,fun i hi' hin=> ?_⟩
      dsimp only at hi'
      cases hbi:bey le left key (f i) with
      | false=>rfl
      | true=>rw[mono _ i hi' hin hbi] at hbm;cases hbm
   ·rintro⟨r,lo,hi⟩ st' ⟨rfl,rfl,i1,i2,i3,i4,i5⟩
    dsimp only at i1 i2 i3 i4 i5 ⊢
    exact⟨rfl,rfl,i2,fun i hi'=>i4 i (by omega),i5⟩
   ·rintro⟨r,lo,hi⟩ st' ⟨rfl,rfl,i1,i2,i3⟩
    dsimp only at i1 i2 i3 ⊢
    exact lJf (h hi i1 i2 i3)
end
section
variable {le:Keyed->Keyed->Prop} {a b out:Array Keyed} {ia ib k:Nat}
def Fin2 (le:Keyed->Keyed->Prop) (a b r:Array Keyed):Prop:=r.toList.Perm (a.toList++b.toList)/\r.toList.Pairwise le
structure Lw (le:Keyed->Keyed->Prop) (a b out:Array Keyed) (ia ib:Nat):Prop where
 perm:(out.toList++(a.toList.drop ia++b.toList.drop ib)).Perm (a.toList++b.toList)
 srt:out.toList.Pairwise le
 up:∀x,x∈out.toList->∀y,y∈a.toList.drop ia++b.toList.drop ib->le x y
theorem Lw.size (h:Lw le a b out ia ib):out.size+((a.size-ia)+(b.size-ib))=a.size+b.size:=by
 have:=h.perm.length_eq
 simpa using this
theorem jU8 {arr:Array Keyed} {i j:Nat}:(arr.extract i j).toList=(arr.toList.drop i).take (j-i):=by simp[List.extract]
theorem qUo (h:k<=a.size):(a.extract ia (ia+k)).toList=(a.toList.drop ia).take k:=by rw[jU8];congr 1;omega
theorem kKf:(a.extract ia).toList=a.toList.drop ia:=by
 rw[jU8]
 (exact lQi (by simp))
theorem Lw.takeA (h:Lw le a b out ia ib) (sa:a.toList.Pairwise le) {o:Array Keyed} (ho:o.toList=out.toList++(a.toList.drop ia).take k) (hx:∀x,x∈(a.toList.drop ia).take k->∀y,y∈b.toList.drop ib->le x y):Lw le a b o (ia+k) ib:=by
 have e:a.toList.drop ia=(a.toList.drop ia).take k++a.toList.drop (ia+k):=by rw[<-List.drop_drop];exact (lK3 k _).symm
 have sd:(a.toList.drop ia).Pairwise le:=sa.sublist (lQ5 ..)
 have up:=h.up
 have perm:=h.perm
 rw[e] at sd up perm
 obtain⟨s1,s2,s3⟩:=lKb.mp sd
 refine⟨?_,?_,?_⟩
 ·rw[ho,lJs,<-lJs _ _ (b.toList.drop ib)];exact perm
 ·rw[ho]
  exact lKb.mpr ⟨h.srt,s1,fun x hx' y hy=>up x hx' y (lJ8 _ (lJ8 _ hy))⟩
 ·intro x hx' y hy
  rw[ho] at hx'
  rcases (lJt.mp hx') with z | z
  ·refine up x z y ?_
   rcases (lJt.mp hy) with w | w
   ·exact lJ8 _ (lJ0 _ w)
   ·exact lJ0 _ w
  ·rcases (lJt.mp hy) with w | w
   ·exact s3 x z y w
   ·exact hx x z y w
theorem Lw.takeB (h:Lw le a b out ia ib) (sb:b.toList.Pairwise le) {o:Array Keyed} (ho:o.toList=out.toList++(b.toList.drop ib).take k) (hx:∀x,x∈(b.toList.drop ib).take k->∀y,y∈a.toList.drop ia->le x y):Lw le a b o ia (ib+k):=by
 have e:b.toList.drop ib=(b.toList.drop ib).take k++b.toList.drop (ib+k):=by rw[<-List.drop_drop];exact (lK3 k _).symm
 have sd:(b.toList.drop ib).Pairwise le:=sb.sublist (lQ5 ..)
 have up:=h.up
 have perm:=h.perm
 rw[e] at sd up perm
 obtain⟨s1,s2,s3⟩:=lKb.mp sd
 refine⟨?_,?_,?_⟩
 ·rw[ho,lJs]
  refine List.Perm.trans (lXi _ ?_) perm
  (rw[<-lJs,<-lJs])
  (exact lX2 _ lX3)
 ·rw[ho]
  exact lKb.mpr ⟨h.srt,s1,fun x hx' y hy=>up x hx' y (lJ0 _ (lJ8 _ hy))⟩
 ·intro x hx' y hy
  rw[ho] at hx'
  rcases (lJt.mp hx') with z | z
  ·refine up x z y ?_
   rcases (lJt.mp hy) with w | w
   ·exact lJ8 _ w
   ·exact lJ0 _ (lJ0 _ w)
  ·rcases (lJt.mp hy) with w | w
   ·exact hx x z y w
   ·exact s3 x z y w
theorem jUj {arr:Array Keyed} {i:Nat} {x:Keyed} (h:arr[i]? =some x):arr.toList.drop i=x::arr.toList.drop (i+1):=by
 have hl:arr.toList[i]? =some x:=by rw[lJ5];exact h
 obtain⟨h1,h2⟩:=lJi.mp hl
 rw[lYi h1,h2]
theorem Lw.pushA (h:Lw le a b out ia ib) (sa:a.toList.Pairwise le) {x:Keyed} (hi:a[ia]? =some x) (hx:∀y,y∈b.toList.drop ib->le x y):Lw le a b (out.push x) (ia+1) ib:=by
 have e:(a.toList.drop ia).take 1=[x]:=by rw[jUj hi];rfl
 refine h.takeA sa (k:=1) (by rw[e];simp) fun z hz y hy=> ?_
 rw[e,lJ4] at hz
 rw[hz];exact hx y hy
theorem Lw.pushB (h:Lw le a b out ia ib) (sb:b.toList.Pairwise le) {x:Keyed} (hi:b[ib]? =some x) (hx:∀y,y∈a.toList.drop ia->le x y):Lw le a b (out.push x) ia (ib+1):=by
 have e:(b.toList.drop ib).take 1=[x]:=by rw[jUj hi];rfl
 refine h.takeB sb (k:=1) (by rw[e];simp) fun z hz y hy=> ?_
 rw[e,lJ4] at hz
 rw[hz];exact hx y hy
theorem Lw.done (h:Lw le a b out ia ib) (sa:a.toList.Pairwise le) (sb:b.toList.Pairwise le) (hi:ib=b.size\/ia=a.size):Fin2 le a b (out++a.extract ia++b.extract ib):=by
 have e:(out++a.extract ia++b.extract ib).toList=out.toList++(a.toList.drop ia++b.toList.drop ib):=by rw[lQm,lQm,kKf,kKf,lJs]
 unfold Fin2
 rw[e]
 refine⟨h.perm,lKb.mpr ⟨h.srt,?_,h.up⟩⟩
 refine lKb.mpr ⟨sa.sublist (lQ5 ..),sb.sublist (lQ5 ..),fun x hx y hy=> ?_⟩
 rcases hi with z | z
 ·rw[z,lVi (by simp)] at hy;cases hy
 ·rw[z,lVi (by simp)] at hx;cases hx
theorem Lw.lastA (h:Lw le a b out ia ib) (sa:a.toList.Pairwise le) (sb:b.toList.Pairwise le) (hi:ia+1=a.size) (hl:∀x,a[ia]? =some x->∀y,y∈b.toList->le y x):Fin2 le a b (out++b.extract ib++a.extract ia):=by
 have e:(out++b.extract ib++a.extract ia).toList=out.toList++(b.toList.drop ib++a.toList.drop ia):=by rw[lQm,lQm,kKf,kKf,lJs]
 unfold Fin2
 rw[e]
 have hx:a[ia]? =some a[ia]:=lKt (by omega)
 have ed:a.toList.drop ia=[a[ia]]:=by rw[jUj hx,lVi (by simp;omega)]
 refine⟨(lXi _ lX3).trans h.perm,lKb.mpr ⟨h.srt,?_,fun x hx' y hy=>h.up x hx' y ?_⟩⟩
 ·refine lKb.mpr ⟨sb.sublist (lQ5 ..),sa.sublist (lQ5 ..),fun x hx' y hy=> ?_⟩
  rw[ed,lJ4] at hy
  rw[hy]
  exact hl _ hx x (lQ4 hx')
 ·rcases (lJt.mp hy) with w | w
  ·exact lJ0 _ w
  ·exact lJ8 _ w
end
section
variable {M:Model} {A:Around} {E:Value->Shared->Prop} {s:Shared} {κ:SortKind} {mem:Keyed->Prop} {le:Keyed->Keyed->Prop} [∀x y,Decidable (le x y)]
abbrev jKg (st:SortSt) (g:Nat):SortSt:=SortSt.mk' (kindOf st) (arrOf st) (pendingOf st) g (failedOf st)
theorem kJz {l:List Keyed} {i j:Nat} {x y:Keyed} (h:l.Pairwise le) (hi:l[i]? =some x) (hij:i<j) (hj:l[j]? =some y):le x y:=by
 obtain⟨a1,a2⟩:=lJi.mp hi
 obtain⟨b1,b2⟩:=lJi.mp hj
 have:=lYq.mp h i j a1 b1 hij
 rwa [a2,b2] at this
theorem jXn (H:Asks M A s κ mem le) {arr:Array Keyed} {i:Nat} {x y:Keyed} (hs:arr.toList.Pairwise le) (hm:∀x,x∈arr.toList->mem x) (hx:arr[i]? =some x) (hy:mem y) (h:le y x):∀z,z∈arr.toList.drop i->le y z:=by
 intro z hz
 rw[jUj hx] at hz
 rcases (lJk.mp hz) with rfl | hz
 ·exact h
 ·have hxl:x∈arr.toList:=by rw[lYc];exact Array.mem_of_getElem? hx
  have hzl:z∈arr.toList:=lQ4 hz
  have hd:(arr.toList.drop i).Pairwise le:=hs.sublist (lQ5 ..)
  rw[jUj hx] at hd
  exact H.tr _ _ _ hy (hm x hxl) (hm z hzl) h (List.rel_of_pairwise_cons hd hz)
theorem jJ9 {arr:Array Keyed} {i:Nat} {x:Keyed} (hx:arr[i]? =some x):x∈arr.toList:=by rw[lYc];exact Array.mem_of_getElem? hx
theorem jVh {arr:Array Keyed} {i:Nat} (h:i<arr.size):∃x,arr[i]? =some x:=⟨arr[i],lKt h⟩
theorem kU1 {arr:Array Keyed} {i k:Nat} {x:Keyed} (h:x∈(arr.toList.drop i).take k):∃j,j<k/\arr[i+j]? =some x:=by
 obtain⟨j,hj⟩:=lKg h
 rw[lQw] at hj
 split at hj
 ·rename_i hl
  rw[lVz,lJ5] at hj
  exact⟨j,hl,hj⟩
 ·cases hj
theorem jJz {α:Type} {m n:Nat} {p q:StateT SortSt Sem α} {Q:α->SortSt->Prop} {st:SortSt} (h1:m=n->wpS M A E s p Q st) (h2:¬ m=n->wpS M A E s q Q st):wpS M A E s (if (m == n)=true then p else q) Q st:=by
 by_cases c:m=n
 ·rw[lJc (by simpa using c)];exact h1 c
 ·rw[lJb (by simpa using c)];exact h2 c
theorem qV3 {α:Type} {c:Prop} [Decidable c] {F:Nat->StateT SortSt Sem α} {x y:Nat} {p q:StateT SortSt Sem α} {Q:α->SortSt->Prop} {st:SortSt} (h2:q=F y) (h1:p=F x) (h:∀z,wpS M A E s (F z) Q st):wpS M A E s (if c then p else q) Q st:=by
 split
 ·rw[h1];exact h x
 ·rw[h2];exact h y
theorem qUg {α γ δ:Type} {c:Prop} [Decidable c] {F:γ->δ->StateT SortSt Sem α} {p q:StateT SortSt Sem α} {Q:α->SortSt->Prop} {st:SortSt} (y1:γ) (y2:δ) (h2:q=F y1 y2) (R:γ->δ->Prop) (hn:¬ c->R y1 y2) (hp:c->(∀z1 z2,R z1 z2->wpS M A E s (F z1 z2) Q st)->wpS M A E s p Q st) (key:∀z1 z2,R z1 z2->wpS M A E s (F z1 z2) Q st):wpS M A E s (if c then p else q) Q st:=by
 by_cases h:c
 ·rw[lJc h];exact hp h key
 ·rw[lJb h,h2];exact key y1 y2 (hn h)
abbrev kd:Keyed:=(Value.none,Value.none)
theorem at_d {a:Array Keyed} {ja:Nat} (i:Nat) (hi:i<a.size-ja):a[ja+i]? =some (a.getD (ja+i) kd):=by simp[Array.getD,show ja+i<a.size by omega]
theorem srt_d (H:Asks M A s κ mem le) {a:Array Keyed} {ja:Nat} (sa:a.toList.Pairwise le) (ma:∀x,x∈a.toList->mem x) (i j:Nat) (hij:i<=j) (hj:j<a.size-ja):le (a.getD (ja+i) kd) (a.getD (ja+j) kd):=by
 have h1:=at_d (a:=a) (ja:=ja) i (by omega)
 have h2:=at_d (a:=a) (ja:=ja) j hj
 rcases lQx hij with q | rfl
 ·exact kJz sa (i:=ja+i) (j:=ja+j) (by rw[lJ5];exact h1) (by omega) (by rw[lJ5];exact h2)
 ·exact (H.tot _ _ (ma _ (jJ9 h1)) (ma _ (jJ9 h1))).elim id id
variable {a b:Array Keyed}
theorem galA (H:Asks M A s κ mem le) {ja jb k:Nat} {y:Keyed} (sa:a.toList.Pairwise le) (ma:∀x,x∈a.toList->mem x) (sb:b.toList.Pairwise le) (mb:∀x,x∈b.toList->mem x) (hy:b[jb]? =some y) (hk1:k<=a.size-ja) (hk2:∀i,i<k->bey le false y (a.getD (ja+i) kd)=true) (hk3:∀i,k<=i->i<a.size-ja->bey le false y (a.getD (ja+i) kd)=false):
  (∀x,x∈(a.toList.drop ja).take k->∀z,z∈b.toList.drop jb->le x z)/\(ja+k<a.size->∀z,z∈a.toList.drop (ja+k)->le y z):=by
 have my:=mb y (jJ9 hy)
 simp only[bey,lKj,lKc,lKx,lV5] at hk2 hk3
 refine⟨fun x hx z hz=> ?_,fun hlt=> ?_⟩
 ·obtain⟨j,hj,hxj⟩:=kU1 hx
  have e:=at_d (a:=a) (ja:=ja) j (by omega)
  rw[hxj] at e
  have hle:=hk2 j hj
  rw[<-lJw e] at hle
  exact jXn H sb mb hy (ma x (jJ9 hxj)) hle z hz
 ·have e:=at_d (a:=a) (ja:=ja) k (by omega)
  have hm:=ma _ (jJ9 e)
  exact jXn H sa ma e my ((H.tot _ _ hm my).resolve_left (hk3 k (lJg _) (by omega)))
theorem galB (H:Asks M A s κ mem le) {ja jb k:Nat} {x:Keyed} (sa:a.toList.Pairwise le) (ma:∀x,x∈a.toList->mem x) (sb:b.toList.Pairwise le) (mb:∀x,x∈b.toList->mem x) (hx:a[ja]? =some x) (hk1:k<=b.size-jb) (hk2:∀i,i<k->bey le true x (b.getD (jb+i) kd)=true) (hk3:∀i,k<=i->i<b.size-jb->bey le true x (b.getD (jb+i) kd)=false):
  (∀y,y∈(b.toList.drop jb).take k->∀z,z∈a.toList.drop ja->le y z)/\(jb+k<b.size->∀z,z∈b.toList.drop (jb+k)->le x z):=by
 have mx:=ma x (jJ9 hx)
 simp only[bey,lKn,lYh,lV5,Bool.not_eq_false',lKx] at hk2 hk3
 refine⟨fun y hy z hz=> ?_,fun hlt=> ?_⟩
 ·obtain⟨j,hj,hyj⟩:=kU1 hy
  have e:=at_d (a:=b) (ja:=jb) j (by omega)
  rw[hyj] at e
  have hle:=hk2 j hj
  rw[<-lJw e] at hle
  have my:=mb y (jJ9 hyj)
  exact jXn H sa ma hx my ((H.tot _ _ mx my).resolve_left hle) z hz
 ·have e:=at_d (a:=b) (ja:=jb) k (by omega)
  exact jXn H sb mb e mx (hk3 k (lJg _) (by omega))
theorem kXe {st:SortSt} {Q:Array Keyed->SortSt->Prop} (H:Asks M A s κ mem le) (hk:kindOf st=κ) (hA:1<=a.size) (hB:1<=b.size) (sa:a.toList.Pairwise le) (sb:b.toList.Pairwise le) (ma:∀x,x∈a.toList->mem x) (mb:∀x,x∈b.toList->mem x)
  (hf:∀x,b[0]? =some x->∀y,y∈a.toList->le x y) (hl:∀x,a[a.size-1]? =some x->∀y,y∈b.toList->le y x) (h:∀r g,Fin2 le a b r->Q r (jKg st g)):
  wpS M A E s (qK1 a b) Q st:=by
 obtain⟨x0,hb0⟩:=jVh (arr:=b) (i:=0) (by omega)
 have hl':∀i,i+1=a.size->∀x,a[i]? =some x->∀y,y∈b.toList->le y x:=fun i hi x hx=>hl x (by rw[show a.size-1=i by omega];exact hx)
 have L0:Lw le a b #[x0] 0 1:=by
  refine⟨?_,by simp,?_⟩
  ·rw[lX4]
   have:b.toList=x0::b.toList.drop 1:=by have:=jUj hb0;rwa [lX4] at this
   conv=>rhs;rw[this]
   show (x0::(a.toList++List.drop 1 b.toList)).Perm _
   exact List.perm_middle.symm
  ·intro x hx y hy
   simp at hx;subst hx
   rcases (lJt.mp hy) with z | z
   ·exact hf x hb0 y (lQ4 z)
   ·have hd:=sb
    have e:b.toList=x::b.toList.drop 1:=by have:=jUj hb0;rwa [lX4] at this
    rw[e] at hd
    exact List.rel_of_pairwise_cons hd z
 have fin0:∀r,Fin2 le a b r->Q r st:=fun r hr=>h r (gallopOf st) hr
 (refine lJe (wpS_lift (lQe ⟨rfl,?_⟩)))
 refine lJe (jJ5 hb0 ?_)
 dsimp only
 by_cases c1:1=b.size
 ·rw[lJc (by simpa using c1)]
  exact lJf (fin0 _ (L0.done sa sb (.inl c1)))
 rw[lJb (by simpa using c1)]
 by_cases c2:0+1=a.size
 ·rw[lJc (by simpa using c2)]
  exact lJf (fin0 _ (L0.lastA sa sb c2 (hl' 0 c2)))
 rw[lJb (by simpa using c2)]
 refine lJe (lQa ?_)
 refine lJe (lKh (lKi (I:=fun i (c:Option (Array Keyed)×Array Keyed×Nat×Nat×Nat) st'=>(∃g,jKg st g=st')/\c.1=none/\Lw le a b c.2.1 c.2.2.1 c.2.2.2.1/\c.2.2.1+1<a.size/\c.2.2.2.1<b.size/\i+1<=c.2.1.size)
  (Q:=fun (c:Option (Array Keyed)×Array Keyed×Nat×Nat×Nat) st'=>(∃g,jKg st g=st')/\∃r,c.1=some r/\Fin2 le a b r) ?_ ?_ ⟨⟨_,rfl⟩,rfl,L0,by dsimp only;omega,by dsimp only;omega,by simp⟩) ?_)
 ·rintro i ⟨r,out,ia,ib,mg⟩ st' _ hi ⟨⟨g,rfl⟩,rfl,L,ha,hb,hsz⟩
  dsimp only at L ha hb hsz ⊢
  refine lJe (lKh (lKi (I:=fun i1 (c:Option (Array Keyed)×Array Keyed×Nat×Nat×Nat×Nat) st'=>jKg st g=st'/\c.1=none/\Lw le a b c.2.1 c.2.2.1 c.2.2.2.1/\c.2.2.1+1<a.size/\c.2.2.2.1<b.size/\out.size+i1<=c.2.1.size)
   (Q:=fun (c:Option (Array Keyed)×Array Keyed×Nat×Nat×Nat×Nat) st'=>jKg st g=st'/\((∃r,c.1=some r/\Fin2 le a b r)\/(c.1=none/\Lw le a b c.2.1 c.2.2.1 c.2.2.2.1/\c.2.2.1+1<a.size/\c.2.2.2.1<b.size/\out.size+1<=c.2.1.size))) ?_ ?_ ⟨rfl,rfl,L,ha,hb,lJg _⟩) ?_)
  ·rintro i1 ⟨r,out1,ia1,ib1,ac,bc⟩ st' _ hi1 ⟨rfl,rfl,L1,ha1,hb1,hsz1⟩
   dsimp only at L1 ha1 hb1 hsz1 ⊢
   obtain⟨y,hy⟩:=jVh hb1
   obtain⟨x,hx⟩:=jVh (arr:=a) (i:=ia1) (by omega)
   have my:=mb y (jJ9 hy)
   have mx:=ma x (jJ9 hx)
   refine lJe (jJ5 hy (lJe (jJ5 hx (lJe (kZh (st:=jKg st g) H my mx hk ?_)))))
   by_cases w:le x y
   ·rw[lJ1 w]
    dsimp only
    rw[lJb (by decide)]
    refine lJe (jJ5 hx ?_)
    have L2:=L1.pushA sa hx (jXn H sb mb hy mx w)
    by_cases c3:ia1+1+1=a.size
    ·rw[lJc (by simpa using c3)]
     exact lJf ⟨rfl,.inl ⟨_,rfl,L2.lastA sa sb c3 (hl' _ c3)⟩⟩
    ·rw[lJb (by simpa using c3)]
     by_cases c4:ac+1>=mg
     ·rw[lJc c4]
      exact wpS_pure ⟨rfl,.inr ⟨rfl,L2,by dsimp only;omega,hb1,by simp;omega⟩⟩
     ·rw[lJb c4]
      exact wpS_pure ⟨rfl,rfl,L2,by dsimp only;omega,hb1,by simp;omega⟩
   ·rw[lJq w]
    dsimp only
    (rw[lJc (show (!false)=true from rfl)])
    refine lJe (jJ5 hy ?_)
    have w':le y x:=(H.tot x y mx my).resolve_left w
    have L2:=L1.pushB sb hy (jXn H sa ma hx my w')
    by_cases c3:ib1+1=b.size
    ·rw[lJc (by simpa using c3)]
     exact lJf ⟨rfl,.inl ⟨_,rfl,L2.done sa sb (.inl c3)⟩⟩
    ·rw[lJb (by simpa using c3)]
     by_cases c4:bc+1>=mg
     ·rw[lJc c4]
      exact wpS_pure ⟨rfl,.inr ⟨rfl,L2,ha1,by dsimp only;omega,by simp;omega⟩⟩
     ·rw[lJb c4]
      exact wpS_pure ⟨rfl,rfl,L2,ha1,by dsimp only;omega,by simp;omega⟩
  ·rintro⟨r,out1,ia1,ib1,ac,bc⟩ st' ⟨rfl,rfl,L1,ha1,hb1,hsz1⟩
   dsimp only at L1 ha1 hb1 hsz1 ⊢
   exact⟨rfl,.inr ⟨rfl,L1,ha1,hb1,by omega⟩⟩
  ·rintro⟨r,out1,ia1,ib1,ac,bc⟩ st' ⟨rfl,⟨r',rfl,fr⟩ | ⟨rfl,L1,ha1,hb1,hsz1⟩⟩
   ·dsimp only
    exact lJf ⟨⟨g,rfl⟩,r',rfl,fr⟩
   dsimp only at L1 ha1 hb1 hsz1 ⊢
   (refine lJe (wpS_lift (lQe ⟨rfl,?_⟩)))
   refine lJe (lKh (lKi (I:=fun _ (c:Option (Array Keyed)×Array Keyed×Nat×Nat×Nat×Nat×Nat) st'=>(∃g,jKg st g=st')/\c.1=none/\Lw le a b c.2.1 c.2.2.1 c.2.2.2.1/\c.2.2.1+1<a.size/\c.2.2.2.1<b.size/\out.size+1<=c.2.1.size)
    (Q:=fun (c:Option (Array Keyed)×Array Keyed×Nat×Nat×Nat×Nat×Nat) st'=>(∃g,jKg st g=st')/\((∃r,c.1=some r/\Fin2 le a b r)\/(c.1=none/\Lw le a b c.2.1 c.2.2.1 c.2.2.2.1/\c.2.2.1+1<a.size/\c.2.2.2.1<b.size/\out.size+1<=c.2.1.size))) ?_ ?_ ⟨⟨g,rfl⟩,rfl,L1,ha1,hb1,hsz1⟩) ?_)
   ·clear L1 ha1 hb1 hsz1
    rintro i1 ⟨r,o,ja,jb,mg1,ac1,bc1⟩ st' _ hi1 ⟨⟨g1,rfl⟩,rfl,L1,ha1,hb1,hsz1⟩
    dsimp only at L1 ha1 hb1 hsz1 ⊢
    obtain⟨y,hy⟩:=jVh hb1
    have my:=mb y (jJ9 hy)
    apply qV3 (x:=mg1-1) (y:=mg1)
    case h2=>rfl
    case h1=>rfl
    intro mg2
    refine lJe (lKe ?_)
    refine lJe (jJ5 hy ?_)
    refine lJe (jQ8 (st:=jKg st _) (f:=fun i=>a.getD (ja+i) kd) H hk my at_d (fun i hi=>ma _ (jJ9 (at_d i hi))) (srt_d H sa ma) (by omega) fun k hk1 hk2 hk3=> ?_)
    obtain⟨takeK,beyK⟩:=galA H sa ma sb mb hy hk1 hk2 hk3
    clear hk2 hk3
    dsimp only
    apply qUg o ja (R:=fun o2 ja2=>Lw le a b o2 ja2 jb/\ja2+1<a.size/\out.size+1<=o2.size/\∀z,z∈a.toList.drop ja2->le y z)
    case h2=>rfl
    ·intro ck
     obtain rfl:k=0:=by omega
     have bk:=beyK (by omega)
     rw[lXe] at bk
     exact⟨L1,ha1,hsz1,bk⟩
    ·intro ck key
     have L2:Lw le a b (o++a.extract ja (ja+k)) (ja+k) jb:=L1.takeA sa (by rw[lQm,qUo (by omega)]) takeK
     refine jJz (fun d1=> ?_) fun d1=> ?_
     ·exact lJf ⟨⟨_,rfl⟩,.inl ⟨_,rfl,L2.lastA sa sb d1 (hl' _ d1)⟩⟩
     refine jJz (fun d2=> ?_) fun d2=> ?_
     ·exact lJf ⟨⟨_,rfl⟩,.inl ⟨_,rfl,L2.done sa sb (.inr d2)⟩⟩
     exact key _ _ ⟨L2,by omega,by rw[Array.size_append];omega,beyK (by omega)⟩
    intro o2 ja2 hR
    obtain⟨L2,hja,hos,bk⟩:=hR
    clear L1 takeK beyK hk1 ha1 hsz1
    refine lJe (jJ5 hy ?_)
    have L3:=L2.pushB sb hy bk
    refine jJz (fun d3=> ?_) fun d3=> ?_
    ·exact lJf ⟨⟨_,rfl⟩,.inl ⟨_,rfl,L3.done sa sb (.inl d3)⟩⟩
    obtain⟨x,hx⟩:=jVh (Nat.lt_of_succ_lt hja)
    have mx:=ma x (jJ9 hx)
    have hps:out.size+1<=(o2.push y).size:=by rw[Array.size_push];omega
    have hjb:jb+1<b.size:=by omega
    clear L2 bk hos d3 hb1
    refine lJe (jJ5 hx ?_)
    generalize o2.push y=o3 at *
    generalize jb+1=jb1 at *
    refine lJe (jQ8 (st:=jKg st _) (f:=fun i=>b.getD (jb1+i) kd) H hk mx at_d (fun i hi=>mb _ (jJ9 (at_d i hi))) (srt_d H sb mb) (by omega) fun k2 e1 e2 e3=> ?_)
    obtain⟨takeK,beyK⟩:=galB H sa ma sb mb hx e1 e2 e3
    clear e2 e3
    dsimp only
    apply qUg o3 jb1 (R:=fun o4 jb2=>Lw le a b o4 ja2 jb2/\jb2<b.size/\out.size+1<=o4.size/\∀z,z∈b.toList.drop jb2->le x z)
    case h2=>rfl
    ·intro ck
     obtain rfl:k2=0:=by omega
     have bk:=beyK (by omega)
     rw[lXe] at bk
     exact⟨L3,hjb,hps,bk⟩
    ·intro ck key
     have L4:=L3.takeB sb (k:=k2) (lQm.trans (lKp _ (qUo (ia:=jb1) (a:=b) (by omega)))) takeK
     refine jJz (fun d4=> ?_) fun d4=> ?_
     ·exact lJf ⟨⟨_,rfl⟩,.inl ⟨_,rfl,L4.done sa sb (.inl d4)⟩⟩
     exact key _ _ ⟨L4,by omega,by rw[Array.size_append];omega,beyK (by omega)⟩
    intro o4 jb2 hR
    obtain⟨L4,hjb2,hos,bk⟩:=hR
    clear L3 takeK beyK e1 hjb hps
    have L5:=L4.pushA sa hx bk
    refine lJe (jJ5 hx ?_)
    refine jJz (fun d5=> ?_) fun d5=> ?_
    ·exact lJf ⟨⟨_,rfl⟩,.inl ⟨_,rfl,L5.lastA sa sb d5 (hl' _ d5)⟩⟩
    have g5:ja2+1+1<a.size:=by omega
    have g6:out.size+1<=(o4.push x).size:=by rw[Array.size_push];omega
    split
    ·exact lJf ⟨⟨_,rfl⟩,.inr ⟨rfl,L5,g5,hjb2,g6⟩⟩
    ·exact lJf ⟨⟨_,rfl⟩,rfl,L5,g5,hjb2,g6⟩
   ·rintro⟨r,o,ja,jb,mg1,ac1,bc1⟩ st' ⟨⟨g1,rfl⟩,rfl,L1,ha1,hb1,hsz1⟩
    dsimp only at L1 ha1 hb1 hsz1 ⊢
    exact⟨⟨g1,rfl⟩,.inr ⟨rfl,L1,ha1,hb1,hsz1⟩⟩
   ·rintro⟨r,o,ja,jb,mg1,ac1,bc1⟩ st' ⟨⟨g1,rfl⟩,⟨r',rfl,fr⟩ | ⟨rfl,L1,ha1,hb1,hsz1⟩⟩
    ·dsimp only
     exact lJf ⟨⟨g1,rfl⟩,r',rfl,fr⟩
    ·dsimp only at L1 ha1 hb1 hsz1 ⊢
     refine lJe (lKe ?_)
     exact wpS_pure ⟨⟨_,rfl⟩,rfl,L1,ha1,hb1,by dsimp only;omega⟩
 ·rintro⟨r,out,ia,ib,mg⟩ st' ⟨⟨g,rfl⟩,rfl,L,ha,hb,hsz⟩
  have:=L.size
  dsimp only at this hsz ha hb
  exfalso
  rw[Nat.zero_max] at hsz
  omega
 ·rintro⟨r,out,ia,ib,mg⟩ st' ⟨⟨g,rfl⟩,r',rfl,fr⟩
  dsimp only
  exact lJf (h _ _ fr)
end
section
variable {le:Keyed->Keyed->Prop} {a b out:Array Keyed} {na nb k:Nat}
structure Hw (le:Keyed->Keyed->Prop) (a b out:Array Keyed) (na nb:Nat):Prop where
 perm:((a.toList.take na++b.toList.take nb)++out.toList.reverse).Perm (a.toList++b.toList)
 srt:out.toList.reverse.Pairwise le
 up:∀x,x∈a.toList.take na++b.toList.take nb->∀y,y∈out.toList->le x y
theorem Hw.size (h:Hw le a b out na nb) (h1:na<=a.size) (h2:nb<=b.size):na+nb+out.size=a.size+b.size:=by
 have:=h.perm.length_eq
 simp at this
 omega
theorem jZr {l:List Keyed} (h:k<=na):l.take na=l.take k++(l.take na).drop k:=by
 conv=>lhs;rw[<-lK3 k (l.take na)]
 rw[List.take_take,Nat.min_eq_left h]
theorem Hw.takeA (h:Hw le a b out na nb) (sa:a.toList.Pairwise le) (hk:k<=na) {o:Array Keyed} (ho:o.toList.reverse=(a.toList.take na).drop k++out.toList.reverse) (hx:∀x,x∈b.toList.take nb->∀y,y∈(a.toList.take na).drop k->le x y):Hw le a b o k nb:=by
 have sd:(a.toList.take na).Pairwise le:=sa.sublist (lQ2 ..)
 have up:=h.up
 have perm:=h.perm
 have e:=jZr (l:=a.toList) hk
 generalize hd:(a.toList.take na).drop k=d at *
 rw[e] at sd up perm
 obtain⟨s1,s2,s3⟩:=lKb.mp sd
 have mo:∀y,y∈o.toList->y∈d\/y∈out.toList:=fun y hy=>by
  have:y∈o.toList.reverse:=lVj.mpr hy
  rw[ho] at this
  exact (lJt.mp this).imp id lVj.mp
 refine⟨?_,?_,?_⟩
 ·rw[ho]
  refine List.Perm.trans ?_ perm
  rw[<-lJs,lJs,lJs,lJs,lJs]
  (refine lXi _ ?_)
  (rw[<-lJs,<-lJs])
  (exact lX2 _ lX3)
 ·rw[ho]
  exact lKb.mpr ⟨s2,h.srt,fun x hx' y hy=>up x (lJ8 _ (lJ0 _ hx')) y (lVj.mp hy)⟩
 ·intro x hx' y hy
  rcases mo y hy with z | z
  ·rcases (lJt.mp hx') with w | w
   ·exact s3 x w y z
   ·exact hx x w y z
  ·refine up x ?_ y z
   rcases (lJt.mp hx') with w | w
   ·exact lJ8 _ (lJ8 _ w)
   ·exact lJ0 _ w
theorem Hw.takeB (h:Hw le a b out na nb) (sb:b.toList.Pairwise le) (hk:k<=nb) {o:Array Keyed} (ho:o.toList.reverse=(b.toList.take nb).drop k++out.toList.reverse) (hx:∀x,x∈a.toList.take na->∀y,y∈(b.toList.take nb).drop k->le x y):Hw le a b o na k:=by
 have sd:(b.toList.take nb).Pairwise le:=sb.sublist (lQ2 ..)
 have up:=h.up
 have perm:=h.perm
 have e:=jZr (l:=b.toList) hk
 generalize hd:(b.toList.take nb).drop k=d at *
 rw[e] at sd up perm
 obtain⟨s1,s2,s3⟩:=lKb.mp sd
 have mo:∀y,y∈o.toList->y∈d\/y∈out.toList:=fun y hy=>by
  have:y∈o.toList.reverse:=lVj.mpr hy
  rw[ho] at this
  exact (lJt.mp this).imp id lVj.mp
 refine⟨?_,?_,?_⟩
 ·rw[ho]
  refine List.Perm.trans ?_ perm
  rw[<-lJs,lJs,lJs,lJs,lJs]
 ·rw[ho]
  exact lKb.mpr ⟨s2,h.srt,fun x hx' y hy=>up x (lJ0 _ (lJ0 _ hx')) y (lVj.mp hy)⟩
 ·intro x hx' y hy
  rcases mo y hy with z | z
  ·rcases (lJt.mp hx') with w | w
   ·exact hx x w y z
   ·exact s3 x w y z
  ·refine up x ?_ y z
   rcases (lJt.mp hx') with w | w
   ·exact lJ8 _ w
   ·exact lJ0 _ (lJ8 _ w)
theorem jYf {arr:Array Keyed} {i:Nat} {x:Keyed} (h:arr[i]? =some x):(arr.toList.take (i+1)).drop i=[x]:=by
 have hl:arr.toList[i]? =some x:=by rw[lJ5];exact h
 obtain⟨h1,h2⟩:=lJi.mp hl
 have hs:i<arr.size:=by simpa using h1
 rw[lVg,hl,lYj (by simp;omega),lVi (by simp;omega)]
 rfl
theorem Hw.pushA (h:Hw le a b out (na+1) nb) (sa:a.toList.Pairwise le) {x:Keyed} (hi:a[na]? =some x) (hx:∀y,y∈b.toList.take nb->le y x):Hw le a b (out.push x) na nb:=by
 refine h.takeA sa (k:=na) (by omega) (by rw[jYf hi];simp) fun z hz y hy=> ?_
 rw[jYf hi,lJ4] at hy
 rw[hy];exact hx z hz
theorem Hw.pushB (h:Hw le a b out na (nb+1)) (sb:b.toList.Pairwise le) {x:Keyed} (hi:b[nb]? =some x) (hx:∀y,y∈a.toList.take na->le y x):Hw le a b (out.push x) na nb:=by
 refine h.takeB sb (k:=nb) (by omega) (by rw[jYf hi];simp) fun z hz y hy=> ?_
 rw[jYf hi,lJ4] at hy
 rw[hy];exact hx z hz
theorem jYg:(a.extract 0 na).toList=a.toList.take na:=by rw[jU8];simp
theorem Hw.done (h:Hw le a b out na nb) (sa:a.toList.Pairwise le) (sb:b.toList.Pairwise le) (hi:na=0\/nb=0):Fin2 le a b (a.extract 0 na++b.extract 0 nb++out.reverse):=by
 have e:(a.extract 0 na++b.extract 0 nb++out.reverse).toList=(a.toList.take na++b.toList.take nb)++out.toList.reverse:=by rw[lQm,lQm,jYg,jYg,Array.toList_reverse]
 unfold Fin2
 rw[e]
 refine⟨h.perm,lKb.mpr ⟨?_,h.srt,fun x hx y hy=>h.up x hx y (lVj.mp hy)⟩⟩
 refine lKb.mpr ⟨sa.sublist (lQ2 ..),sb.sublist (lQ2 ..),fun x hx y hy=> ?_⟩
 rcases hi with z | z
 ·rw[z] at hx;cases hx
 ·rw[z] at hy;cases hy
theorem Hw.firstB (h:Hw le a b out na nb) (sa:a.toList.Pairwise le) (sb:b.toList.Pairwise le) (hi:nb=1) (hl:∀x,b[0]? =some x->∀y,y∈a.toList->le x y):Fin2 le a b (b.extract 0 nb++a.extract 0 na++out.reverse):=by
 have e:(b.extract 0 nb++a.extract 0 na++out.reverse).toList=(b.toList.take nb++a.toList.take na)++out.toList.reverse:=by rw[lQm,lQm,jYg,jYg,Array.toList_reverse]
 unfold Fin2
 rw[e]
 refine⟨(lX2 _ lX3).trans h.perm,lKb.mpr ⟨?_,h.srt,fun x hx y hy=>h.up x ?_ y (lVj.mp hy)⟩⟩
 ·refine lKb.mpr ⟨sb.sublist (lQ2 ..),sa.sublist (lQ2 ..),fun x hx y hy=> ?_⟩
  rw[hi] at hx
  (obtain⟨j,hj⟩:=lKg hx)
  rw[lQw] at hj
  split at hj
  ·rename_i hlt
   obtain rfl:j=0:=by omega
   rw[lJ5] at hj
   exact hl x hj y (lQl hy)
  ·cases hj
 ·rcases (lJt.mp hx) with w | w
  ·exact lJ0 _ w
  ·exact lJ8 _ w
end
section
variable {M:Model} {A:Around} {E:Value->Shared->Prop} {s:Shared} {κ:SortKind} {mem:Keyed->Prop} {le:Keyed->Keyed->Prop} [∀x y,Decidable (le x y)] {a b:Array Keyed}
theorem kJe (H:Asks M A s κ mem le) {arr:Array Keyed} {i:Nat} {x y:Keyed} (hs:arr.toList.Pairwise le) (hm:∀x,x∈arr.toList->mem x) (hx:arr[i]? =some x) (hy:mem y) (h:le x y):∀z,z∈arr.toList.take (i+1)->le z y:=by
 intro z hz
 have hzl:z∈arr.toList:=lQl hz
 obtain⟨j,hj⟩:=lKg hz
 rw[lQw] at hj
 split at hj
 ·rename_i hlt
  rcases lQx (lQ6 hlt) with q | rfl
  ·exact H.tr _ _ _ (hm z hzl) (hm x (jJ9 hx)) hy (kJz hs hj q (by rw[lJ5];exact hx)) h
  ·rw[lJ5,hx] at hj;cases hj;exact h
 ·cases hj
theorem qUr {arr:Array Keyed} {n k:Nat} {x:Keyed} (h:x∈(arr.toList.take n).drop k):∃j,k<=j/\j<n/\arr[j]? =some x:=by
 obtain⟨j,hj⟩:=lKg h
 rw[lVz,lQw] at hj
 split at hj
 ·rename_i hl
  rw[lJ5] at hj
  exact⟨k+j,by omega,hl,hj⟩
 ·cases hj
theorem qQ7 {arr:Array Keyed} {n:Nat} {x:Keyed} (h:x∈arr.toList.take n):∃j,j<n/\arr[j]? =some x:=by
 obtain⟨j,hj⟩:=lKg h
 rw[lQw] at hj
 split at hj
 ·rename_i hl
  rw[lJ5] at hj
  exact⟨j,hl,hj⟩
 ·cases hj
theorem at_e {a:Array Keyed} {n:Nat} (hn:n<=a.size) (i:Nat) (hi:i<n):a[0+i]? =some (a.getD i kd):=by rw[lVv];simp[Array.getD,show i<a.size by omega]
theorem srt_e (H:Asks M A s κ mem le) {a:Array Keyed} {n:Nat} (hn:n<=a.size) (sa:a.toList.Pairwise le) (ma:∀x,x∈a.toList->mem x) (i j:Nat) (hij:i<=j) (hj:j<n):le (a.getD i kd) (a.getD j kd):=by
 have h1:=at_e hn i (by omega)
 have h2:=at_e hn j hj
 rw[lVv] at h1 h2
 rcases lQx hij with q | rfl
 ·exact kJz sa (i:=i) (j:=j) (by rw[lJ5];exact h1) q (by rw[lJ5];exact h2)
 ·exact (H.tot _ _ (ma _ (jJ9 h1)) (ma _ (jJ9 h1))).elim id id
theorem galAh (H:Asks M A s κ mem le) {na nb k:Nat} {y:Keyed} (ma:∀x,x∈a.toList->mem x) (sb:b.toList.Pairwise le) (mb:∀x,x∈b.toList->mem x) (hna:na<=a.size) (hy:b[nb]? =some y) (hk1:k<=na) (hk2:∀i,i<k->bey le false y (a.getD i kd)=true) (hk3:∀i,k<=i->i<na->bey le false y (a.getD i kd)=false):
  (∀z,z∈b.toList.take (nb+1)->∀x,x∈(a.toList.take na).drop k->le z x)/\(∀z,z∈a.toList.take k->le z y):=by
 have my:=mb y (jJ9 hy)
 simp only[bey,lKj,lKc,lKx,lV5] at hk2 hk3
 refine⟨fun z hz x hx=> ?_,fun z hz=> ?_⟩
 ·obtain⟨j,h1,h2,h3⟩:=qUr hx
  have e:=at_e hna j h2
  rw[lVv,h3] at e
  have hle:=hk3 j h1 h2
  rw[<-lJw e] at hle
  have mx:=ma x (jJ9 h3)
  exact kJe H sb mb hy mx ((H.tot _ _ mx my).resolve_left hle) z hz
 ·obtain⟨j,h1,h2⟩:=qQ7 hz
  have e:=at_e hna j (by omega)
  rw[lVv,h2] at e
  have hle:=hk2 j h1
  rwa [<-lJw e] at hle
theorem galBh (H:Asks M A s κ mem le) {na nb k:Nat} {x:Keyed} (sa:a.toList.Pairwise le) (ma:∀x,x∈a.toList->mem x) (mb:∀x,x∈b.toList->mem x) (hnb:nb<=b.size) (hx:a[na]? =some x) (hk1:k<=nb) (hk2:∀i,i<k->bey le true x (b.getD i kd)=true) (hk3:∀i,k<=i->i<nb->bey le true x (b.getD i kd)=false):
  (∀z,z∈a.toList.take (na+1)->∀y,y∈(b.toList.take nb).drop k->le z y)/\(∀z,z∈b.toList.take k->le z x):=by
 have mx:=ma x (jJ9 hx)
 simp only[bey,lKn,lYh,lV5,Bool.not_eq_false',lKx] at hk2 hk3
 refine⟨fun z hz y hy=> ?_,fun z hz=> ?_⟩
 ·obtain⟨j,h1,h2,h3⟩:=qUr hy
  have e:=at_e hnb j h2
  rw[lVv,h3] at e
  have hle:=hk3 j h1 h2
  rw[<-lJw e] at hle
  exact kJe H sa ma hx (mb y (jJ9 h3)) hle z hz
 ·obtain⟨j,h1,h2⟩:=qQ7 hz
  have e:=at_e hnb j (by omega)
  rw[lVv,h2] at e
  have hle:=hk2 j h1
  rw[<-lJw e] at hle
  exact (H.tot _ _ mx (mb z (jJ9 h2))).resolve_left hle
theorem kYf {arr o:Array Keyed} {n k:Nat}:(o++(arr.extract k n).reverse).toList.reverse=(arr.toList.take n).drop k++o.toList.reverse:=by
 rw[lQm,List.reverse_append,Array.toList_reverse,List.reverse_reverse,jU8,List.drop_take]
theorem kXf {st:SortSt} {Q:Array Keyed->SortSt->Prop} (H:Asks M A s κ mem le) (hk:kindOf st=κ) (hA:1<=a.size) (hB:1<=b.size) (sa:a.toList.Pairwise le) (sb:b.toList.Pairwise le) (ma:∀x,x∈a.toList->mem x) (mb:∀x,x∈b.toList->mem x)
  (hf:∀x,b[0]? =some x->∀y,y∈a.toList->le x y) (hl:∀x,a[a.size-1]? =some x->∀y,y∈b.toList->le y x) (h:∀r g,Fin2 le a b r->Q r (jKg st g)):
  wpS M A E s (qK2 a b) Q st:=by
 obtain⟨x0,hb0⟩:=jVh (arr:=a) (i:=a.size-1) (by omega)
 have La:Hw le a b #[] (a.size-1+1) b.size:=by
  refine⟨?_,by simp,fun x _ y hy=> ?_⟩
  ·rw[lQi (by simp;omega),lQi (by simp)];simp
  ·simp at hy
 have L0:Hw le a b #[x0] (a.size-1) b.size:=La.pushA sa hb0 fun y hy=>hl x0 hb0 y (lQl hy)
 have fin0:∀r,Fin2 le a b r->Q r st:=fun r hr=>h r (gallopOf st) hr
 (refine lJe (wpS_lift (lQe ⟨rfl,?_⟩)))
 refine lJe (jJ5 hb0 ?_)
 dsimp only
 refine jJz (fun c1=> ?_) fun c1=> ?_
 ·exact lJf (fin0 _ (L0.done sa sb (.inl c1)))
 refine jJz (fun c2=> ?_) fun c2=> ?_
 ·exact lJf (fin0 _ (L0.firstB sa sb c2 hf))
 refine lJe (lQa ?_)
 refine lJe (lKh (lKi (I:=fun i (c:Option (Array Keyed)×Nat×Nat×Array Keyed×Nat) st'=>(∃g,jKg st g=st')/\c.1=none/\Hw le a b c.2.2.2.1 c.2.1 c.2.2.1/\1<=c.2.1/\c.2.1<=a.size/\2<=c.2.2.1/\c.2.2.1<=b.size/\i+1<=c.2.2.2.1.size)
  (Q:=fun (c:Option (Array Keyed)×Nat×Nat×Array Keyed×Nat) st'=>(∃g,jKg st g=st')/\∃r,c.1=some r/\Fin2 le a b r) ?_ ?_ ⟨⟨_,rfl⟩,rfl,L0,by dsimp only;omega,by dsimp only;omega,by dsimp only;omega,by dsimp only;omega,by simp⟩) ?_)
 ·rintro i ⟨r,na,nb,out,mg⟩ st' _ hi ⟨⟨g,rfl⟩,rfl,L,ha,ha',hb,hb',hsz⟩
  dsimp only at L ha ha' hb hb' hsz ⊢
  refine lJe (lKh (lKi (I:=fun i1 (c:Option (Array Keyed)×Nat×Nat×Array Keyed×Nat×Nat) st'=>jKg st g=st'/\c.1=none/\Hw le a b c.2.2.2.1 c.2.1 c.2.2.1/\1<=c.2.1/\c.2.1<=a.size/\2<=c.2.2.1/\c.2.2.1<=b.size/\out.size+i1<=c.2.2.2.1.size)
   (Q:=fun (c:Option (Array Keyed)×Nat×Nat×Array Keyed×Nat×Nat) st'=>jKg st g=st'/\((∃r,c.1=some r/\Fin2 le a b r)\/(c.1=none/\Hw le a b c.2.2.2.1 c.2.1 c.2.2.1/\1<=c.2.1/\c.2.1<=a.size/\2<=c.2.2.1/\c.2.2.1<=b.size/\out.size+1<=c.2.2.2.1.size))) ?_ ?_ ⟨rfl,rfl,L,ha,ha',hb,hb',lJg _⟩) ?_)
  ·rintro i1 ⟨r,n1,m1,out1,ac,bc⟩ st' _ hi1 ⟨rfl,rfl,L1,p1,p2,p3,p4,hsz1⟩
   dsimp only at L1 p1 p2 p3 p4 hsz1 ⊢
   obtain⟨n1,rfl⟩:∃k,n1=k+1:=⟨n1-1,by omega⟩
   obtain⟨m1,rfl⟩:∃k,m1=k+1:=⟨m1-1,by omega⟩
   simp only[lYf]
   obtain⟨y,hy⟩:=jVh (arr:=b) (i:=m1) (by omega)
   obtain⟨x,hx⟩:=jVh (arr:=a) (i:=n1) (by omega)
   have my:=mb y (jJ9 hy)
   have mx:=ma x (jJ9 hx)
   refine lJe (jJ5 hy (lJe (jJ5 hx (lJe (kZh (st:=jKg st g) H my mx hk ?_)))))
   by_cases w:le x y
   ·rw[lJ1 w]
    dsimp only
    rw[lJb (by decide)]
    refine lJe (jJ5 hy ?_)
    have L2:=L1.pushB sb hy (kJe H sa ma hx my w)
    refine jJz (fun c3=> ?_) fun c3=> ?_
    ·exact lJf ⟨rfl,.inl ⟨_,rfl,L2.firstB sa sb c3 hf⟩⟩
    ·split
     ·exact wpS_pure ⟨rfl,.inr ⟨rfl,L2,p1,p2,by dsimp only;omega,by dsimp only;omega,by simp;omega⟩⟩
     ·exact wpS_pure ⟨rfl,rfl,L2,p1,p2,by dsimp only;omega,by dsimp only;omega,by simp;omega⟩
   ·rw[lJq w]
    dsimp only
    (rw[lJc (show (!false)=true from rfl)])
    refine lJe (jJ5 hx ?_)
    have L2:=L1.pushA sa hx (kJe H sb mb hy mx ((H.tot x y mx my).resolve_left w))
    refine jJz (fun c3=> ?_) fun c3=> ?_
    ·exact lJf ⟨rfl,.inl ⟨_,rfl,L2.done sa sb (.inl c3)⟩⟩
    ·split
     ·exact wpS_pure ⟨rfl,.inr ⟨rfl,L2,by dsimp only;omega,by dsimp only;omega,p3,p4,by simp;omega⟩⟩
     ·exact wpS_pure ⟨rfl,rfl,L2,by dsimp only;omega,by dsimp only;omega,p3,p4,by simp;omega⟩
  ·rintro⟨r,n1,m1,out1,ac,bc⟩ st' ⟨rfl,rfl,L1,p1,p2,p3,p4,hsz1⟩
   dsimp only at L1 p1 p2 p3 p4 hsz1 ⊢
   exact⟨rfl,.inr ⟨rfl,L1,p1,p2,p3,p4,by omega⟩⟩
  ·rintro⟨r,n1,m1,out1,ac,bc⟩ st' ⟨rfl,⟨r',rfl,fr⟩ | ⟨rfl,L1,p1,p2,p3,p4,hsz1⟩⟩
   ·dsimp only
    exact lJf ⟨⟨g,rfl⟩,r',rfl,fr⟩
   dsimp only at L1 p1 p2 p3 p4 hsz1 ⊢
   (refine lJe (wpS_lift (lQe ⟨rfl,?_⟩)))
   refine lJe (lKh (lKi (I:=fun _ (c:Option (Array Keyed)×Nat×Nat×Array Keyed×Nat×Nat×Nat) st'=>(∃g,jKg st g=st')/\c.1=none/\Hw le a b c.2.2.2.1 c.2.1 c.2.2.1/\1<=c.2.1/\c.2.1<=a.size/\2<=c.2.2.1/\c.2.2.1<=b.size/\out.size+1<=c.2.2.2.1.size)
    (Q:=fun (c:Option (Array Keyed)×Nat×Nat×Array Keyed×Nat×Nat×Nat) st'=>(∃g,jKg st g=st')/\((∃r,c.1=some r/\Fin2 le a b r)\/(c.1=none/\Hw le a b c.2.2.2.1 c.2.1 c.2.2.1/\1<=c.2.1/\c.2.1<=a.size/\2<=c.2.2.1/\c.2.2.1<=b.size/\out.size+1<=c.2.2.2.1.size))) ?_ ?_ ⟨⟨g,rfl⟩,rfl,L1,p1,p2,p3,p4,hsz1⟩) ?_)
   ·clear L1 p1 p2 p3 p4 hsz1
    rintro i1 ⟨r,ja,jb,o,mg1,ac1,bc1⟩ st' _ hi1 ⟨⟨g1,rfl⟩,rfl,L1,p1,p2,p3,p4,hsz1⟩
    dsimp only at L1 p1 p2 p3 p4 hsz1 ⊢
    obtain⟨jb,rfl⟩:∃k,jb=k+1:=⟨jb-1,by omega⟩
    simp only[lYf]
    obtain⟨y,hy⟩:=jVh (arr:=b) (i:=jb) (by omega)
    have my:=mb y (jJ9 hy)
    by_cases cg:mg1>1
    all_goals first | rw[lJc cg] | rw[lJb cg]
    all_goals refine lJe (lKe ?_)
    all_goals refine lJe (jJ5 hy ?_)
    all_goals refine lJe (jQ8 (st:=jKg st _) (f:=fun i=>a.getD i kd) H hk my (at_e p2) (fun i hi=>ma _ (jJ9 (at_e p2 i hi))) (srt_e H p2 sa ma) (by omega) fun k hk1 hk2 hk3=> ?_)
    all_goals obtain⟨takeK,beyK⟩:=galAh H ma sb mb p2 hy hk1 hk2 hk3
    all_goals dsimp only
    all_goals by_cases ck:ja-k>0
    all_goals first | rw[lJc ck] | rw[lJb ck]
    all_goals first
     | (have L2:Hw le a b (o++(a.extract k ja).reverse) k (jb+1):=L1.takeA sa hk1 kYf takeK
        refine jJz (fun d1=> ?_) fun d1=> ?_
        ·exact lJf ⟨⟨_,rfl⟩,.inl ⟨_,rfl,L2.done sa sb (.inl d1)⟩⟩
        have q1:1<=k:=by omega
        have q2:k<=a.size:=by omega
        have hos:out.size+1<=(o++(a.extract k ja).reverse).size:=by rw[Array.size_append];omega
        have bk:=beyK
        clear L1 hk1 hk2 hk3 takeK beyK
        generalize ja-k=kk at *
        generalize o++(a.extract k ja).reverse=o2 at *
        skip)
     | (obtain rfl:k=ja:=by omega
        have L2:=L1
        have q1:=p1
        have q2:=p2
        have hos:=hsz1
        have bk:=beyK
        clear L1 hk1 hk2 hk3 takeK beyK
        skip)
    all_goals refine lJe (jJ5 hy ?_)
    all_goals have L3:=L2.pushB sb hy bk
    all_goals refine jJz (fun d3=> ?_) fun d3=> ?_
    all_goals first
     | exact lJf ⟨⟨_,rfl⟩,.inl ⟨_,rfl,L3.firstB sa sb d3 hf⟩⟩
     | skip
    all_goals obtain⟨k',rfl⟩:∃n,k=n+1:=⟨k-1,by omega⟩
    all_goals obtain⟨x,hx⟩:=jVh (arr:=a) (i:=k') (by omega)
    all_goals have mx:=ma x (jJ9 hx)
    all_goals have r4:jb<=b.size:=by omega
    all_goals simp only[lYf]
    all_goals refine lJe (jJ5 hx ?_)
    all_goals refine lJe (jQ8 (st:=jKg st _) (f:=fun i=>b.getD i kd) H hk mx (at_e r4) (fun i hi=>mb _ (jJ9 (at_e r4 i hi))) (srt_e H r4 sb mb) (by omega) fun k2 e1 e2 e3=> ?_)
    all_goals obtain⟨takeK,beyK⟩:=galBh H sa ma mb r4 hx e1 e2 e3
    all_goals dsimp only
    all_goals by_cases ck2:jb-k2>0
    all_goals first | rw[lJc ck2] | rw[lJb ck2]
    all_goals first
     | (have L4:=L3.takeB sb e1 kYf takeK
        refine jJz (fun d4=> ?_) fun d4=> ?_
        ·exact lJf ⟨⟨_,rfl⟩,.inl ⟨_,rfl,L4.firstB sa sb d4 hf⟩⟩
        refine jJz (fun d5=> ?_) fun d5=> ?_
        ·exact lJf ⟨⟨_,rfl⟩,.inl ⟨_,rfl,L4.done sa sb (.inr d5)⟩⟩
        have L5:=L4.pushA sa hx beyK
        have r1:2<=k2:=by omega
        have r2:k2<=b.size:=by omega
        skip)
     | (obtain rfl:k2=jb:=by omega
        have L5:=L3.pushA sa hx beyK
        have r1:2<=k2:=by omega
        have r2:k2<=b.size:=by omega
        skip)
    all_goals refine lJe (jJ5 hx ?_)
    all_goals clear takeK beyK e1 e2 e3
    all_goals first
     | (refine jJz (fun d5=> ?_) fun d5=> ?_
        ·exact lJf ⟨⟨_,rfl⟩,.inl ⟨_,rfl,L5.done sa sb (.inl d5)⟩⟩
        ·split
         ·exact wpS_pure ⟨⟨_,rfl⟩,.inr ⟨rfl,L5,by dsimp only;omega,by dsimp only;omega,r1,r2,by simp;omega⟩⟩
         ·exact wpS_pure ⟨⟨_,rfl⟩,rfl,L5,by dsimp only;omega,by dsimp only;omega,r1,r2,by simp;omega⟩)
     | trace_state
   ·rintro⟨r,ja,jb,o,mg1,ac1,bc1⟩ st' ⟨⟨g1,rfl⟩,rfl,L1,p1,p2,p3,p4,hsz1⟩
    dsimp only at L1 p1 p2 p3 p4 hsz1 ⊢
    exact⟨⟨g1,rfl⟩,.inr ⟨rfl,L1,p1,p2,p3,p4,hsz1⟩⟩
   ·rintro⟨r,ja,jb,o,mg1,ac1,bc1⟩ st' ⟨⟨g1,rfl⟩,⟨r',rfl,fr⟩ | ⟨rfl,L1,p1,p2,p3,p4,hsz1⟩⟩
    ·dsimp only
     exact lJf ⟨⟨g1,rfl⟩,r',rfl,fr⟩
    ·dsimp only at L1 p1 p2 p3 p4 hsz1 ⊢
     refine lJe (lKe ?_)
     exact wpS_pure ⟨⟨_,rfl⟩,rfl,L1,p1,p2,p3,p4,by dsimp only;omega⟩
 ·rintro⟨r,na,nb,out,mg⟩ st' ⟨⟨g,rfl⟩,rfl,L,ha,ha',hb,hb',hsz⟩
  dsimp only at L ha ha' hb hb' hsz
  have:=L.size ha' hb'
  exfalso
  rw[Nat.zero_max] at hsz
  omega
 ·rintro⟨r,na,nb,out,mg⟩ st' ⟨⟨g,rfl⟩,r',rfl,fr⟩
  dsimp only
  exact lJf (h _ _ fr)
end
section
theorem jYt {α:Type}:∀(m:List α) (base:Nat) (arr:Array α) (k:Nat),base+k+m.length<=arr.size->
  ((m.zipIdx k).foldl (fun (a:Array α) (x:α×Nat)=>a.setIfInBounds (base+x.2) x.1) arr).toList=arr.toList.take (base+k)++m++arr.toList.drop (base+k+m.length)
 | [],base,arr,k,h=>by simp
 | p::m,base,arr,k,h=>by
  rw[List.zipIdx_cons,lXa]
  have hl:base+k<arr.size:=by simp at h;omega
  rw[jYt m base _ (k+1) (by rw[lYs];simp at h;omega)]
  rw[Array.toList_setIfInBounds,show base+(k+1)=(base+k)+1 by omega]
  have h1:(arr.toList.set (base+k) p).take (base+k+1)=arr.toList.take (base+k)++[p]:=by
   rw[lVg,List.take_set_of_le (lJg _),lQf (by simpa using hl)];rfl
  have h2:(arr.toList.set (base+k) p).drop (base+k+1+m.length)=arr.toList.drop (base+k+1+m.length):=List.drop_set_of_lt (by omega)
  rw[h1,h2]
  simp only[lKl,lJs,List.singleton_append,List.cons_append]
  rw[show base+k+(m.length+1)=base+k+1+m.length by omega]
  rfl
end
section
variable {M:Model} {A:Around} {E:Value->Shared->Prop} {s:Shared} {κ:SortKind} {mem:Keyed->Prop} {le:Keyed->Keyed->Prop} [∀x y,Decidable (le x y)]
theorem qU0 {σ:Type} {Q:PUnit->σ->Prop} {st st':σ} (h:Q ⟨⟩ st'):wpS M A E s (set st':StateT σ Sem PUnit) Q st:=by
 unfold wpS;rw[StateT.run_set];exact lJd ⟨rfl,h⟩
theorem getD_some {l:List Keyed} {i:Nat} (h:i<l.length):l[i]? =some (l.getD i kd):=by simp[List.getD,h]
theorem jYa (H:Asks M A s κ mem le) {l:List Keyed} (hs:l.Pairwise le) (hm:∀x,x∈l->mem x) (i j:Nat) (hij:i<=j) (hj:j<l.length):le (l.getD i kd) (l.getD j kd):=by
 have h1:=getD_some (l:=l) (i:=i) (by omega)
 have h2:=getD_some hj
 rcases lQx hij with q | rfl
 ·exact kJz hs h1 q h2
 ·exact (H.tot _ _ (hm _ (lJy h1)) (hm _ (lJy h1))).elim id id
theorem kXg {st:SortSt} {Q:Bool->SortSt->Prop} {i sa na sb nb pw pw2:Nat} {P X Y S:List Keyed} (H:Asks M A s κ mem le) (hk:kindOf st=κ) (hfl:failedOf st=none) (hp1:(pendingOf st)[i]? =some (sa,na,pw)) (hp2:(pendingOf st)[i+1]? =some (sb,nb,pw2))
  (harr:(arrOf st).toList=P++(X++Y)++S) (h1:P.length=sa) (h2:X.length=na) (h3:sb=sa+na) (h4:Y.length=nb) (hX:1<=na) (hY:1<=nb) (sX:X.Pairwise le) (sY:Y.Pairwise le) (mX:∀x,x∈X->mem x) (mY:∀x,x∈Y->mem x)
  (h:∀Z st',Z.Perm (X++Y)->Z.Pairwise le->(arrOf st').toList=P++Z++S->kindOf st'=κ->failedOf st'=none->pendingOf st'=((pendingOf st).setIfInBounds i (sa,na+nb,pw)).eraseIdxIfInBounds (i+1)->Q true st'):wpS M A E s (mergeAt' i) Q st:=by
 have fX:∀j,j<na->(arrOf st)[sa+j]? =some (X.getD j kd):=fun j hj=>by
  rw[<-lJ5,harr,lJs,lK5 (by omega),h1,lYk,lJs,lK6 (by omega)]
  exact getD_some (by omega)
 have fY:∀j,j<nb->(arrOf st)[sb+j]? =some (Y.getD j kd):=fun j hj=>by
  rw[<-lJ5,harr,lJs,lK5 (by omega),h1,lJs,lK5 (by omega),h2,lK6 (by omega),show sb+j-sa-na=j by omega]
  exact getD_some (by omega)
 have mX':∀j,j<na->mem (X.getD j kd):=fun j hj=>mX _ (lJy (getD_some (by omega)))
 have mY':∀j,j<nb->mem (Y.getD j kd):=fun j hj=>mY _ (lJy (getD_some (by omega)))
 refine lJe (lQa ?_)
 simp only[hp1,hp2]
 refine lJe (qU0 ?_)
 have hy0:=fY 0 (by omega)
 rw[lXe] at hy0
 refine lJe (jJ5 hy0 ?_)
 refine lJe (jQ8 (f:=fun j=>X.getD j kd) H (by exact hk) (mY' 0 (by omega)) fX mX' (fun p q hpq hq=>jYa H sX mX p q hpq (by omega)) (by omega) fun k hk1 hk2 hk3=> ?_)
 dsimp only
 simp only[bey,lKj,lKc,lKx,lV5] at hk2 hk3
 have inX:∀x,x∈X->∃j,j<na/\x=X.getD j kd:=fun x hx=>by
  (obtain⟨j,hj⟩:=lKg hx)
  have hl:=(lJi.mp hj).1
  exact⟨j,by omega,by rw[getD_some hl] at hj;exact (lJw hj).symm⟩
 have inY:∀x,x∈Y->∃j,j<nb/\x=Y.getD j kd:=fun x hx=>by
  (obtain⟨j,hj⟩:=lKg hx)
  have hl:=(lJi.mp hj).1
  exact⟨j,by omega,by rw[getD_some hl] at hj;exact (lJw hj).symm⟩
 have y0:∀y,y∈Y->le (Y.getD 0 kd) y:=fun y hy=>by
  obtain⟨j,hj,rfl⟩:=inY y hy
  exact jYa H sY mY 0 j (lJu _) (by omega)
 have xl:∀x,x∈X->le x (X.getD (na-1) kd):=fun x hx=>by
  obtain⟨j,hj,rfl⟩:=inX x hx
  exact jYa H sX mX j (na-1) (by omega) (by omega)
 have lowX:∀x,x∈X.take k->∀y,y∈Y->le x y:=fun x hx y hy=>by
  (obtain⟨j,hj⟩:=lKg hx)
  rw[lQw] at hj
  split at hj
  ·rename_i hjk
   rw[getD_some (by omega)] at hj
   have:=hk2 j hjk
   rw[lJw hj] at this
   exact H.tr _ _ _ (mX _ (lQl hx)) (mY' 0 (by omega)) (mY _ hy) this (y0 y hy)
  ·cases hj
 refine jJz (fun d1=> ?_) fun d1=> ?_
 ·refine lJf (h (X++Y) _ (.refl _) (lKb.mpr ⟨sX,sY,fun x hx y hy=>lowX x ?_ y hy⟩) harr hk hfl rfl)
  rw[lQi (by omega)];exact hx
 refine lJe (jJ5 (x:=X.getD (na-1) kd) (by rw[show sa+k+(na-k)-1=sa+(na-1) by omega];exact fX _ (by omega)) ?_)
 have mk:=mX' (na-1) (by omega)
 refine lJe (jQ8 (f:=fun j=>Y.getD j kd) H (by exact hk) mk fY mY' (fun p q hpq hq=>jYa H sY mY p q hpq (by omega)) (by omega) fun k2 e1 e2 e3=> ?_)
 dsimp only
 simp only[bey,lKn,lYh,lV5,Bool.not_eq_false',lKx] at e2 e3
 have highY:∀y,y∈Y.drop k2->∀x,x∈X->le x y:=fun y hy x hx=>by
  obtain⟨j,hj⟩:=lKg hy
  rw[lVz] at hj
  have hl:=(lJi.mp hj).1
  rw[getD_some hl] at hj
  have:=e3 (k2+j) (by omega) (by omega)
  rw[lJw hj] at this
  exact H.tr _ _ _ (mX _ hx) mk (mY _ (lQ4 hy)) (xl x hx) this
 refine jJz (fun d2=> ?_) fun d2=> ?_
 ·refine lJf (h (X++Y) _ (.refl _) (lKb.mpr ⟨sX,sY,fun x hx y hy=>highY y ?_ x hx⟩) harr hk hfl rfl)
  rw[d2];exact hy
 have exX:((arrOf st).extract (sa+k) sb).toList=X.drop k:=by
  rw[jU8,harr,lJs,lJs,<-h1,List.drop_append,lVi (by omega),lXr,lYk,lYj (by omega),lV0 (by simp;omega),lQi (by simp;omega)]
 have exY:((arrOf st).extract sb (sb+k2)).toList=Y.take k2:=by
  rw[jU8,harr,lJs,lJs,<-lJs P,List.drop_append,lVi (by simp;omega),lXr,show sb-(P++X).length=0 by simp;omega,lX4,lV0 (by omega),lYk]
 have szX:((arrOf st).extract (sa+k) sb).size=na-k:=by rw[<-lKf,exX,lVc,h2]
 have szY:((arrOf st).extract sb (sb+k2)).size=k2:=by rw[<-lKf,exY,lK1,h4];omega
 have fin:∀(r:Array Keyed) g,Fin2 le ((arrOf st).extract (sa+k) sb) ((arrOf st).extract sb (sb+k2)) r->Q (failedOf (jKg st g)).isNone (SortSt.mk' (kindOf st) (r.toList.zipIdx.foldl (fun a x=>a.setIfInBounds (sa+k+x.snd) x.fst) (arrOf st)) (((pendingOf st).setIfInBounds i (sa,na+nb,pw)).eraseIdxIfInBounds (i+1)) g (failedOf st)):=by
  rintro r g ⟨fp,fs⟩
  rw[exX,exY] at fp
  have hrl:r.toList.length=(na-k)+k2:=by rw[fp.length_eq,lKk,lVc,lK1];omega
  have hal:(arrOf st).size=sa+(na+nb)+S.length:=by rw[<-lKf,harr];simp;omega
  have e:=jYt r.toList (sa+k) (arrOf st) 0 (by omega)
  have e2':(failedOf (jKg st g)).isNone=true:=by show (failedOf st).isNone=true;rw[hfl];rfl
  rw[e2']
  have inr:∀z,z∈r.toList->z∈X.drop k\/z∈Y.take k2:=fun z hz=>lJt.mp (fp.mem_iff.mp hz)
  refine h (X.take k++r.toList++Y.drop k2) _ ?_ ?_ ?_ hk hfl rfl
  ·have:(X.take k++r.toList++Y.drop k2).Perm (X.take k++(X.drop k++Y.take k2)++Y.drop k2):=lX2 _ (lXi _ fp)
   refine this.trans (List.Perm.of_eq ?_)
   rw[<-lJs,lK3,lJs,lK3]
  ·have sX':(X.take k++X.drop k).Pairwise le:=by rw[lK3];exact sX
   have sY':(Y.take k2++Y.drop k2).Pairwise le:=by rw[lK3];exact sY
   obtain⟨a1,a2,a3⟩:=lKb.mp sX'
   obtain⟨b1,b2,b3⟩:=lKb.mp sY'
   refine lKb.mpr ⟨lKb.mpr ⟨a1,fs,fun x hx z hz=> ?_⟩,b2,fun x hx y hy=> ?_⟩
   ·rcases inr z hz with w | w
    ·exact a3 x hx z w
    ·exact lowX x hx z (lQl w)
   ·rcases (lJt.mp hx) with w | w
    ·exact highY y hy x (lQl w)
    ·rcases inr x w with w | w
     ·exact highY y hy x (lQ4 w)
     ·exact b3 x w y hy
  ·show (List.foldl _ _ _:Array Keyed).toList=_
   rw[e,lXe,hrl,show sa+k+(na-k+k2)=sb+k2 by omega]
   have t1:(arrOf st).toList.take (sa+k)=P++X.take k:=by
    rw[harr,lJs,lJs,<-h1,List.take_append,lQi (by omega),lYk,lV0 (by omega)]
   have t2:(arrOf st).toList.drop (sb+k2)=Y.drop k2++S:=by
    rw[harr,lJs,lJs,<-lJs P,List.drop_append,lVi (by simp;omega),lXr,show sb+k2-(P++X).length=k2 by simp;omega,lYj (by omega)]
   rw[t1,t2]
   simp only[lJs]
 have pa:((arrOf st).extract (sa+k) sb).toList.Pairwise le:=by rw[exX];exact sX.sublist (lQ5 ..)
 have pb:((arrOf st).extract sb (sb+k2)).toList.Pairwise le:=by rw[exY];exact sY.sublist (lQ2 ..)
 have pma:∀x,x∈((arrOf st).extract (sa+k) sb).toList->mem x:=fun x hx=>by rw[exX] at hx;exact mX x (lQ4 hx)
 have pmb:∀x,x∈((arrOf st).extract sb (sb+k2)).toList->mem x:=fun x hx=>by rw[exY] at hx;exact mY x (lQl hx)
 have pf:∀x,((arrOf st).extract sb (sb+k2))[0]? =some x->∀y,y∈((arrOf st).extract (sa+k) sb).toList->le x y:=fun x hx y hy=>by
  rw[<-lJ5,exY,lQw,lJc (by omega),getD_some (by omega)] at hx
  rw[<-lJw hx]
  rw[exX] at hy
  obtain⟨j,hj⟩:=lKg hy
  rw[lVz] at hj
  have hl:=(lJi.mp hj).1
  rw[getD_some hl] at hj
  have:=hk3 (k+j) (by omega) (by omega)
  rw[lJw hj] at this
  exact (H.tot _ _ (mX _ (lQ4 hy)) (mY' 0 (by omega))).resolve_left this
 have pl:∀x,((arrOf st).extract (sa+k) sb)[((arrOf st).extract (sa+k) sb).size-1]? =some x->∀y,y∈((arrOf st).extract sb (sb+k2)).toList->le y x:=fun x hx y hy=>by
  rw[szX,<-lJ5,exX,lVz,show k+(na-k-1)=na-1 by omega,getD_some (by omega)] at hx
  rw[<-lJw hx]
  rw[exY] at hy
  obtain⟨j,hj⟩:=lKg hy
  rw[lQw] at hj
  split at hj
  ·rename_i hjk
   rw[getD_some (by omega)] at hj
   have:=e2 j hjk
   rw[lJw hj] at this
   exact (H.tot _ _ mk (mY _ (lQl hy))).resolve_left this
  ·cases hj
 have qa:1<=((arrOf st).extract (sa+k) sb).size:=by rw[szX];omega
 have qb:1<=((arrOf st).extract sb (sb+k2)).size:=by rw[szY];omega
 split
 ·refine lJe (kXe H (by exact hk) qa qb pa pb pma pmb pf pl fun r g fr=> ?_)
  refine lJe (lKe (lJe (lQa (lJf ?_))))
  exact fin r g fr
 ·refine lJe (kXf H (by exact hk) qa qb pa pb pma pmb pf pl fun r g fr=> ?_)
  refine lJe (lKe (lJe (lQa (lJf ?_))))
  exact fin r g fr
end
section
variable {M:Model} {A:Around} {E:Value->Shared->Prop} {s:Shared} {κ:SortKind} {mem:Keyed->Prop} {le:Keyed->Keyed->Prop} [∀x y,Decidable (le x y)]
structure SB (κ:SortKind) (a0:Array Keyed) (lo hi:Nat) (pe:Array (Nat×Nat×Nat)) (st:SortSt):Prop where
 kind:kindOf st=κ
 fail:failedOf st=none
 pend:pendingOf st=pe
 perm:(arrOf st).Perm a0
 out:∀p,(p<lo\/hi<=p)->(arrOf st)[p]? =a0[p]?
abbrev Vl (st:SortSt) (p:Nat):Keyed:=(arrOf st).getD p kd
def SrtA (le:Keyed->Keyed->Prop) (st:SortSt) (lo n:Nat):Prop:=∀p q,p<q->q<n->le (Vl st (lo+p)) (Vl st (lo+q))
variable {a0:Array Keyed} {lo hi:Nat} {pe:Array (Nat×Nat×Nat)} {st:SortSt}
theorem SB.size (h:SB κ a0 lo hi pe st):(arrOf st).size=a0.size:=h.perm.size_eq
theorem SB.at (h:SB κ a0 lo hi pe st) {p:Nat} (hp:p<a0.size):(arrOf st)[p]? =some (Vl st p):=by
 have:p<(arrOf st).size:=by rw[h.size];exact hp
 simp[Array.getD,this]
theorem SB.inn (h:SB κ a0 lo hi pe st) (hm:∀x,x∈a0.toList->mem x) {p:Nat} (hp:p<a0.size):mem (Vl st p):=by
 have:=jJ9 (h.at hp)
 exact hm _ ((Array.perm_iff_toList_perm.mp h.perm).mem_iff.mp this)
theorem jXa (H:Asks M A s κ mem le) (hm:∀x,x∈a0.toList->mem x) (h:SB κ a0 lo hi pe st) {i j:Nat} (hi:i<a0.size) (hj:j<a0.size) {Q:Option Bool->SortSt->Prop} (q:Q (some (!decide (le (Vl st j) (Vl st i)))) st):wpS M A E s (ltAt' i j) Q st:=by
 rw[ltAt'_eq]
 refine lJe (lQa ?_)
 exact lJe (jJ5 (h.at hi) (lJe (jJ5 (h.at hj) (kZh H (h.inn hm hi) (h.inn hm hj) h.kind q))))
theorem SB.set (h:SB κ a0 lo hi pe st) {xs:Array Keyed} (hp:xs.Perm (arrOf st)) (ho:∀p,(p<lo\/hi<=p)->xs[p]? =(arrOf st)[p]?):SB κ a0 lo hi pe (setArr st xs):=
 ⟨h.kind,h.fail,h.pend,hp.trans h.perm,fun p hp=>(ho p hp).trans (h.out p hp)⟩
theorem jY8 {xs ys:Array Keyed} {i j:Nat} (h:xs[i]? =ys[j]?):xs.getD i kd=ys.getD j kd:=by
 rw[lXh,lXh,h]
theorem V_bub {k l p:Nat} (hs:lo+k<(arrOf st).size) (hl:l<=k):Vl (setArr st (bubble (arrOf st) (lo+k) (lo+k-(lo+l)))) (lo+p)=if p=l then Vl st (lo+k) else if l<p/\p<=k then Vl st (lo+(p-1)) else Vl st (lo+p):=by
 have e:=getElem?_bubble hs (lo+k-(lo+l)) (by omega) (lo+p)
 by_cases h1:p=l
 ·rw[lJc (by omega)] at e
  rw[lJc h1];exact jY8 e
 ·rw[lJb (by omega)] at e
  rw[lJb h1]
  by_cases h2:l<p/\p<=k
  ·rw[lJc (by omega)] at e
   rw[lJc h2];exact jY8 (e.trans (by rw[show lo+p-1=lo+(p-1) by omega]))
  ·rw[lJb (by omega)] at e
   rw[lJb h2];exact jY8 e
theorem kKk (H:Asks M A s κ mem le) (hm:∀x,x∈a0.toList->mem x) (h:SB κ a0 lo hi pe st) {n ok:Nat} (hok:1<=ok) (hn:ok<=n) (hl:lo+n<=hi) (hh:hi<=a0.size) (hs:SrtA le st lo ok) {Q:Bool->SortSt->Prop} (q:∀st',SB κ a0 lo hi pe st'->SrtA le st' lo n->Q true st'):wpS M A E s (binarySort' lo n ok) Q st:=by
 rw[binarySort'_eq]
 refine lJe (lKh (lKi (I:=fun k (c:Option Bool×Unit) st'=>c=(none,())/\SB κ a0 lo hi pe st'/\SrtA le st' lo k) (Q:=fun (c:Option Bool×Unit) st'=>c=(none,())/\SB κ a0 lo hi pe st'/\SrtA le st' lo n) ?_ ?_ ⟨rfl,h,by rw[Nat.max_eq_left hok];exact hs⟩) ?_)
 ·rintro k c st1 hk hkn ⟨rfl,B,S⟩
  have hks:lo+k<a0.size:=by omega
  dsimp only
  have mV:∀p,p<=k->mem (Vl st1 (lo+p)):=fun p hp=>B.inn hm (by omega)
  have S':∀p q,p<=q->q<k->le (Vl st1 (lo+p)) (Vl st1 (lo+q)):=fun p q hpq hq=>by
   rcases lQx hpq with z | rfl
   ·exact S p q z hq
   ·exact (H.tot _ _ (mV p (by omega)) (mV p (by omega))).elim id id
  refine lJe (lKh (lKi (I:=fun i (c:Option Bool×Nat×Nat) st'=>st1=st'/\c.1=none/\c.2.1<=c.2.2/\c.2.2<=k/\c.2.2-c.2.1<=k-i/\(∀p,p<c.2.1->le (Vl st1 (lo+p)) (Vl st1 (lo+k)))/\(∀p,c.2.2<=p->p<k->le (Vl st1 (lo+k)) (Vl st1 (lo+p))))
   (Q:=fun (c:Option Bool×Nat×Nat) st'=>st1=st'/\c.1=none/\c.2.1<=k/\(∀p,p<c.2.1->le (Vl st1 (lo+p)) (Vl st1 (lo+k)))/\(∀p,c.2.1<=p->p<k->le (Vl st1 (lo+k)) (Vl st1 (lo+p)))) ?_ ?_ ⟨rfl,rfl,Nat.zero_le _,Nat.le_refl _,by dsimp only;omega,fun p hp=>absurd hp (Nat.not_lt_zero _),fun p h1 h2=>absurd h2 (by dsimp only at h1;omega)⟩) ?_)
  ·rintro i ⟨r0,l,r⟩ st2 _ hi2 ⟨rfl,rfl,i1,i2,i3,i4,i5⟩
   dsimp only at i1 i2 i3 i4 i5 ⊢
   by_cases c:l>=r
   ·rw[lJc c]
    exact wpS_pure ⟨rfl,rfl,by dsimp only;omega,i4,fun p h1 h2=>i5 p (by dsimp only at h1;omega) h2⟩
   ·rw[lJb c]
    have hmm:(l+r) / 2<k:=by omega
    refine lJe (jXa H hm B (by omega) (by omega) ?_)
    by_cases w:le (Vl st1 (lo+(l+r) / 2)) (Vl st1 (lo+k))
    ·rw[lJ1 w]
     dsimp only
     rw[lJb (by decide)]
     exact wpS_pure ⟨rfl,rfl,by dsimp only;omega,i2,by dsimp only;omega,fun p hp=>H.tr _ _ _ (mV p (by dsimp only at hp;omega)) (mV _ (by omega)) (mV k (Nat.le_refl _)) (S' p _ (by dsimp only at hp;omega) hmm) w,i5⟩
    ·rw[lJq w]
     dsimp only
     (rw[lJc (show (!false)=true from rfl)])
     have w':=(H.tot _ _ (mV _ (by omega)) (mV k (lJg _))).resolve_left w
     exact wpS_pure ⟨rfl,rfl,by dsimp only;omega,by dsimp only;omega,by dsimp only;omega,i4,fun p h1 h2=>H.tr _ _ _ (mV k (Nat.le_refl _)) (mV _ (by omega)) (mV p (by omega)) w' (S' _ p h1 h2)⟩
  ·rintro⟨r0,l,r⟩ st2 ⟨rfl,rfl,i1,i2,i3,i4,i5⟩
   dsimp only at i1 i2 i3 i4 i5 ⊢
   exact⟨rfl,rfl,by omega,i4,fun p h1 h2=>i5 p (by omega) h2⟩
  ·rintro⟨r0,l,r⟩ st2 ⟨rfl,rfl,i1,i2,i3⟩
   dsimp only at i1 i2 i3 ⊢
   rw[moveDown'_eq]
   have hsz:lo+k<(arrOf st1).size:=by rw[B.size];exact hks
   refine lJe (lKe (lJf ⟨rfl,B.set (bubble_perm ..) (fun p hp=> ?_),fun p q' hpq hq=> ?_⟩))
   ·rw[getElem?_bubble hsz _ (by omega),lJb (by omega),lJb (by omega)]
   ·rw[V_bub hsz i1,V_bub hsz i1]
    by_cases e1:p=l
    ·rw[lJc e1,lJb (by omega),lJc ⟨by omega,by omega⟩]
     exact i3 _ (by omega) (by omega)
    ·rw[lJb e1]
     by_cases e2:q'=l
     ·rw[lJc e2,lJb (by omega)]
      exact i2 p (by omega)
     ·rw[lJb e2]
      by_cases e3:l<p/\p<=k
      ·rw[lJc e3,lJc ⟨by omega,by omega⟩]
       exact S _ _ (by omega) (by omega)
      ·rw[lJb e3]
       by_cases e4:l<q'/\q'<=k
       ·rw[lJc e4]
        exact S' _ _ (by omega) (by omega)
       ·rw[lJb e4]
        exact S _ _ hpq (by omega)
 ·rintro c st1 ⟨rfl,B,S⟩
  refine⟨rfl,B,?_⟩
  rwa [show max (max ok 1) n=n by omega] at S
 ·rintro c st1 ⟨rfl,B,S⟩
  dsimp only
  exact lJf (q _ B S)
end
section
variable {M:Model} {A:Around} {E:Value->Shared->Prop} {s:Shared} {κ:SortKind} {mem:Keyed->Prop} {le:Keyed->Keyed->Prop} [∀x y,Decidable (le x y)]
variable {a0:Array Keyed} {lo hi:Nat} {pe:Array (Nat×Nat×Nat)} {st:SortSt}
def NInc (le:Keyed->Keyed->Prop) (st:SortSt) (lo n:Nat):Prop:=∀p q,p<q->q<n->le (Vl st (lo+q)) (Vl st (lo+p))
abbrev revS (st:SortSt) (i j:Nat):SortSt:=setArr st (mirror (arrOf st) i j ((j-i) / 2))
theorem jX5 {i j p:Nat} (hj:lo+j<=(arrOf st).size):Vl (revS st (lo+i) (lo+j)) (lo+p)=if i<=p/\p<j then Vl st (lo+(i+j-1-p)) else Vl st (lo+p):=by
 have e:=getElem?_mirror_all (i:=lo+i) hj (lo+p)
 by_cases h:i<=p/\p<j
 ·rw[lJc (by omega)] at e
  rw[lJc h];exact jY8 (e.trans (by rw[show lo+i+(lo+j)-1-(lo+p)=lo+(i+j-1-p) by omega]))
 ·rw[lJb (by omega)] at e
  rw[lJb h];exact jY8 e
theorem SB.rev (h:SB κ a0 lo hi pe st) {i j:Nat} (hj:lo+j<=hi) (hh:hi<=a0.size):SB κ a0 lo hi pe (revS st (lo+i) (lo+j)):=
 h.set (mirror_perm ..) fun p hp=>by rw[getElem?_mirror_all (by rw[h.size];omega),lJb (by omega)]
theorem NInc.flip {n:Nat} (h:NInc le st lo n) (hn:lo+n<=(arrOf st).size):SrtA le (revS st (lo+0) (lo+n)) lo n:=fun p q hpq hq=>by
 rw[jX5 hn,jX5 hn,lJc ⟨lJu _,by omega⟩,lJc ⟨lJu _,hq⟩]
 exact h _ _ (by omega) (by omega)
theorem SrtA.flip {n:Nat} (h:SrtA le st lo n) (hn:lo+n<=(arrOf st).size):NInc le (revS st (lo+0) (lo+n)) lo n:=fun p q hpq hq=>by
 rw[jX5 hn,jX5 hn,lJc ⟨lJu _,hq⟩,lJc ⟨lJu _,by omega⟩]
 exact h _ _ (by omega) (by omega)
theorem NInc.part {n m:Nat} (h:NInc le st lo n) (hn:lo+n<=(arrOf st).size) (hm:m<=n) (he:∀p q,m<=p->p<n->m<=q->q<n->le (Vl st (lo+p)) (Vl st (lo+q))):NInc le (revS st (lo+m) (lo+n)) lo n:=fun p q hpq hq=>by
 rw[jX5 hn,jX5 hn]
 by_cases h1:m<=p
 ·rw[lJc ⟨by omega,hq⟩,lJc ⟨h1,by omega⟩]
  exact he _ _ (by omega) (by omega) (by omega) (by omega)
 ·rw[lJb (by omega:¬ (m<=p/\p<n))]
  by_cases h2:m<=q
  ·rw[lJc ⟨h2,hq⟩]
   exact h _ _ (by omega) (by omega)
  ·rw[lJb (by omega)]
   exact h _ _ hpq hq
def Seg (le:Keyed->Keyed->Prop) (st:SortSt) (lo i e:Nat):Prop:=∀p q,i-(e+1)<=p->p<i->i-(e+1)<=q->q<i->le (Vl st (lo+p)) (Vl st (lo+q))
theorem NInc.up (H:Asks M A s κ mem le) (hm:∀x,x∈a0.toList->mem x) {n:Nat} (B:SB κ a0 lo hi pe st) (hn1:1<=n) (hn:lo+n<a0.size) (h:NInc le st lo n) (w:le (Vl st (lo+n)) (Vl st (lo+(n-1)))):NInc le st lo (n+1):=fun p q hpq hq=>by
 rcases lQx (lQ6 hq) with z | rfl
 ·exact h p q hpq z
 ·rcases lQx (show p<=q-1 by omega) with y | rfl
  ·exact H.tr _ _ _ (B.inn hm hn) (B.inn hm (by omega)) (B.inn hm (by omega)) w (h p (q-1) y (by omega))
  ·exact w
theorem Seg.part {n e:Nat} (h:Seg le st lo n e) (N:NInc le st lo n) {hn:lo+n<=(arrOf st).size}:NInc le (revS st (lo+(n-(e+1))) (lo+n)) lo n:=N.part hn (by omega) h
theorem kUo (H:Asks M A s κ mem le) (hm:∀x,x∈a0.toList->mem x) (h:SB κ a0 lo hi pe st) {nrem:Nat} (h1:1<=nrem) (hl:lo+nrem<=hi) (hh:hi<=a0.size) {Q:Option Nat->SortSt->Prop} (q:∀n st',SB κ a0 lo hi pe st'->1<=n->n<=nrem->SrtA le st' lo n->Q (some n) st'):wpS M A E s (countRun' lo nrem) Q st:=by
 rw[countRun'_eq]
 have up:∀(st':SortSt) n,SB κ a0 lo hi pe st'->1<=n->n<nrem->SrtA le st' lo n->le (Vl st' (lo+n-1)) (Vl st' (lo+n))->SrtA le st' lo (n+1):=fun st' n B hn hnr S w p q hpq hq=>by
  rcases lQx (lQ6 hq) with z | rfl
  ·exact S p q hpq z
  ·rw[show lo+q-1=lo+(q-1) by omega] at w
   rcases lQx (show p<=q-1 by omega) with y | rfl
   ·exact H.tr _ _ _ (B.inn hm (by omega)) (B.inn hm (by omega)) (B.inn hm (by omega)) (S p (q-1) y (by omega)) w
   ·exact w
 refine lJe (lKh (lKi (I:=fun i (c:Option (Option Nat)×Nat) st'=>st=st'/\c=(none,i)/\SrtA le st lo i) (Q:=fun (c:Option (Option Nat)×Nat) st'=>st=st'/\c.1=none/\1<=c.2/\c.2<=nrem/\SrtA le st lo c.2/\(c.2<nrem->¬ le (Vl st (lo+c.2-1)) (Vl st (lo+c.2)))) ?_ ?_ ⟨rfl,rfl,fun p q hpq hq=>absurd hq (by omega)⟩) ?_)
 ·rintro i c st1 hi1 hi2 ⟨rfl,rfl,S⟩
  dsimp only
  refine lJe (jXa H hm h (by omega) (by omega) ?_)
  by_cases w:le (Vl st (lo+i-1)) (Vl st (lo+i))
  ·rw[lJ1 w]
   dsimp only
   rw[lJb (by decide)]
   exact lJf ⟨rfl,rfl,up st i h hi1 hi2 S w⟩
  ·rw[lJq w]
   dsimp only
   (rw[lJc (show (!false)=true from rfl)])
   exact wpS_pure ⟨rfl,rfl,hi1,by dsimp only;omega,S,fun _=>w⟩
 ·rintro c st1 ⟨rfl,rfl,S⟩
  rw[show max 1 nrem=nrem by omega] at S ⊢
  exact⟨rfl,rfl,h1,lJg _,S,fun z=>absurd z (lQq _)⟩
 ·rintro⟨r,n⟩ st1 ⟨rfl,rfl,n1,n2,S,W⟩
  dsimp only at n1 n2 S W ⊢
  refine jJz (fun d=> ?_) fun d=> ?_
  ·exact lJf (q n st h n1 n2 S)
  have nlt:n<nrem:=by omega
  have en:lo+n-1=lo+(n-1):=by omega
  rw[en] at W
  have W':=(H.tot _ _ (h.inn hm (by omega)) (h.inn hm (by omega))).resolve_left (W nlt)
  by_cases cn:n>1
  ·rw[lJc cn]
   refine lJe (jXa H hm h (by omega) (by omega) ?_)
   rw[en]
   by_cases w:le (Vl st (lo+(n-1))) (Vl st lo)
   ·rw[lJ1 w]
    dsimp only
    rw[lJb (by decide),lQ9]
    have hsz:lo+n<=(arrOf st).size:=by rw[h.size];omega
    have B2:=h.rev (i:=0) (j:=n) (by omega) hh
    have N2:NInc le (revS st (lo+0) (lo+n)) lo (n+1):=by
     refine (S.flip hsz).up H hm B2 n1 (by omega) ?_
     rw[jX5 hsz,jX5 hsz,lJb (by omega),lJc (by omega),show 0+n-1-(n-1)=0 by omega,lXe]
     exact H.tr _ _ _ (h.inn hm (by omega)) (h.inn hm (by omega)) (h.inn hm (by omega)) W' w
    refine lJe (lKe ?_)
    (refine lJe (wpS_lift (lQe ⟨rfl,?_⟩)))
    refine lJe (lKh (lKi (I:=fun i (c:Option (Option Nat)×Nat×Nat) st'=>SB κ a0 lo hi pe st'/\c.1=none/\c.2.1=i/\NInc le st' lo i/\c.2.2+1<=i/\Seg le st' lo i c.2.2)
     (Q:=fun (c:Option (Option Nat)×Nat×Nat) st'=>SB κ a0 lo hi pe st'/\c.1=none/\1<=c.2.1/\c.2.1<=nrem/\NInc le st' lo c.2.1/\c.2.2+1<=c.2.1/\Seg le st' lo c.2.1 c.2.2) ?_ ?_ ⟨B2,rfl,rfl,N2,by dsimp only;omega,fun p q a1 a2 a3 a4=>by
      obtain rfl:p=q:=by dsimp only at a1 a3;omega
      exact (H.tot _ _ (B2.inn hm (by omega)) (B2.inn hm (by omega))).elim id id⟩) ?_)
    ·rintro i ⟨r,i',e⟩ st3 hi1 hi2 ⟨B,rfl,rfl,N,he,sg⟩
     dsimp only at N he sg hi1 hi2 ⊢
     have ei:lo+i'-1=lo+(i'-1):=by omega
     refine lJe (jXa H hm B (by omega) (by omega) ?_)
     rw[ei]
     by_cases w:le (Vl st3 (lo+(i'-1))) (Vl st3 (lo+i'))
     ·rw[lJ1 w]
      dsimp only
      rw[lJb (by decide)]
      refine lJe (jXa H hm B (by omega) (by omega) ?_)
      by_cases w2:le (Vl st3 (lo+i')) (Vl st3 (lo+(i'-1)))
      ·rw[lJ1 w2]
       dsimp only
       rw[lJb (by decide)]
       refine wpS_pure ⟨B,rfl,rfl,N.up H hm B (by omega) (by omega) w2,by dsimp only;omega,fun p q a1 a2 a3 a4=> ?_⟩
       dsimp only at a1 a3
       have to:∀p,i'-(e+1)<=p->p<i'->le (Vl st3 (lo+p)) (Vl st3 (lo+i'))/\le (Vl st3 (lo+i')) (Vl st3 (lo+p)):=fun p b1 b2=>
        ⟨H.tr _ _ _ (B.inn hm (by omega)) (B.inn hm (by omega)) (B.inn hm (by omega)) (sg p (i'-1) b1 b2 (by omega) (by omega)) w,H.tr _ _ _ (B.inn hm (by omega)) (B.inn hm (by omega)) (B.inn hm (by omega)) w2 (sg (i'-1) p (by omega) (by omega) b1 b2)⟩
       by_cases ep:p=i'
       ·by_cases eq:q=i'
        ·rw[ep,eq];exact (H.tot _ _ (B.inn hm (by omega)) (B.inn hm (by omega))).elim id id
        ·rw[ep];exact (to q (by omega) (by omega)).2
       ·by_cases eq:q=i'
        ·rw[eq];exact (to p (by omega) (by omega)).1
        ·exact sg p q (by omega) (by omega) (by omega) (by omega)
      ·rw[lJq w2]
       dsimp only
       (rw[lJc (show (!false)=true from rfl)])
       exact wpS_pure ⟨B,rfl,by dsimp only;omega,by dsimp only;omega,N,he,sg⟩
     ·rw[lJq w]
      dsimp only
      (rw[lJc (show (!false)=true from rfl)])
      have w':=(H.tot _ _ (B.inn hm (by omega)) (B.inn hm (by omega))).resolve_left w
      have one:∀st4,SB κ a0 lo hi pe st4->Seg le st4 lo (i'+1) 0:=fun st4 B4 p q a1 a2 a3 a4=>by
       obtain rfl:p=q:=by omega
       exact (H.tot _ _ (B4.inn hm (by omega)) (B4.inn hm (by omega))).elim id id
      by_cases ce:e>0
      ·rw[lJc ce,lQ9,show lo+i'-(e+1)=lo+(i'-(e+1)) by omega]
       have hsz:lo+i'<=(arrOf st3).size:=by rw[B.size];omega
       have B4:=B.rev (i:=i'-(e+1)) (j:=i') (by omega) hh
       have N4:=sg.part N (hn:=hsz)
       refine wpS_bind (wpS_modify (wpS_pure ⟨B4,rfl,rfl,N4.up H hm B4 (by omega) (by omega) ?_,by dsimp only;omega,one _ B4⟩))
       rw[jX5 hsz,jX5 hsz,lJb (by omega),lJc (by omega)]
       exact H.tr _ _ _ (B.inn hm (by omega)) (B.inn hm (by omega)) (B.inn hm (by omega)) w' (sg _ _ (by omega) (by omega) (by omega) (by omega))
      ·rw[lJb ce]
       exact wpS_pure ⟨B,rfl,rfl,N.up H hm B (by omega) (by omega) w',by dsimp only;omega,one _ B⟩
    ·rintro⟨r,i',e⟩ st3 ⟨B,rfl,rfl,N,he,sg⟩
     dsimp only at N he sg ⊢
     exact⟨B,rfl,by omega,by omega,N,he,sg⟩
    ·rintro⟨r,i',e⟩ st3 ⟨B,rfl,b1,b2,N,he,sg⟩
     dsimp only at b1 b2 N he sg ⊢
     have hsz:lo+i'<=(arrOf st3).size:=by rw[B.size];omega
     by_cases ce:e>0
     all_goals first | rw[lJc ce,lQ9,lQ9,show lo+i'-(e+1)=lo+(i'-(e+1)) by omega] | rw[lJb ce,lQ9]
     all_goals first
      | (have N4:=sg.part N (hn:=hsz)
         have B4:=B.rev (i:=i'-(e+1)) (j:=i') (by omega) hh
         have S5:=N4.flip (by rw[B4.size];omega)
         have B5:=B4.rev (i:=0) (j:=i') (by omega) hh
         refine lJe (lKe (lJe (lKe ?_)))
         skip)
      | (have S5:=N.flip hsz
         have B5:=B.rev (i:=0) (j:=i') (by omega) hh
         refine lJe (lKe ?_)
         skip)
     all_goals refine lJe (lKh (lKi (I:=fun i (c:Option (Option Nat)×Nat) st'=>SB κ a0 lo hi pe st'/\c=(none,i)/\SrtA le st' lo i) (Q:=fun (c:Option (Option Nat)×Nat) st'=>SB κ a0 lo hi pe st'/\c.1=none/\1<=c.2/\c.2<=nrem/\SrtA le st' lo c.2) ?_ ?_ ⟨B5,rfl,S5⟩) ?_)
     all_goals first
      | (rintro i c st6 hi1 hi2 ⟨B6,rfl,S6⟩
         dsimp only
         refine lJe (jXa H hm B6 (by omega) (by omega) ?_)
         by_cases w:le (Vl st6 (lo+i-1)) (Vl st6 (lo+i))
         ·rw[lJ1 w]
          dsimp only
          rw[lJb (by decide)]
          exact lJf ⟨B6,rfl,up st6 i B6 (by omega) hi2 S6 w⟩
         ·rw[lJq w]
          dsimp only
          (rw[lJc (show (!false)=true from rfl)])
          exact wpS_pure ⟨B6,rfl,by dsimp only;omega,by dsimp only;omega,S6⟩)
      | (rintro c st6 ⟨B6,rfl,S6⟩
         rw[show max i' nrem=nrem by omega] at S6 ⊢
         exact⟨B6,rfl,h1,lJg _,S6⟩)
      | (rintro⟨r,k⟩ st6 ⟨B6,rfl,k1,k2,S6⟩
         dsimp only at k1 k2 S6 ⊢
         exact lJf (q k st6 B6 k1 k2 S6))
   ·rw[lJq w]
    dsimp only
    (rw[lJc (show (!false)=true from rfl)])
    exact lJf (q n st h n1 n2 S)
  ·rw[lJb cn]
   obtain rfl:n=1:=by omega
   have B2:=h
   have N2:NInc le st lo (1+1):=fun p q hpq hq=>by
    obtain rfl:p=0:=by omega
    obtain rfl:q=1:=by omega
    exact W'
   (refine lJe (wpS_lift (lQe ⟨rfl,?_⟩)))
   refine lJe (lKh (lKi (I:=fun i (c:Option (Option Nat)×Nat×Nat) st'=>SB κ a0 lo hi pe st'/\c.1=none/\c.2.1=i/\NInc le st' lo i/\c.2.2+1<=i/\Seg le st' lo i c.2.2)
    (Q:=fun (c:Option (Option Nat)×Nat×Nat) st'=>SB κ a0 lo hi pe st'/\c.1=none/\1<=c.2.1/\c.2.1<=nrem/\NInc le st' lo c.2.1/\c.2.2+1<=c.2.1/\Seg le st' lo c.2.1 c.2.2) ?_ ?_ ⟨B2,rfl,rfl,N2,by dsimp only;omega,fun p q a1 a2 a3 a4=>by
     obtain rfl:p=q:=by dsimp only at a1 a3;omega
     exact (H.tot _ _ (B2.inn hm (by omega)) (B2.inn hm (by omega))).elim id id⟩) ?_)
   ·rintro i ⟨r,i',e⟩ st3 hi1 hi2 ⟨B,rfl,rfl,N,he,sg⟩
    dsimp only at N he sg hi1 hi2 ⊢
    have ei:lo+i'-1=lo+(i'-1):=by omega
    refine lJe (jXa H hm B (by omega) (by omega) ?_)
    rw[ei]
    by_cases w:le (Vl st3 (lo+(i'-1))) (Vl st3 (lo+i'))
    ·rw[lJ1 w]
     dsimp only
     rw[lJb (by decide)]
     refine lJe (jXa H hm B (by omega) (by omega) ?_)
     by_cases w2:le (Vl st3 (lo+i')) (Vl st3 (lo+(i'-1)))
     ·rw[lJ1 w2]
      dsimp only
      rw[lJb (by decide)]
      refine wpS_pure ⟨B,rfl,rfl,N.up H hm B (by omega) (by omega) w2,by dsimp only;omega,fun p q a1 a2 a3 a4=> ?_⟩
      dsimp only at a1 a3
      have to:∀p,i'-(e+1)<=p->p<i'->le (Vl st3 (lo+p)) (Vl st3 (lo+i'))/\le (Vl st3 (lo+i')) (Vl st3 (lo+p)):=fun p b1 b2=>
       ⟨H.tr _ _ _ (B.inn hm (by omega)) (B.inn hm (by omega)) (B.inn hm (by omega)) (sg p (i'-1) b1 b2 (by omega) (by omega)) w,H.tr _ _ _ (B.inn hm (by omega)) (B.inn hm (by omega)) (B.inn hm (by omega)) w2 (sg (i'-1) p (by omega) (by omega) b1 b2)⟩
      by_cases ep:p=i'
      ·by_cases eq:q=i'
       ·rw[ep,eq];exact (H.tot _ _ (B.inn hm (by omega)) (B.inn hm (by omega))).elim id id
       ·rw[ep];exact (to q (by omega) (by omega)).2
      ·by_cases eq:q=i'
       ·rw[eq];exact (to p (by omega) (by omega)).1
       ·exact sg p q (by omega) (by omega) (by omega) (by omega)
     ·rw[lJq w2]
      dsimp only
      (rw[lJc (show (!false)=true from rfl)])
      exact wpS_pure ⟨B,rfl,by dsimp only;omega,by dsimp only;omega,N,he,sg⟩
    ·rw[lJq w]
     dsimp only
     (rw[lJc (show (!false)=true from rfl)])
     have w':=(H.tot _ _ (B.inn hm (by omega)) (B.inn hm (by omega))).resolve_left w
     have one:∀st4,SB κ a0 lo hi pe st4->Seg le st4 lo (i'+1) 0:=fun st4 B4 p q a1 a2 a3 a4=>by
      obtain rfl:p=q:=by omega
      exact (H.tot _ _ (B4.inn hm (by omega)) (B4.inn hm (by omega))).elim id id
     by_cases ce:e>0
     ·rw[lJc ce,lQ9,show lo+i'-(e+1)=lo+(i'-(e+1)) by omega]
      have hsz:lo+i'<=(arrOf st3).size:=by rw[B.size];omega
      have B4:=B.rev (i:=i'-(e+1)) (j:=i') (by omega) hh
      have N4:=sg.part N (hn:=hsz)
      refine wpS_bind (wpS_modify (wpS_pure ⟨B4,rfl,rfl,N4.up H hm B4 (by omega) (by omega) ?_,by dsimp only;omega,one _ B4⟩))
      rw[jX5 hsz,jX5 hsz,lJb (by omega),lJc (by omega)]
      exact H.tr _ _ _ (B.inn hm (by omega)) (B.inn hm (by omega)) (B.inn hm (by omega)) w' (sg _ _ (by omega) (by omega) (by omega) (by omega))
     ·rw[lJb ce]
      exact wpS_pure ⟨B,rfl,rfl,N.up H hm B (by omega) (by omega) w',by dsimp only;omega,one _ B⟩
   ·rintro⟨r,i',e⟩ st3 ⟨B,rfl,rfl,N,he,sg⟩
    dsimp only at N he sg ⊢
    exact⟨B,rfl,by omega,by omega,N,he,sg⟩
   ·rintro⟨r,i',e⟩ st3 ⟨B,rfl,b1,b2,N,he,sg⟩
    dsimp only at b1 b2 N he sg ⊢
    have hsz:lo+i'<=(arrOf st3).size:=by rw[B.size];omega
    by_cases ce:e>0
    all_goals first | rw[lJc ce,lQ9,lQ9,show lo+i'-(e+1)=lo+(i'-(e+1)) by omega] | rw[lJb ce,lQ9]
    all_goals first
     | (have N4:=sg.part N (hn:=hsz)
        have B4:=B.rev (i:=i'-(e+1)) (j:=i') (by omega) hh
        have S5:=N4.flip (by rw[B4.size];omega)
        have B5:=B4.rev (i:=0) (j:=i') (by omega) hh
        refine lJe (lKe (lJe (lKe ?_)))
        skip)
     | (have S5:=N.flip hsz
        have B5:=B.rev (i:=0) (j:=i') (by omega) hh
        refine lJe (lKe ?_)
        skip)
    all_goals refine lJe (lKh (lKi (I:=fun i (c:Option (Option Nat)×Nat) st'=>SB κ a0 lo hi pe st'/\c=(none,i)/\SrtA le st' lo i) (Q:=fun (c:Option (Option Nat)×Nat) st'=>SB κ a0 lo hi pe st'/\c.1=none/\1<=c.2/\c.2<=nrem/\SrtA le st' lo c.2) ?_ ?_ ⟨B5,rfl,S5⟩) ?_)
    all_goals first
     | (rintro i c st6 hi1 hi2 ⟨B6,rfl,S6⟩
        dsimp only
        refine lJe (jXa H hm B6 (by omega) (by omega) ?_)
        by_cases w:le (Vl st6 (lo+i-1)) (Vl st6 (lo+i))
        ·rw[lJ1 w]
         dsimp only
         rw[lJb (by decide)]
         exact lJf ⟨B6,rfl,up st6 i B6 (by omega) hi2 S6 w⟩
        ·rw[lJq w]
         dsimp only
         (rw[lJc (show (!false)=true from rfl)])
         exact wpS_pure ⟨B6,rfl,by dsimp only;omega,by dsimp only;omega,S6⟩)
     | (rintro c st6 ⟨B6,rfl,S6⟩
        rw[show max i' nrem=nrem by omega] at S6 ⊢
        exact⟨B6,rfl,h1,lJg _,S6⟩)
     | (rintro⟨r,k⟩ st6 ⟨B6,rfl,k1,k2,S6⟩
        dsimp only at k1 k2 S6 ⊢
        exact lJf (q k st6 B6 k1 k2 S6))
end
section
variable {M:Model} {A:Around} {E:Value->Shared->Prop} {s:Shared} {κ:SortKind} {mem:Keyed->Prop} {le:Keyed->Keyed->Prop} [∀x y,Decidable (le x y)]
structure Runs (κ:SortKind) (le:Keyed->Keyed->Prop) (a0:Array Keyed) (Rs:List (List Keyed)) (rest:List Keyed) (st:SortSt):Prop where
 kind:kindOf st=κ
 fail:failedOf st=none
 arr:(arrOf st).toList=Rs.flatten++rest
 perm:(arrOf st).toList.Perm a0.toList
 srt:∀R,R∈Rs->R.Pairwise le/\1<=R.length
 pend:∀i,(pendingOf st)[i]?.map (fun x=>(x.1,x.2.1))=(Rs[i]?).map (fun R=>(((Rs.take i).flatten).length,R.length))
theorem Runs.size {a0:Array Keyed} {Rs:List (List Keyed)} {rest:List Keyed} {st:SortSt} (h:Runs κ le a0 Rs rest st):(pendingOf st).size=Rs.length:=by
 rcases lXx (pendingOf st).size Rs.length with z | z | z
 ·have:=h.pend (pendingOf st).size
  rw[lQ3 (lJg _),lJo z] at this
  cases this
 ·exact z
 ·have:=h.pend Rs.length
  rw[lKt z,lKq (lJg _)] at this
  cases this
theorem split2 {Rs:List (List Keyed)} {i:Nat} (h:i+1<Rs.length):∃A X Y B,Rs=A++X::Y::B/\A.length=i:=by
 refine⟨Rs.take i,Rs[i],Rs[i+1],Rs.drop (i+2),?_,by simp;omega⟩
 conv=>lhs;rw[<-lK3 i Rs]
 rw[lYi (by omega),lYi (by omega)]
theorem kY2 {o:Option (Nat×Nat×Nat)} {a b:Nat} (h:o.map (fun x=>(x.1,x.2.1))=some (a,b)):∃p,o=some (a,b,p):=by
 cases o with
 | none=>cases h
 | some x=>
  obtain⟨u,v,w⟩:=x
  simp only[lQj,lYg,Prod.mk.injEq] at h
  obtain⟨rfl,rfl⟩:=h
  exact⟨w,rfl⟩
theorem Runs.merge {a0:Array Keyed} {Rs:List (List Keyed)} {rest:List Keyed} {st:SortSt} {i:Nat} {Q:Bool->SortSt->Prop} (H:Asks M A s κ mem le) (hm:∀x,x∈a0.toList->mem x) (h:Runs κ le a0 Rs rest st) (hi:i+1<Rs.length)
  (q:∀Rs' st',Runs κ le a0 Rs' rest st'->Rs'.length+1=Rs.length->Rs'.flatten.length=Rs.flatten.length->Q true st'):wpS M A E s (mergeAt' i) Q st:=by
 obtain⟨As,X,Y,B,rfl,hA⟩:=split2 hi
 have hsz:=h.size
 have p1:=h.pend i
 have p2:=h.pend (i+1)
 have e1:(As++X::Y::B)[i]? =some X:=by rw[lK5 (by omega),hA,Nat.sub_self];rfl
 have e2:(As++X::Y::B)[i+1]? =some Y:=by rw[lK5 (by omega),hA,show i+1-i=1 by omega];rfl
 have t1:(As++X::Y::B).take i=As:=by rw[<-hA];exact List.take_left
 have t2:(As++X::Y::B).take (i+1)=As++[X]:=by rw[<-hA,lYt];rfl
 rw[e1,t1,lQj] at p1
 rw[e2,t2,lQj] at p2
 obtain⟨w1,p1⟩:=kY2 p1
 obtain⟨w2,p2⟩:=kY2 p2
 have inM:∀x,x∈(arrOf st).toList->mem x:=fun x hx=>hm x (h.perm.mem_iff.mp hx)
 have harr:(arrOf st).toList=As.flatten++(X++Y)++(B.flatten++rest):=by rw[h.arr];simp
 obtain⟨sX,lX⟩:=h.srt X (by simp)
 obtain⟨sY,lY⟩:=h.srt Y (by simp)
 refine kXg H h.kind h.fail p1 p2 harr rfl rfl (by simp) rfl lX lY sX sY (fun x hx=>inM x (by rw[harr];simp[hx])) (fun x hx=>inM x (by rw[harr];simp[hx])) fun Z st' zp zs za zk zf zpe=> ?_
 have zl:Z.length=X.length+Y.length:=by rw[zp.length_eq,lKk]
 refine q (As++Z::B) st' ⟨zk,zf,by rw[za];simp,?_,fun R hR=> ?_,fun j=> ?_⟩ (by simp;omega) (by simp;omega)
 ·refine List.Perm.trans ?_ h.perm
  rw[za,harr]
  exact lX2 _ (lXi _ zp)
 ·rcases (lJt.mp hR) with z | z
  ·exact h.srt R (by simp[z])
  ·rcases (lJk.mp z) with rfl | z
   ·exact⟨zs,by omega⟩
   ·exact h.srt R (by simp[z])
 ·have hin:i+1<((pendingOf st).setIfInBounds i (As.flatten.length,X.length+Y.length,w1)).size:=by rw[lYs,hsz];exact hi
  have er:(pendingOf st')[j]? =if j<i+1 then ((pendingOf st).setIfInBounds i (As.flatten.length,X.length+Y.length,w1))[j]? else ((pendingOf st).setIfInBounds i (As.flatten.length,X.length+Y.length,w1))[j+1]? :=by
   rw[zpe,Array.eraseIdxIfInBounds,dif_pos hin,Array.getElem?_eraseIdx]
  rw[er]
  rcases lXx j i with z | z | z
  ·rw[lJc (by omega),lYb,lJb (by omega),h.pend j,lK6 (by omega),lK6 (by omega),lV0 (by omega),lV0 (by omega)]
  ·subst z
   have e3:(As++Z::B)[j]? =some Z:=by rw[lK5 (by omega),hA,Nat.sub_self];rfl
   have t3:(As++Z::B).take j=As:=by rw[<-hA];exact List.take_left
   rw[lJc (by omega),lYb,lJc rfl,lJc (by rw[hsz];omega),e3,t3,lQj,lQj,zl]
  ·obtain⟨d,rfl⟩:∃d,j=i+1+d:=⟨j-i-1,by omega⟩
   rw[lJb (by omega),lYb,lJb (by omega),h.pend]
   have g1:(As++X::Y::B)[i+1+d+1]? =B[d]? :=by rw[lK5 (by omega),hA,show i+1+d+1-i=d+2 by omega];rfl
   have g2:(As++Z::B)[i+1+d]? =B[d]? :=by rw[lK5 (by omega),hA,show i+1+d-i=d+1 by omega];rfl
   have g3:(As++X::Y::B).take (i+1+d+1)=As++X::Y::B.take d:=by rw[show i+1+d+1=As.length+(d+2) by omega,lYt];rfl
   have g4:(As++Z::B).take (i+1+d)=As++Z::B.take d:=by rw[show i+1+d=As.length+(d+1) by omega,lYt];rfl
   rw[g1,g2,g3,g4]
   congr 1
   funext R
   have:(As++X::Y::B.take d).flatten.length=(As++Z::B.take d).flatten.length:=by simp;omega
   rw[this]
end
section
variable {M:Model} {A:Around} {E:Value->Shared->Prop} {s:Shared} {κ:SortKind} {mem:Keyed->Prop} {le:Keyed->Keyed->Prop} [∀x y,Decidable (le x y)] {a0:Array Keyed} {Rs:List (List Keyed)} {rest:List Keyed} {st st3:SortSt}
theorem Runs.add {n lo:Nat} (h:Runs κ le a0 Rs rest st) (hlo:lo=Rs.flatten.length) (B:SB κ (arrOf st) lo (arrOf st).size (pendingOf st) st3) (hn:lo+n<=(arrOf st).size) (S:SrtA le st3 lo n):∃R r3,R.length=n/\R.Pairwise le/\Runs κ le a0 Rs (R++r3) st3:=by
 have hsz:=B.size
 have hd:(arrOf st3).toList.take lo=Rs.flatten:=by
  have:(arrOf st).toList.take lo=Rs.flatten:=by rw[h.arr,hlo];exact List.take_left
  rw[<-this]
  apply lVo
  intro p
  rw[lQw,lQw]
  by_cases c:p<lo
  ·rw[lJc c,lJc c,lJ5,lJ5]
   exact B.out p (.inl c)
  ·rw[lJb c,lJb c]
 refine⟨((arrOf st3).toList.drop lo).take n,((arrOf st3).toList.drop lo).drop n,by simp;omega,?_,B.kind,B.fail,?_,?_,h.srt,fun i=> ?_⟩
 ·rw[lYq]
  intro p q hp hq hpq
  have hq':q<n:=by simp at hq;omega
  have:=S p q hpq hq'
  rw[List.getElem_take,List.getElem_take,List.getElem_drop,List.getElem_drop]
  simp only[Vl,Array.getD,show lo+p<(arrOf st3).size by omega,show lo+q<(arrOf st3).size by omega,dif_pos] at this
  simpa using this
 ·rw[lK3,<-hd,lK3]
 ·exact (Array.perm_iff_toList_perm.mp B.perm).trans h.perm
 ·rw[B.pend];exact h.pend i
theorem Runs.push {R r3:List Keyed} (h:Runs κ le a0 Rs (R++r3) st) (hs:R.Pairwise le) (hl:1<=R.length):Runs κ le a0 (Rs++[R]) r3 (setPending st ((pendingOf st).push (Rs.flatten.length,R.length,0))):=by
 have hsz:=h.size
 refine⟨h.kind,h.fail,by show (arrOf st).toList=_;rw[h.arr];simp,h.perm,fun X hX=> ?_,fun i=> ?_⟩
 ·rcases (lJt.mp hX) with z | z
  ·exact h.srt X z
  ·rw[lJ4] at z;rw[z];exact⟨hs,hl⟩
 ·show ((pendingOf st).push _)[i]?.map _=_
  rw[Array.getElem?_push]
  by_cases c:i=(pendingOf st).size
  ·rw[lJc c,lK5 (by omega),show i-Rs.length=0 by omega,lV0 (by omega),lQi (by omega)]
   rfl
  ·rw[lJb c,h.pend i]
   by_cases d:i<Rs.length
   ·rw[lK6 d,lV0 (by omega)]
   ·rw[lKq (by omega),lKq (by simp;omega)];rfl
theorem Runs.pw {k:Nat} {f:Nat×Nat×Nat->Nat×Nat×Nat} (h:Runs κ le a0 Rs rest st) (hf:∀x,((f x).1,(f x).2.1)=(x.1,x.2.1)):Runs κ le a0 Rs rest (setPending st ((pendingOf st).modify k f)):=by
 refine⟨h.kind,h.fail,h.arr,h.perm,h.srt,fun i=> ?_⟩
 show ((pendingOf st).modify k f)[i]?.map _=_
 rw[<-h.pend i,Array.getElem?_modify]
 split
 ·rw[Option.map_map]
  congr 1
  funext x
  exact hf x
 ·rfl
theorem ite_lt {c:Prop} [Decidable c] {a b n:Nat} (ha:a+1<n) (hb:b+1<n):(if c then a else b)+1<n:=by
 split<;>assumption
theorem kU4:∀ {Rs:List (List Keyed)},(∀R,R∈Rs->1<=R.length)->Rs.length<=Rs.flatten.length
 | [],_=>lJg _
 | R::Rs,h=>by
  have:=kU4 (Rs:=Rs) fun X hX=>h X (lJz _ hX)
  have:=h R (lJx ..)
  rw[lXq,lKk,lKl]
  omega
theorem Runs.len (h:Runs κ le a0 Rs rest st):Rs.flatten.length+rest.length=a0.size:=by
 have:=h.perm.length_eq
 rw[h.arr] at this
 simpa using this
theorem kQv (H:Asks M A s κ mem le) (hm:∀x,x∈(arrOf st).toList->mem x) (hk:kindOf st=κ) (hf:failedOf st=none) (hp:pendingOf st= #[]) (h1:1<=(arrOf st).size) {Q:Unit->SortSt->Prop} (q:∀st',(arrOf st').toList.Perm (arrOf st).toList->(arrOf st').toList.Pairwise le->failedOf st'=none->Q () st'):wpS M A E s sortRuns' Q st:=by
 rw[sortRuns'_eq]
 refine lJe (lQa ?_)
 dsimp only
 have R0:Runs κ le (arrOf st) [] (arrOf st).toList st:=⟨hk,hf,by simp,.refl _,fun R hR=>(nomatch hR),fun i=>by rw[hp];simp⟩
 refine lJe (lKh (lKi (I:=fun i (c:Option Unit×Nat) st'=>c.1=none/\∃Rs rest,Runs κ le (arrOf st) Rs rest st'/\c.2=Rs.flatten.length/\(i<=c.2\/(arrOf st).size<=c.2)) (Q:=fun (c:Option Unit×Nat) st'=>c.1=none/\∃Rs rest,Runs κ le (arrOf st) Rs rest st'/\c.2=Rs.flatten.length/\(arrOf st).size<=c.2) ?_ ?_ ⟨rfl,[],_,R0,rfl,.inl (lJu _)⟩) ?_)
 ·rintro i ⟨r,lo⟩ st1 _ hi ⟨rfl,Rs,rest,R1,rfl,hl⟩
  dsimp only at hl ⊢
  by_cases c:Rs.flatten.length>=(arrOf st).size
  ·rw[lJc c]
   exact lJf ⟨rfl,Rs,rest,R1,rfl,c⟩
  rw[lJb c]
  have hs1:(arrOf st1).size=(arrOf st).size:=by have:=R1.perm.length_eq;simpa using this
  have hm1:∀x,x∈(arrOf st1).toList->mem x:=fun x hx=>hm x (R1.perm.mem_iff.mp hx)
  have B0:SB κ (arrOf st1) Rs.flatten.length (arrOf st1).size (pendingOf st1) st1:=⟨R1.kind,R1.fail,rfl,Array.Perm.refl _,fun _ _=>rfl⟩
  refine lJe (kUo H hm1 B0 (by omega) (by omega) (lJg _) fun n st2 B2 n1 n2 S2=> ?_)
  dsimp only
  by_cases cm:n<minRun' (arrOf st).size (arrOf st).size 0
  ·rw[lJc cm]
   (refine lJe (wpS_lift (lQe ⟨rfl,?_⟩)))
   have hq1:n<=min ((arrOf st).size-Rs.flatten.length) (minRun' (arrOf st).size (arrOf st).size 0):=by omega
   have hq2:min ((arrOf st).size-Rs.flatten.length) (minRun' (arrOf st).size (arrOf st).size 0)<=(arrOf st).size-Rs.flatten.length:=Nat.min_le_left ..
   generalize min ((arrOf st).size-Rs.flatten.length) (minRun' (arrOf st).size (arrOf st).size 0)=n3 at hq1 hq2 ⊢
   refine lJe (kKk H hm1 B2 n1 hq1 (by omega) (lJg _) S2 fun st3 B3 S3=> ?_)
   rw[lJb (by decide)]
   obtain⟨R,r3,hRl,hRs,R3⟩:=R1.add rfl B3 (by omega) S3
   have hR1:1<=R.length:=by omega
   refine lJe (lQa ?_)
   cases hb:(pendingOf st3).back? with
   | none=>
    rw[<-hRl]
    exact wpS_bind (wpS_modify (wpS_pure ⟨rfl,_,_,R3.push hRs hR1,by simp,by dsimp only;omega⟩))
   | some x=>
    obtain⟨x1,x2,x3⟩:=x
    dsimp only
    refine lJe (lKh (lKi (I:=fun _ (c:Option Unit×Unit) st'=>c=(none,())/\∃Rs',Runs κ le (arrOf st) Rs' (R++r3) st'/\Rs'.flatten.length=Rs.flatten.length) (Q:=fun (c:Option Unit×Unit) st'=>c=(none,())/\∃Rs',Runs κ le (arrOf st) Rs' (R++r3) st'/\Rs'.flatten.length=Rs.flatten.length) ?_ (fun _ _ z=>z) ⟨rfl,Rs,R3,rfl⟩) ?_)
    ·rintro i' c st4 _ hi' ⟨rfl,Rs4,R4,hl4⟩
     refine lJe (lQa ?_)
     have hsz:=R4.size
     by_cases c:(pendingOf st4).size>1
     ·rw[lJc c,lKt (by omega)]
      dsimp only
      split
      ·exact lJf ⟨rfl,Rs4,R4,hl4⟩
      ·refine lJe (R4.merge H hm (by omega) fun Rs' st' R' e1 e2=> ?_)
       rw[lJb (by decide)]
       exact lJf ⟨rfl,Rs',R',by omega⟩
     ·rw[lJb c]
      exact lJf ⟨rfl,Rs4,R4,hl4⟩
    ·rintro c st4 ⟨rfl,Rs4,R4,hl4⟩
     dsimp only
     have R5:=fun pw:Nat=>R4.pw (k:=(pendingOf st4).size-1) (f:=fun x=>(x.1,x.2.1,pw)) fun _=>rfl
     refine lJe (lKe (lJe (lKe ?_)))
     rw[<-hl4,<-hRl]
     exact wpS_pure ⟨rfl,_,_,(R5 _).push hRs hR1,by simp,by dsimp only;omega⟩
  ·rw[lJb cm]
   obtain⟨st3,rfl⟩:∃x,x=st2:=⟨_,rfl⟩
   have B3:=B2
   have S3:=S2
   obtain⟨R,r3,hRl,hRs,R3⟩:=R1.add rfl B3 (by omega) S3
   have hR1:1<=R.length:=by omega
   refine lJe (lQa ?_)
   cases hb:(pendingOf st3).back? with
   | none=>
    rw[<-hRl]
    exact wpS_bind (wpS_modify (wpS_pure ⟨rfl,_,_,R3.push hRs hR1,by simp,by dsimp only;omega⟩))
   | some x=>
    obtain⟨x1,x2,x3⟩:=x
    dsimp only
    refine lJe (lKh (lKi (I:=fun _ (c:Option Unit×Unit) st'=>c=(none,())/\∃Rs',Runs κ le (arrOf st) Rs' (R++r3) st'/\Rs'.flatten.length=Rs.flatten.length) (Q:=fun (c:Option Unit×Unit) st'=>c=(none,())/\∃Rs',Runs κ le (arrOf st) Rs' (R++r3) st'/\Rs'.flatten.length=Rs.flatten.length) ?_ (fun _ _ z=>z) ⟨rfl,Rs,R3,rfl⟩) ?_)
    ·rintro i' c st4 _ hi' ⟨rfl,Rs4,R4,hl4⟩
     refine lJe (lQa ?_)
     have hsz:=R4.size
     by_cases c:(pendingOf st4).size>1
     ·rw[lJc c,lKt (by omega)]
      dsimp only
      split
      ·exact lJf ⟨rfl,Rs4,R4,hl4⟩
      ·refine lJe (R4.merge H hm (by omega) fun Rs' st' R' e1 e2=> ?_)
       rw[lJb (by decide)]
       exact lJf ⟨rfl,Rs',R',by omega⟩
     ·rw[lJb c]
      exact lJf ⟨rfl,Rs4,R4,hl4⟩
    ·rintro c st4 ⟨rfl,Rs4,R4,hl4⟩
     dsimp only
     have R5:=fun pw:Nat=>R4.pw (k:=(pendingOf st4).size-1) (f:=fun x=>(x.1,x.2.1,pw)) fun _=>rfl
     refine lJe (lKe (lJe (lKe ?_)))
     rw[<-hl4,<-hRl]
     exact wpS_pure ⟨rfl,_,_,(R5 _).push hRs hR1,by simp,by dsimp only;omega⟩
 ·rintro⟨r,lo⟩ st1 ⟨rfl,Rs,rest,R1,hlo,hl⟩
  refine⟨rfl,Rs,rest,R1,hlo,?_⟩
  rw[Nat.zero_max] at hl
  omega
 ·rintro⟨r,lo⟩ st1 ⟨rfl,Rs,rest,R1,hlo,hl⟩
  dsimp only at hlo hl ⊢
  have hL:=R1.len
  refine lJe (lKh (lKi (I:=fun i (c:Option Unit×Unit) st'=>c=(none,())/\∃Rs,Runs κ le (arrOf st) Rs rest st'/\Rs.flatten.length=lo/\Rs.length<=max 1 ((arrOf st).size-i)) (Q:=fun (c:Option Unit×Unit) st'=>c=(none,())/\∃Rs,Runs κ le (arrOf st) Rs rest st'/\Rs.flatten.length=lo/\Rs.length<=1) ?_ ?_ ⟨rfl,Rs,R1,hlo.symm,by have:=kU4 fun R hR=>(R1.srt R hR).2;omega⟩) ?_)
  ·rintro i c st2 _ hi ⟨rfl,Rs2,R2,hl2,hn2⟩
   refine lJe (lQa ?_)
   have hsz:=R2.size
   by_cases c:(pendingOf st2).size<=1
   ·rw[lJc c]
    exact lJf ⟨rfl,Rs2,R2,hl2,by omega⟩
   ·rw[lJb c]
    refine lJe (R2.merge H hm (ite_lt (by omega) (by omega)) fun Rs' st' R' e1 e2=> ?_)
    rw[lJb (by decide)]
    exact lJf ⟨rfl,Rs',R',by omega,by omega⟩
  ·rintro c st2 ⟨rfl,Rs2,R2,hl2,hn2⟩
   exact⟨rfl,Rs2,R2,hl2,by omega⟩
  ·rintro c st2 ⟨rfl,Rs2,R2,hl2,hn2⟩
   dsimp only
   have hr:rest=[]:=lVs.mp (by omega)
   refine lJf (q st2 R2.perm ?_ R2.fail)
   rw[R2.arr,hr,lVp]
   cases Rs2 with
   | nil=>simp at hl2;omega
   | cons R Rs3=>
    obtain rfl:Rs3=[]:=by simpa using hn2
    simp
    exact (R2.srt R (by simp)).1
end
end L3
namespace L3
open PySem PySem.Spec PyProof.Rows L2 PySem.W
section
variable {prog:Program} {w:World} {A:Around} {E:Value->Shared->Prop} {s:Shared}
theorem kVz {a n:Nat} {b:Bool} {es:List (TKey×Addr)} (ho:s.heap.get? a=some (seqObj "list" (List.toArray (es.map fun e=>Value.ref e.2)) n)) (hu:A.units+6<cLine) (h:∀e,e∈es->(jJg prog w).is s.heap e.1 e.2/\kK4 e.1 b/\intT e.1=true) (hlt:∀e,e∈es->∀e',e'∈es->(ltK e.1 e'.1).isSome=true) (h64:es.length<=16000000) {P:PySem.Fin->Shared->Prop}
  (k:∀(es':List (TKey×Addr)) (h':Heap) (c:Nat),es'.Perm es->es'.Pairwise (fun x y=>ltK y.1 x.1≠some true)->h'.get? a=some (seqObj "list" (List.toArray (es'.map fun e=>Value.ref e.2)) c)->(∀p o,p≠a->s.heap.get? p=some o->h'.get? p=some o)->P (.done (.ret .none)) {s with heap:=h'}):wpAny (model prog w) A (Builtin.«list.sort» ⟨[.ref a],[]⟩) P E s:=by
 (have ha:a<s.heap.objs.size:=lJj ho)
 have hlen:(es.map fun e=>Value.ref e.2).length=es.length:=lJh ..
 rw[list_sort_plain]
 (refine lJa (listItems_at ho rfl ?_))
 refine lJa (listUpdate_at ho rfl ?_ (by rw[lJv,hlen,lKw];omega) (lJu _))
 (obtain⟨e1,ho1⟩:∃e1,(s.heap.update a (Obj.mapSeq fun _=>(#[]:Array Value))).get? a=some (seqObj "list" #[] e1):=⟨_,get?_update_seq ho fun _=> #[]⟩)
 (refine lJa (seqEpoch_at ho1 rfl ?_))
 refine lJa (wpAny_newTuple ?_ (by show (es.map fun e=>Value.ref e.2).length<=_;rw[hlen,lKw];omega))
 (refine lJa (wpAny_newList ?_ (lJu _)))
 refine lK8 ?_
 generalize hg:((s.heap.update a (Obj.mapSeq fun _=>(#[]:Array Value))).push (seqObj "tuple" (List.toArray (es.map fun e=>Value.ref e.2)) 0)).push (seqObj "list" #[] 0)=h1
 refine (show wpAny (model prog w) A _ P E {s with heap:=h1} from ?_)
 have oth:∀p o,p≠a->s.heap.get? p=some o->h1.get? p=some o:=by
  intro p o hp e
  rw[<-hg]
  exact lJm _ (lJm _ ((Heap.get?_update_ne _ _ _ _ hp).trans e))
 have ho6:h1.get? a=some (seqObj "list" #[] e1):=by
  rw[<-hg]
  exact lJm _ (lJm _ ho1)
 have tk:TupKept s.heap h1:=by
  intro p o e hc
  refine oth p o ?_ e
  rintro rfl
  rw[ho] at e;cases e
  exact absurd hc (show ¬ Value.type "list"=Value.type "tuple" by decide)
 have hk1:∀e,e∈es->(jJg prog w).is h1 e.1 e.2/\kK4 e.1 b/\intT e.1=true:=fun e he=>⟨jKq tk (h e he).1,(h e he).2⟩
 have fin:∀(out:List (TKey×Addr)),out.Perm es->out.Pairwise (fun x y=>ltK y.1 x.1≠some true)->∀st':SortSt,(arrOf st').map (·.2)=List.toArray (out.map fun e=>Value.ref e.2)->failedOf st'=none->
   wpAny (model prog w) A (do
    let touched:=(<-seqEpoch a) != e1
    Builtin.List.listUpdate (.ref a) fun _=>(arrOf st').map (·.2)
    if let some e:=failedOf st' then rule "list.sort.comparison-raised"; throw e
    if (touched) then rule "list.sort.modified"; raiseError "ValueError" "list modified during sort"
    ret .none) P E {s with heap:=h1}:=by
  intro out hp hs st' hout hf
  rw[hout,hf]
  have hol:out.length=es.length:=hp.length_eq
  refine lJa (seqEpoch_at (s:={s with heap:=h1}) ho6 rfl ?_)
  refine lJa (listUpdate_at (s:={s with heap:=h1}) ho6 rfl ?_ (lJu _) (by rw[lJv,lJh,hol,lKw];omega))
  (simp only[bne_self_eq_false,lKj,lKc])
  refine lJd (k out _ _ hp hs (get?_update_seq ho6 fun _=>List.toArray (out.map fun e=>Value.ref e.2)) fun p o hpa e=>(Heap.get?_update_ne _ _ _ _ hpa).trans (oth p o hpa e))
 dsimp only
 by_cases h2:(List.toArray (es.map fun e=>Value.ref e.2)).size<2
 ·rw[lJc h2,lJc h2]
  refine lJa (lJd ?_)
  rw[StateT.run_pure]
  refine lJa (lJd ?_)
  refine fin es (.refl _) ?_ _ ?_ rfl
  ·rw[lJv,hlen] at h2
   match es,h2 with
   | [],_=>exact .nil
   | [_],_=>exact List.pairwise_singleton _ _
  ·apply Array.toList_inj.mp
   show (((List.toArray (es.map fun e=>Value.ref e.2)).zip (List.toArray (es.map fun e=>Value.ref e.2))).map (·.2)).toList=_
   rw[Array.toList_map,ksk_zip,List.map_snd_zip (lJg _)]
 ·rw[lJb h2,lJb h2]
  rw[lJv,hlen] at h2
  refine lJa (qVv (s:={s with heap:=h1}) hk1 (by omega) ?_)
  let f:TKey×Addr->Keyed:=fun e=>(Value.ref e.2,Value.ref e.2)
  let mem:Keyed->Prop:=fun x=>∃e,e∈es/\x=f e
  let le:Keyed->Keyed->Prop:=fun x y=>∀e e',e∈es->e'∈es->x=f e->y=f e'->ltK e'.1 e.1≠some true
  have one:∀e e',e∈es->e'∈es->f e=f e'->e.1=e'.1:=fun e e' he he' z=>by
   have z1:Value.ref e.2=Value.ref e'.2:=lKp Prod.fst z
   have z2:e.2=e'.2:=by cases e;cases e';cases z1;rfl
   have a1:=(hk1 e he).1
   rw[z2] at a1
   exact (jJg prog w).inj a1 (hk1 e' he').1
  have le_iff:∀e e',e∈es->e'∈es->(le (f e) (f e')↔ltK e'.1 e.1≠some true):=fun e e' he he'=>
   ⟨fun z=>z e e' he he' rfl rfl,fun z d d' hd hd' q q'=>by rw[<-one e d he hd q,<-one e' d' he' hd' q'];exact z⟩
  haveI:∀x y,Decidable (le x y):=fun x y=>Classical.propDecidable _
  have HA:Asks (model prog w) A {s with heap:=h1} (tuples' b) mem le:=by
   refine⟨?_,?_,?_⟩
   ·rintro x y ⟨e,he,rfl⟩ ⟨e',he',rfl⟩ E' Q hQ
    obtain⟨c,hc⟩:=lXn.mp (hlt e he e' he')
    refine ask_ok (s:={s with heap:=h1}) hu (hk1 e he).1 (hk1 e' he').1 hc (hk1 e he).2.1 (hk1 e' he').2.1 ?_
    have:(!decide (le (f e') (f e)))=c:=by
     by_cases z:le (f e') (f e)
     ·rw[lJ1 z]
      have:=(le_iff e' e he' he).mp z
      rw[hc] at this
      cases c with
      | false=>rfl
      | true=>exact absurd rfl this
     ·rw[lJq z]
      cases c with
      | true=>rfl
      | false=>exact absurd ((le_iff e' e he' he).mpr (by rw[hc];simp)) z
    rw[this] at hQ
    exact hQ
   ·rintro x y ⟨e,he,rfl⟩ ⟨e',he',rfl⟩
    rw[le_iff e e' he he',le_iff e' e he' he]
    by_cases z:ltK e'.1 e.1=some true
    ·right
     intro z2
     have:=kUe z z2
     rw[show ltK e'.1 e'.1=some false from jU6 _] at this
     cases this
    ·exact .inl z
   ·rintro x y z ⟨e,he,rfl⟩ ⟨e',he',rfl⟩ ⟨d,hd,rfl⟩ h1' h2'
    rw[le_iff e e' he he'] at h1'
    rw[le_iff e' d he' hd] at h2'
    rw[le_iff e d he hd]
    intro q
    by_cases eqk:d.1=e'.1
    ·rw[eqk] at q;exact h1' q
    ·obtain⟨c,hc⟩:=lXn.mp (hlt d hd e' he')
     cases c with
     | true=>exact h2' hc
     | false=>
      have:=kord.neg eqk hc
      exact h1' (kUe this q)
  have hz:((List.toArray (es.map fun e=>Value.ref e.2)).zip (List.toArray (es.map fun e=>Value.ref e.2))).toList=es.map f:=by
   rw[ksk_zip,List.zip_map']
  have key:wpS (model prog w) A E {s with heap:=h1} sortRuns' (fun _ st'=>∃es':List (TKey×Addr),es'.Perm es/\es'.Pairwise (fun x y=>ltK y.1 x.1≠some true)/\(arrOf st').map (·.2)=List.toArray (es'.map fun e=>Value.ref e.2)/\failedOf st'=none) (SortSt.mk' (tuples' b) ((List.toArray (es.map fun e=>Value.ref e.2)).zip (List.toArray (es.map fun e=>Value.ref e.2))) #[] 7 none):=by
   refine kQv HA (fun x hx=> ?_) rfl rfl rfl ?_ fun st' p1 p2 p3=> ?_
   ·have hx':x∈es.map f:=by rw[<-hz];exact hx
    obtain⟨e,he,rfl⟩:=lJl.mp hx'
    exact⟨e,he,rfl⟩
   ·show 1<=((List.toArray (es.map fun e=>Value.ref e.2)).zip (List.toArray (es.map fun e=>Value.ref e.2))).size
    rw[<-lKf,hz,lJh];omega
   ·obtain⟨es',hp,he⟩:=jY0 p1 es hz
    refine⟨es',hp,?_,?_,p3⟩
    ·rw[he,lQ7] at p2
     exact p2.imp_of_mem fun ha hb z=>(le_iff _ _ (hp.mem_iff.mp ha) (hp.mem_iff.mp hb)).mp z
    ·apply Array.toList_inj.mp
     rw[Array.toList_map,he,lQb]
     rfl
  unfold wpS at key
  refine lJa (lQn key ?_ fun _ _ x=>x)
  rintro⟨⟨⟩,st'⟩ s' ⟨rfl,es',hp,hs,har,hf⟩
  exact fin es' hp hs st' har hf
end
section
variable {prog:Program} {w:World} {A:Around} {E:Value->Shared->Prop} {s:Shared}
theorem kQu {S:Addr} {b:Bool} {kb:List (TKey×Addr)} (hS:SetIs prog w s.heap S kb) (hh:A.handled=none) (hu:A.units+20<cLine) (h:∀e,e∈kb->kK4 e.1 b/\intT e.1=true) (hlt:∀e,e∈kb->∀e',e'∈kb->(ltK e.1 e'.1).isSome=true) {us:List TKey} (hus:us.length<76) (hkus:∀e,e∈kb->e.1∈us) {Q:Value->Shared->Prop}
  (k:∀(es:List (TKey×Addr)) (h':Heap) (tk:Nat) (D c:Nat),Put es kb->es.Pairwise (fun x y=>ltK x.1 y.1=some true)->s.heap.objs.size<=D->h'.get? D=some (seqObj "list" (List.toArray (es.map fun e=>Value.ref e.2)) c)->(∀p o,s.heap.get? p=some o->h'.get? p=some o)->Q (.ref D) {s with heap:=h',toks:=tk}):
  wpAny (model prog w) A (call (.builtin "sorted") [.ref S]) Q E s:=by
 obtain⟨o,arr,ep,t,es,d,p,l⟩:=hS
 have el:es.length<76:=Nat.lt_of_le_of_lt (p.few hkus) hus
 (refine Calls.call_function_entry kind_sorted plain_sorted entry_sorted (args_sorted1 _) ?_)
 unfold Builtin.«sorted»
 (refine lJa (m:=checkCount "sorted" 1 1 _) (lJd ?_))
 refine lJa (kUq (A:=A.in1) d l (by simpa using hh) fun g tk acc kp big pe=> ?_)
 obtain⟨es2,pe2,rfl⟩:=jY0 pe es rfl
 have l2:es2.length=es.length:=pe2.length_eq
 refine lJa (wpAny_newList ?_ (by rw[lJh,lKw];omega))
 have hoL:(g.push (seqObj "list" (List.toArray (es2.map fun e=>Value.ref e.2)) 0)).get? g.objs.size=some (seqObj "list" (List.toArray (es2.map fun e=>Value.ref e.2)) 0):=lJ6 _ rfl
 refine lJa (lK8 (lQo slot_list_sort ⟨_,hoL,rfl⟩ entry_list_sort ?_ (args_list_sort _)))
 have hsub:∀e,e∈es2->e∈kb:=fun e he=>p.sub e (pe2.mem_iff.mp he)
 refine kVz (s:={s with heap:=g.push (seqObj "list" (List.toArray (es2.map fun e=>Value.ref e.2)) 0),toks:=tk}) (b:=b) hoL (by rw[lQp,lQp];omega) (fun e he=> ?_) (fun e he e' he'=>hlt e (hsub e he) e' (hsub e' he')) (by omega) fun es' h' c pe' so0 hD oth=> ?_
 ·exact⟨jKq (fun b ob e _=>lJm _ (kp b ob e)) (d.are e (pe2.mem_iff.mp he)),h e (hsub e he)⟩
 ·have nod':(es'.map (·.1)).Nodup:=((pe'.trans pe2).map _).nodup_iff.mpr p.nod
  have so:es'.Pairwise (fun x y=>ltK x.1 y.1=some true):=by
   have nd2:es'.Pairwise (fun x y=>x.1≠y.1):=by rw[List.Nodup,lQ7] at nod';exact nod'
   refine (so0.and nd2).imp_of_mem fun {x y} hx hy z=> ?_
   have hx':=hsub x (pe'.mem_iff.mp hx)
   have hy':=hsub y (pe'.mem_iff.mp hy)
   obtain⟨c,hc⟩:=lXn.mp (hlt y hy' x hx')
   cases c with
   | true=>exact absurd hc z.1
   | false=>exact kord.neg (fun e=>z.2 e.symm) hc
  refine⟨_,rfl,lJd ⟨_,rfl,k es' h' tk _ c ?_ so (lVq big) hD fun q ob e=>oth q ob ?_ (lJm _ (kp q ob e))⟩⟩
  ·have pp:=pe'.trans pe2
   exact⟨fun e he=>p.sub e (pp.mem_iff.mp he),fun e he=>(pp.map (·.1)).mem_iff.mpr (p.all e he),(pp.map _).nodup_iff.mpr p.nod⟩
  ·exact lJr (lJ7 (lJj e) (lVq big))
end
section
variable {X:Cx}
noncomputable def kKo (ta:TA3):TE3:=fun τ G Q=>ta τ G fun vs G1=>∃(x:T) (b:Bool) (tks:List (List T×TKey)),vs=[x]/\jK1 G1 x=some (tks.map fun e:List T×TKey=> .tup e.1)/\(∃us:List TKey,us.length<76/\∀e,e∈tks->e.2∈us)/\(∀e,e∈tks->SKey b e.1 e.2)/\(∀e,e∈tks->∀e',e'∈tks->(ltK e.2 e'.2).isSome=true)/\
 ∀(p:Addr) (ys:List T) (kys:List (List T×TKey)),G1 p=none->Rising (tks.map fun e=> .tup e.1) ys kys->Q (.ref p) (gup G1 p (.lst ys))
theorem kZ7 {pos pos' p p':Pos} {a:Expr} {ta:TA3} (hc:X.calm=true) (hu:X.A.units+20<cLine) (hl:Gl X "sorted") (hlm:X.mg "sorted"=none) (hlv:bootBuiltins "sorted"=some (.builtin "sorted")) (hg:Gl X "set") (hm:X.mg "set"=none) (hv:bootBuiltins "set"=some (.type "set")) (ha:PA3 X [a] ta) (hs:starEach [a] X.env=[(false,eval a X.env)]:=by rfl)
  (hs':starEach [Expr.Call (.Name "set" p) [a] [] pos] X.env=[(false,eval (.Call (.Name "set" p) [a] [] pos) X.env)]:=by rfl):
  PE3 X (.Call (.Name "sorted" p') [.Call (.Name "set" p) [a] [] pos] [] pos') (kKo ta):=by
 intro pins s τ G H Q I h
 obtain⟨σ,I0,_,_⟩:=id I
 refine Call_ (jUz I0 hl hlm hlv (PyProof.Rows.callWith_builtin1 ?_ hs' rfl))
 rw[hs']
 refine Calls.spliced_cons (Call_ (jUz I0 hg hm hv (lVe (thn (ha pos pins s τ G H _ I h) fun us s1 w_=>w_.el fun ys G1 H1 e1 i_ r_ q1=>i_.el fun σ1 I1 hs1 hg1=>r_.el fun as ras rvs=> ?_) hs rfl)))
 obtain⟨x,b,tks,e,hx,⟨us,hus,hkus⟩,hk,hlt,q⟩:=q1
 subst e
 obtain⟨v,rfl,rv⟩:=jVx ras
 obtain⟨u,rfl,ru⟩:=rvs.one
 obtain⟨pa,vs,rfl,hq,r⟩:=jQd hg1 rv hx
 cases ru
 obtain⟨its,rvv,pl,hz⟩:=I1.list hq
 obtain⟨tb,t1,t2,t3,t4⟩:=kXx hk r rvv
 have tl:tb.length=tks.length:=by rw[<-t1,lJh]
 have hmem:∀e,e∈tb->e.1∈tks:=fun e he=>by rw[<-t1];exact lJl.mpr ⟨e,he,rfl⟩
 have hkb:∀e,e∈(tb.map fun e=>(e.1.2,e.2))->e.1∈us:=by
  intro e he
  obtain⟨y,hy,rfl⟩:=lJl.mp he
  exact hkus _ (hmem y hy)
 refine kJl (kb:=tb.map fun e=>(e.1.2,e.2)) (I1.ok.hd hc) hu pl.isList (by rw[List.toList_toArray,t3,lQb];rfl) (fun e he=> ?_) (by omega) hkb fun h2 tk2 hS kp2=> ?_
 ·obtain⟨y,hy,rfl⟩:=lJl.mp he
  exact⟨(hk _ (hmem y hy)).2.2,kK2 I1.hok (t4 y hy).1⟩
 refine Calls.spliced_nil ?_
 refine kQu (s:={s1 with heap:=h2,toks:=tk2}) (b:=b) hS (I1.ok.hd hc) hu (fun e he=> ?_) (fun e he e' he'=> ?_) hus hkb fun es h3 tk3 D c hp so hD hoD kp3=> ?_
 ·obtain⟨y,hy,rfl⟩:=lJl.mp he
  exact (hk _ (hmem y hy)).2
 ·obtain⟨y,hy,rfl⟩:=lJl.mp he
  obtain⟨y',hy',rfl⟩:=lJl.mp he'
  exact hlt _ (hmem y hy) _ (hmem y' hy')
 obtain⟨tb',p1,p2⟩:=kYz es fun e he=>hp.sub e he
 have kp:∀b o,s1.heap.get? b=some o->h3.get? b=some o:=fun b o e=>kp3 b o (kp2 b o e)
 have hD1:s1.heap.objs.size<=D:=by
  obtain⟨o,_,_,_,_,d,_⟩:=hS
  exact lKo (lVq (lJj d.get)) hD
 have fr:=I1.hok.fresh hD1
 have es_len:tb'.length<=us.length:=by
  have:=hp.few hkb
  rw[<-p1,lJh] at this
  exact this
 have I3:=I1.laid (a:=D) (o:= .lst (tb'.map fun e=>V.ref e.2)) (h':=h3) (t':=tk3) kp hD1 ⟨by rw[lJh,lKw];omega,tb'.map fun e=>Value.ref e.2,c,jZq tb',by rw[<-p1,lQb] at hoD;exact hoD⟩
 have ext:Ext H1 (upd H1 D (.lst (tb'.map fun e=>V.ref e.2))):= .upd (.none fr)
 refine⟨.ref D,_,_,e1.trans ext,⟨σ1,I3,hs1.mono ext,hg1.lstNew (kYg tb' fun e he=>(t4 e (p2 e he)).2) (.none fr)⟩,⟨.ref D,rfl,rfl⟩,?_⟩
 refine q D _ (tb'.map (·.1)) (hg1.fresh fr) ⟨by rw[lQb];rfl,fun e he=> ?_,fun t=>⟨fun ht=> ?_,fun ht=> ?_⟩,?_⟩
 ·obtain⟨y,hy,rfl⟩:=lJl.mp he
  exact (hk _ (hmem y (p2 y hy))).1
 ·obtain⟨y,hy,rfl⟩:=lJl.mp ht
  exact lJl.mpr ⟨y.1,hmem y (p2 y hy),rfl⟩
 ·obtain⟨y,hy,rfl⟩:=lJl.mp ht
  rw[<-t1] at hy
  obtain⟨z,hz',rfl⟩:=lJl.mp hy
  have:=hp.all (z.1.2,z.2) (lJl.mpr ⟨z,hz',rfl⟩)
  rw[<-p1,lQb] at this
  obtain⟨z',hz'',ez⟩:=lJl.mp this
  have ek:z'.1.2=z.1.2:=ez
  refine lJl.mpr ⟨z',hz'',?_⟩
  have k1:=(hk _ (hmem z' (p2 z' hz''))).1
  have k2:=(hk _ (hmem z hz')).1
  rw[ek] at k1
  rw[jZ1 k1 k2]
 ·rw[<-p1,lQ7] at so
  rw[lQ7]
  exact so
end
end L3
namespace W
open PySem L3
local macro_rules
 | `(tactic| wp_walk using 1, $ts,*) => do
  let ls ← ts.getElems.mapM fun t => `(Lean.Parser.Tactic.simpLemma| $t:term)
  let ns ← ("tSeq tIfS jJw tOp rGt rLt rGe rSub L3.rI0 L3.rI rIxF tVar tC tAsg tCB jJb tNil qVc rLen rAbs rMax kYs gTup jJu gNil gSub jJe jQ3 tRet tRetN jKe jK7 jJ0 tLst tTup tIf tNot tAnd tOr kQq tOrV tNotV tPar jKn kJx rMod qVb rPow rIsN kJv jQq tTru rTru truT tUn rNeg qQz qKy qK0 qKz qXc kKe qVy qVz at0 at1 at2 ix30 ix31 ix32 qJ9 qJ7 qV0 jYd Option.map_some and_assoc T.int.injEq T.bl.injEq T.tup.injEq T.ref.injEq List.cons.injEq and_true true_and exists_eq_left exists_eq_left' exists_and_left exists_eq_right List.getElem?_cons_zero List.getElem?_cons_succ List.set_cons_zero List.set_cons_succ List.length_cons List.length_nil Nat.reduceAdd Option.some.injEq jJh kZv reduceCtorEq false_and exists_false exists_const Bool.true_eq Bool.not_eq_true' Bool.not_true Bool.not_false if_true if_false decide_eq_true_eq tBM jJ6 jXm jJv qJ2 jQh GO.lst.injEq msk List.zipWith_cons_cons List.zipWith_nil_left List.zipWith_nil_right Bool.false_eq_true kXt".splitOn " ").toArray.mapM fun n => `(Lean.Parser.Tactic.simpLemma| $(Lean.mkIdent n.toName):term)
  let al:=ns++ls
  `(tactic| ((try dsimp only [$al,*]); (try simp only [$al,*])))
local macro_rules
 | `(tactic| omega) => `(tactic| first | exact szle rfl | lia)
def BoxAt (G:Gp) (b:Addr) (n:Nat):Prop:=∃x y z:Int,G b=some (.lst [.int x,.int y,.int z])/\0<=x/\0<=y/\y<2147483648/\0<=z/\z<=n
def Keep (b:Addr) (G G':Gp):Prop:=∀c o,c≠b->G c=some o->G' c=some o
theorem Keep.refl (b:Addr) (G:Gp):Keep b G G:=fun _ _ _ h=>h
theorem Keep.trans {b:Addr} {G G1 G2:Gp} (h:Keep b G G1) (h':Keep b G1 G2):Keep b G G2:=fun c o hc e=>h' c o hc (h c o hc e)
theorem Keep.gup {b:Addr} {G:Gp} {o:GO}:Keep b G (gup G b o):=fun c u hc e=>by rw[jJp hc];exact e
theorem Keep.new {b p:Addr} {G:Gp} {o:GO} (hp:G p=none):Keep b G (L3.gup G p o):=fun c u _ e=>by rw[jJp];exact e;rintro rfl;rw[hp] at e;cases e
abbrev jQo (ns:List Int):List T:=ns.map T.int
theorem sz:sizeLine=16777216:=PySem.sizeLine_eq
abbrev Web:=List (List (Nat×Nat))
def encE (e:Nat×Nat):T:= .tup [.int e.1,.int e.2]
def encR (r:List (Nat×Nat)):T:= .tup (r.map encE)
def encW (W:Web):T:= .tup (W.map encR)
def en (W:Web) (r i:Nat):Option (Nat×Nat):=(W[r]?).bind fun es=>es[i]?
def Sym (W:Web):Prop:=∀r i s j,en W r i=some (s,j)->en W s j=some (r,i)
def sw:Nat->Nat
 | 0=>1
 | 1=>0
 | n=>n
def RowsAt (G:Gp) (h:Addr) (Hs:Web) (rs:List Addr):Prop:=G h=some (.lst (rs.map T.ref))/\rs.length=Hs.length/\∀(i:Nat) (r:Addr),rs[i]? =some r->∃hs:List (Nat×Nat),Hs[i]? =some hs/\G r=some (.lst (hs.map encE))
theorem RowsAt.sub {G G':Gp} {h:Addr} {Hs:Web} {rs:List Addr} (s:Sub G G') (x:RowsAt G h Hs rs):RowsAt G' h Hs rs:=⟨s _ _ x.1,x.2.1,fun i r e=>let ⟨hs,h1,h2⟩:=x.2.2 i r e;⟨hs,h1,s _ _ h2⟩⟩
def keyE (e:Nat×Nat):L2.TKey:=[.inl (.inl (e.1:Int)),.inl (.inl (e.2:Int))]
theorem kJ6 {a b:Nat×Nat} (h:keyE a=keyE b):a=b:=by
 obtain⟨a1,a2⟩:=a;obtain⟨b1,b2⟩:=b
 simp only[keyE,lVy,Sum.inl.injEq,and_true] at h
 obtain⟨h1,h2⟩:=h
 rw[Int.ofNat.inj h1,Int.ofNat.inj h2]
theorem jU1 {κ:Type} [DecidableEq κ] (kvs:List (κ×T)) (k j:κ) (v:T):valT (putT kvs k v) j=if k=j then some v else valT kvs j:=by
 unfold putT valT
 by_cases h:(kvs.any fun kv=>decide (kv.1=k))=true
 ·rw[lJc h]
  induction kvs with
  | nil=>simp at h
  | cons p ps ih=>
   rw[lJn,lQt,lQt]
   by_cases hp:p.1=k
   ·rw[lJc hp]
    by_cases hj:k=j
    ·simp[hp,hj]
    ·have h1:¬ p.1=j:=fun z=>hj (hp.symm.trans z)
     simp only[h1,decide_false,hj,lKc]
     by_cases h2:(ps.any fun kv=>decide (kv.1=k))=true
     ·have:=ih h2;rw[lJb hj] at this;exact this
     ·have hm:ps.map (fun kv=>if kv.1=k then (kv.1,v) else kv)=ps:=by
       rw[List.map_congr_left (g:=id)];· simp
       intro a ha
       have:¬ a.1=k:=fun z=>h2 (List.any_eq_true.mpr ⟨a,ha,by simp[z]⟩)
       simp[this]
      rw[hm]
   ·rw[lJb hp]
    have h2:(ps.any fun kv=>decide (kv.1=k))=true:=by
     rw[lQs,lJq hp,Bool.false_or] at h;exact h
    have:=ih h2
    by_cases hj:p.1=j
    ·have:¬ k=j:=fun z=>hp (hj.trans z.symm)
     simp[hj,this]
    ·simp only[hj,decide_false];exact this
 ·rw[lJb h,List.find?_append]
  have hn:(kvs.find? fun kv=>decide (kv.1=j))=none\/∃p,(kvs.find? fun kv=>decide (kv.1=j))=some p:=by
   cases kvs.find? fun kv=>decide (kv.1=j) with
   | none=>exact .inl rfl
   | some p=>exact .inr ⟨p,rfl⟩
  by_cases hj:k=j
  ·subst hj
   have:(kvs.find? fun kv=>decide (kv.1=k))=none:=by
    rw[List.find?_eq_none]
    intro a ha z
    exact h (List.any_eq_true.mpr ⟨a,ha,z⟩)
   simp[this]
  ·rcases hn with e | ⟨p,e⟩
   ·simp[e,hj]
   ·simp[e,hj]
theorem jV1 {κ:Type} [DecidableEq κ] (kvs:List (κ×T)) (k:κ) (v:T):(putT kvs k v).length<=kvs.length+1:=by
 unfold putT;split<;>simp
theorem qXn {G:Gp} {p:Addr} {kvs:List (L2.TKey×T)} {ys:List T} {ks:L2.TKey} (h:G p=some (.dct kvs)) (hk:jQn ys=some ks):dAt G (.ref p) (.tup ys)=some (valT kvs ks):=by simp only[dAt,h,hk]
theorem kUg {G:Gp} {p:Addr} {kvs:List (L2.TKey×T)} {ys:List T} {ks:L2.TKey} {t:T} (h:G p=some (.dct kvs)) (hk:jQn ys=some ks) (ht:valT kvs ks=some t):ixR G (.ref p) (.tup ys)=some t:=by
 simp only[ixR,seqT,h,asL,qXn h hk,ht]
theorem jYc {G:Gp} {p:Addr} {kvs:List (L2.TKey×T)} {ys:List T} {ks:L2.TKey} {v:T} (h:G p=some (.dct kvs)) (hk:jQn ys=some ks) (hz:kvs.length<sizeLine):setR G (.ref p) (.tup ys) v=some (gup G p (.dct (putT kvs ks v))):=by
 simp only[setR,h,hk,hz,lKn]
theorem jQx {W:Web} {r i:Nat} {e:Nat×Nat} (h:en W r i=some e):∃es,W[r]? =some es/\es[i]? =some e:=by
 unfold en at h
 cases e1:W[r]? with
 | none=>rw[e1] at h;cases h
 | some es=>rw[e1] at h;exact⟨es,rfl,h⟩
theorem jXp {W:Web} {r i:Nat} {es:List (Nat×Nat)} {e:Nat×Nat} (h1:W[r]? =some es) (h2:es[i]? =some e):en W r i=some e:=by unfold en;rw[h1];exact h2
open Classical in
def oth (Hs:Web) (e:Nat×Nat):Nat×Nat:=if h:∃p:Nat×Nat,en Hs p.1 p.2=some (e.1,sw e.2) then h.choose else (0,0)
theorem jVw {n i:Nat} {x:T} (h:(rngT 0 n)[i]? =some x):i<n/\x= .int i:=by
 unfold rngT at h
 rw[lKa] at h
 have hi:i<n:=by
  rcases lV6 i n with z | z
  ·exact z
  ·rw[lKq (by simpa using z)] at h;cases h
 simp[hi] at h
 exact⟨hi,h.symm⟩
theorem jUg {n:Nat}:(rngT 0 n).length=n:=by simp[rngT]
theorem BoxAt.mono {G:Gp} {b:Addr} {n m:Nat} (h:BoxAt G b n) (hm:n<=m):BoxAt G b m:=by
 obtain⟨x,y,z,h1,h2,h3,h4,h5,h6⟩:=h
 exact⟨x,y,z,h1,h2,h3,h4,h5,by omega⟩
theorem BoxAt.some {G:Gp} {b:Addr} {n:Nat} (h:BoxAt G b n):∃o,G b=some o:=by
 obtain⟨x,y,z,h1,_⟩:=h
 exact⟨_,h1⟩
theorem BoxAt.sub {G G':Gp} {b:Addr} {n:Nat} (h:BoxAt G b n) (s:Sub G G'):BoxAt G' b n:=by
 obtain⟨x,y,z,h1,h2,h3,h4,h5,h6⟩:=h
 exact⟨x,y,z,s _ _ h1,h2,h3,h4,h5,h6⟩
theorem BoxAt.gup {G:Gp} {b p:Addr} {n:Nat} {o:GO} (h:BoxAt G b n) (hp:b≠p):BoxAt (gup G p o) b n:=by
 obtain⟨x,y,z,h1,h2,h3,h4,h5,h6⟩:=h
 exact⟨x,y,z,by rw[jJp hp];exact h1,h2,h3,h4,h5,h6⟩
theorem Keep.sub {b:Addr} {G G':Gp} (h:Sub G G'):Keep b G G':=fun c o _ e=>h c o e
theorem Keep.over {b p:Addr} {G G':Gp} {o:GO} (h:Keep b G G') (hp:G p=none):Keep b G (L3.gup G' p o):=fun c u hc e=>by rw[jJp];exact h c u hc e;rintro rfl;rw[hp] at e;cases e
theorem RowsAt.keep {b:Addr} {G G':Gp} {h:Addr} {Hs:Web} {rs:List Addr} (s:Keep b G G') (hb:b∉h::rs) (x:RowsAt G h Hs rs):RowsAt G' h Hs rs:=by
 simp only[lJk,not_or] at hb
 exact⟨s _ _ (Ne.symm hb.1) x.1,x.2.1,fun i r e=>let ⟨hs,h1,h2⟩:=x.2.2 i r e;⟨hs,h1,s _ _ (by rintro rfl;exact hb.2 (lJy e)) h2⟩⟩
theorem RowsAt.set {G:Gp} {h:Addr} {Hs:Web} {rs:List Addr} {r:Nat} {a:Addr} {hs':List (Nat×Nat)} (x:RowsAt G h Hs rs) (hn:(h::rs).Nodup) (hr:rs[r]? =some a):RowsAt (gup G a (.lst (hs'.map encE))) h (Hs.set r hs') rs:=by
 rw[lK0] at hn
 have hrl:r<rs.length:=(lJi.mp hr).1
 refine⟨by rw[jJp];exact x.1;rintro rfl;exact hn.1 (lJy hr),by rw[lVr];exact x.2.1,fun i c e=> ?_⟩
 by_cases hi:i=r
 ·subst hi
  rw[hr] at e;cases e
  exact⟨hs',by rw[lQf];rw[<-x.2.1];exact hrl,jJh⟩
 ·obtain⟨hs,h1,h2⟩:=x.2.2 i c e
  refine⟨hs,by rw[lQr (Ne.symm hi)];exact h1,?_⟩
  rw[jJp];exact h2
  rintro rfl
  have hil:i<rs.length:=(lJi.mp e).1
  exact hi ((List.getElem?_inj hil hn.2).mp (e.trans hr.symm))
def hv (n t:Nat) (p:Nat×Nat):List (Nat×Nat×Nat):=if p.2=n then [(p.1,t,2)] else [(p.1,t,0),(p.2,t,1)]
def hvs (P:List (Nat×Nat)) (n k:Nat):List (Nat×Nat×Nat):=(List.range k).flatMap fun t=>match P[t]? with
 | some p=>hv n t p
 | none=>[]
structure HalfL (L:List (Nat×Nat×Nat)) (n:Nat) (Hs:Web):Prop where
 len:Hs.length=n
 perm:∀(r:Nat) (hs:List (Nat×Nat)),Hs[r]? =some hs->hs.Perm ((L.filter fun x=>x.1 == r).map fun x=>x.2)
theorem ins_perm {α:Type} {xs:List α} {k:Nat} {y:α}:(xs.take k++y::xs.drop k).Perm (xs++[y]):=by
 have h1:(xs.take k++y::xs.drop k).Perm (y::(xs.take k++xs.drop k)):=List.perm_middle
 rw[lK3] at h1
 exact h1.trans (lX3 (l₁:=[y]) (l₂:=xs))
theorem HalfL.ins {L:List (Nat×Nat×Nat)} {n:Nat} {Hs:Web} {r k:Nat} {hs:List (Nat×Nat)} {e:Nat×Nat} (h:HalfL L n Hs) (hr:Hs[r]? =some hs):HalfL (L++[(r,e)]) n (Hs.set r (hs.take k++e::hs.drop k)) where
 len:=by rw[lVr];exact h.len
 perm:=fun r' hs' h'=>by
  have hrl:r<Hs.length:=(lJi.mp hr).1
  rw[List.filter_append,lQv]
  by_cases hi:r'=r
  ·subst hi
   rw[lQf hrl] at h'
   cases h'
   have:=h.perm r' hs hr
   refine ins_perm.trans ?_
   simp
   exact this.append_right [e]
  ·rw[lQr (Ne.symm hi)] at h'
   have:=h.perm r' hs' h'
   have hne:¬ r=r':=fun z=>hi z.symm
   simp[hne]
   exact this
theorem HalfL.mem {L:List (Nat×Nat×Nat)} {n:Nat} {Hs:Web} {r i:Nat} {e:Nat×Nat} (h:HalfL L n Hs) (he:en Hs r i=some e):(r,e)∈L:=by
 obtain⟨es,h1,h2⟩:=jQx he
 have:=(h.perm r es h1).mem_iff.mp (lJy h2)
 obtain⟨⟨r',e'⟩,h3,rfl⟩:=lJl.mp this
 obtain⟨h4,h5⟩:=lVb.mp h3
 have:r'=r:=by simpa using h5
 subst this;exact h4
theorem HalfL.of {L:List (Nat×Nat×Nat)} {n:Nat} {Hs:Web} {r:Nat} {e:Nat×Nat} (h:HalfL L n Hs) (hr:r<n) (he:(r,e)∈L):∃i,en Hs r i=some e:=by
 have hrl:r<Hs.length:=by rw[h.len];exact hr
 have h1:Hs[r]? =some Hs[r]:=lJo hrl
 have:e∈Hs[r]:=(h.perm r _ h1).mem_iff.mpr (lJl.mpr ⟨(r,e),lVb.mpr ⟨he,by simp⟩,rfl⟩)
 obtain⟨i,hi⟩:=lKg this
 exact⟨i,jXp h1 hi⟩
theorem qQc {xs:List (Nat×Nat)} {k:Nat} {y:Nat×Nat}:insT (xs.map encE) k (encE y)=(xs.take k++y::xs.drop k).map encE:=by simp[insT,List.map_take,List.map_drop]
theorem HalfL.len_le {L:List (Nat×Nat×Nat)} {n:Nat} {Hs:Web} {r:Nat} {hs:List (Nat×Nat)} (h:HalfL L n Hs) (hr:Hs[r]? =some hs):hs.length<=L.length:=by
 rw[(h.perm r hs hr).length_eq,lJh];exact lXj _ _
theorem jK2 {xs:List T}:(numT xs).length=xs.length:=by simp[numT]
theorem jU4 {n:Nat}:rngT 0 n=(List.range n).map fun (k:Nat)=>T.int k:=by simp[rngT]
theorem qQm {L:List (Nat×Nat×Nat)} {k:Nat}:(L.filter fun x=>decide (x.1<k+1)).length=(L.filter fun x=>decide (x.1<k)).length+(L.filter fun x=>x.1 == k).length:=by
 induction L with
 | nil=>rfl
 | cons a as ih=>
  rw[lXk,lXk,lXk]
  rcases lXx a.1 k with h | h | h
  ·have h1:a.1<k+1:=by omega
   have h2:¬ a.1=k:=by omega
   simp[h,h1,h2,ih];omega
  ·have h1:a.1<k+1:=by omega
   simp[h,ih];omega
  ·have h1:¬ a.1<k+1:=by omega
   have h2:¬ a.1=k:=by omega
   have h3:¬ a.1<k:=by omega
   simp[h1,h2,h3,ih]
theorem kYy {L:List (Nat×Nat×Nat)} {d:Nat}:∀k,(∀r,r<k->d<=(L.filter fun x=>x.1 == r).length)->k*d<=(L.filter fun x=>decide (x.1<k)).length
 | 0,_=>by simp
 | k+1,h=>by
  rw[qQm,Nat.succ_mul]
  have h1:=kYy k fun r hr=>h r (by omega)
  have h2:=h k (by omega)
  omega
theorem kZ1 {es:List Nat}:(es.map fun e=>T.int (e:Nat)).all jZo=true:=by
 rw[List.all_map,lK2];intros;rfl
theorem jZd {α:Type} {f:α->Bool}:∀ {es:List α},kUt (es.map fun e=>T.bl (f e))=some (es.all f)
 | []=>rfl
 | e::es=>by rw[lJn,kUt,jZd,lVd]
theorem en_lt {W:Web} {r i:Nat} {e:Nat×Nat} (h:en W r i=some e):r<W.length:=by
 obtain⟨es,h1,h2⟩:=jQx h
 exact (lJi.mp h1).1
structure Fine (W:Web):Prop where
 len:W.length<=1000
 row:∀(r:Nat) (es:List (Nat×Nat)),W[r]? =some es->es.length<=1000
 rng:∀r i s j,en W r i=some (s,j)->s<W.length
theorem jKl {W:Web} {r:Nat} {es:List (Nat×Nat)} (h:W[r]? =some es):L2.atI (W.map encR) (r:Int)=some (encR es):=by rw[atN];simp[h]
theorem kKh {es:List (Nat×Nat)} {i:Nat} {e:Nat×Nat} (h:es[i]? =some e):L2.atI (es.map encE) (i:Int)=some (encE e):=by rw[atN];simp[h]
def leE (a b:Nat×Nat):Bool:=HT.lexLe [(a.1:Int),(a.2:Int)] [(b.1:Int),(b.2:Int)]
theorem leE_iff {a b:Nat×Nat}:leE a b=true↔(a.1<b.1\/(a.1=b.1/\a.2<=b.2)):=by
 unfold leE
 rw[HT.lexLe_cons,HT.lexLe_cons,HT.lexLe_nil]
 by_cases h1:a.1=b.1
 ·rw[lJc (by omega)]
  by_cases h2:a.2=b.2
  ·rw[lJc (by omega)];simp;omega
  ·rw[lJb (by omega)];simp;omega
 ·rw[lJb (by omega)];simp;omega
abbrev Tie:=(Nat×Nat)×(Nat×Nat)
def encT (x:Tie):T:= .tup [encE x.1,encE x.2]
def jUq (r:Nat) (es:List (Nat×Nat)) (i:Nat):Option Tie:=match es[i]? with
 | some e=>if leE (r,i) e=true then some ((r,i),e) else none
 | none=>none
def rowE (W:Web) (r:Nat):List Tie:=match W[r]? with
 | some es=>(List.range es.length).filterMap (jUq r es)
 | none=>[]
def jJx (W:Web):List Tie:=(List.range W.length).flatMap (rowE W)
theorem jVb {r i:Nat} {es:List (Nat×Nat)} {x:Tie} (h:jUq r es i=some x):x.1=(r,i)/\es[i]? =some x.2/\leE x.1 x.2=true:=by
 unfold jUq at h
 split at h
 ·rename_i e he
  split at h
  ·rename_i hl;cases h;exact⟨rfl,he,hl⟩
  ·cases h
 ·cases h
theorem endsL_mem {W:Web} {x:Tie}:x∈jJx W↔en W x.1.1 x.1.2=some x.2/\leE x.1 x.2=true:=by
 obtain⟨⟨r,i⟩,e⟩:=x
 unfold jJx
 rw[List.mem_flatMap]
 constructor
 ·rintro⟨r',h1,h2⟩
  unfold rowE at h2
  split at h2
  ·rename_i es hes
   rw[lQ1] at h2
   obtain⟨i',h3,h4⟩:=h2
   obtain⟨q1,q2,q3⟩:=jVb h4
   cases q1
   exact⟨jXp hes q2,q3⟩
  ·cases h2
 ·rintro⟨h1,h2⟩
  obtain⟨es,q1,q2⟩:=jQx h1
  refine⟨r,lKy.mpr (lJi.mp q1).1,?_⟩
  unfold rowE
  rw[q1]
  show _∈List.filterMap _ _
  rw[lQ1]
  refine⟨i,lKy.mpr (lJi.mp q2).1,?_⟩
  have q2:es[i]? =some e:=q2
  unfold jUq
  rw[q2]
  show (if leE (r,i) e=true then _ else _)=_
  rw[lJc h2]
theorem pw_fm {α β:Type} {f:α->Option β} {R:β->β->Prop} {xs:List α} (hx:xs.Nodup) (h:∀a a' b b',a≠a'->f a=some b->f a'=some b'->R b b'):(xs.filterMap f).Pairwise R:=by
 rw[List.pairwise_filterMap]
 exact hx.imp fun hne b hb b' hb'=>h _ _ b b' hne hb hb'
theorem kUj {W:Web}:(jJx W).Nodup:=by
 unfold jJx
 have h:∀l:List Nat,l.Nodup->(l.flatMap (rowE W)).Nodup:=by
  intro l hl
  induction l with
  | nil=>exact lXb
  | cons a as ih=>
   rw[lK0] at hl
   rw[List.flatMap_cons,lXc]
   refine⟨?_,ih hl.2,?_⟩
   ·unfold rowE
    split
    ·refine pw_fm List.nodup_range ?_
     rintro i i' x x' hne hx hx' rfl
     have q1:=(jVb hx).1
     have q2:=(jVb hx').1
     rw[q1] at q2;cases q2;exact hne rfl
    ·exact lXb
   ·intro x hx y hy
    rintro rfl
    rw[List.mem_flatMap] at hy
    obtain⟨a',h1,h2⟩:=hy
    have fst:∀r,x∈rowE W r->x.1.1=r:=by
     intro r hr
     unfold rowE at hr
     split at hr
     ·rw[lQ1] at hr
      obtain⟨i,_,h4⟩:=hr
      rw[(jVb h4).1]
     ·cases hr
    have:a=a':=(fst a hx).symm.trans (fst a' h2)
    subst this;exact hl.1 h1
 exact h _ List.nodup_range
def jJq (F:List Nat):List T:=F.map fun e=>T.int (e:Nat)
theorem qQd {F:List Nat} {r:Nat}:inT (.int r) (jJq F)=F.contains r:=by
 unfold inT jJq
 rw[List.any_map,List.contains_eq_any_beq]
 congr 1
 funext e
 simp only[Function.comp,eqT]
 by_cases h:e=r
 ·subst h;simp
 ·have h2:¬ (e:Int)=r:=by omega
  have h3:¬ r=e:=fun z=>h z.symm
  rw[beq_eq_false_iff_ne.mpr h3,beq_eq_false_iff_ne.mpr h2]
theorem qQe {G:Gp} {p:Addr} {F:List Nat} {r:Nat} (h:G p=some (.lst (jJq F))):inR G (.int r) (.ref p)=some (F.contains r):=by
 unfold inR
 rw[jJj h]
 show (if _ then _ else _)=_
 rw[lJc ⟨rfl,kZ1⟩,qQd]
theorem jU5:∀ {n:Nat} {F:List Nat} (hn:F.Nodup) (hl:∀x,x∈F->x<n),F.length<=n
 | 0,F,hn,hl=>by
  cases F with
  | nil=>exact lJg _
  | cons a as=>exact absurd (hl a (lJx)) (lKu _)
 | n+1,F,hn,hl=>by
  have h1:=jU5 (n:=n) (hn.erase n) (fun x hx=>by
   rw[hn.mem_erase_iff] at hx
   have:=hl x hx.2;omega)
  by_cases h:n∈F
  ·rw[List.length_erase_of_mem h] at h1;omega
  ·rw[List.erase_of_not_mem h] at h1;omega
def Closed (W:Web) (S:Nat->Prop):Prop:=∀r i s j,S r->en W r i=some (s,j)->S s
structure Found (W:Web) (r0:Nat) (F:List Nat):Prop where
 nd:F.Nodup
 lt:∀x,x∈F->x<W.length
 got:∀S,S r0->Closed W S->∀x,x∈F->S x
def vis (F:List Nat) (es:List (Nat×Nat)):List Nat:=es.foldl (fun F e=>if F.contains e.1=true then F else F++[e.1]) F
def row (W:Web) (r:Nat):List (Nat×Nat):=(W[r]?).getD []
theorem jXt {W:Web} {r:Nat} {es:List (Nat×Nat)} (h:W[r]? =some es):row W r=es:=by unfold row;rw[h];rfl
theorem jX7 {F:List Nat} {es:List (Nat×Nat)} {j:Nat} {e:Nat×Nat} (h:es[j]? =some e):vis F (es.take (j+1))=if (vis F (es.take j)).contains e.1=true then vis F (es.take j) else vis F (es.take j)++[e.1]:=by
 unfold vis
 rw[lVg,h,List.foldl_append];rfl
def bfsN (W:Web):Nat->Nat->List Nat->List Nat
 | 0,_,F=>F
 | n+1,k,F=>match F[k]? with
  | some r=>bfsN W n (k+1) (vis F (row W r))
  | none=>F
def bfs (W:Web) (r:Nat):List Nat:=bfsN W W.length 0 [r]
theorem kQj {W:Web} {n k:Nat} {F:List Nat} (h:F.length<=k):bfsN W n k F=F:=by
 cases n with
 | zero=>rfl
 | succ n=>rw[bfsN,lKq h]
theorem kQi {W:Web} {n k r:Nat} {F:List Nat} (h:F[k]? =some r):bfsN W (n+1) k F=bfsN W n (k+1) (vis F (row W r)):=by rw[bfsN,h]
theorem kXz {W:Web} {t:Nat} {x:Tie} (h:(jJx W)[t]? =some x):en W x.1.1 x.1.2=some x.2/\leE x.1 x.2=true:=endsL_mem.mp (lJy h)
def cl (M:List (List T)) (x i:Nat):Option T:=(M[x]?).bind fun ts=>ts[i]?
def put (M:List (List T)) (x i:Nat) (v:T):List (List T):=match M[x]? with
 | some ts=>M.set x (ts.set i v)
 | none=>M
def dec:T->Nat×Nat
 | .tup [.int a,.int b]=>(a.toNat,b.toNat)
 | _=>(0,0)
theorem qJa {e:Nat×Nat}:dec (encE e)=e:=by obtain⟨a,b⟩:=e;simp[encE,dec]
theorem jY9 {G:Gp} {e f:Nat×Nat}:eqG G (encE e) (encE f)=some (decide (e=f)):=by
 obtain⟨a,b⟩:=e;obtain⟨c,d⟩:=f
 rw[show eqG G (encE (a,b)) (encE (c,d))=some (eqT (encE (a,b)) (encE (c,d))) from rfl]
 congr 1
 simp only[encE,eqT,eqTs,Bool.and_true]
 by_cases h1:a=c
 ·by_cases h2:b=d
  ·simp[h1,h2]
  ·have:¬ (b:Int)=d:=by omega
   simp[h1,h2,this]
 ·have:¬ (a:Int)=c:=by omega
  simp[h1,this]
theorem jVp {G:Gp} {a c:Nat}:eqG G (.int a) (.int c)=some (decide (a=c)):=by
 rw[show eqG G (.int a) (.int c)=some (eqT (.int a) (.int c)) from rfl]
 congr 1
 simp only[eqT]
 by_cases h1:a=c
 ·simp[h1]
 ·have:¬ (a:Int)=c:=by omega
  simp[h1,this]
theorem qJd {mask:List Bool} {g:TG3} {tif:TT3} {te:TE3} {τ:St3} {xs:List T} {stay:Gp->Prop} {G:Gp} {Q:VK3} (Pr:T->Prop) (hz:xs.length<=sizeLine) (hst:∀G',Sub G G'->stay G')
  (h:∀(i:Nat) x,xs[i]? =some x->∀G' (K:T->Gp->Prop) (K0:Gp->Prop),Sub G G'->(∀t G4,Pr t->Sub G' G4->K t G4)->g x (msk mask τ) G' fun τ2 G2=>tif τ2 G2 fun b G3=>if b=true then te τ2 G3 K else K0 G3)
  (hq:∀D ts G',G D=none->G' D=some (.lst ts)->ts.length=xs.length->(∀t,t∈ts->Pr t)->Sub G G'->Q (.ref D) G'):jU0 mask g tif te τ xs stay G Q:=by
 intro D hD
 refine⟨fun i acc G'=>acc.length=i/\(∀t,t∈acc->Pr t)/\Sub G G'/\G' D=some (.lst acc),?_,?_,?_,?_⟩
 ·exact⟨rfl,fun t z=>by simp at z,.new hD,jJh⟩
 ·rintro i acc G' hi ⟨j1,j2,j4,j5⟩
  exact⟨hst G' j4,j5⟩
 ·rintro i x acc G3 hx ⟨j1,j2,j4,j5⟩
  have hi:i<xs.length:=(lJi.mp hx).1
  refine h i x hx G3 _ _ j4 fun t G4 hp kp=> ?_
  refine⟨kp _ _ j5,by omega,by simp[j1],?_,(j4.trans kp).over hD,jJh⟩
  intro u hu
  rcases (lJt.mp hu) with hu | hu
  ·exact j2 u hu
  ·rw[lJ4.mp hu];exact hp
 ·rintro acc G3 ⟨j1,j2,j4,j5⟩
  exact hq D acc G3 hD j5 j1 j2 j4
theorem kZr:∀(us:List T),(∀t,t∈us->∃x:Int,t= .int x)->∃ts:List Int,us=jQo ts
 | [],_=>⟨[],rfl⟩
 | u::us,h=>by
  obtain⟨x,rfl⟩:=h u (by simp)
  obtain⟨ts,rfl⟩:=kZr us fun t ht=>h t (lJz _ ht)
  exact⟨x::ts,rfl⟩
abbrev RdOk (sp:Sp3) (rd:TS3) (N:List Str):Prop:=∀xs G Q,sp xs G Q->rd {nx:=fun _ G'=>Q .non G',rt:=Q} (jUm N xs) G
noncomputable def jJs:Sp3:=fun xs G Q=>∃(b:Addr) (m:Int) (n:Nat),xs=[.ref b,.int m]/\BoxAt G b n/\n<2^40/\1<=m/\m<2^29/\∀(r:Int) G',0<=r->r<m->BoxAt G' b (n+1)->Keep b G G'->Q (.int r) G'
def qQ2:List Str:=["_law_box_here","_law_many","_law_found","_law_once"]
noncomputable def jYx:TS3:=
 (tSeq (tIfS (jJw (tOp rGt (tOp rIxF (tVar 0) (tC (.int 0))) (tC (.int 0)))) (tSeq (tAsg (tOp rMod (tOp rIxF (tVar 0) (tC (.int 0))) (tVar 1)) (jJe 2))
 (tSeq (tAsg (tOp qVb (tOp rIxF (tVar 0) (tC (.int 0))) (tVar 1)) (gSub (tVar 0) (tC (.int 0)) jQ3))
 (tRet (tVar 2)))) jKe)
 (tSeq (tAsg (tOp jKn (tOp rIxF (tVar 0) (tC (.int 2))) (tC (.int 1))) (gSub (tVar 0) (tC (.int 2)) jQ3))
 (tSeq (tAsg (tOp rMod (tOp kJx (tOp jKn (tOp rIxF (tVar 0) (tC (.int 1))) (tOp kJx (tC (.int 39373)) (tOp rIxF (tVar 0) (tC (.int 2))))) (tOp jKn (tC (.int 48271)) (tOp rIxF (tVar 0) (tC (.int 2))))) (tC (.int 2147483647))) (jJe 3))
 (tSeq (tAsg (tOp rMod (tOp jKn (tOp kJx (tVar 3) (tOp jKn (tOp rMod (tVar 3) (tC (.int 40009))) (tC (.int 7)))) (tOp rIxF (tVar 0) (tC (.int 2)))) (tC (.int 2147483629))) (gSub (tVar 0) (tC (.int 1)) jQ3))
 (tRet (tOp rMod (tOp qVb (tOp rMod (tOp kJx (tOp rIxF (tVar 0) (tC (.int 1))) (tOp jKn (tOp rMod (tOp rIxF (tVar 0) (tC (.int 1))) (tC (.int 1009))) (tC (.int 3)))) (tC (.int 998244353))) (tC (.int 7))) (tVar 1)))))))
theorem kQ0:RdOk jJs jYx qQ2:=by
 intro xs G Q h_;apply xe3 h_;clear h_;intro b m n h_;apply ae5 h_;clear h_;intro q0_ hn hm1 hm2 k
 obtain⟨x,y,z,hb,hx,hy0,hy1,hz0,hz1⟩:=q0_
 show jYx _ [some (.ref b),some (.int m),none,none] G
 wp_walk using 1,jYx,jKs hb,qQ8 hb
 have box:∀x' y' z':Int,0<=x'->0<=y'->y'<2147483648->0<=z'->z'<=n+1->BoxAt (gup G b (.lst [.int x',.int y',.int z'])) b (n+1):=fun x' y' z' h1 h2 h3 h4 h5=>⟨x',y',z',jJh,h1,h2,h3,h4,by omega⟩
 split
 ·exact⟨by omega,⟨by omega,by omega⟩,k _ _ (lXf _ (by omega)) (lXg _ (by omega)) (box _ _ _ (Int.ediv_nonneg hx (by omega)) hy0 hy1 hz0 (by omega)) .gup⟩
 ·have a0:=lXf ((y+39373*(z+1))*(48271+(z+1))) (b:=2147483647) (by decide)
  have a1:=lXg ((y+39373*(z+1))*(48271+(z+1))) (b:=2147483647) (by decide)
  refine⟨.inl (by decide),.inr ⟨by omega,by omega⟩,by decide,by decide,?_⟩
  generalize (y+39373*(z+1))*(48271+(z+1))%2147483647=u at a0 a1 ⊢
  have b0:=lXf (u*(u%40009+7)+(z+1)) (b:=2147483629) (by decide)
  have b1:=lXg (u*(u%40009+7)+(z+1)) (b:=2147483629) (by decide)
  refine⟨.inl ⟨by omega,by omega⟩,by decide,by decide,?_⟩
  generalize (u*(u%40009+7)+(z+1))%2147483629=v at b0 b1 ⊢
  refine⟨.inl ⟨by omega,by omega⟩,by decide,⟨by decide,by decide⟩,by omega,?_⟩
  exact k _ _ (lXf _ (by omega)) (lXg _ (by omega)) (box _ _ _ hx b0 (by omega) (by omega) (by omega)) .gup
def absZ (v:Int):Int:=if v<0 then -v else v
def boxT (v k:Int):List T:=[.int (if 10^18<=absZ v then absZ v else 0),.int ((v%2147483647+7919*k+11)*48271%2147483629),.int 0]
theorem qXs {G:Gp} {b:Addr} {v k:Int} (h:G b=some (.lst (boxT v k))):BoxAt G b 0:=by
 refine⟨_,_,_,h,by unfold absZ;split<;>split<;>omega,lXf _ (by decide),?_,Int.le_refl _,by simp⟩
 have:=lXg ((v%2147483647+7919*k+11)*48271) (b:=2147483629) (by decide)
 omega
noncomputable def kJj:Sp3:=fun xs G Q=>∃(c:Addr) (ns:List Int) (k:Nat) (v:Int),xs=[.ref c,.int k]/\G c=some (.lst (jQo ns))/\ns[k]? =some v/\ns.length<=63/\∀p G',G p=none->G' p=some (.lst (boxT v k))->Sub G G'->Q (.ref p) G'
def qXx:List Str:=["_law_script","_law_k","_law_cell","_law_digits"]
noncomputable def kJu:TS3:=
 (tSeq (tAsg (tC (.int 0)) (jJe 2))
 (tSeq (tIfS (jJw (tOp rLt (tVar 1) (tCB rLen (jJb (tVar 0) tNil)))) (tAsg (tOp rIxF (tVar 0) (tVar 1)) (jJe 2)) jKe)
 (tSeq (tAsg (tC (.int 0)) (jJe 3))
 (tSeq (tIfS (jJw (tOp rGe (tCB rAbs (jJb (tVar 2) tNil)) (tOp rPow (tC (.int 10)) (tC (.int 18))))) (tAsg (tCB rAbs (jJb (tVar 2) tNil)) (jJe 3)) jKe)
 (tRet (tLst (jJb (tVar 3) (jJb (tOp rMod (tOp kJx (tOp jKn (tOp jKn (tOp rMod (tVar 2) (tC (.int 2147483647))) (tOp kJx (tC (.int 7919)) (tVar 1))) (tC (.int 11))) (tC (.int 48271))) (tC (.int 2147483629))) (jJb (tC (.int 0)) tNil)))))))))
theorem kV5:RdOk kJj kJu qXx:=by
 intro xs G Q h_;apply xe4 h_;clear h_;intro c ns k v h_;apply ae4 h_;clear h_;intro hc hv hl kk
 show kJu _ [some (.ref c),some (.int k),none,none] G
 have hs:=sz
 have hk:k<ns.length:=(lJi.mp hv).1
 have hat:L2.atI (jQo ns) (k:Int)=some (.int v):=by rw[atN,lKa,hv];rfl
 wp_walk using 1,kJu,jJj hc,List.length_map,jKs hc,hat
 rw[lJc (by omega)]
 refine⟨⟨by decide,by decide,by decide⟩,?_⟩
 have fin:∀x,x=(if 10^18<=absZ v then absZ v else 0)->0<(2147483647:Int)/\L2.CMul 7919 k/\L2.CMul (v%2147483647+7919*k+11) 48271/\0<(2147483629:Int)/\3<=sizeLine/\∀p,G p=none->Q (.ref p) (gup G p (.lst [.int x,.int ((v%2147483647+7919*k+11)*48271%2147483629),.int 0])):=by
  rintro x rfl
  exact⟨by decide,.inl (by decide),.inr (by decide),by decide,by omega,fun p hp=>kk p _ hp jJh (.new hp)⟩
 by_cases h:10^18<=absZ v
 ·rw[lJc (show (10:Int)^Int.toNat 18<=(if v<0 then -v else v) from h)]
  exact fin _ (by rw[lJc h];rfl)
 ·rw[lJb (show ¬ (10:Int)^Int.toNat 18<=(if v<0 then -v else v) from h)]
  exact fin _ (by rw[lJb h])
noncomputable def jXf:Sp3:=fun xs G Q=>∃ns:List Int,xs=[.scr (jQo ns),.int 6]/\ns.length<=63/\∀D rs G',G D=none->G' D=some (.lst (rs.map T.ref))->rs.length<=6->(D::rs).Nodup->(∀r,r∈rs->BoxAt G' r 0)->Sub G G'->Q (.ref D) G'
def qJr:List Str:=["_law_script","_law_most","_law_cells","_law_k"]
noncomputable def jXj:TS3:=
 (tSeq (tAsg (jKf [false,false,false,true] (jKj (jJb (tCB rMax (jJb (tC (.int 1)) (jJb (tCB qVa (jJb (tVar 1) (jJb (tCB rLen (jJb (tVar 0) tNil)) tNil))) tNil))) tNil)) (jJe 3) jQh (tCB rSum (jJb (qJ0 (tVar 0) (jVi (tVar 3)) (jVi (tC (.int 63))) (jVi (tVar 1))) tNil))) (jJe 2))
 (tRet (jKf [false,false,false,true] (jKj (jJb (tCB rLen (jJb (tVar 2) tNil)) tNil)) (jJe 3) jQh (jJ0 kJj (jJb (tVar 2) (jJb (tVar 3) tNil))))))
theorem kKt:RdOk jXf jXj qJr:=by
 intro xs G Q h_;apply xe1 h_;clear h_;intro ns h_;apply ae2 h_;clear h_;intro hl kk
 show jXj _ [some (.scr (jQo ns)),some (.int 6),none,none] G
 have hs:=sz
 wp_walk using 1,jXj,qVa,rSum,qJ0,jVi,jKj
 refine⟨jQo ns,rfl,?_⟩
 obtain⟨N,hN,hN2⟩:∃N:Nat,(if (if ((jQo ns).length:Int)<6 then ((jQo ns).length:Int) else 6)>1 then if ((jQo ns).length:Int)<6 then ((jQo ns).length:Int) else 6 else 1)=(N:Int)/\N<=6:=by
  refine⟨(if (if ((jQo ns).length:Int)<6 then ((jQo ns).length:Int) else 6)>1 then if ((jQo ns).length:Int)<6 then ((jQo ns).length:Int) else 6 else 1).toNat,?_,?_⟩<;>split<;>split<;>omega
 rw[hN]
 refine⟨by omega,by omega,?_⟩
 refine qJd (fun t=>∃x:Int,t= .int x) (by rw[jUg];omega) (fun _ _=>trivial) ?_ ?_
 ·intro i x hx G' K K0 s hk
  obtain⟨hi,rfl⟩:=jVw hx
  wp_walk using 1,rSum,qJ0,jVi
  refine⟨by simp,jQo ns,rfl,fun is p hp=>⟨is.filterMap (ns[·]?),?_,fun z=>hk _ _ ⟨z,rfl⟩ (.new hp)⟩⟩
  rw[List.map_filterMap]
  congr 1;funext j;rw[lKa]
 ·intro D ts G1 hD hD1 hlen hts s1
  obtain⟨ms,rfl⟩:=kZr ts hts
  rw[jUg] at hlen
  have hml:ms.length=N:=by simpa using hlen
  refine⟨jQo ms,jJj hD1,by omega,by omega,?_⟩
  rw[show (((jQo ms).length:Nat):Int).toNat=N by simp[hml],jU4]
  refine jZ5 (fun k:Nat=>boxT (ms.getD k 0) k) (by simp;omega) (fun _ _=>trivial) ?_ ?_
  ·intro i k hk G' K K0 s hK
   obtain⟨q1,q2⟩:=lJi.mp hk
   simp at q1 q2;subst q2
   wp_walk using 1,tSeq
   refine⟨D,ms,i,ms.getD i 0,rfl,s _ _ hD1,?_,by omega,fun p G4 hp h4 s4=>hK p G4 hp h4 s4⟩
   rw[lJo (by omega),List.getD,lJo (by omega)];rfl
  ·intro E rs G2 hE hE2 s2 hrl hnd hrs
   rw[lXz] at hrl
   refine kk E rs G2 (s1.none hE) hE2 (by omega) hnd (fun r hr=> ?_) (s1.trans s2)
   obtain⟨j,hj⟩:=lKg hr
   have hjl:j<rs.length:=(lJi.mp hj).1
   exact qXs (hrs j r j hj (by rw[lVx (by omega)])).2
structure OkD (d:Nat) (x:T):Prop where
 tr:tree x=true
 lay:(td x).canLay0=true
 dep:(td x).depth<=d
 eq:eqT x x=true
theorem okD_int {i:Int}:OkD 0 (.int i):=⟨rfl,rfl,Nat.le_of_eq (by simp[td,PyData.depth]),by simp[eqT]⟩
theorem kQ6 {d:Nat}:∀xs:List T,(∀x,x∈xs->OkD d x)->jK6 xs=true/\PyData.canLayAll0 (tds xs)=true/\PyData.depthAll (tds xs)<=d/\eqTs xs xs=true
 | [],_=>⟨rfl,by simp[tds,PyData.canLayAll0],by simp[tds,PyData.depthAll],rfl⟩
 | x::xs,h=>by
  obtain⟨a1,a2,a3,a4⟩:=kQ6 xs fun y hy=>h y (lJz _ hy)
  obtain⟨b1,b2,b3,b4⟩:=h x (lJx ..)
  refine⟨?_,?_,?_,?_⟩
  ·show (tree x&&jK6 xs)=true;rw[a1,b1];rfl
  ·rw[tds,PyData.canLayAll0,a2,b2];rfl
  ·rw[tds,PyData.depthAll];omega
  ·show (eqT x x&&eqTs xs xs)=true;rw[a4,b4];rfl
theorem kY9 {d:Nat} {xs:List T} (h:∀x,x∈xs->OkD d x):OkD (d+1) (.tup xs):=by
 obtain⟨a1,a2,a3,a4⟩:=kQ6 xs h
 exact⟨a1,by rw[td,PyData.canLay0];exact a2,by rw[td,PyData.depth];omega,a4⟩
theorem OkD.mono {d d':Nat} {x:T} (h:OkD d x) (l:d<=d'):OkD d' x:=⟨h.tr,h.lay,lKo h.dep l,h.eq⟩
theorem qKr {w:List Nat}:OkD 1 (.tup (jJq w)):=kY9 fun x hx=>by
 obtain⟨e,_,rfl⟩:=lJl.mp hx;exact okD_int
theorem kZa {xs:List T} (h:∀x,x∈xs->OkD 40 x):jX3 xs=true:=by
 obtain⟨a1,a2,a3,_⟩:=kQ6 xs h
 unfold jX3
 rw[a1,a2,lJ1 (show (PyData.list (tds xs)).depth<=50 by rw[PyData.depth];omega)];rfl
theorem kK7:∀ {a b:List Nat},eqTs (jJq a) (jJq b)=decide (a=b)
 | [],[]=>rfl
 | [],_::_=>by simp[jJq,eqTs]
 | _::_,[]=>by simp[jJq,eqTs]
 | x::a,y::b=>by
  show (eqT (.int x) (.int y)&&eqTs (jJq a) (jJq b))=_
  rw[kK7]
  have:eqT (.int (x:Nat)) (.int (y:Nat))=decide (x=y):=by
   by_cases h:x=y
   ·subst h;simp[eqT]
   ·have h2:¬ (x:Int)=y:=by omega
    rw[lJq h];simpa[eqT] using h2
  rw[this];simp
theorem kK9 {G:Gp} {p q:Addr} {a b:List Nat} (h1:G p=some (.lst (jJq a))) (h2:G q=some (.lst (jJq b))):eqG G (.ref p) (.ref q)=some (decide (a=b)):=by
 have ok:∀F:List Nat,jX3 (jJq F)=true:=fun F=>kZa fun x hx=>by
  obtain⟨σ,_,rfl⟩:=lJl.mp hx;exact okD_int.mono (by decide)
 have:eqG G (.ref p) (.ref q)=if jX3 (jJq a)=true/\jX3 (jJq b)=true then some (eqTs (jJq a) (jJq b)) else none:=by simp only[eqG,h1,h2]
 rw[this,lJc ⟨ok a,ok b⟩,kK7]
theorem qXe {G:Gp} {a c:Int}:eqG G (.int a) (.int c)=some (decide (a=c)):=by
 rw[show eqG G (.int a) (.int c)=some (eqT (.int a) (.int c)) from rfl]
 congr 1
theorem kQo {kvs:List (L2.Key×T)} {k:L2.Key}:(valT kvs k).isSome=true↔k∈kvs.map Prod.fst:=by
 unfold valT
 rw[Option.isSome_map,List.find?_isSome,lJl]
 exact⟨fun ⟨a,h1,h2⟩=>⟨a,h1,by simpa using h2⟩,fun ⟨a,h1,h2⟩=>⟨a,h1,by simpa using h2⟩⟩
def keyN (x:Nat):L2.Key:= .inl (x:Nat)
theorem kVf {F:List Nat} {x:Nat}:keyN x∈F.map keyN↔x∈F:=by
 rw[lJl]
 refine⟨fun ⟨a,ha,e⟩=> ?_,fun h=>⟨x,h,rfl⟩⟩
 have e1:(Sum.inl (a:Int):L2.Key)=Sum.inl (x:Int):=e
 have:(a:Int)=x:=by injection e1
 have:a=x:=by omega
 exact this▸ha
theorem qV6 {G:Gp} {d:Addr} {kvs:List (L2.Key×T)} {F:List Nat} {x:Nat} (h:G d=some (.dck kvs)) (hk:kvs.map Prod.fst=F.map keyN):inR G (.int (x:Nat)) (.ref d)=some (decide (x∈F)):=by
 have e1:seqT G (.ref d)=none:=by simp only[seqT,h];rfl
 have e2:dAt G (.ref d) (.int (x:Nat))=some (valT kvs (keyN x)):=by simp only[dAt,h,jQ6];rfl
 unfold inR
 simp only[e1,e2]
 congr 1
 rw[Bool.eq_iff_iff,kQo,hk,kVf];simp
theorem qKk {kvs:List (L2.Key×T)} {k:L2.Key} {v:T} (h:k∉kvs.map Prod.fst):putT kvs k v=kvs++[(k,v)]:=by
 unfold putT
 rw[lJb]
 rw[List.any_eq_true]
 rintro⟨a,ha,e⟩
 exact h (lJl.mpr ⟨a,ha,by simpa using e⟩)
theorem qJ8 {G:Gp} {d:Addr} {kvs:List (L2.Key×T)} {x:Nat} {v:T} (h:G d=some (.dck kvs)) (hz:kvs.length<sizeLine):setR G (.ref d) (.int (x:Nat)) v=some (gup G d (.dck (putT kvs (keyN x) v))):=by
 simp only[setR,h,jQ6]
 rw[lJc hz];rfl
theorem jQw {xs:List T} {j:Nat} {y:T} (h:(numT xs)[j]? =some y):∃x,xs[j]? =some x/\y= .tup [.int j,x]:=by
 have hj:j<xs.length:=by have:=(lJi.mp h).1;rwa [jK0] at this
 refine⟨xs[j],lJo hj,?_⟩
 rw[kJ2 (lJo hj)] at h
 cases h;rfl
theorem qJ3 {G G':Gp} (h:Sub G G') {p:Addr} (hp:G' p=none):G p=none:=by
 cases e:G p with
 | none=>rfl
 | some o=>rw[h _ _ e] at hp;cases hp
structure WI (n k:Nat) (L:List (Nat×Nat×Nat)) (kvs:List (L2.Key×T)):Prop where
 rm:∀x,x∈L->x.1<n/\x.2.2<=1/\x.2.1<k
 ld:∀x,x∈L->∃lp:Bool,valT kvs (.inl (x.2.1:Nat))=some (.bl lp)/\(lp=true->x.2.2=0)/\(lp=false->∃r,(r,x.2.1,1-x.2.2)∈L)
 ln:L.length<=2*k
 tr:k<n->∀x,x∈L->x.1<=k
 kl:kvs.length<=k
 nd:(L.map fun x=>x.2).Nodup
 two:∀j,j<k->j<2->∃r,(r,j,0)∈L
theorem WI.skip {n k:Nat} {L:List (Nat×Nat×Nat)} {kvs:List (L2.Key×T)} (h:WI n k L kvs) (hk:n<=k+1) (hk2:2<=k):WI n (k+1) L kvs:=
 ⟨fun x hx=>by have:=h.rm x hx;omega,h.ld,by have:=h.ln;omega,fun z=>by omega,by have:=h.kl;omega,h.nd,fun j _ h2=>h.two j (by omega) h2⟩
theorem WI.step {n k r1 r2:Nat} {lp:Bool} {L:List (Nat×Nat×Nat)} {kvs:List (L2.Key×T)} (h:WI n k L kvs) (h1:r1<n) (h2:r2<n) (ht:k+1<n->r1<=k+1/\r2<=k+1):
  WI n (k+1) ((L++[(r1,k,0)])++if lp=true then [] else [(r2,k,1)]) (putT kvs (.inl (k:Nat)) (.bl lp)):=by
 have mem:∀x,x∈(L++[(r1,k,0)])++(if lp=true then [] else [(r2,k,1)])->x∈L\/x=(r1,k,0)\/(lp=false/\x=(r2,k,1)):=by
  intro x hx
  rcases (lJt.mp hx) with hx | hx
  ·rcases (lJt.mp hx) with hx | hx
   ·exact .inl hx
   ·exact .inr (.inl (lJ4.mp hx))
  ·cases lp with
   | true=>simp at hx
   | false=>exact .inr (.inr ⟨rfl,by simpa using hx⟩)
 have hv:valT (putT kvs (.inl (k:Nat)) (.bl lp)) (.inl ((k:Nat):Int))=some (.bl lp):=by rw[jU1,lJc rfl]
 refine⟨fun x hx=> ?_,fun x hx=> ?_,?_,fun hk x hx=> ?_,?_,?_,fun j h1 h2=> ?_⟩
 ·rcases mem x hx with hx | rfl | ⟨_,rfl⟩
  ·have:=h.rm x hx;omega
  ·exact⟨h1,lJu _,Nat.lt_succ_self k⟩
  ·exact⟨h2,lJg _,Nat.lt_succ_self k⟩
 ·rcases mem x hx with hx | rfl | ⟨hl,rfl⟩
  ·obtain⟨lp',a1,a2,a3⟩:=h.ld x hx
   have hxk:=(h.rm x hx).2.2
   refine⟨lp',?_,a2,fun z=> ?_⟩
   ·rw[jU1,lJb];exact a1
    intro e
    have:(k:Int)=(x.2.1:Nat):=Sum.inl.inj e
    omega
   ·obtain⟨r,hr⟩:=a3 z
    exact⟨r,lJ8 _ (lJ8 _ hr)⟩
  ·refine⟨lp,hv,fun _=>rfl,fun z=>⟨r2,?_⟩⟩
   subst z;simp
  ·refine⟨lp,hv,fun z=> ?_,fun z=>⟨r1,by simp⟩⟩
   rw[hl] at z;cases z
 ·have:=h.ln
  cases lp<;>simp<;>omega
 ·have ht:=ht hk
  rcases mem x hx with hx | rfl | ⟨_,rfl⟩
  ·have:=h.tr (by omega) x hx;omega
  ·exact ht.1
  ·exact ht.2
 ·have:=h.kl;have:=jV1 kvs (.inl (k:Nat)) (.bl lp);omega
 ·have lt:∀y,y∈L.map (fun x:Nat×Nat×Nat=>x.2)->y.1<k:=fun y hy=>by
   obtain⟨x,hx,rfl⟩:=lJl.mp hy;exact (h.rm x hx).2.2
  have n1:((L++[(r1,k,0)]).map fun x:Nat×Nat×Nat=>x.2).Nodup:=by
   rw[lQv]
   refine lXc.mpr ⟨h.nd,by simp,fun a ha b hb e=> ?_⟩
   have:=lt a ha
   rw[e,show b=(k,0) by simpa using hb] at this;exact lQq _ this
  cases lp with
  | true=>simpa using n1
  | false=>
   rw[lJb (by decide),lQv]
   refine lXc.mpr ⟨n1,by simp,fun a ha b hb e=> ?_⟩
   have eb:b=(k,1):=by simpa using hb
   rw[lQv] at ha
   rcases (lJt.mp ha) with ha | ha
   ·have:=lt a ha;rw[e,eb] at this;exact lQq _ this
   ·have ea:a=(k,0):=by simpa using ha
    rw[ea,eb] at e;simp at e
 ·by_cases z:j=k
  ·subst z;exact⟨r1,lJ8 _ (lJ0 _ (by simp))⟩
  ·obtain⟨r,hr⟩:=h.two j (by omega) h2
   exact⟨r,lJ8 _ (lJ8 _ hr)⟩
theorem HalfL.row_len {L:List (Nat×Nat×Nat)} {n r:Nat} {Hs:Web} (h:HalfL L n Hs) (hr:r<n):(row Hs r).length=(L.filter fun x=>x.1 == r).length:=by
 have hrl:r<Hs.length:=by rw[h.len];exact hr
 have h1:Hs[r]? =some Hs[r]:=lJo hrl
 rw[jXt h1,(h.perm r _ h1).length_eq,lJh]
theorem WI.free {n k:Nat} {L:List (Nat×Nat×Nat)} {kvs:List (L2.Key×T)} {Hs:Web} (h:WI n k L kvs) (hh:HalfL L n Hs) (hk:k<n):∃r,r<k+1/\(row Hs r).length<5:=by
 refine (lVa) fun hn=> ?_
 have:=kYy (L:=L) (d:=5) (k+1) fun r hr=>by
  rw[<-hh.row_len (by omega)]
  exact Nat.le_of_not_lt fun z=>hn ⟨r,hr,z⟩
 have h2:=lXj (fun x:Nat×Nat×Nat=>decide (x.1<k+1)) L
 have:=h.ln
 omega
theorem RowsAt.get {G:Gp} {h:Addr} {Hs:Web} {rs:List Addr} {x:Nat} (R:RowsAt G h Hs rs) (hx:x<Hs.length):∃a,rs[x]? =some a/\L2.atI (rs.map T.ref) (x:Int)=some (.ref a)/\G a=some (.lst ((row Hs x).map encE)):=by
 have hxl:x<rs.length:=by rw[R.2.1];exact hx
 have hr:rs[x]? =some rs[x]:=lJo hxl
 obtain⟨us,h1,h2⟩:=R.2.2 x _ hr
 exact⟨_,hr,by rw[atN,lKa,hr];rfl,by rw[jXt h1];exact h2⟩
def InsP (b D:Addr) (r k:Nat) (s:Int) (G:Gp) (K:Gp->Prop):Prop:=∃t,ixR G (.ref D) (.int (r:Nat))=some t/\tyT G "list" t/\∃t1,ixR G (.ref D) (.int (r:Nat))=some t1/\∃x,seqT G t1=some x/\jJs [.ref b,.int ((x.length:Int)+1)] G fun x G1=>2<=sizeLine/\∃p,t= .ref p/\∃x1 x2,x= .int x2/\G1 p=some (.lst x1)/\0<=x2/\x2<=(x1.length:Int)/\x1.length<sizeLine/\K (gup G1 p (.lst (insT x1 x2.toNat (.tup [.int (k:Nat),.int s]))))
theorem qUi {b D:Addr} {rs:List Addr} {n r k s c:Nat} {si:Int} {L:List (Nat×Nat×Nat)} {Hs:Web} {G:Gp} {K:Gp->Prop} (hsi:si=(s:Nat)) (hr:r<n) (hh:HalfL L n Hs) (hl:L.length<=100) (hR:RowsAt G D Hs rs) (hnd:(D::rs).Nodup) (hbD:b∉D::rs) (hb:BoxAt G b c) (hc:c<2^40)
  (kk:∀Hs' G',HalfL (L++[(r,k,s)]) n Hs'->RowsAt G' D Hs' rs->BoxAt G' b (c+1)->(∀a o,a≠b->a∉D::rs->G a=some o->G' a=some o)->K G'):InsP b D r k si G K:=by
 have hs:=sz
 have hrl:r<Hs.length:=by rw[hh.len];exact hr
 obtain⟨a,a1,a2,a3⟩:=hR.get hrl
 have hrow:Hs[r]? =some (row Hs r):=by rw[row,lJo hrl];rfl
 have hlen:=hh.len_le hrow
 have ham:a∈D::rs:=lJz _ (lJy a1)
 have hab:a≠b:=fun e=>hbD (e▸ham)
 have hix:ixR G (.ref D) (.int (r:Nat))=some (.ref a):=(jKs hR.1).trans a2
 refine⟨_,hix,by rw[jKy a3];trivial,_,hix,_,jJj a3,b,_,c,rfl,hb,hc,by omega,by rw[lJh];omega,fun x G1 x0 x1 bx kp=>⟨by omega,a,rfl,_,x,rfl,kp _ _ hab a3,x0,by omega,by rw[lJh];omega,?_⟩⟩
 rw[hsi,show T.tup [T.int (k:Nat),.int (s:Nat)]=encE (k,s) from rfl,qQc]
 refine kk _ _ (hh.ins hrow) ((hR.keep kp hbD).set hnd a1) (bx.gup hab.symm) fun a' o h1 h2 h3=> ?_
 rw[jJp fun e=>h2 (by rw[e];exact ham)];exact kp _ _ h1 h3
theorem kX8 {G:Gp} {p:Addr} {kvs:List (L2.Key×T)} {k:Int} {v:T} (h:G p=some (.dck kvs)) (hz:kvs.length<sizeLine):setR G (.ref p) (.int k) v=some (gup G p (.dck (putT kvs (.inl k) v))):=by
 simp only[setR,h,jQ6];rw[lJc hz]
noncomputable def qXv:List Str:=["_law_box_here","_law_size","_law_more","_law_sides","_law_leads","_law_k","_law_free","_law_one","_law_other","_law_ahead","_law_loop","_law_where","_law_room","_law_door","_law_side","_law_ends"]
noncomputable def kJs:TS3:=
 (tSeq (tAsg (jKf [false,false,false,false,false,false,false,false,false,false,false,false,true,false,false,false] (jKj (jJb (tVar 1) tNil)) (jJe 12) jQh (tLst tNil)) (jJe 3))
 (tSeq (tAsg jQi (jJe 4))
 (tSeq (tFor (jKj (jJb (tOp jKn (tOp rSub (tVar 1) (tC (.int 1))) (tVar 2)) tNil)) (jJe 5) (tSeq (tAsg (jKf [false,false,false,false,false,false,false,false,false,false,false,false,true,false,false,false] (jKj (jJb (tVar 1) tNil)) (jJe 12) (jJw (tOp rLt (tCB rLen (jJb (tOp rIxF (tVar 3) (tVar 12)) tNil)) (tC (.int 5)))) (tVar 12)) (jJe 6))
 (tSeq (tIfS (jJw (tOp rEqA (tVar 6) (tLst tNil))) qJ1 jKe)
 (tSeq (tAsg (tOp rIxF (tVar 6) (jJ0 jJs (jJb (tVar 0) (jJb (tCB rLen (jJb (tVar 6) tNil)) tNil)))) (jJe 7))
 (tSeq (tAsg (tOp rIxF (tVar 6) (jJ0 jJs (jJb (tVar 0) (jJb (tCB rLen (jJb (tVar 6) tNil)) tNil)))) (jJe 8))
 (tSeq (tIfS (jJw (tOp rLt (tVar 5) (tOp rSub (tVar 1) (tC (.int 1))))) (tSeq (tAsg (tOp jKn (tVar 5) (tC (.int 1))) (jJe 8))
 (tSeq (tAsg (jKf [false,false,false,false,false,false,false,false,false,false,false,false,true,false,false,false] (iSeq (tVar 6)) (jJe 12) (jJw (tOp rLeF (tVar 12) (tVar 5))) (tVar 12)) (jJe 9))
 (tAsg (tOp rIxF (tVar 9) (jJ0 jJs (jJb (tVar 0) (jJb (tCB rLen (jJb (tVar 9) tNil)) tNil)))) (jJe 7)))) jKe)
 (tSeq (tAsg (kQq (tOp rGe (tVar 5) (tOp rSub (tVar 1) (tC (.int 1)))) (tOp rEqA (jJ0 jJs (jJb (tVar 0) (jJb (tC (.int 4)) tNil))) (tC (.int 0)))) (jJe 10))
 (tSeq (tAsg (tVar 10) (gSub (tVar 4) (tVar 5) jQ3))
 (tSeq (jK7 (tBM "list" jXm (tOp rIxF (tVar 3) (tVar 7)) (jJb (jJ0 jJs (jJb (tVar 0) (jJb (tOp jKn (tCB rLen (jJb (tOp rIxF (tVar 3) (tVar 7)) tNil)) (tC (.int 1))) tNil))) (jJb (tTup (jJb (tVar 5) (jJb (tC (.int 0)) tNil))) tNil))))
 (tIfS (tNot (tTru rTru (tVar 10))) (jK7 (tBM "list" jXm (tOp rIxF (tVar 3) (tVar 8)) (jJb (jJ0 jJs (jJb (tVar 0) (jJb (tOp jKn (tCB rLen (jJb (tOp rIxF (tVar 3) (tVar 8)) tNil)) (tC (.int 1))) tNil))) (jJb (tTup (jJb (tVar 5) (jJb (tC (.int 1)) tNil))) tNil)))) jKe))))))))))
 (tSeq (tAsg jQi (jJe 11))
 (tSeq (tFor (jKj (jJb (tVar 1) tNil)) (jJe 12) (tFor (kJ7 (jJb (tOp rIxF (tVar 3) (tVar 12)) tNil)) (gTup 2 (jJu (jJe 13) (jJu (jJe 14) gNil))) (tAsg (tTup (jJb (tVar 12) (jJb (tVar 13) tNil))) (gSub (tVar 11) (tVar 14) jQ3))))
 (tRet (tCB jJv (jJb (jKf [false,false,false,false,false,false,false,false,false,false,false,false,false,false,false,true] (iSeq (tVar 3)) (jJe 15) jQh (tCB jJv (jJb (jKf [false,false,false,false,false,true,false,false,false,false,false,false,false,false,true,false] (iSeq (tVar 15)) (gTup 2 (jJu (jJe 5) (jJu (jJe 14) gNil))) jQh (tOp rIxF (tVar 11) (tTup (jJb (tVar 5) (jJb (tIf (jJw (tOp rIxF (tVar 4) (tVar 5))) (tVar 14) (tOp rSub (tC (.int 1)) (tVar 14))) tNil))))) tNil))) tNil))))))))
noncomputable def kJr:TS3:=(tSeq (tAsg (kQq (tOp rGe (tVar 5) (tOp rSub (tVar 1) (tC (.int 1)))) (tOp rEqA (jJ0 jJs (jJb (tVar 0) (jJb (tC (.int 4)) tNil))) (tC (.int 0)))) (jJe 10))
 (tSeq (tAsg (tVar 10) (gSub (tVar 4) (tVar 5) jQ3))
 (tSeq (jK7 (tBM "list" jXm (tOp rIxF (tVar 3) (tVar 7)) (jJb (jJ0 jJs (jJb (tVar 0) (jJb (tOp jKn (tCB rLen (jJb (tOp rIxF (tVar 3) (tVar 7)) tNil)) (tC (.int 1))) tNil))) (jJb (tTup (jJb (tVar 5) (jJb (tC (.int 0)) tNil))) tNil))))
 (tIfS (tNot (tTru rTru (tVar 10))) (jK7 (tBM "list" jXm (tOp rIxF (tVar 3) (tVar 8)) (jJb (jJ0 jJs (jJb (tVar 0) (jJb (tOp jKn (tCB rLen (jJb (tOp rIxF (tVar 3) (tVar 8)) tNil)) (tC (.int 1))) tNil))) (jJb (tTup (jJb (tVar 5) (jJb (tC (.int 1)) tNil))) tNil)))) jKe))))
noncomputable def kJq:TS3:=(tSeq (tAsg jQi (jJe 11))
 (tSeq (tFor (jKj (jJb (tVar 1) tNil)) (jJe 12) (tFor (kJ7 (jJb (tOp rIxF (tVar 3) (tVar 12)) tNil)) (gTup 2 (jJu (jJe 13) (jJu (jJe 14) gNil))) (tAsg (tTup (jJb (tVar 12) (jJb (tVar 13) tNil))) (gSub (tVar 11) (tVar 14) jQ3))))
 (tRet (tCB jJv (jJb (jKf [false,false,false,false,false,false,false,false,false,false,false,false,false,false,false,true] (iSeq (tVar 3)) (jJe 15) jQh (tCB jJv (jJb (jKf [false,false,false,false,false,true,false,false,false,false,false,false,false,false,true,false] (iSeq (tVar 15)) (gTup 2 (jJu (jJe 5) (jJu (jJe 14) gNil))) jQh (tOp rIxF (tVar 11) (tTup (jJb (tVar 5) (jJb (tIf (jJw (tOp rIxF (tVar 4) (tVar 5))) (tVar 14) (tOp rSub (tC (.int 1)) (tVar 14))) tNil))))) tNil))) tNil)))))
theorem kYk:kJs=(tSeq (tAsg (jKf [false,false,false,false,false,false,false,false,false,false,false,false,true,false,false,false] (jKj (jJb (tVar 1) tNil)) (jJe 12) jQh (tLst tNil)) (jJe 3))
 (tSeq (tAsg jQi (jJe 4))
 (tSeq (tFor (jKj (jJb (tOp jKn (tOp rSub (tVar 1) (tC (.int 1))) (tVar 2)) tNil)) (jJe 5) (tSeq (tAsg (jKf [false,false,false,false,false,false,false,false,false,false,false,false,true,false,false,false] (jKj (jJb (tVar 1) tNil)) (jJe 12) (jJw (tOp rLt (tCB rLen (jJb (tOp rIxF (tVar 3) (tVar 12)) tNil)) (tC (.int 5)))) (tVar 12)) (jJe 6))
 (tSeq (tIfS (jJw (tOp rEqA (tVar 6) (tLst tNil))) qJ1 jKe)
 (tSeq (tAsg (tOp rIxF (tVar 6) (jJ0 jJs (jJb (tVar 0) (jJb (tCB rLen (jJb (tVar 6) tNil)) tNil)))) (jJe 7))
 (tSeq (tAsg (tOp rIxF (tVar 6) (jJ0 jJs (jJb (tVar 0) (jJb (tCB rLen (jJb (tVar 6) tNil)) tNil)))) (jJe 8))
 (tSeq (tIfS (jJw (tOp rLt (tVar 5) (tOp rSub (tVar 1) (tC (.int 1))))) (tSeq (tAsg (tOp jKn (tVar 5) (tC (.int 1))) (jJe 8))
 (tSeq (tAsg (jKf [false,false,false,false,false,false,false,false,false,false,false,false,true,false,false,false] (iSeq (tVar 6)) (jJe 12) (jJw (tOp rLeF (tVar 12) (tVar 5))) (tVar 12)) (jJe 9))
 (tAsg (tOp rIxF (tVar 9) (jJ0 jJs (jJb (tVar 0) (jJb (tCB rLen (jJb (tVar 9) tNil)) tNil)))) (jJe 7)))) jKe)
 kJr))))))
 kJq))):=rfl
theorem qJw {E:Ends3} {b D d:Addr} {rs:List Addr} {n m k r1 r2 c:Nat} {v6 v9 v10 v11 v12 v13 v14 v15:Option T} {L:List (Nat×Nat×Nat)} {Hs:Web} {kvs:List (L2.Key×T)} {G:Gp} (hn:n<=12) (hk:k<20) (h1:r1<n) (h2:r2<n) (w:WI n k L kvs) (hh:HalfL L n Hs) (hR:RowsAt G D Hs rs) (hnd:(D::rs).Nodup) (hbD:b∉D::rs) (hdD:d∉D::rs) (hbd:b≠d) (hd:G d=some (.dck kvs)) (hb:BoxAt G b c) (hc:c+10<2^40)
  (kk:∀lp L' Hs' G' v10,L'=(L++[(r1,k,0)])++(if lp=true then [] else [(r2,k,1)])->HalfL L' n Hs'->RowsAt G' D Hs' rs->G' d=some (.dck (putT kvs (.inl (k:Nat)) (.bl lp)))->BoxAt G' b (c+3)->(∀a o,a≠b->a≠d->a∉D::rs->G a=some o->G' a=some o)->E.nx [some (.ref b),some (.int n),some (.int m),some (.ref D),some (.ref d),some (.int k),v6,some (.int r1),some (.int r2),v9,v10,v11,v12,v13,v14,v15] G'):
  kJr E [some (.ref b),some (.int n),some (.int m),some (.ref D),some (.ref d),some (.int k),v6,some (.int r1),some (.int r2),v9,v10,v11,v12,v13,v14,v15] G:=by
 have hs:=sz
 wp_walk using 1,kJr,rEqA
 have hkl:=w.kl
 have hln:=w.ln
 have fin:∀(lp:Bool) G1 c1 (K1:Gp->Prop),BoxAt G1 b c1->c1<=c+1->Keep b G G1->(∀G2,(if lp=false then InsP b D r2 k 1 G2 (fun G3=>E.nx [some (.ref b),some (.int n),some (.int m),some (.ref D),some (.ref d),some (.int k),v6,some (.int r1),some (.int r2),v9,some (.bl lp),v11,v12,v13,v14,v15] G3) else E.nx [some (.ref b),some (.int n),some (.int m),some (.ref D),some (.ref d),some (.int k),v6,some (.int r1),some (.int r2),v9,some (.bl lp),v11,v12,v13,v14,v15] G2)->K1 G2)->∃G',setR G1 (.ref d) (.int (k:Nat)) (.bl lp)=some G'/\InsP b D r1 k 0 G' K1:=by
  intro lp G1 c1 K1 bx hc1 kp hK1
  have hd1:=kp _ _ hbd.symm hd
  have hdn:∀a,a∈D::rs->a≠d:=fun a ha e=>hdD (e▸ha)
  refine⟨_,kX8 hd1 (by omega),?_⟩
  have R1:RowsAt (gup G1 d (.dck (putT kvs (.inl (k:Nat)) (.bl lp)))) D Hs rs:=by
   have R0:=hR.keep kp hbD
   exact⟨by rw[jJp (hdn D (lJx ..))];exact R0.1,R0.2.1,fun i r e=>by
    obtain⟨h0,e1,e2⟩:=R0.2.2 i r e
    exact⟨h0,e1,by rw[jJp (hdn r (lJz _ (lJy e)))];exact e2⟩⟩
  refine qUi (s:=0) (c:=c1) rfl h1 hh (by omega) R1 hnd hbD (bx.gup hbd) (by omega) fun Hs1 G2 hh1 R2 b2 g2=>hK1 G2 ?_
  have hd2:=g2 d _ hbd.symm hdD jJh
  cases lp with
  | true=>
   rw[lJb (by decide)]
   refine kk true _ Hs1 G2 _ rfl (by simpa using hh1) R2 hd2 (b2.mono (by omega)) fun a o e1 e2 e3 e4=> ?_
   exact g2 a o e1 e3 (by rw[jJp e2];exact kp _ _ e1 e4)
  | false=>
   rw[lJc rfl]
   refine qUi (s:=1) (c:=c1+1) rfl h2 hh1 (by simp;omega) R2 hnd hbD b2 (by omega) fun Hs2 G3 hh2 R3 b3 g3=> ?_
   refine kk false _ Hs2 G3 _ rfl (by simpa using hh2) R3 (g3 d _ hbd.symm hdD hd2) (b3.mono (by omega)) fun a o e1 e2 e3 e4=> ?_
   exact g3 a o e1 e3 (g2 a o e1 e3 (by rw[jJp e2];exact kp _ _ e1 e4))
 split
 ·refine⟨b,4,c,rfl,hb,by omega,by decide,by decide,fun z G1 z0 z1 bx kp=>⟨decide (z=0),qXe,?_⟩⟩
  exact fin (decide (z=0)) G1 (c+1) _ bx (lJg _) kp fun _ h=>h
 ·exact fin false G c _ hb (by omega) (.refl _ _) fun G2 h=>by rw[lJc rfl] at h;exact h
def PlN:Nat->T->Prop
 | 0,t=>(∃i,t= .int i)\/∃b,t= .bl b
 | n+1,t=>((∃i,t= .int i)\/∃b,t= .bl b)\/∃ts,t= .tup ts/\ts.length<=2000/\∀u,u∈ts->PlN n u
noncomputable def AL:Nat->Gp->T->T->Prop
 | 0,_,x,y=>x=y/\PlN 0 x
 | n+1,G,x,y=>(x=y/\PlN (n+1) x)\/∃(p q:Addr) (ts:List T),x= .ref p/\y= .ref q/\G p=some (.lst ts)/\G q=some (.lst ts)/\ts.length<=2000/\∀u,u∈ts->PlN n u
def jYs (n:Nat):Sp3:=fun xs G Q=>∃x y,xs=[x,y]/\AL n G x y/\∀G',Sub G G'->Q (.bl true) G'
section
variable (jYq:Sp3)
def jXb:List Str:=["_law_found","_law_due","_law_one","_law_other"]
noncomputable def jK3:TS3:=
 (tSeq (tIfS (jJw (tCB rIsi (jJb (tVar 1) (jJb (tTup (jJb (tC (.ty "list")) (jJb (tC (.ty "tuple")) tNil))) tNil)))) (tSeq (tIfS (tOr (tNot (jJw (tCB rIsi (jJb (tVar 0) (jJb (tTup (jJb (tC (.ty "list")) (jJb (tC (.ty "tuple")) tNil))) tNil))))) (jJw (tOp rNeA (tCB rIsi (jJb (tVar 0) (jJb (tC (.ty "list")) tNil))) (tCB rIsi (jJb (tVar 1) (jJb (tC (.ty "list")) tNil)))))) (tRet (tC (.bl false))) jKe)
 (tRet (kQq (tOp rEqA (tCB rLen (jJb (tVar 0) tNil)) (tCB rLen (jJb (tVar 1) tNil))) (tCB rAll (jJb (jKf [false,false,true,true] (qQf (jJb (tVar 0) (jJb (tVar 1) tNil))) (gTup 2 (jJu (jJe 2) (jJu (jJe 3) gNil))) jQh (jJ0 jYq (jJb (tVar 2) (jJb (tVar 3) tNil)))) tNil))))) jKe)
 (tSeq (tIfS (jJw (tOp rIsN (tVar 1) (tC .non))) (tRet (tOp rIsN (tVar 0) (tC .non))) jKe)
 (tRet (kQq (tCB rIsi (jJb (tVar 0) (jJb (tC (.ty "int")) tNil))) (kQq (tOp rEqA (tCB rIsi (jJb (tVar 0) (jJb (tC (.ty "bool")) tNil))) (tCB rIsi (jJb (tVar 1) (jJb (tC (.ty "bool")) tNil)))) (tOp rEqA (tVar 0) (tVar 1)))))))
end
theorem isi_ib {G:Gp} {i:Int}:isiT G (.int i) (.ty "bool")=some false:=rfl
theorem isi_il {G:Gp} {i:Int}:isiT G (.int i) (.tup [.ty "list",.ty "tuple"])=some false:=rfl
theorem isi_ii {G:Gp} {i:Int}:isiT G (.int i) (.ty "int")=some true:=rfl
theorem isi_bb {G:Gp} {i:Bool}:isiT G (.bl i) (.ty "bool")=some true:=rfl
theorem isi_bl {G:Gp} {i:Bool}:isiT G (.bl i) (.tup [.ty "list",.ty "tuple"])=some false:=rfl
theorem isi_bi {G:Gp} {i:Bool}:isiT G (.bl i) (.ty "int")=some true:=rfl
theorem qV4 {G:Gp} {ts:List T}:isiT G (.tup ts) (.tup [.ty "list",.ty "tuple"])=some true:=rfl
theorem isi_tl {G:Gp} {ts:List T}:isiT G (.tup ts) (.ty "list")=some false:=rfl
theorem kVm {G:Gp} {a:Bool}:eqG G (.bl a) (.bl a)=some true:=by
 rw[show eqG G (.bl a) (.bl a)=some (eqT (.bl a) (.bl a)) from rfl]
 simp[eqT]
theorem kKg {G:Gp} {a:Int}:eqG G (.int a) (.int a)=some true:=by
 rw[show eqG G (.int a) (.int a)=some (eqT (.int a) (.int a)) from rfl]
 simp[eqT]
theorem kZp {G:Gp} {p:Addr} {ts:List T} (h:G p=some (.lst ts)):isiT G (.ref p) (.tup [.ty "list",.ty "tuple"])=some true:=by simp only[isiT,kJb,h];rfl
theorem qUh {G:Gp} {p:Addr} {ts:List T} (h:G p=some (.lst ts)):isiT G (.ref p) (.ty "list")=some true:=by simp only[isiT,kJb,h];rfl
theorem jXv (sp:Sp3):∀xs G Q,jYs 0 xs G Q->jK3 sp {nx:=fun _ G'=>Q .non G',rt:=Q} (jUm jXb xs) G:=by
 intro xs G Q h_;apply xe2 h_;clear h_;intro t t' h_;apply ae2 h_;clear h_;intro ht kk
 obtain⟨rfl,ht⟩:=ht
 show jK3 _ _ [some t,some t,none,none] G
 have hs:=sz
 rcases ht with ⟨i,rfl⟩ | ⟨i,rfl⟩
 ·wp_walk using 1,jK3,rIsi,rEqA,kKg,kVm,isi_ib,isi_il,isi_ii
  exact⟨by omega,kk G (.refl _)⟩
 ·wp_walk using 1,jK3,rIsi,rEqA,kKg,kVm,isi_bb,isi_bl,isi_bi
  exact⟨by omega,kk G (.refl _)⟩
theorem kUw {ts:List T}:zipT ts ts=ts.map fun t=>T.tup [t,t]:=by
 unfold zipT
 induction ts with
 | nil=>rfl
 | cons a as ih=>rw[lVt,lJn,ih];rfl
theorem al_in {n:Nat} {G:Gp} {u:T} (h:PlN n u):AL n G u u:=by
 cases n with
 | zero=>exact⟨rfl,h⟩
 | succ n=>exact .inl ⟨rfl,h⟩
theorem jUh (n:Nat):∀xs G Q,jYs (n+1) xs G Q->jK3 (jYs n) {nx:=fun _ G'=>Q .non G',rt:=Q} (jUm jXb xs) G:=by
 intro xs G Q h_;apply xe2 h_;clear h_;intro x y h_;apply ae2 h_;clear h_;intro ht kk
 rcases ht with ⟨rfl,h | ⟨ts,rfl,hl,hts⟩⟩ | ⟨p,q,ts,rfl,rfl,hp,hq,hl,hts⟩
 ·exact jXv _ _ _ _ ⟨x,x,rfl,⟨rfl,h⟩,kk⟩
 ·rw[show jUm jXb [.tup ts,.tup ts]=[some (.tup ts),some (.tup ts),none,none] from rfl]
  have hs:=sz
  wp_walk using 1,jK3,rIsi,rEqA,rNeA,qQf,qV4,isi_tl,kVm,kKg
  refine⟨by omega,by omega,ts,ts,.inl ⟨rfl,rfl,?_⟩⟩
  rw[kUw]
  refine jQs (fun _=>T.bl true) (by omega) (fun _ _=>trivial) ?_ ?_
  ·intro i t ht G' K K0 s hk
   wp_walk using 1,tSeq
   exact⟨t,t,rfl,al_in (hts t (lJy ht)),fun G4 s4=>hk G4 s4⟩
  ·intro D G' hD h1 h2
   refine⟨D,_,_,rfl,h1,jZd (f:=fun _=>true),?_⟩
   rw[lK2.mpr (fun _ _=>rfl)]
   exact kk G' h2
 ·rw[show jUm jXb [.ref p,.ref q]=[some (.ref p),some (.ref q),none,none] from rfl]
  have hs:=sz
  have lp:∀G' a,Sub G G'->G a=some (.lst ts)->jK1 G' (.ref a)=some ts:=fun G' a s h=>by rw[show jK1 G' (.ref a)=asL (G' a) from rfl,s _ _ h];rfl
  wp_walk using 1,jK3,rIsi,rEqA,rNeA,qQf,kZp hp,kZp hq,qUh hp,qUh hq,kVm,kKg,jJj hp,jJj hq
  refine⟨by omega,by omega,ts,ts,.inr ⟨lp G p (.refl _) hp,lp G q (.refl _) hq,?_⟩⟩
  rw[kUw]
  refine jQs (fun _=>T.bl true) (by omega) (fun G' s=>⟨lp G' p s hp,lp G' q s hq⟩) ?_ ?_
  ·intro i t ht G' K K0 s hk
   wp_walk using 1,tSeq
   exact⟨t,t,rfl,al_in (hts t (lJy ht)),fun G4 s4=>hk G4 s4⟩
  ·intro D G' hD h1 h2
   refine⟨D,_,_,rfl,h1,jZd (f:=fun _=>true),?_⟩
   rw[lK2.mpr (fun _ _=>rfl)]
   exact kk G' h2
theorem pl_int {n:Nat} {i:Int}:PlN n (.int i):=by
 cases n with
 | zero=>exact .inl ⟨i,rfl⟩
 | succ n=>exact .inl (.inl ⟨i,rfl⟩)
noncomputable def jYb:Sp3:=fun xs G Q=>∃(b:Addr) (n m c:Nat),xs=[.ref b,.int n,.int m]/\BoxAt G b c/\c+300<2^40/\1<=n/\n<=12/\1<=m/\m<=5/\∀(W:Web) G',Fine W->Sym W->(jJx W).length<=n-1+m->W.length=n->BoxAt G' b (c+100)->Keep b G G'->Q (encW W) G'
theorem qJe {mask:List Bool} {g:TG3} {tif:TT3} {te:TE3} {τ:St3} {xs:List T} {stay:Gp->Prop} {G:Gp} {Q:VK3} (Pr:Nat->T->Prop) (hz:xs.length<=sizeLine) (hst:∀G',Sub G G'->stay G')
  (h:∀(i:Nat) x,xs[i]? =some x->∀G' (K:T->Gp->Prop) (K0:Gp->Prop),Sub G G'->(∀t G4,Pr i t->Sub G' G4->K t G4)->g x (msk mask τ) G' fun τ2 G2=>tif τ2 G2 fun b G3=>if b=true then te τ2 G3 K else K0 G3)
  (hq:∀D ts G',G D=none->G' D=some (.lst ts)->ts.length=xs.length->(∀(i:Nat) t,ts[i]? =some t->Pr i t)->Sub G G'->Q (.ref D) G'):jU0 mask g tif te τ xs stay G Q:=by
 intro D hD
 refine⟨fun i acc G'=>acc.length=i/\(∀(j:Nat) t,acc[j]? =some t->Pr j t)/\Sub G G'/\G' D=some (.lst acc),?_,?_,?_,?_⟩
 ·exact⟨rfl,fun j t z=>by simp at z,.new hD,jJh⟩
 ·rintro i acc G' hi ⟨j1,j2,j4,j5⟩
  exact⟨hst G' j4,j5⟩
 ·rintro i x acc G3 hx ⟨j1,j2,j4,j5⟩
  have hi:i<xs.length:=(lJi.mp hx).1
  refine h i x hx G3 _ _ j4 fun t G4 hp kp=> ?_
  refine⟨kp _ _ j5,by omega,by simp[j1],?_,(j4.trans kp).over hD,jJh⟩
  intro j u hu
  by_cases hjl:j<acc.length
  ·rw[lK6 hjl] at hu;exact j2 j u hu
  ·have:=(lJi.mp hu).1
   simp at this
   have:j=acc.length:=by omega
   subst this
   rw[lK5 (lJg _)] at hu
   simp at hu;subst hu
   rw[j1];exact hp
 ·rintro acc G3 ⟨j1,j2,j4,j5⟩
  exact hq D acc G3 hD j5 j1 j2 j4
theorem jYz {β:Type} {enc:β->T}:∀(ts:List T) (P:Nat->β->Prop),(∀(i:Nat) t,ts[i]? =some t->∃b,t=enc b/\P i b)->∃bs:List β,ts=bs.map enc/\∀(i:Nat) b,bs[i]? =some b->P i b
 | [],_,_=>⟨[],rfl,fun i b h=>by simp at h⟩
 | t::ts,P,h=>by
  obtain⟨b,rfl,hb⟩:=h 0 t rfl
  obtain⟨bs,rfl,h2⟩:=jYz ts (fun i=>P (i+1)) fun i t hi=>h (i+1) t hi
  refine⟨b::bs,rfl,fun i c hc=> ?_⟩
  cases i with
  | zero=>cases hc;exact hb
  | succ i=>exact h2 i c hc
def par (kvs:List (L2.Key×T)) (x:Nat×Nat):Nat×Nat:=match valT kvs (.inl (x.1:Nat)) with
 | some (.bl true)=>x
 | _=>(x.1,1-x.2)
def Has (Hs:Web) (kvs:List (L2.TKey×T)) (x:Nat×Nat):Prop:=∃e:Nat×Nat,valT kvs (keyE x)=some (encE e)/\en Hs e.1 e.2=some x
theorem Has.put {Hs:Web} {kvs:List (L2.TKey×T)} {x y e:Nat×Nat} (h:Has Hs kvs x) (he:en Hs e.1 e.2=some y):Has Hs (putT kvs (keyE y) (encE e)) x:=by
 obtain⟨f,h1,h2⟩:=h
 unfold Has
 rw[jU1]
 by_cases z:keyE y=keyE x
 ·rw[lJc z];cases kJ6 z;exact⟨e,rfl,he⟩
 ·rw[lJb z];exact⟨f,h1,h2⟩
theorem Has.self {Hs:Web} {kvs:List (L2.TKey×T)} {y e:Nat×Nat} (he:en Hs e.1 e.2=some y):Has Hs (putT kvs (keyE y) (encE e)) y:=⟨e,by rw[jU1,lJc rfl],he⟩
theorem qUe {α β:Type} {f:α->β}:∀ {L:List α},(L.map f).Nodup->∀ {a b:α},a∈L->b∈L->f a=f b->a=b
 | x::L,h,a,b,ha,hb,e=>by
  rw[lJn,lK0] at h
  rcases (lJk.mp ha) with ea | ha'
  ·rcases (lJk.mp hb) with eb | hb'
   ·rw[ea,eb]
   ·exact absurd (by rw[<-ea,e];exact lQ8 hb') h.1
  ·rcases (lJk.mp hb) with eb | hb'
   ·exact absurd (by rw[<-eb,<-e];exact lQ8 ha') h.1
   ·exact qUe h.2 ha' hb' e
theorem HalfL.one {L:List (Nat×Nat×Nat)} {n r i r' i':Nat} {x:Nat×Nat} {Hs:Web} (h:HalfL L n Hs) (nd:(L.map fun x=>x.2).Nodup) (h1:en Hs r i=some x) (h2:en Hs r' i'=some x):r=r'/\i=i':=by
 have hrr:r=r':=lKp Prod.fst (qUe nd (h.mem h1) (h.mem h2) rfl)
 subst hrr
 refine⟨rfl,?_⟩
 obtain⟨es,z1,z2⟩:=jQx h1
 obtain⟨es',z3,z4⟩:=jQx h2
 rw[z1] at z3;cases z3
 have nd:es.Nodup:=by
  rw[(h.perm r es z1).nodup_iff]
  exact (List.filter_sublist.map _).nodup nd
 exact (List.getElem?_inj (lJi.mp z2).1 nd).mp (z2.trans z4.symm)
structure Tied (Hs W:Web) (f:Nat×Nat->Nat×Nat):Prop where
 len:W.length=Hs.length
 rl:∀(r:Nat) (es:List (Nat×Nat)),W[r]? =some es->es.length=(row Hs r).length
 to:∀r i x,en Hs r i=some x->∃e,en W r i=some e/\en Hs e.1 e.2=some (f x)
theorem Tied.at {Hs W:Web} {f:Nat×Nat->Nat×Nat} (t:Tied Hs W f) {r i:Nat} {e:Nat×Nat} (h:en W r i=some e):∃x,en Hs r i=some x/\en Hs e.1 e.2=some (f x):=by
 obtain⟨es,h1,h2⟩:=jQx h
 have hr:r<Hs.length:=by rw[<-t.len];exact (lJi.mp h1).1
 have hrow:Hs[r]? =some (row Hs r):=by rw[row,lJo hr];rfl
 have hi:i<(row Hs r).length:=by rw[<-t.rl r es h1];exact (lJi.mp h2).1
 have hx:=jXp hrow (lJo hi)
 obtain⟨e',q1,q2⟩:=t.to r i _ hx
 rw[h] at q1;cases q1
 exact⟨_,hx,q2⟩
theorem Tied.sym {Hs W:Web} {f:Nat×Nat->Nat×Nat} (t:Tied Hs W f) (one:∀r i r' i' x,en Hs r i=some x->en Hs r' i'=some x->r=r'/\i=i') (inv:∀r i x,en Hs r i=some x->f (f x)=x):Sym W:=by
 intro r i s j h
 obtain⟨x,h1,h2⟩:=t.at h
 obtain⟨e,h3,h4⟩:=t.to s j _ h2
 rw[inv r i x h1] at h4
 obtain⟨q1,q2⟩:=one _ _ _ _ _ h4 h1
 rw[h3];congr 1;exact lK7 q1 q2
theorem Tied.few {Hs W:Web} {f:Nat×Nat->Nat×Nat} {k:Nat} (t:Tied Hs W f) (one:∀r i r' i' x,en Hs r i=some x->en Hs r' i'=some x->r=r'/\i=i') (hk:∀r i x,en Hs r i=some x->x.1<k) (hp:∀r i x r' i' x',en Hs r i=some x->en Hs r' i'=some x'->x.1=x'.1->x'=x\/(f x=x'/\f x'=x)):(jJx W).length<=k:=by
 let g:Tie->Nat:=fun z=>((en Hs z.1.1 z.1.2).getD (0,0)).1
 have at1:∀z,z∈jJx W->∃x,en Hs z.1.1 z.1.2=some x/\en Hs z.2.1 z.2.2=some (f x)/\g z=x.1:=fun z hz=>by
  obtain⟨x,x1,x2⟩:=t.at (endsL_mem.mp hz).1
  exact⟨x,x1,x2,by simp only[g,x1];rfl⟩
 have nd:((jJx W).map g).Nodup:=by
  rw[List.Nodup,lQ7]
  refine List.Pairwise.imp_of_mem (fun {z z'} hz hz' hne e=>hne ?_) kUj
  obtain⟨x,x1,x2,x3⟩:=at1 z hz
  obtain⟨y,y1,y2,y3⟩:=at1 z' hz'
  have m1:=endsL_mem.mp hz
  have m2:=endsL_mem.mp hz'
  rw[x3,y3] at e
  rcases hp _ _ _ _ _ _ x1 y1 e with rfl | ⟨h1,h2⟩
  ·obtain⟨q1,q2⟩:=one _ _ _ _ _ x1 y1
   have q:z.1=z'.1:=lK7 q1 q2
   have:=m1.1
   rw[q,m2.1] at this
   exact lK7 q (lJw this).symm
  ·rw[h1] at x2
   rw[h2] at y2
   obtain⟨q1,q2⟩:=one _ _ _ _ _ x2 y1
   obtain⟨q3,q4⟩:=one _ _ _ _ _ y2 x1
   have l1:=leE_iff.mp m1.2
   have l2:=leE_iff.mp m2.2
   have e1:z.1=z.2:=lK7 (by omega) (by omega)
   have e2:z'.1=z'.2:=lK7 (by omega) (by omega)
   have e3:z.2=z'.1:=lK7 q1 q2
   exact lK7 (e1.trans e3) (e3.trans e2)
 have:=jU5 nd fun a ha=>by
  obtain⟨z,hz,rfl⟩:=lJl.mp ha
  obtain⟨x,x1,x2,x3⟩:=at1 z hz
  rw[x3];exact hk _ _ _ x1
 rwa [lJh] at this
theorem qV1 {G:Gp} {p:Addr} {kvs:List (L2.Key×T)} {k:Int} {t:T} (h:G p=some (.dck kvs)) (ht:valT kvs (.inl k)=some t):ixR G (.ref p) (.int k)=some t:=by
 simp only[ixR,seqT,h,asL,dAt,jQ6,ht]
theorem qU1 {Q:VK3} {b D d:Addr} {rs:List Addr} {n k:Nat} {m:Int} {v5 v6 v7 v8 v9 v10 v12:Option T} {L:List (Nat×Nat×Nat)} {Hs:Web} {kvs:List (L2.Key×T)} {G:Gp} (hn:n<=12) (w:WI n k L kvs) (hh:HalfL L n Hs) (hR:RowsAt G D Hs rs) (hd:G d=some (.dck kvs)) (hk:k<20)
  (kk:∀(W:Web) G',Fine W->Sym W->(jJx W).length<=k->W.length=n->Sub G G'->Q (encW W) G'):
  kJq {nx:=fun _ G'=>Q .non G',rt:=Q} [some (.ref b),some (.int n),some (.int m),some (.ref D),some (.ref d),v5,v6,v7,v8,v9,v10,none,v12,none,none,none] G:=by
 have hs:=sz
 have hln:=w.ln
 wp_walk using 1,kJq,jQi,jJ3,jKj,kJ7
 refine .inl fun p hp=>⟨by omega,by omega,?_⟩
 rw[show ((n:Nat):Int).toNat=n by omega]
 let J1:Nat->St3->Gp->Prop:=fun r τ G'=>∃(v12 v13 v14:Option T) (ws:List (L2.TKey×T)),τ=[some (.ref b),some (.int n),some (.int m),some (.ref D),some (.ref d),v5,v6,v7,v8,v9,v10,some (.ref p),v12,v13,v14,none]/\G' p=some (.dct ws)/\ws.length<=100*r/\(∀r',r'<r->∀x,x∈row Hs r'->Has Hs ws x)/\Sub G G'
 refine⟨J1,?_,?_,?_,?_⟩
 ·exact xi4 _ _ _ [] rfl ⟨jJh,lJu _,fun r hr=>absurd hr (lKu _),.new hp⟩
 ·intros;trivial
 ·intro r y τ G1 hy h_;apply xe4 h_;clear h_;intro v12 v13 v14 ws h_;apply ae4 h_;clear h_;intro h1 h2 h3 s1
  obtain⟨hr,rfl⟩:=jVw hy
  have hrl:r<Hs.length:=by rw[hh.len];exact hr
  have hrow:Hs[r]? =some (row Hs r):=by rw[row,lJo hrl];rfl
  have hlen:=hh.len_le hrow
  have R1:=hR.sub s1
  obtain⟨a,a1,a2,a3⟩:=R1.get hrl
  wp_walk using 1,jJ3,kJ7,jKs R1.1,a2
  have hla:jK1 G1 (.ref a)=some ((row Hs r).map encE):=by rw[show jK1 G1 (.ref a)=asL (G1 a) from rfl,a3];rfl
  refine⟨_,hla,?_⟩
  let J2:Nat->St3->Gp->Prop:=fun i τ G'=>∃(v13 v14:Option T) (ws:List (L2.TKey×T)),τ=[some (.ref b),some (.int n),some (.int m),some (.ref D),some (.ref d),v5,v6,v7,v8,v9,v10,some (.ref p),some (.int r),v13,v14,none]/\G' p=some (.dct ws)/\ws.length<=100*r+i/\(∀r',r'<r->∀x,x∈row Hs r'->Has Hs ws x)/\(∀x,x∈(row Hs r).take i->Has Hs ws x)/\Sub G G'
  refine⟨J2,?_,?_,?_,?_⟩
  ·exact xi3 _ _ ws rfl ⟨h1,h2,h3,fun x hx=>by simp at hx,s1⟩
  ·intro i τ G' hi h_;apply xe3 h_;clear h_;intro v13 v14 ws h_;apply ae5 h_;clear h_;intro i1 i2 i3 i4 s2
   obtain⟨a',b1,b2,b3⟩:=(hR.sub s2).get hrl
   rw[a1] at b1;cases b1
   rw[show jK1 G' (.ref a)=asL (G' a) from rfl,b3];rfl
  ·intro i y τ G2 hy h_;apply xe3 h_;clear h_;intro v13 v14 ws h_;apply ae5 h_;clear h_;intro i1 i2 i3 i4 s2
   obtain⟨z,hz,rfl⟩:=jQw hy
   obtain⟨x,hx,rfl⟩:=jJ7 hz
   have hi:i<(row Hs r).length:=(lJi.mp hx).1
   wp_walk using 1,tSeq
   refine⟨by omega,_,jYc i1 (ks:=keyE x) rfl (by omega),xi3 _ _ (putT ws (keyE x) (encE (r,i))) rfl ⟨jJh,by have:=jV1 ws (keyE x) (encE (r,i));omega,fun r' hr' x' hx'=>(i3 r' hr' x' hx').put (e:=(r,i)) (jXp hrow hx),fun x' hx'=> ?_,s2.over hp⟩⟩
   rw[lVg,hx] at hx'
   rcases (lJt.mp hx') with hx' | hx'
   ·exact (i4 x' hx').put (e:=(r,i)) (jXp hrow hx)
   ·have:x'=x:=by simpa using hx'
    subst this;exact Has.self (e:=(r,i)) (jXp hrow hx)
  ·intro τ G2 h_;apply xe3 h_;clear h_;intro v13 v14 ws h_;apply ae5 h_;clear h_;intro i1 i2 i3 i4 s2
   rw[jK2,lJh,lVu] at i4
   rw[jK2,lJh] at i2
   refine xi4 _ _ _ ws rfl ⟨i1,by omega,fun r' hr' x hx=> ?_,s2⟩
   by_cases z:r'=r
   ·subst z;exact i4 x hx
   ·exact i3 r' (by omega) x hx
 ·intro τ G1 h_;apply xe4 h_;clear h_;intro v12 v13 v14 ws h_;apply ae4 h_;clear h_;intro h1 h2 h3 s1
  rw[jUg] at h3
  have R1:=hR.sub s1
  wp_walk using 1,iSeq,jJj R1.1
  have hrn:rs.length=n:=by rw[hR.2.1];exact hh.len
  have has:∀r y,(r,y)∈L->Has Hs ws y:=fun r y hy=>by
   have hr:=(w.rm _ hy).1
   obtain⟨q,hq⟩:=hh.of hr hy
   obtain⟨es,e1,e2⟩:=jQx hq
   exact h3 r hr y (by rw[jXt e1];exact lJy e2)
  refine qJe (fun i t=>∃es:List (Nat×Nat),t=encR es/\es.length=(row Hs i).length/\∀(j:Nat) e,es[j]? =some e->∀x,(row Hs i)[j]? =some x->en Hs e.1 e.2=some (par kvs x)) (by rw[lJh];omega) (fun G' s=>jJj (s _ _ R1.1)) ?_ ?_
  ·intro i x hx G2 K K0 s2 hK
   obtain⟨a,ha,rfl⟩:=jJ7 hx
   have hi:i<n:=by rw[<-hrn];exact (lJi.mp ha).1
   have hrl:i<Hs.length:=by rw[hh.len];exact hi
   have hrow:Hs[i]? =some (row Hs i):=by rw[row,lJo hrl];rfl
   have hlen:=hh.len_le hrow
   obtain⟨a',b1,b2,b3⟩:=(R1.sub s2).get hrl
   rw[ha] at b1;cases b1
   wp_walk using 1,iSeq,jJj b3
   refine qJe (fun j t=>∃e:Nat×Nat,t=encE e/\∀x,(row Hs i)[j]? =some x->en Hs e.1 e.2=some (par kvs x)) (by rw[lJh];omega) (fun G' s=>jJj (s _ _ b3)) ?_ ?_
   ·intro j y hy G3 K2 K3 s3 hK2
    obtain⟨x,hxj,rfl⟩:=jJ7 hy
    have hxL:(i,x)∈L:=hh.mem (jXp hrow hxj)
    obtain⟨lp,l1,l2,l3⟩:=w.ld _ hxL
    obtain⟨_,m2,_⟩:=w.rm _ hxL
    have hd3:=s3 _ _ (s2 _ _ (s1 _ _ hd))
    have hp3:=s3 _ _ (s2 _ _ h1)
    wp_walk using 1,encE,qV1 hd3 l1
    cases lp with
    | true=>
     have hp:par kvs x=x:=by unfold par;rw[l1]
     obtain⟨e,e1,e2⟩:=has _ _ hxL
     wp_walk using 1,tSeq
     exact⟨by omega,_,kUg hp3 (ks:=keyE x) rfl e1,hK2 _ G3 ⟨e,rfl,fun x' hx'=>by rw[hxj] at hx';cases hx';rw[hp];exact e2⟩ (.refl _)⟩
    | false=>
     have hp:par kvs x=(x.1,1-x.2):=by unfold par;rw[l1]
     obtain⟨r',hr'⟩:=l3 rfl
     obtain⟨e,e1,e2⟩:=has _ _ hr'
     wp_walk using 1,tSeq
     refine⟨by omega,_,kUg hp3 (ks:=keyE (x.1,1-x.2)) ?_ e1,hK2 _ G3 ⟨e,rfl,fun x' hx'=>by rw[hxj] at hx';cases hx';rw[hp];exact e2⟩ (.refl _)⟩
     rw[show (1:Int)-(x.2:Nat)=((1-x.2:Nat):Int) by have:x.2<=1:=m2;omega];rfl
   ·intro E ts G3 hE hE3 hl hts s3
    obtain⟨es,rfl,hes⟩:=jYz ts _ hts
    simp only[lJh] at hl
    exact⟨_,jJj hE3,hK _ G3 ⟨es,rfl,hl,hes⟩ s3⟩
  ·intro E ts G2 hE hE2 hl hts s2
   obtain⟨W,rfl,hW⟩:=jYz ts _ hts
   simp only[lJh] at hl
   have ti:Tied Hs W (par kvs):=⟨by rw[hl,hrn,hh.len],fun r es h=>(hW r es h).1,fun r i x hx=>by
    obtain⟨ro,q1,q2⟩:=jQx hx
    have hrl:r<Hs.length:=(lJi.mp q1).1
    have hWr:W[r]? =some (W[r]'(by rw[hl,hrn,<-hh.len];exact hrl)):=lJo _
    obtain⟨g1,g2⟩:=hW r _ hWr
    rw[jXt q1] at g1 g2
    have hi:i<(W[r]'(by rw[hl,hrn,<-hh.len];exact hrl)).length:=by rw[g1];exact (lJi.mp q2).1
    exact⟨_,jXp hWr (lJo hi),g2 i _ (lJo hi) x q2⟩⟩
   have inv:∀r i x,en Hs r i=some x->par kvs (par kvs x)=x:=fun r i x hx=>by
    have hxL:=hh.mem hx
    obtain⟨lp,l1,l2,l3⟩:=w.ld _ hxL
    have m2:x.2<=1:=(w.rm _ hxL).2.1
    cases lp with
    | true=>
     have hp:par kvs x=x:=by unfold par;rw[l1]
     rw[hp,hp]
    | false=>
     have hp:par kvs x=(x.1,1-x.2):=by unfold par;rw[l1]
     have hp2:par kvs (x.1,1-x.2)=(x.1,1-(1-x.2)):=by unfold par;rw[l1]
     rw[hp,hp2];exact lK7 rfl (by show 1-(1-x.2)=x.2;omega)
   have sym:Sym W:=ti.sym (fun r i r' i' x=>hh.one w.nd) inv
   have few:=ti.few (k:=k) (fun r i r' i' x=>hh.one w.nd) (fun r i x hx=>(w.rm _ (hh.mem hx)).2.2) fun r i x r' i' x' hx hx' e=>by
    obtain⟨lp,l1,l2,l3⟩:=w.ld _ (hh.mem hx)
    obtain⟨lp',l1',l2',l3'⟩:=w.ld _ (hh.mem hx')
    have m2:x.2<=1:=(w.rm _ (hh.mem hx)).2.1
    have m2':x'.2<=1:=(w.rm _ (hh.mem hx')).2.1
    replace l1:valT kvs (.inl (x.1:Nat))=some (.bl lp):=l1
    replace l1':valT kvs (.inl (x'.1:Nat))=some (.bl lp'):=l1'
    rw[<-e,l1] at l1'
    cases l1'
    by_cases z:x'.2=x.2
    ·exact .inl (lK7 e.symm z)
    ·cases lp with
     | true=>exact absurd ((l2' rfl).trans (l2 rfl).symm) z
     | false=>
      have p1:par kvs x=(x.1,1-x.2):=by unfold par;rw[l1]
      have p2:par kvs x'=(x'.1,1-x'.2):=by unfold par;rw[<-e,l1]
      rw[p1,p2]
      exact .inr ⟨lK7 e (show 1-x.2=x'.2 by omega),lK7 e.symm (show 1-x'.2=x.2 by omega)⟩
   refine⟨_,jJj hE2,kk W G2 ⟨by omega,fun r es h=> ?_,fun r i s j h=>en_lt (sym _ _ _ _ h)⟩ sym few (by omega) (s1.trans s2)⟩
   rw[(hW r es h).1]
   have hrl:r<Hs.length:=by rw[<-ti.len];exact (lJi.mp h).1
   have:=hh.len_le (show Hs[r]? =some (row Hs r) by rw[row,lJo hrl];rfl)
   omega
theorem kV3:RdOk jYb kJs qXv:=by
 intro xs G Q h_;apply xe4 h_;clear h_;intro b n m c h_;apply ae7 h_;clear h_;intro hb hc hn1 hn2 hm2 hm kk
 show kJs _ [some (.ref b),some (.int n),some (.int m),none,none,none,none,none,none,none,none,none,none,none,none,none] G
 have hs:=sz
 rw[kYk]
 wp_walk using 1,jJ3,jKj
 refine⟨by omega,by omega,?_⟩
 obtain⟨bo,hbo⟩:=hb.some
 rw[show ((n:Nat):Int).toNat=n by omega,jU4]
 refine jZ5 (fun _=>[]) (by simp;omega) (fun _ _=>trivial) ?_ ?_
 ·intro x x' hx G' K K0 s hk
  wp_walk using 1,tSeq
  exact⟨by omega,fun p hp=>hk p _ hp jJh (.new hp)⟩
 ·intro D rs G1 hD hD1 s1 hrl hnd hrs
  rw[lXz] at hrl
  wp_walk using 1,jQi
  refine .inr fun d hd=>⟨by omega,by omega,?_⟩
  have hdG:=s1.none hd
  have hfr:∀r,r∈D::rs->G r=none:=by
   intro r z
   rcases (lJk.mp z) with rfl | z
   ·exact hD
   obtain⟨j,hj⟩:=lKg z
   have hjl:j<rs.length:=(lJi.mp hj).1
   exact (hrs j r j hj (by rw[lVx (by omega)])).1
  have hsm:∀r,r∈D::rs->∃o,G1 r=some o:=by
   intro r z
   rcases (lJk.mp z) with rfl | z
   ·exact⟨_,hD1⟩
   obtain⟨j,hj⟩:=lKg z
   have hjl:j<rs.length:=(lJi.mp hj).1
   exact⟨_,(hrs j r j hj (by rw[lVx (by omega)])).2⟩
  have hbD:b∉D::rs:=fun z=>by have:=hfr b z;rw[hbo] at this;cases this
  have hdD:d∉D::rs:=fun z=>by obtain⟨o,ho⟩:=hsm d z;rw[hd] at ho;cases ho
  have hbd:b≠d:=jJi (s1 _ _ hbo) hd
  rw[show (((n:Nat):Int)-1+(m:Nat)).toNat=n-1+m by omega]
  let J1:Nat->St3->Gp->Prop:=fun k τ G'=>∃(v5 v6 v7 v8 v9 v10 v12:Option T) (L:List (Nat×Nat×Nat)) (Hs:Web) (kvs:List (L2.Key×T)),τ=[some (.ref b),some (.int n),some (.int m),some (.ref D),some (.ref d),v5,v6,v7,v8,v9,v10,none,v12,none,none,none]/\WI n k L kvs/\HalfL L n Hs/\RowsAt G' D Hs rs/\G' d=some (.dck kvs)/\BoxAt G' b (c+6*k)/\Keep b G G'
  refine⟨J1,?_,?_,?_,?_⟩
  ·refine xi10 none none none none none none none [] (List.replicate n []) [] rfl ⟨⟨fun x hx=>(by cases hx),fun x hx=>(by cases hx),lJg _,fun _ x hx=>(by cases hx),lJg _,lXb,fun j h=>absurd h (lKu _)⟩,⟨by simp,?_⟩,⟨?_,by simp[hrl],?_⟩,jJh,(hb.sub s1).gup hbd,(Keep.sub s1).over hdG⟩
   ·intro r hs' h
    rw[List.getElem?_replicate] at h
    split at h
    ·cases h;simp
    ·cases h
   ·rw[jJp fun e=>hdD (by rw[<-e];exact lJx ..)];exact hD1
   ·intro i r h
    have hi:i<n:=by rw[<-hrl];exact (lJi.mp h).1
    exact⟨[],by simp[hi],by rw[jJp fun e=>hdD (by rw[<-e];exact lJz _ (lJy h))];exact (hrs i r i h (by simp[hi])).2⟩
  ·intros;trivial
  ·intro k y τ G2 hy h_;apply xe10 h_;clear h_;intro v5 v6 v7 v8 v9 v10 v12 L Hs kvs h_;apply ae6 h_;clear h_;intro hw hh hR hdk hbx hkp
   obtain⟨hk,rfl⟩:=jVw hy
   have hkn:k<20:=by omega
   have fin:∀(r1 r2:Nat) G8 c8 (u6 u9:Option T),r1<n->r2<n->(k+1<n->r1<=k+1/\r2<=k+1)->BoxAt G8 b c8->c8+3<=c+6*(k+1)->Keep b G2 G8->kJr {nx:=J1 (k+1),rt:=Q,bk:=kJq {nx:=fun _ G'=>Q .non G',rt:=Q},ct:=J1 (k+1)} [some (.ref b),some (.int n),some (.int m),some (.ref D),some (.ref d),some (.int k),u6,some (.int r1),some (.int r2),u9,v10,none,v12,none,none,none] G8:=by
    intro r1 r2 G8 c8 u6 u9 h1 h2 ht bx hc8 kp
    refine qJw hn2 hkn h1 h2 hw hh (hR.keep kp hbD) hnd hbD hdD hbd (kp _ _ hbd.symm hdk) bx (by omega) fun lp L' Hs' G' u10 eL hh' R' hd' b' g'=> ?_
    refine xi10 _ _ _ _ _ _ _ L' Hs' _ rfl ⟨by rw[eL];exact hw.step h1 h2 ht,hh',R',hd',b'.mono hc8,fun a o ha ho=> ?_⟩
    exact g' a o ha (jJi ho hdG) (fun z=>by rw[hfr a z] at ho;cases ho) (kp _ _ ha (hkp _ _ ha ho))
   wp_walk using 1,jKj,rEqA,iSeq,qJ1
   refine⟨by omega,by omega,?_⟩
   rw[show ((n:Nat):Int).toNat=n by omega,jU4]
   refine jUk (fun r=>if (row Hs r).length<5 then some (T.int (r:Nat)) else none) (by simp;omega) (fun _ _=>trivial) ?_ ?_
   ·intro i r hr G3 K K0 s3 hK hK0
    obtain⟨q1,q2⟩:=lJi.mp hr
    simp at q1 q2;subst q2
    obtain⟨a,a1,a2,a3⟩:=(hR.sub s3).get (x:=i) (by rw[hh.len];exact q1)
    wp_walk using 1,jKs (hR.sub s3).1,a2,jJj a3,List.length_map
    by_cases h5:(row Hs i).length<5
    ·rw[lJc (by omega)]
     exact hK _ _ (by rw[lJc h5]) (.refl _)
    ·rw[lJb (by omega)]
     exact hK0 (by rw[lJb h5]) _ (.refl _)
   ·intro f G3 hf hf3 s3
    obtain⟨F,hF1,hF2⟩:∃F:List Nat,(List.range n).filterMap (fun r=>if (row Hs r).length<5 then some (T.int (r:Nat)) else none)=jJq F/\F=(List.range n).filter fun r=>decide ((row Hs r).length<5):=by
     refine⟨_,?_,rfl⟩
     generalize List.range n=l
     induction l with
     | nil=>rfl
     | cons a as ih=>
      rw[lKz,lXk]
      by_cases h:(row Hs a).length<5<;>simp[h,ih,jJq]
    rw[hF1] at hf3
    have hFm:∀r,r∈F↔r<n/\(row Hs r).length<5:=fun r=>by rw[hF2,lVb,lKy];simp
    have hFl:F.length<=n:=by rw[hF2];have:=lXj (fun r=>decide ((row Hs r).length<5)) (List.range n);rw[lXz] at this;exact this
    refine⟨by omega,fun z hz=> ?_⟩
    have hfz:f≠z:=jJi hf3 hz
    refine⟨decide (F=[]),kK9 (b:=[]) (by rw[jJp hfz];exact hf3) jJh,?_⟩
    have s4:Sub G2 (gup G3 z (.lst [])):=s3.trans (.new hz)
    have hf4:gup G3 z (.lst []) f=some (.lst (jJq F)):=by rw[jJp hfz];exact hf3
    generalize gup G3 z (.lst [])=G4 at s4 hf4 ⊢
    have hfb:f≠b:=fun e=>by rw[e] at hf;obtain⟨o1,ho1⟩:=hbx.some;rw[hf] at ho1;cases ho1
    by_cases hFe:F=[]
    ·rw[lJc (lJ1 hFe)]
     refine xi10 _ _ _ _ _ _ _ L Hs kvs rfl ⟨hw.skip ?_ ?_,hh,hR.sub s4,s4 _ _ hdk,(hbx.sub s4).mono (by omega),hkp.trans (.sub s4)⟩
     ·refine Nat.le_of_not_lt fun hkn'=> ?_
      obtain⟨r,r1,r2⟩:=hw.free hh (by omega)
      have:=(hFm r).mpr ⟨by omega,r2⟩
      rw[hFe] at this;cases this
     ·have q:=kYy (L:=L) (d:=5) n fun r hr=>by
       rw[<-hh.row_len hr]
       exact Nat.le_of_not_lt fun z=>by have:=(hFm r).mpr ⟨hr,z⟩;rw[hFe] at this;cases this
      have h2:=lXj (fun x:Nat×Nat×Nat=>decide (x.1<n)) L
      have:=hw.ln
      omega
    rw[lJb (by simpa using hFe)]
    have hF1:1<=F.length:=by
     cases hF:F with
     | nil=>exact absurd hF hFe
     | cons a F=>simp
    have pick:∀(A:List Nat) (x:Int),0<=x->x<((jJq A).length:Int)->∃r,r∈A/\L2.atI (jJq A) x=some (.int (r:Nat)):=by
     intro A x x0 x1
     have hl:x.toNat<A.length:=by simp[jJq] at x1;omega
     exact⟨A[x.toNat],lX0 hl,by rw[atZ x0];simp[jJq,hl]⟩
    have iL:(jJq F).length=F.length:=by simp[jJq]
    refine⟨_,jJj hf4,b,_,_,rfl,hbx.sub s4,by omega,by rw[iL];omega,by rw[iL];omega,fun x1 G5 x10 x11 bx5 kp5=> ?_⟩
    obtain⟨r1,hr1,ha1⟩:=pick F x1 x10 x11
    have hf5:=kp5 _ _ hfb hf4
    refine⟨_,(jKs hf5).trans ha1,_,jJj hf5,b,_,_,rfl,bx5,by omega,by rw[iL];omega,by rw[iL];omega,fun x2 G6 x20 x21 bx6 kp6=> ?_⟩
    obtain⟨r2,hr2,ha2⟩:=pick F x2 x20 x21
    have hf6:=kp6 _ _ hfb hf5
    have kp26:Keep b G2 G6:=(Keep.sub s4).trans (kp5.trans kp6)
    refine⟨_,(jKs hf6).trans ha2,?_⟩
    split
    ·rename_i hkn'
     refine⟨_,jJj hf6,?_⟩
     refine jUk (es:=F) (enc:=fun r:Nat=>T.int r) (fun r=>if r<=k then some (T.int (r:Nat)) else none) (by omega) (fun G' s=>jJj (s _ _ hf6)) ?_ ?_
     ·intro i r hr G7 K K0 s7 hK hK0
      wp_walk using 1,rLeF
      by_cases h5:r<=k
      ·rw[lJc (by omega)]
       exact hK _ _ (by rw[lJc h5]) (.refl _)
      ·rw[lJb (by omega)]
       exact hK0 (by rw[lJb h5]) _ (.refl _)
     ·intro g G7 hg hg7 s7
      obtain⟨A,hA1,hA2⟩:∃A:List Nat,F.filterMap (fun r=>if r<=k then some (T.int (r:Nat)) else none)=jJq A/\A=F.filter fun r=>decide (r<=k):=by
       refine⟨_,?_,rfl⟩
       generalize F=l
       induction l with
       | nil=>rfl
       | cons a as ih=>
        rw[lKz,lXk]
        by_cases h:a<=k<;>simp[h,ih,jJq]
      rw[hA1] at hg7
      have hAm:∀r,r∈A↔r∈F/\r<=k:=fun r=>by rw[hA2,lVb];simp
      have hAl:A.length<=F.length:=by rw[hA2];exact lXj _ _
      have hA1:1<=A.length:=by
       obtain⟨r,q1,q2⟩:=hw.free hh (by omega)
       exact List.length_pos_of_mem ((hAm r).mpr ⟨(hFm r).mpr ⟨by omega,q2⟩,by omega⟩)
      have iA:(jJq A).length=A.length:=by simp[jJq]
      have hgb:g≠b:=fun e=>by rw[e] at hg;obtain⟨o1,ho1⟩:=bx6.some;rw[hg] at ho1;cases ho1
      refine⟨_,jJj hg7,b,_,_,rfl,bx6.sub s7,by omega,by rw[iA];omega,by rw[iA];omega,fun x3 G8 x30 x31 bx8 kp8=> ?_⟩
      obtain⟨r3,hr3,ha3⟩:=pick A x3 x30 x31
      refine⟨_,(jKs (kp8 _ _ hgb hg7)).trans ha3,?_⟩
      have h3:=(hAm r3).mp hr3
      have h3n:=(hFm r3).mp h3.1
      have:=fin r3 (k+1) G8 _ (some (.ref f)) (some (.ref g)) h3n.1 (by omega) (fun _=>by omega) bx8 (by omega) (kp26.trans ((Keep.sub s7).trans kp8))
      exact this
    ·have h1:=(hFm r1).mp hr1
     have h2:=(hFm r2).mp hr2
     exact fin r1 r2 G6 _ (some (.ref f)) v9 h1.1 h2.1 (fun _=>by omega) bx6 (by omega) kp26
  ·intro τ G2 h_;apply xe10 h_;clear h_;intro v5 v6 v7 v8 v9 v10 v12 L Hs kvs h_;apply ae6 h_;clear h_;intro hw hh hR hdk hbx hkp
   rw[jUg] at hw hbx
   refine qU1 hn2 hw hh hR hdk (by omega) fun W G3 fW sy tw hW s3=> ?_
   exact kk W G3 fW sy tw hW ((hbx.sub s3).mono (by omega)) (hkp.trans (.sub s3))
theorem vis_sub {F:List Nat} {es:List (Nat×Nat)}:(∃E,vis F es=F++E)/\(∀e,e∈es->e.1∈vis F es)/\(∀x,x∈vis F es->x∈F\/∃e,e∈es/\e.1=x)/\(F.Nodup->(vis F es).Nodup):=by
 induction es generalizing F with
 | nil=>exact⟨⟨[],by simp[vis]⟩,by simp,fun x h=> .inl h,fun h=>h⟩
 | cons e es ih=>
  have hv:vis F (e::es)=vis (if F.contains e.1=true then F else F++[e.1]) es:=rfl
  rw[hv]
  by_cases h:F.contains e.1=true
  ·rw[lJc h]
   obtain⟨⟨E,i1⟩,i2,i3,i4⟩:=ih (F:=F)
   refine⟨⟨E,i1⟩,fun d hd=> ?_,fun x hx=> ?_,i4⟩
   ·rcases (lJk.mp hd) with rfl | hde
    ·rw[i1];exact lJ8 _ (by simpa using h)
    ·exact i2 d hde
   ·rcases i3 x hx with h | ⟨d,hd,e⟩
    ·exact .inl h
    ·exact .inr ⟨d,lJz _ hd,e⟩
  ·rw[lJb h]
   obtain⟨⟨E,i1⟩,i2,i3,i4⟩:=ih (F:=F++[e.1])
   refine⟨⟨e.1::E,by rw[i1];simp⟩,fun d hd=> ?_,fun x hx=> ?_,fun hn=>i4 ?_⟩
   ·rcases (lJk.mp hd) with rfl | hde
    ·rw[i1];exact lJ8 _ (by simp)
    ·exact i2 d hde
   ·rcases i3 x hx with h | ⟨d,hd,e'⟩
    ·rcases (lJt.mp h) with h | hs
     ·exact .inl h
     ·exact .inr ⟨e,lJx ..,(lJ4.mp hs).symm⟩
    ·exact .inr ⟨d,lJz _ hd,e'⟩
   ·rw[lXc]
    exact⟨hn,by simp,fun a ha b hb=>by rw[lJ4] at hb;subst hb;rintro rfl;exact h (by simpa using ha)⟩
structure Bfs (W:Web) (k:Nat) (F:List Nat):Prop where
 nd:F.Nodup
 lt:∀x,x∈F->x<W.length
 near:∀(i x:Nat) (e:Nat×Nat),i<k->F[i]? =some x->e∈row W x->e.1∈F
theorem qU9 {W:Web} {x:Nat} {e:Nat×Nat} (h:e∈row W x):∃i,en W x i=some e:=by
 unfold row at h
 cases hW:W[x]? with
 | none=>rw[hW] at h;simp at h
 | some es=>
  rw[hW] at h
  obtain⟨i,hi⟩:=lKg (show e∈es from h)
  exact⟨i,jXp hW hi⟩
theorem Bfs.step {W:Web} (f:Fine W) {k r:Nat} {F:List Nat} (h:Bfs W k F) (hr:F[k]? =some r):Bfs W (k+1) (vis F (row W r)):=by
 obtain⟨⟨E,e1⟩,e2,e3,e4⟩:=vis_sub (F:=F) (es:=row W r)
 refine⟨e4 h.nd,fun x hx=> ?_,fun i x e hi hx he=> ?_⟩
 ·rcases e3 x hx with hx | ⟨e,he,rfl⟩
  ·exact h.lt x hx
  ·obtain⟨i,hi⟩:=qU9 he
   exact f.rng _ _ e.1 e.2 hi
 ·have hkl:k<F.length:=(lJi.mp hr).1
  have hx':F[i]? =some x:=by rw[e1,lK6 (by omega)] at hx;exact hx
  rcases lQx (lQ6 hi) with h1 | rfl
  ·rw[e1];exact lJ8 _ (h.near i x e h1 hx' he)
  ·rw[hr] at hx';cases hx';exact e2 e he
theorem vis_lt {W:Web} (f:Fine W) {F:List Nat} {x:Nat} {es:List (Nat×Nat)} (hx:W[x]? =some es) (hF:∀y,y∈F->y<W.length) (j:Nat):∀y,y∈vis F (es.take j)->y<W.length:=by
 intro y hy
 rcases (vis_sub (F:=F) (es:=es.take j)).2.2.1 y hy with h | ⟨e,he,rfl⟩
 ·exact hF y h
 ·obtain⟨i,hi⟩:=lKg (lQl he)
  exact f.rng x i e.1 e.2 (jXp hx hi)
noncomputable def jK9:Sp3:=fun xs G Q=>∃(W:Web) (r0:Nat),xs=[encW W,.int r0]/\Fine W/\r0<W.length/\∀d G' kvs,G d=none->G' d=some (.dck kvs)->kvs.map Prod.fst=(bfs W r0).map keyN->Sub G G'->Q (.ref d) G'
def jZh:List Str:=["web","room","comings","level","further","here","door","end"]
noncomputable def jQb:TS3:=
 (tSeq (tAsg (kX1 (tVar 1) (tC .non)) (jJe 2))
 (tSeq (tAsg (tLst (jJb (tVar 1) tNil)) (jJe 3))
 (tSeq (jXs (tTru rTru (tVar 3)) (tSeq (tAsg (tLst tNil) (jJe 4))
 (tSeq (tFor (iSeq (tVar 3)) (jJe 5) (tFor (iEnT (jJb (tOp rIxF (tVar 0) (tVar 5)) tNil)) (gTup 2 (jJu (jJe 6) (jJu (jJe 7) gNil))) (tIfS (jJw (tOp jQc (tOp rIxF (tVar 7) (tC (.int 0))) (tVar 2))) (tSeq (tAsg (tTup (jJb (tVar 5) (jJb (tVar 6) tNil))) (gSub (tVar 2) (tOp rIxF (tVar 7) (tC (.int 0))) jQ3))
 (jK7 (tBM "list" jJ6 (tVar 4) (jJb (tOp rIxF (tVar 7) (tC (.int 0))) tNil)))) jKe)))
 (tAsg (tVar 4) (jJe 3)))))
 (tRet (tVar 2)))))
theorem jV0:RdOk jK9 jQb jZh:=by
 intro xs G Q h_;apply xe2 h_;clear h_;intro W r0 h_;apply ae3 h_;clear h_;intro fine hr0 kk
 show jQb _ [some (.tup (W.map encR)),some (.int r0),none,none,none,none,none,none] G
 have hs:=sz
 have hl:=fine.len
 wp_walk using 1,jQb,jXs,jJ3,kX1,iSeq,iEnT
 intro d hd
 refine⟨keyN r0,rfl,by omega,fun l hl0=> ?_⟩
 have hdl:d≠l:=jJi (jJh (G:=G) (a:=d) (o:= .dck [(keyN r0,T.non)])) hl0
 refine⟨fun m τ G'=>∃(a:Nat) (l:Addr) (v4 v5 v6 v7:Option T) (F:List Nat) (kvs:List (L2.Key×T)),τ=[some (.tup (W.map encR)),some (.int r0),some (.ref d),some (.ref l),v4,v5,v6,v7]/\d≠l/\G l=none/\G' d=some (.dck kvs)/\kvs.map Prod.fst=F.map keyN/\G' l=some (.lst (jJq (F.drop a)))/\a<=F.length/\Bfs W a F/\bfs W r0=bfsN W (W.length-a) a F/\Sub G G'/\m=W.length-a,?_,?_⟩
 ·refine⟨_,0,l,none,none,none,none,[r0],[(keyN r0,T.non)],rfl,hdl,?_,?_,rfl,jJh,lJu _,⟨by simp,by simpa using hr0,fun i x e hi=>absurd hi (lKu _)⟩,rfl,(Sub.new hd).trans (.new hl0),rfl⟩
  ·rw[jJp hdl.symm] at hl0;exact hl0
  ·rw[jJp hdl];exact jJh
 intro m τ G1 h_;apply xe8 h_;clear h_;intro a l v4 v5 v6 v7 F kvs h_;apply ae10 h_;clear h_;intro hdl hl0 h1 hk h2 haF hB hb hs1 e9_
 subst e9_
 have hFl:=jU5 hB.nd hB.lt
 wp_walk using 1,h2
 split
 ·rename_i hne
  have haF':a<F.length:=by
   rcases lV6 a F.length with z | z
   ·exact z
   ·rw[lVi z] at hne;simp[jJq] at hne
  refine⟨fun τ' G'=>∃(l':Addr) (v4 v5 v6 v7:Option T) (F':List Nat) (kvs':List (L2.Key×T)),τ'=[some (.tup (W.map encR)),some (.int r0),some (.ref d),some (.ref l'),v4,v5,v6,v7]/\d≠l'/\G l'=none/\G' d=some (.dck kvs')/\kvs'.map Prod.fst=F'.map keyN/\G' l'=some (.lst (jJq (F'.drop F.length)))/\F.length<=F'.length/\Bfs W F.length F'/\bfs W r0=bfsN W (W.length-F.length) F.length F'/\Sub G G',?_,by omega,fun p hp=> ?_⟩
  ·intro τ' G' h_;apply xe7 h_;clear h_;intro l' v4 v5 v6 v7 F' kvs' h_;apply ae9 h_;clear h_;intro i1 i2 i3 i4 i5 i6 i7 i8 i9
   exact⟨W.length-F.length,by omega,F.length,l',v4,v5,v6,v7,rfl,i1,i2,F',kvs',i3,i4,i5,i6,i7,i8,i9,rfl⟩
  ·have hpd:d≠p:=jJi h1 hp
   have hpl:l≠p:=jJi h2 hp
   have hp0:=qJ3 hs1 hp
   refine⟨jJq (F.drop a),jJj (by rw[jJp hpl];exact h2),?_⟩
   refine⟨fun i τ G'=>∃(v5 v6 v7:Option T) (F':List Nat) (kvs':List (L2.Key×T)),τ=[some (.tup (W.map encR)),some (.int r0),some (.ref d),some (.ref l),some (.ref p),v5,v6,v7]/\G' d=some (.dck kvs')/\kvs'.map Prod.fst=F'.map keyN/\G' l=some (.lst (jJq (F.drop a)))/\G' p=some (.lst (jJq (F'.drop F.length)))/\(∃E,F'=F++E)/\Bfs W (a+i) F'/\bfs W r0=bfsN W (W.length-(a+i)) (a+i) F'/\Sub G G',?_,?_,?_,?_⟩
   ·exact⟨v5,v6,v7,F,kvs,rfl,by rw[jJp hpd];exact h1,hk,by rw[jJp hpl];exact h2,by rw[List.drop_length];exact jJh,⟨[],by simp⟩,hB,hb,hs1.trans (.new hp)⟩
   ·intro i τ G' hi h_;apply xe5 h_;clear h_;intro v5 v6 v7 F' kvs' h_;apply ae8 h_;clear h_;intro j1 jk j2 j3 jE jB jb js
    exact jJj j2
   ·intro i y τ G2 hy h_;apply xe5 h_;clear h_;intro v5 v6 v7 F' kvs' h_;apply ae8 h_;clear h_;intro j1 jk j2 j3 q4_ jB jb js
    obtain⟨E,jE⟩:=q4_
    obtain⟨x,hx,rfl⟩:=jJ7 hy
    rw[lVz] at hx
    have hai:a+i<F.length:=(lJi.mp hx).1
    have hx':F'[a+i]? =some x:=by rw[jE,lK6 hai];exact hx
    have hxW:=jB.lt x (lJy hx')
    have hW:W[x]? =some W[x]:=lJo hxW
    generalize W[x]=es at hW
    wp_walk using 1,iEnT,jKl hW,encR,jJ3
    refine⟨fun j τ G'=>∃(v6 v7:Option T) (F2:List Nat) (kvs2:List (L2.Key×T)),τ=[some (.tup (W.map encR)),some (.int r0),some (.ref d),some (.ref l),some (.ref p),some (.int x),v6,v7]/\G' d=some (.dck kvs2)/\kvs2.map Prod.fst=F2.map keyN/\G' l=some (.lst (jJq (F.drop a)))/\G' p=some (.lst (jJq (F2.drop F.length)))/\F2=vis F' (es.take j)/\Sub G G',?_,?_,?_,?_⟩
    ·exact⟨v6,v7,F',kvs',rfl,j1,jk,j2,j3,rfl,js⟩
    ·intros;trivial
    ·intro j y τ G3 hy h_;apply xe4 h_;clear h_;intro v6 v7 F2 kvs2 h_;apply ae6 h_;clear h_;intro q1 qk q2 q3 q4 q5
     obtain⟨z,hz,rfl⟩:=jQw hy
     obtain⟨e,he,rfl⟩:=jJ7 hz
     have hF2n:F2.Nodup:=by rw[q4];exact vis_sub.2.2.2 jB.nd
     have hF2l:∀y,y∈F2->y<W.length:=by rw[q4];exact vis_lt fine hW jB.lt j
     have hF2:=jU5 hF2n hF2l
     have hkl:kvs2.length=F2.length:=by have:=lKp List.length qk;simpa using this
     have hFF:F.length<=F2.length:=by
      obtain⟨⟨E',e1⟩,_⟩:=vis_sub (F:=F') (es:=es.take j)
      rw[q4,e1,jE];simp only[lKk];omega
     wp_walk using 1,encE,jQc,qV6 q1 qk
     by_cases hm:e.1∈F2
     ·rw[lJb (by simp[hm])]
      exact⟨F2,kvs2,q1,qk,q2,q3,by rw[jX7 he,<-q4,lJc (by simpa using hm)],q5⟩
     ·rw[lJc (by simp[hm])]
      wp_walk using 1,qJ8 q1 (show kvs2.length<sizeLine by omega)
      have hgp:gup G3 d (.dck (putT kvs2 (keyN e.1) (.tup [.int x,.int j]))) p=some (.lst (jJq (F2.drop F.length))):=by rw[jJp hpd.symm];exact q3
      refine⟨by omega,by rw[jKy hgp];trivial,_,hgp,by simp[jJq];omega,F2++[e.1],kvs2++[(keyN e.1,.tup [.int x,.int j])],?_,?_,?_,?_,?_,?_⟩
      ·rw[jJp hpd,jJh,qKk (by rw[qk,kVf];exact hm)]
      ·rw[lQv,lQv,qk];rfl
      ·rw[jJp hpl,jJp hdl.symm];exact q2
      ·rw[lYj hFF];simp[jJq]
      ·rw[jX7 he,<-q4,lJb (by simpa using hm)]
      ·exact (q5.over hd).over hp0
    ·intro τ G3 h_;apply xe4 h_;clear h_;intro v6 v7 F2 kvs2 h_;apply ae6 h_;clear h_;intro q1 qk q2 q3 q4 q5
     rw[jK0,lJh,lVu] at q4
     obtain⟨⟨E',e1⟩,_⟩:=vis_sub (F:=F') (es:=es)
     refine⟨_,_,_,rfl,F2,kvs2,q1,qk,q2,q3,⟨E++E',by rw[q4,e1,jE,lJs]⟩,?_,?_,q5⟩
     ·have:=jB.step fine hx'
      rw[jXt hW,<-q4] at this
      exact this
     ·rw[jb,show W.length-(a+i)=W.length-(a+(i+1))+1 by omega,kQi hx',jXt hW,<-q4];rfl
   ·intro τ G2 h_;apply xe5 h_;clear h_;intro v5 v6 v7 F' kvs' h_;apply ae8 h_;clear h_;intro j1 jk j2 j3 q4_ jB jb js
    obtain⟨E,jE⟩:=q4_
    have hlen:(jJq (F.drop a)).length=F.length-a:=by simp[jJq]
    rw[hlen,show a+(F.length-a)=F.length by omega] at jB jb
    wp_walk using 1,tSeq
    exact⟨hpd,hp0,F',kvs',j1,jk,j3,by rw[jE,lKk];omega,jB,jb,js⟩
 ·rename_i hne
  have he:F.length<=a:=by
   have:jJq (F.drop a)=[]:=by simpa using hne
   have:=lKp List.length this
   simp[jJq] at this;omega
  rw[kQj he] at hb
  exact kk d G1 kvs hd h1 (by rw[hk,hb]) hs1
def kQr:Sp3:=fun xs G Q=>∃W:Web,xs=[encW W]/\Fine W/\∀p G',G p=none->G' p=some (.lst ((jJx W).map encT))->(jJx W).length<=1000000->Sub G G'->Q (.ref p) G'
def N_ties:List Str:=["web","told","room","ends","door","end"]
noncomputable def kQ2:TS3:=
 (tSeq (tAsg (tLst tNil) (jJe 1))
 (tSeq (tFor (iEnT (jJb (tVar 0) tNil)) (gTup 2 (jJu (jJe 2) (jJu (jJe 3) gNil))) (tFor (iEnT (jJb (tVar 3) tNil)) (gTup 2 (jJu (jJe 4) (jJu (jJe 5) gNil))) (tIfS (jJw (tOp rLeF (tTup (jJb (tVar 2) (jJb (tVar 4) tNil))) (tVar 5))) (jK7 (tBM "list" jJ6 (tVar 1) (jJb (tTup (jJb (tTup (jJb (tVar 2) (jJb (tVar 4) tNil))) (jJb (tVar 5) tNil))) tNil))) jKe)))
 (tRet (tVar 1))))
theorem kYh:RdOk kQr kQ2 N_ties:=by
 intro xs G Q h_;apply xe1 h_;clear h_;intro W h_;apply ae2 h_;clear h_;intro fine kk
 show kQ2 _ [some (.tup (W.map encR)),none,none,none,none,none] G
 have hs:=sz
 have hl:=fine.len
 wp_walk using 1,kQ2,jJ3,iEnT
 refine⟨lJu _,fun p hp=> ?_⟩
 let J1:Nat->St3->Gp->Prop:=fun k τ G'=>∃(v2 v3 v4 v5:Option T),τ=[some (.tup (W.map encR)),some (.ref p),v2,v3,v4,v5]/\G' p=some (.lst (((List.range k).flatMap (rowE W)).map encT))/\((List.range k).flatMap (rowE W)).length<=1000*k/\Sub G G'
 refine⟨J1,?_,?_,?_,?_⟩
 ·exact xi4 _ _ _ _ rfl ⟨jJh,lJu _,.new hp⟩
 ·intros;trivial
 ·intro k x τ G1 hx h_;apply xe4 h_;clear h_;intro v2 v3 v4 v5 h_;apply ae3 h_;clear h_;intro h1 h2 h3
  obtain⟨z,hz,rfl⟩:=jQw hx
  obtain⟨es,hW,rfl⟩:=jJ7 hz
  have hk:k<W.length:=(lJi.mp hW).1
  have hes:=fine.row k es hW
  wp_walk using 1,jJ3,iEnT,encR
  let J2:Nat->St3->Gp->Prop:=fun i τ G'=>∃(v4 v5:Option T),τ=[some (.tup (W.map encR)),some (.ref p),some (.int k),some (.tup (es.map encE)),v4,v5]/\G' p=some (.lst (((List.range k).flatMap (rowE W)++(List.range i).filterMap (jUq k es)).map encT))/\((List.range k).flatMap (rowE W)++(List.range i).filterMap (jUq k es)).length<=1000*k+i/\Sub G G'
  refine⟨J2,?_,?_,?_,?_⟩
  ·exact xi2 _ _ rfl ⟨by simpa using h1,by simpa using h2,h3⟩
  ·intros;trivial
  ·intro i x τ G2 hx h_;apply xe2 h_;clear h_;intro v4 v5 h_;apply ae3 h_;clear h_;intro i1 i2 i3
   obtain⟨z,hz,rfl⟩:=jQw hx
   obtain⟨e,hE,rfl⟩:=jJ7 hz
   have hi:i<es.length:=(lJi.mp hE).1
   wp_walk using 1,rLeF,encE,jKy i1,i1
   refine⟨by omega,?_⟩
   have hle:HT.lexLe [(k:Int),(i:Int)] [(e.1:Int),(e.2:Int)]=leE (k,i) e:=rfl
   rw[hle]
   by_cases hc:leE (k,i) e=true
   ·have hcell:jUq k es i=some ((k,i),e):=by unfold jUq;rw[hE];show (if _ then _ else _)=_;rw[lJc hc]
    rw[lJc hc]
    refine⟨by omega,by omega,by rw[lJh];omega,xi2 _ _ rfl ⟨?_,?_,i3.over hp⟩⟩
    ·rw[jJh,lQk,lQu];simp[hcell,encT,encE]
    ·rw[lQk,lQu,lKk,lKk]
     rw[lKk] at i2
     simp[hcell] at i2 ⊢; omega
   ·have hcell:jUq k es i=none:=by unfold jUq;rw[hE];show (if _ then _ else _)=_;rw[lJb hc]
    rw[lJb hc]
    refine xi2 _ _ rfl ⟨?_,?_,i3⟩
    ·rw[lQk,lQu];simp[hcell];simpa using i1
    ·rw[lQk,lQu];simp[hcell];simp at i2;omega
  ·intro τ G' h_;apply xe2 h_;clear h_;intro v4 v5 h_;apply ae3 h_;clear h_;intro i1 i2 i3
   rw[jK2,lJh] at i1 i2
   have e1:(List.range (k+1)).flatMap (rowE W)=(List.range k).flatMap (rowE W)++(List.range es.length).filterMap (jUq k es):=by
    rw[lQk,List.flatMap_append]
    congr 1
    simp[rowE,hW]
   exact xi4 _ _ _ _ rfl ⟨by rw[e1];exact i1,by rw[e1];omega,i3⟩
 ·intro τ G1 h_;apply xe4 h_;clear h_;intro v2 v3 v4 v5 h_;apply ae3 h_;clear h_;intro h1 h2 h3
  rw[jK2,lJh] at h1 h2
  wp_walk using 1,tSeq
  exact kk p G1 hp h1 (by show ((List.range W.length).flatMap (rowE W)).length<=_;omega) h3
def jYp:Sp3:=fun xs G Q=>∃W:Web,xs=[encW W]/\Fine W/\∀p G',G p=none->G' p=some (.lst ((jJx W).map encT))->(jJx W).length<=1000000->Sub G G'->Q (.ref p) G'
def qQ1:List Str:=["_law_web_here","_law_found","_law_room","_law_doors","_law_door","_law_end"]
noncomputable def jYw:TS3:=
 (tSeq (tAsg (tLst tNil) (jJe 1))
 (tSeq (tFor (iEnT (jJb (tVar 0) tNil)) (gTup 2 (jJu (jJe 2) (jJu (jJe 3) gNil))) (tFor (iEnT (jJb (tVar 3) tNil)) (gTup 2 (jJu (jJe 4) (jJu (jJe 5) gNil))) (tIfS (jJw (tOp rLeF (tTup (jJb (tVar 2) (jJb (tVar 4) tNil))) (tVar 5))) (jK7 (tBM "list" jJ6 (tVar 1) (jJb (tTup (jJb (tTup (jJb (tVar 2) (jJb (tVar 4) tNil))) (jJb (tVar 5) tNil))) tNil))) jKe)))
 (tRet (tVar 1))))
theorem kQz:RdOk jYp jYw qQ1:=by
 intro xs G Q h_;apply xe1 h_;clear h_;intro W h_;apply ae2 h_;clear h_;intro fine kk
 show jYw _ [some (.tup (W.map encR)),none,none,none,none,none] G
 have hs:=sz
 have hl:=fine.len
 wp_walk using 1,jYw,jJ3,iEnT
 refine⟨lJu _,fun p hp=> ?_⟩
 let J1:Nat->St3->Gp->Prop:=fun k τ G'=>∃(v2 v3 v4 v5:Option T),τ=[some (.tup (W.map encR)),some (.ref p),v2,v3,v4,v5]/\G' p=some (.lst (((List.range k).flatMap (rowE W)).map encT))/\((List.range k).flatMap (rowE W)).length<=1000*k/\Sub G G'
 refine⟨J1,?_,?_,?_,?_⟩
 ·exact xi4 _ _ _ _ rfl ⟨jJh,lJu _,.new hp⟩
 ·intros;trivial
 ·intro k x τ G1 hx h_;apply xe4 h_;clear h_;intro v2 v3 v4 v5 h_;apply ae3 h_;clear h_;intro h1 h2 h3
  obtain⟨z,hz,rfl⟩:=jQw hx
  obtain⟨es,hW,rfl⟩:=jJ7 hz
  have hk:k<W.length:=(lJi.mp hW).1
  have hes:=fine.row k es hW
  wp_walk using 1,jJ3,iEnT,encR
  let J2:Nat->St3->Gp->Prop:=fun i τ G'=>∃(v4 v5:Option T),τ=[some (.tup (W.map encR)),some (.ref p),some (.int k),some (.tup (es.map encE)),v4,v5]/\G' p=some (.lst (((List.range k).flatMap (rowE W)++(List.range i).filterMap (jUq k es)).map encT))/\((List.range k).flatMap (rowE W)++(List.range i).filterMap (jUq k es)).length<=1000*k+i/\Sub G G'
  refine⟨J2,?_,?_,?_,?_⟩
  ·exact xi2 _ _ rfl ⟨by simpa using h1,by simpa using h2,h3⟩
  ·intros;trivial
  ·intro i x τ G2 hx h_;apply xe2 h_;clear h_;intro v4 v5 h_;apply ae3 h_;clear h_;intro i1 i2 i3
   obtain⟨z,hz,rfl⟩:=jQw hx
   obtain⟨e,hE,rfl⟩:=jJ7 hz
   have hi:i<es.length:=(lJi.mp hE).1
   wp_walk using 1,rLeF,encE,jKy i1,i1
   refine⟨by omega,?_⟩
   have hle:HT.lexLe [(k:Int),(i:Int)] [(e.1:Int),(e.2:Int)]=leE (k,i) e:=rfl
   rw[hle]
   by_cases hc:leE (k,i) e=true
   ·have hcell:jUq k es i=some ((k,i),e):=by unfold jUq;rw[hE];show (if _ then _ else _)=_;rw[lJc hc]
    rw[lJc hc]
    refine⟨by omega,by omega,by rw[lJh];omega,xi2 _ _ rfl ⟨?_,?_,i3.over hp⟩⟩
    ·rw[jJh,lQk,lQu];simp[hcell,encT,encE]
    ·rw[lQk,lQu,lKk,lKk]
     rw[lKk] at i2
     simp[hcell] at i2 ⊢; omega
   ·have hcell:jUq k es i=none:=by unfold jUq;rw[hE];show (if _ then _ else _)=_;rw[lJb hc]
    rw[lJb hc]
    refine xi2 _ _ rfl ⟨?_,?_,i3⟩
    ·rw[lQk,lQu];simp[hcell];simpa using i1
    ·rw[lQk,lQu];simp[hcell];simp at i2;omega
  ·intro τ G' h_;apply xe2 h_;clear h_;intro v4 v5 h_;apply ae3 h_;clear h_;intro i1 i2 i3
   rw[jK2,lJh] at i1 i2
   have e1:(List.range (k+1)).flatMap (rowE W)=(List.range k).flatMap (rowE W)++(List.range es.length).filterMap (jUq k es):=by
    rw[lQk,List.flatMap_append]
    congr 1
    simp[rowE,hW]
   exact xi4 _ _ _ _ rfl ⟨by rw[e1];exact i1,by rw[e1];omega,i3⟩
 ·intro τ G1 h_;apply xe4 h_;clear h_;intro v2 v3 v4 v5 h_;apply ae3 h_;clear h_;intro h1 h2 h3
  rw[jK2,lJh] at h1 h2
  wp_walk using 1,tSeq
  exact kk p G1 hp h1 (by show ((List.range W.length).flatMap (rowE W)).length<=_;omega) h3
theorem en_put {U:Web} {x i:Nat} {ts:List (Nat×Nat)} {v:Nat×Nat} (h:U[x]? =some ts) (hi:i<ts.length) (x' i':Nat):en (U.set x (ts.set i v)) x' i'=if x'=x/\i'=i then some v else en U x' i':=by
 have hxl:=(lJi.mp h).1
 unfold en
 by_cases hx:x'=x
 ·subst hx
  rw[lQf hxl,h,lVk,lVk]
  by_cases hi':i'=i
  ·subst hi';rw[lJc ⟨rfl,rfl⟩,lQf hi]
  ·rw[lJb fun z=>hi' z.2,lQr (Ne.symm hi')]
 ·rw[lJb fun z=>hx z.1,lQr (Ne.symm hx)]
theorem jYm {xs ys:List T} {G:Gp} {Q:VK3} (h:xs.length+ys.length<=sizeLine) (q:Q (.tup (xs++ys)) G):kJy (.tup xs) (.tup ys) G Q:=by
 cases xs with
 | nil=>exact .inr ⟨ys,rfl,rfl,q⟩
 | cons c xs=>exact .inl ⟨.val (.tup (c::xs++ys)),by have:xs.length+1+ys.length<=sizeLine:=h;simp[addR,this],q⟩
theorem qUv {i j:Int} {G:Gp} {Q:VK3} (q:Q (.int (i+j)) G):kJy (.int i) (.int j) G Q:= .inl ⟨.val (.int (i+j)),rfl,q⟩
theorem qUt {xs:List T} {c:Nat}:cutT xs none (some (c:Int))=xs.take c:=by
 unfold cutT
 rw[HT.sIx_none,HT.sIx_nat,lX4,Nat.sub_zero]
 by_cases h:c<=xs.length
 ·rw[Nat.min_eq_left h]
 ·rw[Nat.min_eq_right (by omega),lQi (lJg _),lQi (by omega)]
theorem jYh {xs:List T} {c:Nat}:cutT xs (some (c:Int)) none=xs.drop c:=by
 unfold cutT
 rw[HT.sIx_none,HT.sIx_nat]
 by_cases h:c<=xs.length
 ·rw[Nat.min_eq_left h,lQi (by rw[lVc];exact lJg _)]
 ·rw[Nat.min_eq_right (by omega)];simp;omega
theorem kYw {α:Type} {xs:List α} {i:Nat} {v:α} (h:i<xs.length):xs.take i++[v]++xs.drop (i+1)=xs.set i v:=by
 rw[List.set_eq_take_append_cons_drop,lJc h];simp
def pt (W:Web) (a e:Nat×Nat):Web:=W.set a.1 ((row W a.1).set a.2 e)
def Dr (W:Web) (a:Nat×Nat):Prop:=∃f,en W a.1 a.2=some f
theorem Dr.at {W:Web} {a:Nat×Nat} (h:Dr W a):W[a.1]? =some (row W a.1)/\a.2<(row W a.1).length/\a.1<W.length:=by
 obtain⟨f,h⟩:=h
 obtain⟨es,h1,h2⟩:=jQx h
 rw[jXt h1]
 exact⟨h1,(lJi.mp h2).1,(lJi.mp h1).1⟩
theorem qVd {W:Web} {a e:Nat×Nat} (h:Dr W a) (x i:Nat):en (pt W a e) x i=if x=a.1/\i=a.2 then some e else en W x i:=en_put h.at.1 h.at.2.1 x i
theorem Dr.pt {W:Web} {a b e:Nat×Nat} (h:Dr W b) (ha:Dr W a):Dr (pt W a e) b:=by
 unfold Dr;rw[qVd ha]
 split
 ·exact⟨e,rfl⟩
 ·exact h
theorem jZv {W:Web} {a e:Nat×Nat}:(pt W a e).length=W.length:=by unfold pt;rw[lVr]
theorem Fine.pt {W:Web} {a e:Nat×Nat} (f:Fine W) (ha:Dr W a) (he:e.1<W.length):Fine (pt W a e) where
 len:=by rw[jZv];exact f.len
 row:=fun r es h=>by
  have h:(W.set a.1 ((_root_.W.row W a.1).set a.2 e))[r]? =some es:=h
  by_cases hr:r=a.1
  ·subst hr
   rw[lQf ha.at.2.2] at h;cases h
   rw[lVr];exact f.row _ _ ha.at.1
  ·rw[lQr (Ne.symm hr)] at h;exact f.row _ _ h
 rng:=fun r i s j h=>by
  rw[jZv]
  rw[qVd ha] at h
  split at h
  ·cases h;exact he
  ·exact f.rng _ _ _ _ h
def jUf:Sp3:=fun xs G Q=>∃(W:Web) (a e:Nat×Nat),xs=[encW W,encE a,encE e]/\Fine W/\Dr W a/\∀G',Sub G G'->Q (encW (pt W a e)) G'
def kXq:List Str:=["web","start","end","ends","changed"]
noncomputable def jVl:TS3:=
 (tSeq (tAsg (tOp rIxF (tVar 0) (tOp rIxF (tVar 1) (tC (.int 0)))) (jJe 3))
 (tSeq (tAsg (tOp kJy (tOp kJy (tSl rSlF (tVar 3) jQt (jVi (tOp rIxF (tVar 1) (tC (.int 1))))) (tTup (jJb (tVar 2) tNil))) (tSl rSlF (tVar 3) (jVi (tOp kJy (tOp rIxF (tVar 1) (tC (.int 1))) (tC (.int 1)))) jQt)) (jJe 4))
 (tRet (tOp kJy (tOp kJy (tSl rSlF (tVar 0) jQt (jVi (tOp rIxF (tVar 1) (tC (.int 0))))) (tTup (jJb (tVar 4) tNil))) (tSl rSlF (tVar 0) (jVi (tOp kJy (tOp rIxF (tVar 1) (tC (.int 0))) (tC (.int 1)))) jQt)))))
theorem kJp:RdOk jUf jVl kXq:=by
 intro xs G Q h_;apply xe3 h_;clear h_;intro W a e h_;apply ae3 h_;clear h_;intro fine hd kk
 show jVl _ [some (.tup (W.map encR)),some (encE a),some (encE e),none,none] G
 have hs:=sz
 have hl:=fine.len
 obtain⟨h1,h2,h3⟩:=hd.at
 have h4:=fine.row _ _ h1
 wp_walk using 1,jVl,tSl,rSlF,slR,jQt,jVi,encE,encR,jKl h1,qUt,jYh
 have er:T.tup (((row W a.1).map encE).take a.2++[T.tup [.int (e.1:Nat),.int (e.2:Nat)]]++((row W a.1).map encE).drop (a.2+1))=encR ((row W a.1).set a.2 e):=by
  rw[kYw (by rw[lJh];exact h2),encR,List.map_set];rfl
 have ew:T.tup ((W.map encR).take a.1++[encR ((row W a.1).set a.2 e)]++(W.map encR).drop (a.1+1))=encW (pt W a e):=by
  rw[kYw (by rw[lJh];exact h3),encW,pt,List.map_set]
 refine⟨by omega,jYm (by simp;omega) (qUv ⟨_,rfl,?_⟩)⟩
 rw[show (a.2:Int)+1=((a.2+1:Nat):Int) by omega,jYh]
 refine jYm (by simp;omega) ⟨by omega,?_⟩
 rw[er]
 refine jYm (by simp;omega) (qUv ⟨_,rfl,?_⟩)
 rw[show (a.1:Int)+1=((a.1+1:Nat):Int) by omega,jYh]
 refine jYm (by simp;omega) ?_
 rw[ew]
 exact kk G (.refl _)
def tie2 (W:Web) (p q:Nat×Nat):Web:=pt (pt W p q) q p
def jUe:Sp3:=fun xs G Q=>∃(W:Web) (p q:Nat×Nat),xs=[encW W,encE p,encE q]/\Fine W/\Dr W p/\Dr W q/\∀G',Sub G G'->Q (encW (tie2 W p q)) G'
def kXp:List Str:=["web","one","other"]
noncomputable def jVk:TS3:=
 (tRet (jJ0 jUf (jJb (jJ0 jUf (jJb (tVar 0) (jJb (tVar 1) (jJb (tVar 2) tNil)))) (jJb (tVar 2) (jJb (tVar 1) tNil)))))
theorem kJo:RdOk jUe jVk kXp:=by
 intro xs G Q h_;apply xe3 h_;clear h_;intro W p q h_;apply ae4 h_;clear h_;intro fine hp hq kk
 show jVk _ [some (encW W),some (encE p),some (encE q)] G
 wp_walk using 1,jVk
 exact⟨W,p,q,rfl,fine,hp,fun G1 s1=>⟨_,q,p,rfl,fine.pt hp hq.at.2.2,hq.pt hp,fun G2 s2=>kk G2 (s1.trans s2)⟩⟩
theorem kU0 {W:Web} {p q:Nat×Nat}:(tie2 W p q).length=W.length:=by unfold tie2;rw[jZv,jZv]
theorem Fine.tie2 {W:Web} {p q:Nat×Nat} (f:Fine W) (hp:Dr W p) (hq:Dr W q):Fine (tie2 W p q):=(f.pt hp hq.at.2.2).pt (hq.pt hp) (by rw[jZv];exact hp.at.2.2)
theorem Dr.tie2 {W:Web} {p q a:Nat×Nat} (h:Dr W a) (hp:Dr W p) (hq:Dr W q):Dr (tie2 W p q) a:=(h.pt hp).pt (hq.pt hp)
def fo (s:Tie) (ab:Nat):Nat×Nat:=if ab=0 then s.1 else s.2
def la (s:Tie) (ab:Nat):Nat×Nat:=if ab=0 then s.2 else s.1
def crs (W:Web) (f s:Tie) (ab:Nat):Web:=tie2 (tie2 W f.1 (la s ab)) (fo s ab) f.2
def dueT (W:Web) (f s:Tie) (ab:Nat):T:=if decide (f.1=f.2)=decide (s.1=s.2)/\(bfs (crs W f s ab) 0).length=W.length then encW (crs W f s ab) else .non
structure Two (W:Web) (f s:Tie) (ab:Nat):Prop where
 fine:Fine W
 w1:1<=W.length
 f1:Dr W f.1
 f2:Dr W f.2
 s1:Dr W s.1
 s2:Dr W s.2
 ab:ab<=1
theorem Two.fo {W:Web} {f s:Tie} {ab:Nat} (h:Two W f s ab):Dr W (fo s ab):=by
 show Dr W (if ab=0 then s.1 else s.2)
 split;exact h.s1;exact h.s2
theorem Two.la {W:Web} {f s:Tie} {ab:Nat} (h:Two W f s ab):Dr W (la s ab):=by
 show Dr W (if ab=0 then s.2 else s.1)
 split;exact h.s2;exact h.s1
theorem Two.crs {W:Web} {f s:Tie} {ab:Nat} (h:Two W f s ab):Fine (crs W f s ab):=(h.fine.tie2 h.f1 h.la).tie2 (h.fo.tie2 h.f1 h.la) (h.f2.tie2 h.f1 h.la)
theorem kKi {W:Web} {f s:Tie} {ab:Nat}:(crs W f s ab).length=W.length:=by unfold crs;rw[kU0,kU0]
theorem kZ5 {G:Gp} {a b:Bool}:eqG G (.bl a) (.bl b)=some (decide (a=b)):=by
 rw[show eqG G (.bl a) (.bl b)=some (eqT (.bl a) (.bl b)) from rfl];cases a<;>cases b<;>rfl
def jU3:Sp3:=fun xs G Q=>∃(W:Web) (f s:Tie) (ab:Nat),xs=[encW W,encT f,encT s,.int ab]/\Two W f s ab/\∀G',Sub G G'->Q (dueT W f s ab) G'
def qJt:List Str:=["web","first","second","about","former","latter","told"]
noncomputable def jXl:TS3:=
 (tSeq (tIfS (jJw (tOp rNeA (tOp rEqA (tOp rIxF (tVar 1) (tC (.int 0))) (tOp rIxF (tVar 1) (tC (.int 1)))) (tOp rEqA (tOp rIxF (tVar 2) (tC (.int 0))) (tOp rIxF (tVar 2) (tC (.int 1)))))) (tRet (tC .non)) jKe)
 (tSeq (tAsg (tOp rIxF (tVar 2) (tVar 3)) (jJe 4))
 (tSeq (tAsg (tOp rIxF (tVar 2) (tOp rSub (tC (.int 1)) (tVar 3))) (jJe 5))
 (tSeq (tAsg (jJ0 jUe (jJb (jJ0 jUe (jJb (tVar 0) (jJb (tOp rIxF (tVar 1) (tC (.int 0))) (jJb (tVar 5) tNil)))) (jJb (tVar 4) (jJb (tOp rIxF (tVar 1) (tC (.int 1))) tNil)))) (jJe 6))
 (tRet (tIf (jJw (tOp rEqA (tCB qKi (jJb (jJ0 jK9 (jJb (tVar 6) (jJb (tC (.int 0)) tNil))) tNil)) (tCB qKi (jJb (tVar 6) tNil)))) (tVar 6) (tC .non)))))))
theorem kKv:RdOk jU3 jXl qJt:=by
 intro xs G Q h_;apply xe4 h_;clear h_;intro W f s ab h_;apply ae2 h_;clear h_;intro tw kk
 show jXl _ [some (encW W),some (encT f),some (encT s),some (.int ab),none,none,none] G
 have hs:=sz
 obtain⟨f1,f2⟩:=f
 obtain⟨s1,s2⟩:=s
 have a1:L2.atI [encE s1,encE s2] (ab:Int)=some (encE (fo (s1,s2) ab)):=by
  have:=tw.ab
  rcases (by omega:ab=0\/ab=1) with rfl | rfl<;>rfl
 have a2:L2.atI [encE s1,encE s2] (1-(ab:Int))=some (encE (la (s1,s2) ab)):=by
  have:=tw.ab
  rcases (by omega:ab=0\/ab=1) with rfl | rfl<;>rfl
 wp_walk using 1,jXl,rEqA,rNeA,qKi,encT,a1,a2
 refine⟨_,jY9,_,jY9,_,kZ5,?_⟩
 by_cases he:decide (f1=f2)=decide (s1=s2)
 ·rw[lJb (by rw[lJ1 he];decide)]
  refine⟨W,f1,_,rfl,tw.fine,tw.f1,tw.la,fun G1 q1=>⟨_,_,_,rfl,tw.fine.tie2 tw.f1 tw.la,tw.fo.tie2 tw.f1 tw.la,tw.f2.tie2 tw.f1 tw.la,fun G2 q2=>⟨crs W (f1,f2) (s1,s2) ab,0,rfl,tw.crs,by rw[kKi];exact tw.w1,fun d G3 kvs hd hG3 hk q3=> ?_⟩⟩⟩
  have hkl:kvs.length=(bfs (crs W (f1,f2) (s1,s2) ab) 0).length:=by
   have:=lKp List.length hk
   rw[lJh,lJh] at this;exact this
  have hlen:lenG G3 (.ref d)=some kvs.length:=by simp only[lenG,hG3]
  have hlen2:lenG G3 (encW (crs W (f1,f2) (s1,s2) ab))=some W.length:=by show some ((crs W (f1,f2) (s1,s2) ab).map encR).length=_;rw[lJh,kKi]
  refine⟨_,hlen,_,hlen2,_,jVp,?_⟩
  have q4:=(q1.trans q2).trans q3
  unfold dueT at kk
  by_cases hb:kvs.length=W.length
  ·rw[lJc ⟨he,by rw[<-hkl];exact hb⟩] at kk
   rw[lJc (lJ1 hb)]
   exact kk G3 q4
  ·rw[lJb fun z=>hb (by rw[hkl];exact z.2)] at kk
   rw[lJb (by simpa using hb)]
   exact kk G3 q4
 ·rw[lJc (by rw[lJq he])]
  unfold dueT at kk
  rw[lJb fun z=>he z.1] at kk
  exact kk G (.refl _)
theorem jVs {W:Web} {i j ab:Nat} {f s:Tie} (fine:Fine W) (sym:Sym W) (h1:1<=W.length) (hi:(jJx W)[i]? =some f) (hj:(jJx W)[j]? =some s) (ha:ab<=1):Two W f s ab:=by
 have e1:=(kXz hi).1
 have e2:=(kXz hj).1
 exact⟨fine,h1,⟨_,e1⟩,⟨_,sym _ _ _ _ e1⟩,⟨_,e2⟩,⟨_,sym _ _ _ _ e2⟩,ha⟩
noncomputable def kUv:List Str:=["_law_web_here","_law_first","_law_second","_law_about","_law_former","_law_latter","_law_ends","_law_room","_law_doors","_law_door","_law_end","_law_one","_law_other","_law_made","_law_come_to","_law_at"]
noncomputable def jUx:TS3:=
 (tSeq (tIfS (jJw (tOp rNeA (tOp rEqA (tOp rIxF (tVar 1) (tC (.int 0))) (tOp rIxF (tVar 1) (tC (.int 1)))) (tOp rEqA (tOp rIxF (tVar 2) (tC (.int 0))) (tOp rIxF (tVar 2) (tC (.int 1)))))) (tRet (tC .non)) jKe)
 (tSeq (tAsg (tVar 2) (gTup 2 (jJu (jJe 4) (jJu (jJe 5) gNil))))
 (tSeq (tIfS (jJw (tOp rEqA (tVar 3) (tC (.int 1)))) (tPar 4 5 (jJb (tVar 5) (jJb (tVar 4) tNil))) jKe)
 (tSeq (tAsg jQi (jJe 6))
 (tSeq (tFor (iEnT (jJb (tVar 0) tNil)) (gTup 2 (jJu (jJe 7) (jJu (jJe 8) gNil))) (tFor (iEnT (jJb (tVar 8) tNil)) (gTup 2 (jJu (jJe 9) (jJu (jJe 10) gNil))) (tAsg (tVar 10) (gSub (tVar 6) (tTup (jJb (tVar 7) (jJb (tVar 9) tNil))) jQ3))))
 (tSeq (tFor (iSeq (tLst (jJb (tTup (jJb (tOp rIxF (tVar 1) (tC (.int 0))) (jJb (tVar 5) tNil))) (jJb (tTup (jJb (tVar 4) (jJb (tOp rIxF (tVar 1) (tC (.int 1))) tNil))) tNil)))) (gTup 2 (jJu (jJe 11) (jJu (jJe 12) gNil))) (tSeq (tAsg (tVar 12) (gSub (tVar 6) (tVar 11) jQ3))
 (tAsg (tVar 11) (gSub (tVar 6) (tVar 12) jQ3))))
 (tSeq (tAsg (tCB jJv (jJb (jKf [false,false,false,false,false,false,false,true,false,false,false,false,false,false,false,false] (jKj (jJb (tCB rLen (jJb (tVar 0) tNil)) tNil)) (jJe 7) jQh (tCB jJv (jJb (jKf [false,false,false,false,false,false,false,false,false,true,false,false,false,false,false,false] (jKj (jJb (tCB rLen (jJb (tOp rIxF (tVar 0) (tVar 7)) tNil)) tNil)) (jJe 9) jQh (tOp rIxF (tVar 6) (tTup (jJb (tVar 7) (jJb (tVar 9) tNil))))) tNil))) tNil)) (jJe 13))
 (tSeq (tAsg (tLst (jJb (tC (.int 0)) tNil)) (jJe 14))
 (tSeq (tAsg (tC (.int 0)) (jJe 15))
 (tSeq (jXs (jJw (tOp rLt (tVar 15) (tCB rLen (jJb (tVar 14) tNil)))) (tSeq (tFor (iSeq (tOp rIxF (tVar 13) (tOp rIxF (tVar 14) (tVar 15)))) (gTup 2 (jJu (jJe 7) (jJu (jJe 9) gNil))) (tIfS (jJw (tOp jQc (tVar 7) (tVar 14))) (jK7 (tBM "list" jJ6 (tVar 14) (jJb (tVar 7) tNil))) jKe))
 (tAsg (tOp jKn (tVar 15) (tC (.int 1))) (jJe 15))))
 (tRet (tIf (jJw (tOp rEqA (tCB rLen (jJb (tVar 14) tNil)) (tCB rLen (jJb (tVar 0) tNil)))) (tVar 13) (tC .non)))))))))))))
noncomputable def kYq:TS3:=(tSeq (tAsg jQi (jJe 6))
 (tSeq (tFor (iEnT (jJb (tVar 0) tNil)) (gTup 2 (jJu (jJe 7) (jJu (jJe 8) gNil))) (tFor (iEnT (jJb (tVar 8) tNil)) (gTup 2 (jJu (jJe 9) (jJu (jJe 10) gNil))) (tAsg (tVar 10) (gSub (tVar 6) (tTup (jJb (tVar 7) (jJb (tVar 9) tNil))) jQ3))))
 (tSeq (tFor (iSeq (tLst (jJb (tTup (jJb (tOp rIxF (tVar 1) (tC (.int 0))) (jJb (tVar 5) tNil))) (jJb (tTup (jJb (tVar 4) (jJb (tOp rIxF (tVar 1) (tC (.int 1))) tNil))) tNil)))) (gTup 2 (jJu (jJe 11) (jJu (jJe 12) gNil))) (tSeq (tAsg (tVar 12) (gSub (tVar 6) (tVar 11) jQ3))
 (tAsg (tVar 11) (gSub (tVar 6) (tVar 12) jQ3))))
 (tSeq (tAsg (tCB jJv (jJb (jKf [false,false,false,false,false,false,false,true,false,false,false,false,false,false,false,false] (jKj (jJb (tCB rLen (jJb (tVar 0) tNil)) tNil)) (jJe 7) jQh (tCB jJv (jJb (jKf [false,false,false,false,false,false,false,false,false,true,false,false,false,false,false,false] (jKj (jJb (tCB rLen (jJb (tOp rIxF (tVar 0) (tVar 7)) tNil)) tNil)) (jJe 9) jQh (tOp rIxF (tVar 6) (tTup (jJb (tVar 7) (jJb (tVar 9) tNil))))) tNil))) tNil)) (jJe 13))
 (tSeq (tAsg (tLst (jJb (tC (.int 0)) tNil)) (jJe 14))
 (tSeq (tAsg (tC (.int 0)) (jJe 15))
 (tSeq (jXs (jJw (tOp rLt (tVar 15) (tCB rLen (jJb (tVar 14) tNil)))) (tSeq (tFor (iSeq (tOp rIxF (tVar 13) (tOp rIxF (tVar 14) (tVar 15)))) (gTup 2 (jJu (jJe 7) (jJu (jJe 9) gNil))) (tIfS (jJw (tOp jQc (tVar 7) (tVar 14))) (jK7 (tBM "list" jJ6 (tVar 14) (jJb (tVar 7) tNil))) jKe))
 (tAsg (tOp jKn (tVar 15) (tC (.int 1))) (jJe 15))))
 (tRet (tIf (jJw (tOp rEqA (tCB rLen (jJb (tVar 14) tNil)) (tCB rLen (jJb (tVar 0) tNil)))) (tVar 13) (tC .non))))))))))
noncomputable def kYo:TS3:=(tSeq (tAsg (tCB jJv (jJb (jKf [false,false,false,false,false,false,false,true,false,false,false,false,false,false,false,false] (jKj (jJb (tCB rLen (jJb (tVar 0) tNil)) tNil)) (jJe 7) jQh (tCB jJv (jJb (jKf [false,false,false,false,false,false,false,false,false,true,false,false,false,false,false,false] (jKj (jJb (tCB rLen (jJb (tOp rIxF (tVar 0) (tVar 7)) tNil)) tNil)) (jJe 9) jQh (tOp rIxF (tVar 6) (tTup (jJb (tVar 7) (jJb (tVar 9) tNil))))) tNil))) tNil)) (jJe 13))
 (tSeq (tAsg (tLst (jJb (tC (.int 0)) tNil)) (jJe 14))
 (tSeq (tAsg (tC (.int 0)) (jJe 15))
 (tSeq (jXs (jJw (tOp rLt (tVar 15) (tCB rLen (jJb (tVar 14) tNil)))) (tSeq (tFor (iSeq (tOp rIxF (tVar 13) (tOp rIxF (tVar 14) (tVar 15)))) (gTup 2 (jJu (jJe 7) (jJu (jJe 9) gNil))) (tIfS (jJw (tOp jQc (tVar 7) (tVar 14))) (jK7 (tBM "list" jJ6 (tVar 14) (jJb (tVar 7) tNil))) jKe))
 (tAsg (tOp jKn (tVar 15) (tC (.int 1))) (jJe 15))))
 (tRet (tIf (jJw (tOp rEqA (tCB rLen (jJb (tVar 14) tNil)) (tCB rLen (jJb (tVar 0) tNil)))) (tVar 13) (tC .non)))))))
noncomputable def kYm:TS3:=(tSeq (tAsg (tLst (jJb (tC (.int 0)) tNil)) (jJe 14))
 (tSeq (tAsg (tC (.int 0)) (jJe 15))
 (tSeq (jXs (jJw (tOp rLt (tVar 15) (tCB rLen (jJb (tVar 14) tNil)))) (tSeq (tFor (iSeq (tOp rIxF (tVar 13) (tOp rIxF (tVar 14) (tVar 15)))) (gTup 2 (jJu (jJe 7) (jJu (jJe 9) gNil))) (tIfS (jJw (tOp jQc (tVar 7) (tVar 14))) (jK7 (tBM "list" jJ6 (tVar 14) (jJb (tVar 7) tNil))) jKe))
 (tAsg (tOp jKn (tVar 15) (tC (.int 1))) (jJe 15))))
 (tRet (tIf (jJw (tOp rEqA (tCB rLen (jJb (tVar 14) tNil)) (tCB rLen (jJb (tVar 0) tNil)))) (tVar 13) (tC .non))))))
theorem qKe:jUx=tSeq (tIfS (jJw (tOp rNeA (tOp rEqA (tOp rIxF (tVar 1) (tC (.int 0))) (tOp rIxF (tVar 1) (tC (.int 1)))) (tOp rEqA (tOp rIxF (tVar 2) (tC (.int 0))) (tOp rIxF (tVar 2) (tC (.int 1)))))) (tRet (tC .non)) jKe) (tSeq (tAsg (tVar 2) (gTup 2 (jJu (jJe 4) (jJu (jJe 5) gNil)))) (tSeq (tIfS (jJw (tOp rEqA (tVar 3) (tC (.int 1)))) (tPar 4 5 (jJb (tVar 5) (jJb (tVar 4) tNil))) jKe) kYq)):=rfl
theorem kYp:kYq=tSeq (tAsg jQi (jJe 6)) (tSeq (tFor (iEnT (jJb (tVar 0) tNil)) (gTup 2 (jJu (jJe 7) (jJu (jJe 8) gNil))) (tFor (iEnT (jJb (tVar 8) tNil)) (gTup 2 (jJu (jJe 9) (jJu (jJe 10) gNil))) (tAsg (tVar 10) (gSub (tVar 6) (tTup (jJb (tVar 7) (jJb (tVar 9) tNil))) jQ3)))) (tSeq (tFor (iSeq (tLst (jJb (tTup (jJb (tOp rIxF (tVar 1) (tC (.int 0))) (jJb (tVar 5) tNil))) (jJb (tTup (jJb (tVar 4) (jJb (tOp rIxF (tVar 1) (tC (.int 1))) tNil))) tNil)))) (gTup 2 (jJu (jJe 11) (jJu (jJe 12) gNil))) (tSeq (tAsg (tVar 12) (gSub (tVar 6) (tVar 11) jQ3))
 (tAsg (tVar 11) (gSub (tVar 6) (tVar 12) jQ3)))) kYo)):=rfl
theorem kYn:kYo=tSeq (tAsg (tCB jJv (jJb (jKf [false,false,false,false,false,false,false,true,false,false,false,false,false,false,false,false] (jKj (jJb (tCB rLen (jJb (tVar 0) tNil)) tNil)) (jJe 7) jQh (tCB jJv (jJb (jKf [false,false,false,false,false,false,false,false,false,true,false,false,false,false,false,false] (jKj (jJb (tCB rLen (jJb (tOp rIxF (tVar 0) (tVar 7)) tNil)) tNil)) (jJe 9) jQh (tOp rIxF (tVar 6) (tTup (jJb (tVar 7) (jJb (tVar 9) tNil))))) tNil))) tNil)) (jJe 13)) kYm:=rfl
theorem qXo {W V:Web} {v1 v2 v3 v4 v5 v6 v7 v8 v9 v10 v11 v12:Option T} {G:Gp} {Q:VK3} (fine:Fine V) (hl0:V.length=W.length) (hr0:0<V.length) (kk:∀G',Sub G G'->Q (if (bfs V 0).length=W.length then encW V else .non) G'):
  kYm {nx:=fun _ G'=>Q .non G',rt:=Q} [some (.tup (W.map encR)),v1,v2,v3,v4,v5,v6,v7,v8,v9,v10,v11,v12,some (.tup (V.map encR)),none,none] G:=by
 have hs:=sz
 have hl:=fine.len
 wp_walk using 1,kYm,jXs,jJ3
 refine⟨by omega,fun p hp=> ?_⟩
 refine⟨fun m τ G'=>∃(at':Nat) (v7 v9:Option T) (F:List Nat),τ=[some (.tup (W.map encR)),v1,v2,v3,v4,v5,v6,v7,v8,v9,v10,v11,v12,some (.tup (V.map encR)),some (.ref p),some (.int at')]/\G' p=some (.lst (jJq F))/\Found V 0 F/\Sub G G'/\bfs V 0=bfsN V (V.length-at') at' F/\m=V.length-at',⟨_,0,v7,v9,[0],rfl,jJh,⟨by simp,by simpa using hr0,fun S h0 _ x hx=>by rw[lJ4] at hx;rw[hx];exact h0⟩,.new hp,rfl,rfl⟩,?_⟩
 intro m τ G1 h_;apply xe4 h_;clear h_;intro at' v7 v9 F h_;apply ae5 h_;clear h_;intro h1 h2 h3 hB e4_
 subst e4_
 wp_walk using 1,iSeq,jJj h1,jKs h1
 have hFl:=jU5 h2.nd h2.lt
 split
 ·rename_i hc
  have hat:at'<F.length:=by rw[jJq,lJh] at hc;omega
  have hF:F[at']? =some F[at']:=lJo hat
  have hfm:F[at']∈F:=lX0 hat
  generalize F[at']=r at hF hfm
  have hrW:=h2.lt r hfm
  have hW:V[r]? =some V[r]:=lJo hrW
  generalize V[r]=es at hW
  have hatI:L2.atI (jJq F) (at':Int)=some (.int r):=by rw[atN];simp[jJq,hF]
  wp_walk using 1,hatI,jKl hW,encR
  refine⟨fun τ G'=>∃(v7 v9:Option T) (F:List Nat),τ=[some (.tup (W.map encR)),v1,v2,v3,v4,v5,v6,v7,v8,v9,v10,v11,v12,some (.tup (V.map encR)),some (.ref p),some (.int ((at'+1:Nat):Int))]/\G' p=some (.lst (jJq F))/\Found V 0 F/\Sub G G'/\bfs V 0=bfsN V (V.length-(at'+1)) (at'+1) F,?_,?_⟩
  ·intro τ' G' h_;apply xe3 h_;clear h_;intro v7 v9 F' h_;apply ae4 h_;clear h_;intro i1 i2 i3 iB
   exact⟨V.length-(at'+1),by omega,at'+1,v7,v9,rfl,F',i1,i2,i3,iB,rfl⟩
  ·refine⟨fun j τ G'=>∃(v7 v9:Option T) (F':List Nat),τ=[some (.tup (W.map encR)),v1,v2,v3,v4,v5,v6,v7,v8,v9,v10,v11,v12,some (.tup (V.map encR)),some (.ref p),some (.int at')]/\G' p=some (.lst (jJq F'))/\r∈F'/\Found V 0 F'/\Sub G G'/\F'=vis F (es.take j),?_,?_,?_,?_⟩
   ·exact⟨v7,v9,F,rfl,h1,hfm,h2,h3,rfl⟩
   ·intros;trivial
   ·intro j x τ G2 hx0 h_;apply xe3 h_;clear h_;intro v7 v9 F0 h_;apply ae5 h_;clear h_;intro i1 i2 i3 i4 iB
    obtain⟨⟨s,t⟩,hx,rfl⟩:=jJ7 hx0
    have hen:=jXp hW hx
    wp_walk using 1,encE,jQc,qQe i1,jKy i1,i1
    by_cases hm:s∈F0
    ·rw[lJb (by simp[hm])]
     exact⟨F0,rfl,i2,i3,i4,by rw[jX7 hx,<-iB,lJc (by simpa using hm)]⟩
    ·rw[lJc (by simp[hm])]
     have hFl:=jU5 i3.nd i3.lt
     refine⟨by rw[jJq,lJh];omega,F0++[s],by simp[jJq],lJ8 _ i2,⟨?_,?_,?_⟩,i4.over hp,by rw[jX7 hx,<-iB,lJb (by simpa using hm)]⟩
     ·rw[lXc];exact⟨i3.nd,by simp,fun a ha b hb=>by rw[lJ4] at hb;subst hb;rintro rfl;exact hm ha⟩
     ·intro x hx
      rw[lJt,lJ4] at hx
      rcases hx with hx | rfl
      ·exact i3.lt x hx
      ·exact fine.rng _ _ _ _ hen
     ·intro S h0 hc x hx
      rw[lJt,lJ4] at hx
      rcases hx with hx | rfl
      ·exact i3.got S h0 hc x hx
      ·exact hc _ _ _ _ (i3.got S h0 hc r i2) hen
   ·intro τ G' h_;apply xe3 h_;clear h_;intro v7 v9 F0 h_;apply ae5 h_;clear h_;intro i1 i2 i3 i4 iB
    wp_walk using 1,tSeq
    refine⟨by simp,F0,i1,i3,i4,?_⟩
    rw[lJh,lVu] at iB
    rw[hB,show V.length-at'=V.length-(at'+1)+1 by omega,kQi hF,jXt hW,<-iB]
 ·rename_i hc
  have hF:F=bfs V 0:=by rw[hB,kQj (by rw[jJq,lJh] at hc;omega)]
  wp_walk using 1,rEqA,jJj h1
  have hle:(jJq F).length=(bfs V 0).length:=by rw[jJq,lJh,hF]
  rw[hle,lJh]
  refine⟨_,jVp,?_⟩
  have kk:=kk G1 h3
  by_cases hb:(bfs V 0).length=W.length
  ·rw[lJc (lJ1 hb)]
   rw[lJc hb] at kk;exact kk
  ·rw[lJb (by simpa using hb)]
   rw[lJb hb] at kk;exact kk
def Ag (V:Web) (kvs:List (L2.TKey×T)):Prop:=∀r i e,en V r i=some e->valT kvs (keyE (r,i))=some (encE e)
theorem Ag.put {V:Web} {kvs:List (L2.TKey×T)} {a e:Nat×Nat} (h:Ag V kvs) (ha:Dr V a):Ag (pt V a e) (putT kvs (keyE a) (encE e)):=by
 intro r i f hf
 rw[qVd ha] at hf
 rw[jU1]
 by_cases z:r=a.1/\i=a.2
 ·rw[lJc z] at hf;cases hf
  rw[lJc (by rw[z.1,z.2])]
 ·rw[lJb z] at hf
  rw[lJb fun w=>z (by have:=kJ6 w;rw[this];exact⟨rfl,rfl⟩)]
  exact h r i f hf
structure Shp (W V:Web):Prop where
 len:V.length=W.length
 rl:∀r,(row V r).length=(row W r).length
theorem Shp.pt {W V:Web} {a e:Nat×Nat} (h:Shp W V) (ha:Dr V a):Shp W (pt V a e) where
 len:=by rw[jZv];exact h.len
 rl:=fun r=>by
  rw[<-h.rl r]
  show (((V.set a.1 ((row V a.1).set a.2 e))[r]?).getD []).length=_
  by_cases hr:r=a.1
  ·subst hr
   rw[lQf ha.at.2.2,Option.getD_some,lVr]
  ·rw[lQr (Ne.symm hr)];rfl
theorem Shp.tie2 {W V:Web} {p q:Nat×Nat} (h:Shp W V) (hp:Dr V p) (hq:Dr V q):Shp W (tie2 V p q):=(h.pt hp).pt (hq.pt hp)
theorem qXp {W V:Web} {v1 v2 v3 v4 v5 v7 v8 v9 v10 v11 v12:Option T} {p:Addr} {kvs:List (L2.TKey×T)} {G:Gp} {Q:VK3} (fW:Fine W) (fine:Fine V) (sh:Shp W V) (hr0:0<V.length) (hp:G p=some (.dct kvs)) (ag:Ag V kvs) (kk:∀G',Sub G G'->Q (if (bfs V 0).length=W.length then encW V else .non) G'):
  kYo {nx:=fun _ G'=>Q .non G',rt:=Q} [some (.tup (W.map encR)),v1,v2,v3,v4,v5,some (.ref p),v7,v8,v9,v10,v11,v12,none,none,none] G:=by
 have hs:=sz
 have hl:=fW.len
 rw[kYn]
 wp_walk using 1,jKj,List.length_map
 refine⟨by omega,by omega,?_⟩
 rw[show ((W.length:Nat):Int).toNat=W.length by omega,jU4]
 refine jQs (es:=List.range W.length) (enc:=fun r:Nat=>T.int r) (fun r=>encR (row V r)) (by simp;omega) (fun _ _=>trivial) ?_ ?_
 ·intro i r hr G1 K K0 s1 hK
  obtain⟨q1,q2⟩:=lJi.mp hr
  simp at q1 q2;subst q2
  have hW:W[i]? =some (row W i):=by rw[row,lJo q1];rfl
  have hV:V[i]? =some (row V i):=by rw[row,lJo (by rw[sh.len];exact q1)];rfl
  have hrl:=fW.row _ _ hW
  wp_walk using 1,jKl hW,encR,jKj,List.length_map
  refine⟨by omega,by omega,?_⟩
  rw[show (((row W i).length:Nat):Int).toNat=(row W i).length by omega,jU4]
  refine jQs (es:=List.range (row W i).length) (enc:=fun r:Nat=>T.int r) (fun j=>encE (((row V i)[j]?).getD (0,0))) (by simp;omega) (fun _ _=>trivial) ?_ ?_
  ·intro j x hx G2 K2 K3 s2 hK2
   obtain⟨q3,q4⟩:=lJi.mp hx
   simp at q3 q4;subst q4
   have hj:j<(row V i).length:=by rw[sh.rl];exact q3
   have hv:(row V i)[j]? =some (row V i)[j]:=lJo hj
   have:=ag i j _ (jXp hV hv)
   wp_walk using 1,tSeq
   refine⟨by omega,_,kUg (s2 _ _ (s1 _ _ hp)) (ks:=keyE (i,j)) rfl this,?_⟩
   have h2:=hK2 G2 (.refl _)
   rw[hv] at h2;exact h2
  ·intro D G2 hD hD2 s2
   refine⟨_,jJj hD2,?_⟩
   have e1:(List.range (row W i).length).map (fun j=>encE (((row V i)[j]?).getD (0,0)))=(row V i).map encE:=by
    rw[<-sh.rl]
    apply lVo
    intro j
    by_cases hj:j<(row V i).length
    ·rw[lKa,lVx hj,lKa,lJo hj];simp[hj]
    ·rw[lKq (by simp;omega),lKq (by simp;omega)]
   rw[e1]
   exact hK G2 s2
 ·intro D G1 hD hD1 s1
  refine⟨_,jJj hD1,?_⟩
  have e1:(List.range W.length).map (fun r=>encR (row V r))=V.map encR:=by
   rw[<-sh.len]
   apply lVo
   intro j
   by_cases hj:j<V.length
   ·have hv:V[j]? =some (row V j):=by
     show _=some ((V[j]?).getD [])
     rw[lJo hj];rfl
    rw[lKa,lVx hj,lKa,hv];rfl
   ·rw[lKq (by simp;omega),lKq (by simp;omega)]
  rw[e1]
  exact qXo fine sh.len hr0 fun G' s=>kk G' (s1.trans s)
def jUu:Sp3:=fun xs G Q=>∃(W:Web) (f s:Tie) (ab:Nat),xs=[encW W,encT f,encT s,.int ab]/\Two W f s ab/\∀G',Sub G G'->Q (dueT W f s ab) G'
def webK (W:Web) (f s:Tie) (ab:Nat):Nat->Web
 | 0=>W
 | 1=>tie2 W f.1 (la s ab)
 | _=>crs W f s ab
theorem qXq {W:Web} {f1 f2 s1 s2:Nat×Nat} {ab:Nat} {G:Gp} {Q:VK3} (tw:Two W (f1,f2) (s1,s2) ab) (kk:∀G',Sub G G'->Q (if (bfs (crs W (f1,f2) (s1,s2) ab) 0).length=W.length then encW (crs W (f1,f2) (s1,s2) ab) else .non) G'):
  kYq {nx:=fun _ G'=>Q .non G',rt:=Q} [some (.tup (W.map encR)),some (.tup [encE f1,encE f2]),some (.tup [encE s1,encE s2]),some (.int ab),some (encE (fo (s1,s2) ab)),some (encE (la (s1,s2) ab)),none,none,none,none,none,none,none,none,none,none] G:=by
 have hs:=sz
 have fine:=tw.fine
 have hl:=fine.len
 rw[kYp]
 wp_walk using 1,jQi,jJ3,iEnT
 refine .inl fun p hp=> ?_
 let J1:Nat->St3->Gp->Prop:=fun r τ G'=>∃(v7 v8 v9 v10:Option T) (kvs:List (L2.TKey×T)),τ=[some (.tup (W.map encR)),some (.tup [encE f1,encE f2]),some (.tup [encE s1,encE s2]),some (.int ab),some (encE (fo (s1,s2) ab)),some (encE (la (s1,s2) ab)),some (.ref p),v7,v8,v9,v10,none,none,none,none,none]/\G' p=some (.dct kvs)/\kvs.length<=1000*r/\(∀r' i e,r'<r->en W r' i=some e->valT kvs (keyE (r',i))=some (encE e))/\Sub G G'
 refine⟨J1,?_,?_,?_,?_⟩
 ·exact xi5 _ _ _ _ [] rfl ⟨jJh,lJu _,fun r i e h=>absurd h (lKu _),.new hp⟩
 ·intros;trivial
 ·intro r y τ G1 hy h_;apply xe5 h_;clear h_;intro v7 v8 v9 v10 kvs h_;apply ae4 h_;clear h_;intro h1 h2 h3 h4
  obtain⟨z,hz,rfl⟩:=jQw hy
  obtain⟨es,hW,rfl⟩:=jJ7 hz
  have hr:r<W.length:=(lJi.mp hW).1
  have hes:=fine.row r es hW
  wp_walk using 1,jJ3,iEnT,encR
  let J2:Nat->St3->Gp->Prop:=fun i τ G'=>∃(v9 v10:Option T) (kvs:List (L2.TKey×T)),τ=[some (.tup (W.map encR)),some (.tup [encE f1,encE f2]),some (.tup [encE s1,encE s2]),some (.int ab),some (encE (fo (s1,s2) ab)),some (encE (la (s1,s2) ab)),some (.ref p),some (.int r),some (.tup (es.map encE)),v9,v10,none,none,none,none,none]/\G' p=some (.dct kvs)/\kvs.length<=1000*r+i/\(∀r' i' e,r'<r\/(r'=r/\i'<i)->en W r' i'=some e->valT kvs (keyE (r',i'))=some (encE e))/\Sub G G'
  refine⟨J2,?_,?_,?_,?_⟩
  ·exact xi3 _ _ kvs rfl ⟨h1,h2,fun r' i' e h=>h3 r' i' e (by omega),h4⟩
  ·intros;trivial
  ·intro i y τ G2 hy h_;apply xe3 h_;clear h_;intro v9 v10 kvs h_;apply ae4 h_;clear h_;intro i1 i2 i3 i4
   obtain⟨z,hz,rfl⟩:=jQw hy
   obtain⟨e,hE,rfl⟩:=jJ7 hz
   have hi:i<es.length:=(lJi.mp hE).1
   wp_walk using 1,tSeq
   refine⟨by omega,_,jYc i1 (ks:=keyE (r,i)) rfl (by omega),xi3 _ _ (putT kvs (keyE (r,i)) (encE e)) rfl ⟨jJh,by have:=jV1 kvs (keyE (r,i)) (encE e);omega,fun r' i' e' hh he=> ?_,i4.over hp⟩⟩
   rw[jU1]
   by_cases z:keyE (r,i)=keyE (r',i')
   ·rw[lJc z]
    cases kJ6 z
    rw[jXp hW hE] at he;cases he;rfl
   ·rw[lJb z]
    refine i3 r' i' e' ?_ he
    rcases hh with hh | ⟨rfl,hh⟩
    ·exact .inl hh
    ·refine .inr ⟨rfl,?_⟩
     have:i'≠i:=fun w=>z (by rw[w])
     omega
  ·intro τ G2 h_;apply xe3 h_;clear h_;intro v9 v10 kvs h_;apply ae4 h_;clear h_;intro i1 i2 i3 i4
   rw[jK2,lJh] at i2 i3
   refine xi5 _ _ _ _ kvs rfl ⟨i1,by omega,fun r' i e h he=>i3 r' i e ?_ he,i4⟩
   by_cases z:r'=r
   ·subst z
    obtain⟨es',q1,q2⟩:=jQx he
    rw[hW] at q1;cases q1
    exact .inr ⟨rfl,(lJi.mp q2).1⟩
   ·exact .inl (by omega)
 ·intro τ G1 h_;apply xe5 h_;clear h_;intro v7 v8 v9 v10 kvs h_;apply ae4 h_;clear h_;intro h1 h2 h3 h4
  rw[jK2,lJh] at h2 h3
  have ag:Ag W kvs:=fun r i e he=>h3 r i e (en_lt he) he
  wp_walk using 1,jJ3,iSeq
  refine⟨by omega,by omega,by omega,fun q hq=> ?_⟩
  have hpq:p≠q:=jJi h1 hq
  let items:List T:=[.tup [encE f1,encE (la (s1,s2) ab)],.tup [encE (fo (s1,s2) ab),encE f2]]
  let J3:Nat->St3->Gp->Prop:=fun k τ G'=>∃(v11 v12:Option T) (kvs:List (L2.TKey×T)),τ=[some (.tup (W.map encR)),some (.tup [encE f1,encE f2]),some (.tup [encE s1,encE s2]),some (.int ab),some (encE (fo (s1,s2) ab)),some (encE (la (s1,s2) ab)),some (.ref p),v7,v8,v9,v10,v11,v12,none,none,none]/\G' p=some (.dct kvs)/\kvs.length<=1000000+2*k/\Ag (webK W (f1,f2) (s1,s2) ab k) kvs/\Sub G G'/\G' q=some (.lst items)
  have step:∀(k:Nat) (V V':Web) (a b:Nat×Nat) G2 (kvs:List (L2.TKey×T)) (v11 v12:Option T),V=webK W (f1,f2) (s1,s2) ab k->webK W (f1,f2) (s1,s2) ab (k+1)=tie2 V a b->k<2->Dr V a->Dr V b->G2 p=some (.dct kvs)->kvs.length<=1000000+2*k->Ag V kvs->Sub G G2->G2 q=some (.lst items)->
    ∃G',setR G2 (.ref p) (encE a) (encE b)=some G'/\∃G'',setR G' (.ref p) (encE b) (encE a)=some G''/\J3 (k+1) [some (.tup (W.map encR)),some (.tup [encE f1,encE f2]),some (.tup [encE s1,encE s2]),some (.int ab),some (encE (fo (s1,s2) ab)),some (encE (la (s1,s2) ab)),some (.ref p),v7,v8,v9,v10,some (encE a),some (encE b),none,none,none] G'':=by
   intro k V V' a b G2 kvs v11 v12 eV eV' hk ha hb g1 g2 g3 g4 g5
   have l1:=jV1 kvs (keyE a) (encE b)
   have l2:=jV1 (putT kvs (keyE a) (encE b)) (keyE b) (encE a)
   refine⟨_,jYc g1 (ks:=keyE a) rfl (by omega),_,jYc jJh (ks:=keyE b) rfl (by omega),?_⟩
   refine xi3 _ _ _ rfl ⟨jJh,by omega,?_,(g4.over hp).over hp,by rw[jJp hpq.symm,jJp hpq.symm];exact g5⟩
   rw[eV']
   exact (g3.put ha).put (hb.pt ha)
  refine⟨J3,?_,?_,?_,?_⟩
  ·exact xi3 _ _ kvs rfl ⟨by rw[jJp hpq];exact h1,by omega,ag,h4.trans (.new hq),jJh⟩
  ·intro k τ G' hk h_;apply xe3 h_;clear h_;intro v11 v12 kvs h_;apply ae5 h_;clear h_;intro g1 g2 g3 g4 g5
   exact jJj g5
  ·intro k y τ G2 hy h_;apply xe3 h_;clear h_;intro v11 v12 kvs h_;apply ae5 h_;clear h_;intro g1 g2 g3 g4 g5
   have hk:k<2:=(lJi.mp hy).1
   rcases (by omega:k=0\/k=1) with rfl | rfl
   ·cases hy
    have:=step 0 W W f1 (la (s1,s2) ab) G2 kvs v11 v12 rfl rfl (by decide) tw.f1 tw.la g1 g2 g3 g4 g5
    wp_walk using 1,tSeq
    exact this
   ·cases hy
    have:=step 1 _ W (fo (s1,s2) ab) f2 G2 kvs v11 v12 rfl rfl (by decide) (tw.fo.tie2 tw.f1 tw.la) (tw.f2.tie2 tw.f1 tw.la) g1 g2 g3 g4 g5
    wp_walk using 1,tSeq
    exact this
  ·intro τ G2 h_;apply xe3 h_;clear h_;intro v11 v12 kvs h_;apply ae5 h_;clear h_;intro g1 g2 g3 g4 g5
   refine qXp fine tw.crs ?_ (by rw[kKi];exact tw.w1) g1 g3 fun G' s=>kk G' (g4.trans s)
   have s0:Shp W W:=⟨rfl,fun _=>rfl⟩
   exact (s0.tie2 tw.f1 tw.la).tie2 (tw.fo.tie2 tw.f1 tw.la) (tw.f2.tie2 tw.f1 tw.la)
theorem jZk:RdOk jUu jUx kUv:=by
 intro xs G Q h_;apply xe4 h_;clear h_;intro W f s ab h_;apply ae2 h_;clear h_;intro tw kk
 obtain⟨f1,f2⟩:=f
 obtain⟨s1,s2⟩:=s
 show jUx _ [some (.tup (W.map encR)),some (.tup [encE f1,encE f2]),some (.tup [encE s1,encE s2]),some (.int ab),none,none,none,none,none,none,none,none,none,none,none,none] G
 rw[qKe]
 wp_walk using 1,rEqA,rNeA
 refine⟨_,jY9,_,jY9,_,kZ5,?_⟩
 unfold dueT at kk
 by_cases he:decide (f1=f2)=decide (s1=s2)
 ·rw[lJb (by rw[lJ1 he];decide)]
  have:=qXq (G:=G) (Q:=Q) tw fun G' s=>by
   have:=kk G' s
   by_cases hb:(bfs (crs W (f1,f2) (s1,s2) ab) 0).length=W.length
   ·rw[lJc ⟨he,hb⟩] at this;rw[lJc hb];exact this
   ·rw[lJb fun z=>hb z.2] at this;rw[lJb hb];exact this
  refine⟨_,jVp (c:=1),?_⟩
  have hab:=tw.ab
  rcases (by omega:ab=0\/ab=1) with rfl | rfl
  ·rw[lJb (by decide)];exact this
  ·rw[lJc (by decide)]
   wp_walk using 1,tPar
   exact this
 ·rw[lJc (by rw[lJq he])]
  rw[lJb fun z=>he z.1] at kk
  exact kk G (.refl _)
def IsC (W:Web) (V:Web):Prop:=∃(i j:Nat) (f s:Tie) (ab:Nat),i<j/\(jJx W)[i]? =some f/\(jJx W)[j]? =some s/\ab<=1/\dueT W f s ab=encW V
def Told (W:Web) (acc:List T) (P:Nat->Nat->Prop):Prop:=∀t,t∈acc↔∃(i j:Nat) (f s:Tie) (ab:Nat),P i j/\i<j/\(jJx W)[i]? =some f/\(jJx W)[j]? =some s/\ab<=1/\t=dueT W f s ab
theorem Told.two {W:Web} {acc:List T} {P P':Nat->Nat->Prop} {i j:Nat} {f s:Tie} (h:Told W acc P) (hij:i<j) (hi:(jJx W)[i]? =some f) (hj:(jJx W)[j]? =some s) (hP:∀i' j',i'<j'->(P' i' j'↔P i' j'\/(i'=i/\j'=j))):Told W (acc++[dueT W f s 0]++[dueT W f s 1]) P':=by
 intro t
 rw[lJt,lJt,lJ4,lJ4,h t]
 constructor
 ·rintro ((⟨i',j',f',s',ab,h1,h2,h3⟩ | rfl) | rfl)
  ·exact⟨i',j',f',s',ab,(hP i' j' h2).mpr (.inl h1),h2,h3⟩
  ·exact⟨i,j,f,s,0,(hP i j hij).mpr (.inr ⟨rfl,rfl⟩),hij,hi,hj,by decide,rfl⟩
  ·exact⟨i,j,f,s,1,(hP i j hij).mpr (.inr ⟨rfl,rfl⟩),hij,hi,hj,by decide,rfl⟩
 ·rintro⟨i',j',f',s',ab,h1,h2,h3,h4,h5,h6⟩
  rcases (hP i' j' h2).mp h1 with z | ⟨rfl,rfl⟩
  ·exact .inl (.inl ⟨i',j',f',s',ab,z,h2,h3,h4,h5,h6⟩)
  ·rw[hi] at h3;cases h3
   rw[hj] at h4;cases h4
   rcases (by omega:ab=0\/ab=1) with rfl | rfl
   ·exact .inl (.inr h6)
   ·exact .inr h6
theorem kQ9 {α β:Type} {f:α->β} (h:∀x y,f x=f y->x=y):∀ {a b:List α},a.map f=b.map f->a=b
 | [],[],_=>rfl
 | [],_::_,e=>by cases e
 | _::_,[],e=>by cases e
 | x::a,y::b,e=>by
  rw[lJn,lJn,lVy] at e
  rw[h x y e.1,kQ9 h e.2]
theorem jX6 (V V':Web) (h:encW V=encW V'):V=V':=by
 refine kQ9 (f:=encR) (fun x y e=> ?_) (T.tup.inj h)
 refine kQ9 (f:=encE) (fun x y e=> ?_) (T.tup.inj e)
 have:=lKp dec e
 rwa [qJa,qJa] at this
theorem qUq {W:Web} {f s:Tie} {ab:Nat} (tw:Two W f s ab):dueT W f s ab= .non\/∃V,dueT W f s ab=encW V/\Fine V/\V.length=W.length:=by
 unfold dueT
 split
 ·exact .inr ⟨_,rfl,tw.crs,kKi⟩
 ·exact .inl rfl
noncomputable def jQu:Sp3:=fun xs G Q=>∃W:Web,xs=[encW W]/\Fine W/\Sym W/\1<=W.length/\(jJx W).length<=9/\∀p (Vs:List Web) G',G p=none->G' p=some (.lst (Vs.map encW))->Vs.length<=72->(∀V,V∈Vs↔IsC W V)->(∀V,V∈Vs->Fine V/\V.length=W.length)->Sub G G'->Q (.ref p) G'
def kKn:List Str:=["web","known","told","place","second","first","other"]
noncomputable def jQv:TS3:=
 (tSeq (tAsg (jJ0 kQr (jJb (tVar 0) tNil)) (jJe 1))
 (tSeq (tAsg (tLst tNil) (jJe 2))
 (tSeq (tFor (kJ7 (jJb (tVar 1) tNil)) (gTup 2 (jJu (jJe 3) (jJu (jJe 4) gNil))) (tFor (iSeq (tSl rSlF (tVar 1) jQt (jVi (tVar 3)))) (jJe 5) (tSeq (jK7 (tBM "list" jJ6 (tVar 2) (jJb (jJ0 jU3 (jJb (tVar 0) (jJb (tVar 5) (jJb (tVar 4) (jJb (tC (.int 0)) tNil))))) tNil)))
 (jK7 (tBM "list" jJ6 (tVar 2) (jJb (jJ0 jU3 (jJb (tVar 0) (jJb (tVar 5) (jJb (tVar 4) (jJb (tC (.int 1)) tNil))))) tNil))))))
 (tRet (jKf [false,false,false,false,false,false,true] (iSeq (tVar 2)) (jJe 6) (jJw (tOp kJv (tVar 6) (tC .non))) (tVar 6))))))
theorem jX0:RdOk jQu jQv kKn:=by
 intro xs G Q h_;apply xe1 h_;clear h_;intro W h_;apply ae5 h_;clear h_;intro fine sym hw1 h9 kk
 show jQv _ [some (encW W),none,none,none,none,none,none] G
 have hs:=sz
 wp_walk using 1,jQv,jJ3,kJ7
 refine⟨W,rfl,fine,fun e G1 he hG1 _ s1=> ?_⟩
 wp_walk using 1,tSeq
 refine⟨lJu _,fun a ha=> ?_⟩
 have hea:e≠a:=jJi hG1 ha
 have lt:∀G' a xs,G' a=some (.lst xs)->jK1 G' (.ref a)=some xs:=fun G' a xs h=>by rw[show jK1 G' (.ref a)=asL (G' a) from rfl,h];rfl
 refine⟨(jJx W).map encT,lt _ _ _ (by rw[jJp hea];exact hG1),?_⟩
 let J1:Nat->St3->Gp->Prop:=fun j τ G'=>∃(v3 v4 v5:Option T) (acc:List T),τ=[some (encW W),some (.ref e),some (.ref a),v3,v4,v5,none]/\G' a=some (.lst acc)/\acc.length<=j*(j-1)/\Told W acc (fun _ j'=>j'<j)/\G' e=some (.lst ((jJx W).map encT))/\Sub G1 G'
 refine⟨J1,?_,?_,?_,?_⟩
 ·refine xi4 _ _ _ [] rfl ⟨jJh,lJu _,fun t=>⟨fun h=>(by cases h),fun h=> ?_⟩,by rw[jJp hea];exact hG1,.new ha⟩
  obtain⟨i,j,f,s,ab,h,_⟩:=h
  exact absurd h (lKu _)
 ·intro j τ G' hj h_;apply xe4 h_;clear h_;intro v3 v4 v5 acc h_;apply ae5 h_;clear h_;intro h1 h2 h3 h4 h5
  exact lt _ _ _ h4
 ·intro j y τ G2 hy h_;apply xe4 h_;clear h_;intro v3 v4 v5 acc h_;apply ae5 h_;clear h_;intro h1 h2 h3 h4 h5
  obtain⟨z,hz,rfl⟩:=jQw hy
  obtain⟨s,hj,rfl⟩:=jJ7 hz
  have hjl:j<(jJx W).length:=(lJi.mp hj).1
  wp_walk using 1,jJ3,iSeq,tSl,jQt,jVi,rSlF,slR,h4,qUt
  intro p hp
  have hap:a≠p:=jJi h1 hp
  have hep:e≠p:=jJi h4 hp
  have haG1:G1 a=none:=ha
  let J2:Nat->St3->Gp->Prop:=fun i τ G'=>∃(v5:Option T) (acc:List T),τ=[some (encW W),some (.ref e),some (.ref a),some (.int j),some (encT s),v5,none]/\G' a=some (.lst acc)/\acc.length<=j*(j-1)+2*i/\Told W acc (fun i' j'=>j'<j\/(j'=j/\i'<i))/\G' e=some (.lst ((jJx W).map encT))/\G' p=some (.lst (List.take j ((jJx W).map encT)))/\Sub G1 G'
  have hjj:j*(j-1)<=72:=lKo (Nat.mul_le_mul (show j<=9 by omega) (show j-1<=8 by omega)) (by decide)
  refine⟨J2,?_,?_,?_,?_⟩
  ·exact xi2 _ acc rfl ⟨by rw[jJp hap];exact h1,h2,fun t=>by rw[h3 t];simp,by rw[jJp hep];exact h4,jJh,h5.trans (.new hp)⟩
  ·intro i τ G' hi h_;apply xe2 h_;clear h_;intro v5 acc h_;apply ae6 h_;clear h_;intro i1 i2 i3 i4 i5 i6
   exact jJj i5
  ·intro i y τ G3 hy h_;apply xe2 h_;clear h_;intro v5 acc h_;apply ae6 h_;clear h_;intro i1 i2 i3 i4 i5 i6
   have hij:i<j:=by
    have:=(lJi.mp hy).1
    rw[lK1] at this;omega
   rw[List.getElem?_take_of_lt hij] at hy
   obtain⟨f,hf,rfl⟩:=jJ7 hy
   wp_walk using 1,jKy i1
   refine⟨W,f,s,0,rfl,jVs fine sym hw1 hf hj (by decide),fun G4 q4=> ?_⟩
   have i14:=q4 _ _ i1
   refine⟨acc,i14,by omega,?_⟩
   wp_walk using 1,kXt
   refine⟨W,f,s,1,rfl,jVs fine sym hw1 hf hj (by decide),fun G5 q5=> ?_⟩
   have i15:=q5 _ _ jJh
   refine⟨_,i15,by rw[lKk];simp;omega,?_⟩
   have other:∀q o,q≠a->G3 q=some o->gup G5 a (.lst (acc++[dueT W f s 0]++[dueT W f s 1])) q=some o:=fun q o hq h=>by
    rw[jJp hq];exact q5 _ _ (by rw[jJp hq];exact q4 _ _ h)
   refine xi2 _ _ rfl ⟨jJh,by simp;omega,i3.two hij hf hj fun i' j' h=>by omega,other _ _ hea i4,other _ _ hap.symm i5,fun q o h=>other q o (fun z=>by rw[z,haG1] at h;cases h) (i6 _ _ h)⟩
  ·intro τ G3 h_;apply xe2 h_;clear h_;intro v5 acc h_;apply ae6 h_;clear h_;intro i1 i2 i3 i4 i5 i6
   rw[lK1,lJh,Nat.min_eq_left (by omega)] at i2 i3
   refine xi4 _ _ _ acc rfl ⟨i1,?_,fun t=> ?_,i4,i6⟩
   ·show acc.length<=(j+1)*j
    rw[Nat.succ_mul]
    cases j with
    | zero=>omega
    | succ j=>rw[Nat.succ_sub_one] at i2;rw[Nat.mul_succ];omega
   ·rw[i3 t]
    constructor
    ·rintro⟨i',j',f,s,ab,h,h2,h3⟩
     exact⟨i',j',f,s,ab,by omega,h2,h3⟩
    ·rintro⟨i',j',f,s,ab,h,h2,h3⟩
     exact⟨i',j',f,s,ab,by omega,h2,h3⟩
 ·intro τ G2 h_;apply xe4 h_;clear h_;intro v3 v4 v5 acc h_;apply ae5 h_;clear h_;intro h1 h2 h3 h4 h5
  wp_walk using 1,iSeq,jJj h1,kJv
  have e0:acc.map (fun t:T=>t)=acc:=by simp
  refine (show jU0 _ _ _ _ _ (acc.map fun t=>t) _ G2 Q->jU0 _ _ _ _ _ acc _ G2 Q from fun h=>by rwa [e0] at h) ?_
  have hn:(numT ((jJx W).map encT)).length=(jJx W).length:=by rw[jK2,lJh]
  rw[hn] at h2 h3
  have h72:acc.length<=72:=lKo h2 (lKo (Nat.mul_le_mul h9 (show (jJx W).length-1<=8 by omega)) (by decide))
  refine jUk (fun t=>if jQq t=true then none else some t) (by omega) (fun G' s=>jJj (s _ _ h1)) ?_ ?_
  ·intro i t ht G' K K0 s hK hK0
   wp_walk using 1,kJv
   have key:if jQq t=false then K t G' else K0 G':=by
    cases hc:jQq t with
    | true=>rw[lJb (by decide)];exact hK0 (by rw[lJc hc]) _ (.refl _)
    | false=>rw[lJc rfl];exact hK _ _ (by rw[lJb (by rw[hc];decide)]) (.refl _)
   exact key
  ·intro D G3 hD hD3 s3
   have mem:∀t,t∈acc.filterMap (fun t=>if jQq t=true then none else some t)↔t∈acc/\jQq t=false:=by
    intro t
    rw[lQ1]
    constructor
    ·rintro⟨x,hx,e⟩
     by_cases hc:jQq x=true
     ·rw[lJc hc] at e;cases e
     ·rw[lJb hc] at e;cases e;exact⟨hx,by simpa using hc⟩
    ·rintro⟨hx,hc⟩
     exact⟨t,hx,by rw[lJb (by rw[hc];decide)]⟩
   obtain⟨Vs,eV,hV⟩:=jYz (enc:=encW) (acc.filterMap (fun t=>if jQq t=true then none else some t)) (fun _ V=>Fine V/\V.length=W.length) fun i t ht=>by
    obtain⟨m1,m2⟩:=(mem t).mp (lJy ht)
    obtain⟨i,j,f,s,ab,_,_,hi,hj,hab,rfl⟩:=(h3 t).mp m1
    rcases qUq (jVs fine sym hw1 hi hj hab) with z | ⟨V,z,z2⟩
    ·rw[z] at m2;cases m2
    ·exact⟨V,z,z2⟩
   refine kk D Vs G3 ((s1.trans h5).none hD) (by rw[hD3,eV]) ?_ (fun V=> ?_) (fun V hv=> ?_) ((s1.trans h5).trans s3)
   ·have:=lKp List.length eV
    rw[lJh] at this
    rw[<-this]
    exact lKo (lYp _ _) h72
   ·constructor
    ·intro hv
     have:encW V∈Vs.map encW:=lQ8 hv
     rw[<-eV] at this
     obtain⟨i,j,f,s,ab,_,a1,a2,a3,a4,a5⟩:=(h3 _).mp ((mem _).mp this).1
     exact⟨i,j,f,s,ab,a1,a2,a3,a4,a5.symm⟩
    ·rintro⟨i,j,f,s,ab,a1,a2,a3,a4,a5⟩
     have:encW V∈Vs.map encW:=by
      rw[<-eV]
      exact (mem _).mpr ⟨(h3 _).mpr ⟨i,j,f,s,ab,(lJi.mp a3).1,a1,a2,a3,a4,a5.symm⟩,rfl⟩
     obtain⟨V',hV',e⟩:=lJl.mp this
     rw[<-jX6 _ _ e];exact hV'
   ·obtain⟨i,hi⟩:=lKg hv
    exact hV i V hi
noncomputable def jK8:Sp3:=fun xs G Q=>∃W:Web,xs=[encW W]/\Fine W/\Sym W/\1<=W.length/\(jJx W).length<=9/\∀p (Vs:List Web) G',G p=none->G' p=some (.lst (Vs.map encW))->1<=Vs.length->Vs.length<=73->(∀V,V∈Vs↔V=W\/IsC W V)->(∀V,V∈Vs->Fine V/\V.length=W.length)->Sub G G'->Q (.ref p) G'
def jZg:List Str:=["_law_web_here","_law_some","_law_found","_law_place","_law_first","_law_second","_law_about","_law_made"]
noncomputable def jQa:TS3:=
 (tSeq (tAsg (jJ0 jYp (jJb (tVar 0) tNil)) (jJe 1))
 (tSeq (tAsg (tLst (jJb (tVar 0) tNil)) (jJe 2))
 (tSeq (tFor (kJ7 (jJb (tVar 1) tNil)) (gTup 2 (jJu (jJe 3) (jJu (jJe 4) gNil))) (tFor (iSeq (tSl rSlF (tVar 1) (jVi (tOp jKn (tVar 3) (tC (.int 1)))) jQt)) (jJe 5) (jK7 (tBM "list" kYt (tVar 2) (jJb (jKf [false,false,false,false,false,false,true,false] (iSeq (tTup (jJb (tC (.int 0)) (jJb (tC (.int 1)) tNil)))) (jJe 6) jQh (jJ0 jUu (jJb (tVar 0) (jJb (tVar 4) (jJb (tVar 5) (jJb (tVar 6) tNil)))))) tNil)))))
 (tRet (jKf [false,false,false,false,false,false,false,true] (iSeq (tVar 2)) (jJe 7) (jJw (tOp kJv (tVar 7) (tC .non))) (tVar 7))))))
theorem jVz:RdOk jK8 jQa jZg:=by
 intro xs G Q h_;apply xe1 h_;clear h_;intro W h_;apply ae5 h_;clear h_;intro fine sym hw1 h9 kk
 show jQa _ [some (encW W),none,none,none,none,none,none,none] G
 have hs:=sz
 wp_walk using 1,jQa,jJ3,kJ7
 refine⟨W,rfl,fine,fun e G1 he hG1 _ s1=> ?_⟩
 wp_walk using 1,tSeq
 refine⟨by omega,fun a ha=> ?_⟩
 have hea:e≠a:=jJi hG1 ha
 have lt:∀G' a xs,G' a=some (.lst xs)->jK1 G' (.ref a)=some xs:=fun G' a xs h=>by rw[show jK1 G' (.ref a)=asL (G' a) from rfl,h];rfl
 refine⟨(jJx W).map encT,lt _ _ _ (by rw[jJp hea];exact hG1),?_⟩
 let J1:Nat->St3->Gp->Prop:=fun i τ G'=>∃(v3 v4 v5:Option T) (acc:List T),τ=[some (encW W),some (.ref e),some (.ref a),v3,v4,v5,none,none]/\G' a=some (.lst (encW W::acc))/\acc.length+((jJx W).length-i)*((jJx W).length-i-1)<=72/\Told W acc (fun i' _=>i'<i)/\G' e=some (.lst ((jJx W).map encT))/\Sub G1 G'
 refine⟨J1,?_,?_,?_,?_⟩
 ·refine xi4 _ _ _ [] rfl ⟨jJh,?_,fun t=>⟨fun h=>(by cases h),fun h=> ?_⟩,by rw[jJp hea];exact hG1,.new ha⟩
  ·have:=Nat.mul_le_mul h9 (show (jJx W).length-1<=8 by omega)
   simpa using this
  ·obtain⟨i,j,f,s,ab,h,_⟩:=h
   exact absurd h (lKu _)
 ·intro j τ G' hj h_;apply xe4 h_;clear h_;intro v3 v4 v5 acc h_;apply ae5 h_;clear h_;intro h1 h2 h3 h4 h5
  exact lt _ _ _ h4
 ·intro i y τ G2 hy h_;apply xe4 h_;clear h_;intro v3 v4 v5 acc h_;apply ae5 h_;clear h_;intro h1 h2 h3 h4 h5
  obtain⟨z,hz,rfl⟩:=jQw hy
  obtain⟨f,hi,rfl⟩:=jJ7 hz
  have hil:i<(jJx W).length:=(lJi.mp hi).1
  wp_walk using 1,jJ3,iSeq,tSl,jQt,jVi,rSlF,slR,h4
  rw[show ((i:Int)+1)=((i+1:Nat):Int) by omega,jYh]
  intro p hp
  have hap:a≠p:=jJi h1 hp
  have hep:e≠p:=jJi h4 hp
  let J2:Nat->St3->Gp->Prop:=fun k τ G'=>∃(v5:Option T) (acc:List T),τ=[some (encW W),some (.ref e),some (.ref a),some (.int i),some (encT f),v5,none,none]/\G' a=some (.lst (encW W::acc))/\acc.length+2*((jJx W).length-i-1-k)+((jJx W).length-i-1)*((jJx W).length-i-2)<=72/\Told W acc (fun i' j'=>i'<i\/(i'=i/\j'<i+1+k))/\G' e=some (.lst ((jJx W).map encT))/\G' p=some (.lst (List.drop (i+1) ((jJx W).map encT)))/\Sub G1 G'
  have ar:∀c:Nat,(c+1)*c=2*c+c*(c-1):=fun c=>by
   cases c with
   | zero=>rfl
   | succ c=>rw[Nat.succ_sub_one,Nat.succ_mul,Nat.mul_succ];omega
  have hdl:(List.drop (i+1) ((jJx W).map encT)).length=(jJx W).length-i-1:=by rw[lVc,lJh];omega
  refine⟨J2,?_,?_,?_,?_⟩
  ·refine xi2 _ acc rfl ⟨by rw[jJp hap];exact h1,?_,fun t=> ?_,by rw[jJp hep];exact h4,jJh,h5.trans (.new hp)⟩
   ·have:=ar ((jJx W).length-i-1)
    rw[show (jJx W).length-i-1+1=(jJx W).length-i by omega] at this
    rw[show (jJx W).length-i-1-1=(jJx W).length-i-2 by omega] at this
    omega
   ·rw[h3 t]
    constructor
    ·rintro⟨i',j',f,s,ab,h,h2,h3⟩
     exact⟨i',j',f,s,ab,.inl h,h2,h3⟩
    ·rintro⟨i',j',f,s,ab,h,h2,h3⟩
     exact⟨i',j',f,s,ab,by omega,h2,h3⟩
  ·intro k τ G' hk h_;apply xe2 h_;clear h_;intro v5 acc h_;apply ae6 h_;clear h_;intro i1 i2 i3 i4 i5 i6
   exact jJj i5
  ·intro k y τ G3 hy h_;apply xe2 h_;clear h_;intro v5 acc h_;apply ae6 h_;clear h_;intro i1 i2 i3 i4 i5 i6
   have hkl:k<(jJx W).length-i-1:=by rw[<-hdl];exact (lJi.mp hy).1
   rw[lVz] at hy
   obtain⟨s,hj,rfl⟩:=jJ7 hy
   wp_walk using 1,iSeq,jKy i1
   refine⟨by omega,?_⟩
   refine jQs (es:=[0,1]) (enc:=fun x:Nat=>T.int x) (fun ab=>dueT W f s ab) (by simp;omega) (fun _ _=>trivial) ?_ ?_
   ·intro i' x hx G4 K K0 s4 hK
    have hx1:x<=1:=by
     have:=lJy hx
     simp only[lJk,lJ2,lKd] at this;omega
    wp_walk using 1,tSeq
    exact⟨W,f,s,x,rfl,jVs fine sym hw1 hi hj hx1,fun G' q=>hK G' q⟩
   ·intro D G4 hD hD4 s4
    have hDa:a≠D:=jJi i1 hD
    refine⟨a,D,_,_,rfl,rfl,s4 _ _ i1,hD4,by simp;omega,?_⟩
    have other:∀q o,q≠a->G3 q=some o->gup G4 a (.lst (encW W::acc++[0,1].map fun ab=>dueT W f s ab)) q=some o:=fun q o hq h=>by
     rw[jJp hq];exact s4 _ _ h
    refine xi2 _ (acc++[dueT W f s 0]++[dueT W f s 1]) rfl ⟨by rw[jJh];simp,by simp;omega,i3.two (by omega) hi hj fun i' j' h=>by omega,other _ _ hea i4,other _ _ hap.symm i5,fun q o h=>other q o (fun z=>by rw[z,ha] at h;cases h) (i6 _ _ h)⟩
  ·intro τ G3 h_;apply xe2 h_;clear h_;intro v5 acc h_;apply ae6 h_;clear h_;intro i1 i2 i3 i4 i5 i6
   rw[hdl] at i2 i3
   refine xi4 _ _ _ acc rfl ⟨i1,?_,fun t=> ?_,i4,i6⟩
   ·rw[show (jJx W).length-(i+1)=(jJx W).length-i-1 by omega,show (jJx W).length-i-1-1=(jJx W).length-i-2 by omega];omega
   ·rw[i3 t]
    constructor
    ·rintro⟨i',j',f,s,ab,h,h2,h3⟩
     exact⟨i',j',f,s,ab,by omega,h2,h3⟩
    ·rintro⟨i',j',f,s,ab,h,h2,h3,h4',h5'⟩
     have:=(lJi.mp h4').1
     exact⟨i',j',f,s,ab,by omega,h2,h3,h4',h5'⟩
 ·intro τ G2 h_;apply xe4 h_;clear h_;intro v3 v4 v5 acc h_;apply ae5 h_;clear h_;intro h1 h2 h3 h4 h5
  wp_walk using 1,iSeq,jJj h1,kJv
  have e0:(encW W::acc).map (fun t:T=>t)=encW W::acc:=by simp
  refine (show jU0 _ _ _ _ _ ((encW W::acc).map fun t=>t) _ G2 Q->jU0 _ _ _ _ _ (encW W::acc) _ G2 Q from fun h=>by rwa [e0] at h) ?_
  have hn:(numT ((jJx W).map encT)).length=(jJx W).length:=by rw[jK2,lJh]
  rw[hn] at h2 h3
  have h72:(encW W::acc).length<=73:=by rw[lKl];omega
  refine jUk (fun t=>if jQq t=true then none else some t) (by omega) (fun G' s=>jJj (s _ _ h1)) ?_ ?_
  ·intro i t ht G' K K0 s hK hK0
   wp_walk using 1,kJv
   have key:if jQq t=false then K t G' else K0 G':=by
    cases hc:jQq t with
    | true=>rw[lJb (by decide)];exact hK0 (by rw[lJc hc]) _ (.refl _)
    | false=>rw[lJc rfl];exact hK _ _ (by rw[lJb (by rw[hc];decide)]) (.refl _)
   exact key
  ·intro D G3 hD hD3 s3
   have mem:∀t,t∈(encW W::acc).filterMap (fun t=>if jQq t=true then none else some t)↔t∈encW W::acc/\jQq t=false:=by
    intro t
    rw[lQ1]
    constructor
    ·rintro⟨x,hx,e⟩
     by_cases hc:jQq x=true
     ·rw[lJc hc] at e;cases e
     ·rw[lJb hc] at e;cases e;exact⟨hx,by simpa using hc⟩
    ·rintro⟨hx,hc⟩
     exact⟨t,hx,by rw[lJb (by rw[hc];decide)]⟩
   obtain⟨Vs,eV,hV⟩:=jYz (enc:=encW) ((encW W::acc).filterMap (fun t=>if jQq t=true then none else some t)) (fun _ V=>Fine V/\V.length=W.length) fun i t ht=>by
    obtain⟨m1,m2⟩:=(mem t).mp (lJy ht)
    rcases (lJk.mp m1) with rfl | m1
    ·exact⟨W,rfl,fine,rfl⟩
    obtain⟨i,j,f,s,ab,_,_,hi,hj,hab,rfl⟩:=(h3 t).mp m1
    rcases qUq (jVs fine sym hw1 hi hj hab) with z | ⟨V,z,z2⟩
    ·rw[z] at m2;cases m2
    ·exact⟨V,z,z2⟩
   refine kk D Vs G3 ((s1.trans h5).none hD) (by rw[hD3,eV]) ?_ ?_ (fun V=> ?_) (fun V hv=> ?_) ((s1.trans h5).trans s3)
   ·have h0:encW W∈Vs.map encW:=by rw[<-eV];exact (mem _).mpr ⟨lJx ..,rfl⟩
    have:=List.length_pos_of_mem h0
    rw[lJh] at this;exact this
   ·have:=lKp List.length eV
    rw[lJh] at this
    rw[<-this]
    exact lKo (lYp _ _) h72
   ·constructor
    ·intro hv
     have:encW V∈Vs.map encW:=lQ8 hv
     rw[<-eV] at this
     rcases lJk.mp ((mem _).mp this).1 with e | m1
     ·exact .inl (jX6 _ _ e)
     obtain⟨i,j,f,s,ab,_,a1,a2,a3,a4,a5⟩:=(h3 _).mp m1
     exact .inr ⟨i,j,f,s,ab,a1,a2,a3,a4,a5.symm⟩
    ·rintro (rfl | ⟨i,j,f,s,ab,a1,a2,a3,a4,a5⟩)
     ·have h0:encW V∈Vs.map encW:=by rw[<-eV];exact (mem _).mpr ⟨lJx ..,rfl⟩
      obtain⟨V',hV',e⟩:=lJl.mp h0
      rw[<-jX6 _ _ e];exact hV'
     have:encW V∈Vs.map encW:=by
      rw[<-eV]
      exact (mem _).mpr ⟨lJz _ ((h3 _).mpr ⟨i,j,f,s,ab,(lJi.mp a2).1,a1,a2,a3,a4,a5.symm⟩),rfl⟩
     obtain⟨V',hV',e⟩:=lJl.mp this
     rw[<-jX6 _ _ e];exact hV'
   ·obtain⟨i,hi⟩:=lKg hv
    exact hV i V hi
def jKo (r:Nat) (es:List (Nat×Nat)):Nat:=(es.getLast?.map Prod.fst).getD r
def goW (W:Web) (r:Nat) (ds:List Nat):Option (List (Nat×Nat)):=ds.foldl (fun o d=>o.bind fun es=>(en W (jKo r es) d).map fun e=>es++[e]) (some [])
theorem kJ9 {W:Web} {r d:Nat} {ds:List Nat}:goW W r (ds++[d])=(goW W r ds).bind fun es=>(en W (jKo r es) d).map fun e=>es++[e]:=by
 unfold goW;rw[List.foldl_append];rfl
theorem qQk {W:Web} {r:Nat} {ds ds':List Nat} (h:goW W r ds=none):goW W r (ds++ds')=none:=by
 unfold goW at h ⊢
 rw[List.foldl_append,h]
 induction ds' with
 | nil=>rfl
 | cons a as ih=>exact ih
theorem jQ5 {r:Nat} {es:List (Nat×Nat)} {e:Nat×Nat}:jKo r (es++[e])=e.1:=by simp[jKo]
theorem qU5 {α:Type} {P:List α->Prop} (h0:P []) (h1:∀ds d,P ds->P (ds++[d])) (ds:List α):P ds:=by
 have:∀l:List α,P l.reverse:=by
  intro l
  induction l with
  | nil=>exact h0
  | cons a as ih=>rw[List.reverse_cons];exact h1 _ _ ih
 have h:=this ds.reverse
 rwa [List.reverse_reverse] at h
theorem kVh {W:Web} (f:Fine W) {r:Nat} (hr:r<W.length):∀ {ds:List Nat} {es:List (Nat×Nat)},goW W r ds=some es->jKo r es<W.length/\es.length=ds.length/\∀e,e∈es->e.1<W.length:=by
 intro ds
 refine qU5 (P:=fun ds=>∀ {es:List (Nat×Nat)},goW W r ds=some es->jKo r es<W.length/\es.length=ds.length/\∀e,e∈es->e.1<W.length) ?_ ?_ ds
 ·intro es h;cases h;exact⟨hr,rfl,fun e he=>by cases he⟩
 ·intro ds d ih es h
  rw[kJ9] at h
  cases e1:goW W r ds with
  | none=>rw[e1] at h;cases h
  | some es1=>
   rw[e1] at h
   obtain⟨a1,a2,a3⟩:=ih e1
   simp only[lVk] at h
   cases e2:en W (jKo r es1) d with
   | none=>rw[e2] at h;cases h
   | some e=>
    rw[e2] at h;cases h
    have he:=f.rng _ _ e.1 e.2 e2
    refine⟨by rw[jQ5];exact he,by simp[a2],fun x hx=> ?_⟩
    rw[lJt,lJ4] at hx
    rcases hx with hx | rfl
    ·exact a3 x hx
    ·exact he
theorem kJ8 {W:Web} {r i d:Nat} {ds:List Nat} (hd:ds[i]? =some d):goW W r (ds.take (i+1))=(goW W r (ds.take i)).bind fun es=>(en W (jKo r es) d).map fun e=>es++[e]:=by
 rw[lVg,hd];exact kJ9
theorem kZw {W:Web} {r i d:Nat} {ds:List Nat} {es:List (Nat×Nat)} (hd:ds[i]? =some d) (h:goW W r (ds.take i)=some es) (hn:en W (jKo r es) d=none):goW W r ds=none:=by
 have:goW W r (ds.take (i+1))=none:=by rw[kJ8 hd,h];simp[hn]
 have h2:=qQk (ds':=ds.drop (i+1)) this
 rwa [lK3] at h2
noncomputable def jXg:Sp3:=fun xs G Q=>∃(W:Web) (r:Nat) (x:T) (ds:List Nat),xs=[encW W,.int r,x]/\Fine W/\r<W.length/\seqT G x=some (jJq ds)/\ds.length<=1000/\∀G',Sub G G'->(goW W r ds=none->Q .non G')/\(∀es p,goW W r ds=some es->G p=none->G' p=some (.lst (es.map encE))->Q (.ref p) G')
def qJs:List Str:=["web","room","way","ends","here","door","end"]
noncomputable def jXk:TS3:=
 (tSeq (tAsg (tLst tNil) (jJe 3))
 (tSeq (tAsg (tVar 1) (jJe 4))
 (tSeq (tFor (iSeq (tVar 2)) (jJe 5) (tSeq (tIfS (tNot (jJw (kX2 rLeF rLt (tC (.int 0)) (tVar 5) (tCB rLen (jJb (tOp rIxF (tVar 0) (tVar 4)) tNil))))) (tRet (tC .non)) jKe)
 (tSeq (tAsg (tOp rIxF (tOp rIxF (tVar 0) (tVar 4)) (tVar 5)) (jJe 6))
 (tSeq (jK7 (tBM "list" jJ6 (tVar 3) (jJb (tVar 6) tNil)))
 (tAsg (tOp rIxF (tVar 6) (tC (.int 0))) (jJe 4))))))
 (tRet (tVar 3)))))
theorem jVg {W:Web} {r:Nat} (hr:r<W.length):∃es,W[r]? =some es/\∀d,en W r d=es[d]? :=⟨W[r],lJo hr,fun d=>by unfold en;rw[lJo hr];rfl⟩
theorem kKu:RdOk jXg jXk qJs:=by
 intro xs G Q h_;apply xe4 h_;clear h_;intro W r x ds h_;apply ae5 h_;clear h_;intro fine hr hx hdl kk
 show jXk _ [some (.tup (W.map encR)),some (.int r),some x,none,none,none,none] G
 have hs:=sz
 wp_walk using 1,jXk,jJ3,iSeq
 refine⟨lJu _,fun p hp=> ?_⟩
 refine⟨jJq ds,(Sub.new hp).seq hx,?_⟩
 refine⟨fun i τ G'=>∃(v5 v6:Option T) (es:List (Nat×Nat)),τ=[some (.tup (W.map encR)),some (.int r),some x,some (.ref p),some (.int (jKo r es:Nat)),v5,v6]/\goW W r (ds.take i)=some es/\G' p=some (.lst (es.map encE))/\Sub G G',?_,?_,?_,?_⟩
 ·exact⟨none,none,[],rfl,rfl,jJh,.new hp⟩
 ·intro i τ G' hi h_;apply xe3 h_;clear h_;intro v5 v6 es h_;apply ae3 h_;clear h_;intro h1 h2 h3
  exact h3.seq hx
 ·intro i y τ G1 hy h_;apply xe3 h_;clear h_;intro v5 v6 es h_;apply ae3 h_;clear h_;intro h1 h2 h3
  obtain⟨d,hd,rfl⟩:=jJ7 hy
  have hi:i<ds.length:=(lJi.mp hd).1
  obtain⟨b1,b2,b3⟩:=kVh fine hr h1
  obtain⟨row,hrow,hen⟩:=jVg b1
  have hrl:=fine.row _ _ hrow
  rw[lK1] at b2
  have hatR:=jKl hrow
  wp_walk using 1,kX2,rLeF,hatR,encR,List.length_map
  rw[lJc (by omega)]
  by_cases hdr:d<row.length
  ·have hed:row[d]? =some row[d]:=lJo hdr
   generalize row[d]=e at hed
   have heR:=kKh hed
   wp_walk using 1,heR,show decide ((d:Int)<(row.length:Int))=true by simp;omega,encE,jKy h2,h2,List.length_map
   refine⟨by omega,_,_,es++[e],by rw[jQ5],rfl,rfl,?_,by simp[encE],h3.over hp⟩
   rw[kJ8 hd,h1]
   simp[hen,hed]
  ·have hnone:row[d]? =none:=lKq (by omega)
   wp_walk using 1,show decide ((d:Int)<(row.length:Int))=false by simp;omega
   exact (kk G1 h3).1 (kZw hd h1 (by rw[hen];exact hnone))
 ·intro τ G1 h_;apply xe3 h_;clear h_;intro v5 v6 es h_;apply ae3 h_;clear h_;intro h1 h2 h3
  wp_walk using 1,tSeq
  have e1:(jJq ds).length=ds.length:=by simp[jJq]
  rw[e1,lVu] at h1
  exact (kk G1 h3).2 es p h1 hp h2
abbrev Stp:=Nat×Nat×Nat
abbrev jVr:=Nat×List Stp
def jZa (s:Stp):T:= .tup [.int s.1,.int s.2.1,.int s.2.2]
def jZp (S:jVr):T:= .tup [.int S.1,.tup (S.2.map jZa)]
def dg (W:Web) (r:Nat):Nat:=((W[r]?).getD []).length
theorem kQa {W:Web} {r:Nat} {es:List (Nat×Nat)} (h:W[r]? =some es):dg W r=es.length:=by rw[dg,h];rfl
def FitR (W:Web):Nat->List Stp->Prop
 | _,[]=>True
 | r,s::ss=>∃e,en W r s.1=some e/\e.2=s.2.1/\dg W e.1=s.2.2/\FitR W e.1 ss
def Fit (W:Web) (r:Nat) (S:jVr):Prop:=dg W r=S.1/\FitR W r S.2
theorem kKa {W:Web} {r:Nat}:∀(ds:List Nat) (pre:List (Nat×Nat)),ds.foldl (fun o d=>o.bind fun es=>(en W (jKo r es) d).map fun e=>es++[e]) (some pre)=(goW W (jKo r pre) ds).map (pre++ ·)
 | [],pre=>by simp[goW]
 | d::ds,pre=>by
  unfold goW
  rw[lXa,(lXa)]
  simp only[lVk]
  rw[show jKo (jKo r pre) []=jKo r pre from rfl]
  cases e:en W (jKo r pre) d with
  | none=>
   have hn:∀(q:Nat) (l:List Nat),l.foldl (fun o d=>o.bind fun es=>(en W (jKo q es) d).map fun e=>es++[e]) none=none:=by
    intro q l
    induction l with
    | nil=>rfl
    | cons a l ih=>exact ih
   simp only[Option.map_none]
   rw[hn,hn];rfl
  | some x=>
   simp only[lQj,lXr]
   rw[kKa ds (pre++[x]),jQ5]
   have:=kKa (W:=W) (r:=jKo r pre) ds [x]
   rw[this,Option.map_map]
   rw[show jKo (jKo r pre) [x]=x.1 from rfl]
   congr 1;funext l;simp
theorem qQl {W:Web} {r d:Nat} {ds:List Nat}:goW W r (d::ds)=(en W r d).bind fun e=>(goW W e.1 ds).map (e:: ·):=by
 unfold goW
 rw[lXa]
 simp only[lVk]
 rw[show jKo r []=r from rfl]
 cases e:en W r d with
 | none=>
  have hn:∀(l:List Nat),l.foldl (fun o d=>o.bind fun es=>(en W (jKo r es) d).map fun e=>es++[e]) none=none:=by
   intro l
   induction l with
   | nil=>rfl
   | cons a l ih=>exact ih
  exact hn ds
 | some x=>
  have:=kKa (W:=W) (r:=r) ds [x]
  rw[show jKo r [x]=x.1 from rfl] at this
  exact this
theorem kKd {W:Web}:∀(ss:List Stp) (r:Nat),FitR W r ss↔∃es,goW W r (ss.map (·.1))=some es/\es.map (fun e=>(e.2,dg W e.1))=ss.map fun s=>(s.2.1,s.2.2)
 | [],r=>⟨fun _=>⟨[],rfl,rfl⟩,fun _=>trivial⟩
 | s::ss,r=>by
  rw[lJn,qQl]
  constructor
  ·rintro⟨e,h1,h2,h3,h4⟩
   obtain⟨es,g1,g2⟩:=(kKd ss e.1).mp h4
   exact⟨e::es,by rw[h1,lVk,g1];rfl,by rw[lJn,lJn,g2,h2,h3]⟩
  ·rintro⟨es,g1,g2⟩
   cases h:en W r s.1 with
   | none=>rw[h] at g1;cases g1
   | some e=>
    rw[h,lVk] at g1
    cases h2:goW W e.1 (ss.map (·.1)) with
    | none=>rw[h2] at g1;cases g1
    | some fs=>
     rw[h2] at g1
     cases g1
     rw[lJn,lJn,lVy,Prod.mk.injEq] at g2
     exact⟨e,h,g2.1.1,g2.1.2,(kKd ss e.1).mpr ⟨fs,h2,g2.2⟩⟩
theorem okD_non:OkD 0 .non:=⟨rfl,rfl,Nat.le_of_eq (by simp[td,PyData.depth]),by simp[eqT]⟩
theorem okD_enc {e:Nat×Nat}:OkD 1 (encE e):=qKr (w:=[e.1,e.2])
theorem kZ3 {G:Gp} {x y:T} {d:Nat} (hx:OkD d x) (hy:OkD d y) (hd:d<=50) (hr:∀p,x≠ .ref p):eqG G x y=some (eqT x y):=by
 have ok:∀ {z:T},OkD d z->eqOk z=true:=fun {z} h=>by
  unfold eqOk
  rw[h.tr,h.lay,lJ1 (show (td z).depth<=50 by have:=h.dep;omega)];rfl
 have:eqG G x y=if eqOk x=true/\eqOk y=true then some (eqT x y) else none:=by
  cases x with
  | ref p=>exact absurd rfl (hr p)
  | _=>rfl
 rw[this,lJc ⟨ok hx,ok hy⟩]
theorem qXd {e f:Nat×Nat}:eqT (encE e) (encE f)=decide (e=f):=by
 have:=jY9 (G:=fun _=>none) (e:=e) (f:=f)
 rw[kZ3 okD_enc okD_enc (by decide) (fun p z=>by cases z)] at this
 exact lJw this
theorem kK8:∀ {a b:List (Nat×Nat)},eqTs (a.map encE) (b.map encE)=decide (a=b)
 | [],[]=>rfl
 | [],_::_=>by simp[eqTs]
 | _::_,[]=>by simp[eqTs]
 | x::a,y::b=>by
  rw[lJn,lJn,eqTs,qXd,kK8]
  simp
def qKa (S:jVr):T:= .tup (.int S.1::S.2.map fun s=>encE (s.2.1,s.2.2))
noncomputable def kQs:Sp3:=fun xs G Q=>∃(W:Web) (r:Nat) (x:T) (ds:List Nat),xs=[encW W,.int r,x]/\Fine W/\r<W.length/\seqT G x=some (jJq ds)/\ds.length<=1000/\∀t G',(t=(match goW W r ds with | none=> .non | some es=> .tup (.int (dg W r:Nat)::es.map fun e=>encE (e.2,dg W e.1))))->Sub G G'->Q t G'
def N_seen:List Str:=["web","room","way","ends","end"]
noncomputable def kQ3:TS3:=
 (tSeq (tAsg (jJ0 jXg (jJb (tVar 0) (jJb (tVar 1) (jJb (tVar 2) tNil)))) (jJe 3))
 (tSeq (tIfS (jJw (tOp rIsN (tVar 3) (tC .non))) (tRet (tC .non)) jKe)
 (tRet (tCB jJv (jJb (tOp jKn (tLst (jJb (tCB rLen (jJb (tOp rIxF (tVar 0) (tVar 1)) tNil)) tNil)) (jKf [false,false,false,false,true] (iSeq (tVar 3)) (jJe 4) jQh (tTup (jJb (tOp rIxF (tVar 4) (tC (.int 1))) (jJb (tCB rLen (jJb (tOp rIxF (tVar 0) (tOp rIxF (tVar 4) (tC (.int 0)))) tNil)) tNil))))) tNil)))))
theorem kYi:RdOk kQs kQ3 N_seen:=by
 intro xs G Q h_;apply xe4 h_;clear h_;intro W r x ds h_;apply ae5 h_;clear h_;intro fine hr hx hdl kk
 show kQ3 _ [some (.tup (W.map encR)),some (.int r),some x,none,none] G
 have hs:=sz
 wp_walk using 1,kQ3
 refine⟨W,r,x,ds,rfl,fine,hr,hx,hdl,fun G1 s1=>⟨fun hn=> ?_,fun es p he hp hp1=> ?_⟩⟩
 ·wp_walk using 1,tSeq
  exact kk _ G1 (by rw[hn]) s1
 ·obtain⟨b1,b2,b3⟩:=kVh fine hr he
  obtain⟨row,hrow,hen⟩:=jVg hr
  wp_walk using 1,iSeq,hp1,jKl hrow,encR,List.length_map
  refine⟨by omega,fun q hq=> ?_⟩
  have hpq:=jJi hp1 hq
  refine⟨es.map encE,jJj (by rw[jJp hpq];exact hp1),?_⟩
  refine jQs (fun e=>encE (e.2,dg W e.1)) (by omega) (fun G' s=>jJj (s _ _ (by rw[jJp hpq];exact hp1))) ?_ ?_
  ·intro i e hei G2 K K0 s hk
   obtain⟨row',hrow',_⟩:=jVg (b3 e (lJy hei))
   wp_walk using 1,encE,jKl hrow',encR,List.length_map
   refine⟨by omega,?_⟩
   rw[kQa hrow'] at hk
   exact hk G2 (.refl _)
  ·intro D G2 hD h1 h2
   have hq2:=h2 _ _ (jJh (G:=G1) (a:=q) (o:= .lst [T.int (row.length:Nat)]))
   refine⟨_,kKm hq2 h1 (by simp;omega),?_⟩
   rw[kKe]
   intro u hu
   refine⟨_,jYd,?_⟩
   exact kk _ _ (by rw[he,kQa hrow];rfl) (((s1.trans (.new hq)).trans h2).trans (.new hu))
def jYo:Sp3:=fun xs G Q=>∃S:jVr,xs=[jZp S]/\S.2.length<=1000/\∀G',Sub G G'->Q (.tup (jJq (S.2.map (·.1)))) G'
def qQ0:List Str:=["story","step"]
noncomputable def jYu:TS3:=
 (tRet (tCB jJv (jJb (jKf [false,true] (iSeq (tOp rIxF (tVar 0) (tC (.int 1)))) (jJe 1) jQh (tOp rIxF (tVar 1) (tC (.int 0)))) tNil)))
theorem kQy:RdOk jYo jYu qQ0:=by
 intro xs G Q h_;apply xe1 h_;clear h_;intro S h_;apply ae2 h_;clear h_;intro hl kk
 show jYu _ [some (.tup [.int S.1,.tup (S.2.map jZa)]),none] G
 have hs:=sz
 wp_walk using 1,jYu,iSeq
 refine jQs (es:=S.2) (enc:=jZa) (fun s=>T.int (s.1:Nat)) (by omega) (fun _ _=>trivial) ?_ ?_
 ·intro i s hi G' K K0 sb hk
  wp_walk using 1,jZa
  exact hk G' (.refl _)
 ·intro D G1 hD h1 s1
  refine⟨_,jJj h1,?_⟩
  have:=kk G1 s1
  rw[jJq,lQb] at this
  exact this
def jXd:Sp3:=fun xs G Q=>∃S:jVr,xs=[jZp S]/\S.2.length<=1000/\∀G',Sub G G'->Q (qKa S) G'
def qJp:List Str:=["story","step"]
noncomputable def jXh:TS3:=
 (tRet (tCB jJv (jJb (tOp jKn (tLst (jJb (tOp rIxF (tVar 0) (tC (.int 0))) tNil)) (jKf [false,true] (iSeq (tOp rIxF (tVar 0) (tC (.int 1)))) (jJe 1) jQh (tTup (jJb (tOp rIxF (tVar 1) (tC (.int 1))) (jJb (tOp rIxF (tVar 1) (tC (.int 2))) tNil))))) tNil)))
theorem kKr:RdOk jXd jXh qJp:=by
 intro xs G Q h_;apply xe1 h_;clear h_;intro S h_;apply ae2 h_;clear h_;intro hl kk
 show jXh _ [some (.tup [.int S.1,.tup (S.2.map jZa)]),none] G
 have hs:=sz
 wp_walk using 1,jXh,iSeq
 refine⟨by omega,fun q hq=> ?_⟩
 refine jQs (es:=S.2) (enc:=jZa) (fun s=>encE (s.2.1,s.2.2)) (by omega) (fun _ _=>trivial) ?_ ?_
 ·intro i s hi G' K K0 sb hk
  wp_walk using 1,jZa
  exact⟨by omega,hk G' (.refl _)⟩
 ·intro D G1 hD h1 s1
  have hq2:=s1 _ _ (jJh (G:=G) (a:=q) (o:= .lst [T.int (S.1:Nat)]))
  refine⟨_,kKm hq2 h1 (by simp;omega),?_⟩
  rw[kKe]
  intro u hu
  exact⟨_,jYd,kk _ (((Sub.new hq).trans s1).trans (.new hu))⟩
theorem kJ0 {n:Nat} {ps:List (Nat×Nat)}:OkD 2 (.tup (.int (n:Nat)::ps.map encE)):=kY9 fun x hx=>by
 rcases (lJk.mp hx) with rfl | hx
 ·exact okD_int.mono (by decide)
 ·obtain⟨e,_,rfl⟩:=lJl.mp hx;exact okD_enc
theorem qQn {n m:Nat} {ps qs:List (Nat×Nat)}:eqT (.tup (.int (n:Nat)::ps.map encE)) (.tup (.int (m:Nat)::qs.map encE))=decide (n=m/\ps=qs):=by
 show (eqT (.int n) (.int m)&&eqTs (ps.map encE) (qs.map encE))=_
 rw[kK8]
 have:eqT (.int (n:Nat)) (.int (m:Nat))=decide (n=m):=by
  by_cases h:n=m
  ·subst h;simp[eqT]
  ·have h2:¬ (n:Int)=m:=by omega
   rw[lJq h];simpa[eqT] using h2
 rw[this];simp
noncomputable def kQt:Sp3:=fun xs G Q=>∃(W:Web) (r:Nat) (S:jVr),xs=[encW W,.int r,jZp S]/\Fine W/\r<W.length/\S.2.length<=1000/\∀(b:Bool) G',(b=true↔Fit W r S)->Sub G G'->Q (.bl b) G'
def N_fits:List Str:=["web","room","story"]
noncomputable def kQ4:TS3:=
 (tRet (tOp rEqA (jJ0 kQs (jJb (tVar 0) (jJb (tVar 1) (jJb (jJ0 jYo (jJb (tVar 2) tNil)) tNil)))) (jJ0 jXd (jJb (tVar 2) tNil))))
theorem kYj:RdOk kQt kQ4 N_fits:=by
 intro xs G Q h_;apply xe3 h_;clear h_;intro W r S h_;apply ae4 h_;clear h_;intro fine hr hl kk
 show kQ4 _ [some (encW W),some (.int r),some (jZp S)] G
 wp_walk using 1,kQ4,rEqA
 refine⟨S,rfl,hl,fun G1 s1=>⟨W,r,_,S.2.map (·.1),rfl,fine,hr,rfl,by simpa using hl,fun t G2 ht s2=>⟨S,rfl,hl,fun G3 s3=> ?_⟩⟩⟩
 have sb:=(s1.trans s2).trans s3
 cases hg:goW W r (S.2.map (·.1)) with
 | none=>
  rw[hg] at ht
  subst ht
  refine⟨false,?_,kk false G3 ⟨(fun z=>by cases z),fun h=> ?_⟩ sb⟩
  ·rw[kZ3 (d:=2) (okD_non.mono (by decide)) (by unfold qKa;rw[show (S.2.map fun s=>encE (s.2.1,s.2.2))=(S.2.map fun s=>(s.2.1,s.2.2)).map encE by rw[lQb];rfl];exact kJ0) (by decide) (fun p z=>by cases z)];rfl
  ·obtain⟨es,h1,_⟩:=(kKd S.2 r).mp h.2
   rw[hg] at h1;cases h1
 | some es=>
  rw[hg] at ht
  replace ht:t= .tup (.int (dg W r:Nat)::es.map fun e=>encE (e.2,dg W e.1)):=ht
  subst ht
  have e1:(es.map fun e=>encE (e.2,dg W e.1))=(es.map fun e=>(e.2,dg W e.1)).map encE:=by rw[lQb];rfl
  have e2:(S.2.map fun s=>encE (s.2.1,s.2.2))=(S.2.map fun s=>(s.2.1,s.2.2)).map encE:=by rw[lQb];rfl
  refine⟨_,kZ3 (d:=2) (by rw[e1];exact kJ0) (by unfold qKa;rw[e2];exact kJ0) (by decide) (fun p z=>by cases z),kk _ G3 ?_ sb⟩
  unfold qKa
  rw[e1,e2,qQn,lKx,Fit,kKd]
  constructor
  ·rintro⟨h1,h2⟩;exact⟨h1,es,hg,h2⟩
  ·rintro⟨h1,fs,h2,h3⟩
   rw[hg] at h2;cases h2;exact⟨h1,h3⟩
def jUd (W:Web) (ds:List Nat) (es:List (Nat×Nat)):List Stp:=(ds.zip es).map fun p=>(p.1,p.2.2,dg W p.2.1)
theorem kKp {W:Web} {ds:List Nat} {es:List (Nat×Nat)} {d:Nat} {e:Nat×Nat} (h:ds.length=es.length):jUd W (ds++[d]) (es++[e])=jUd W ds es++[(d,e.2,dg W e.1)]:=by
 unfold jUd
 rw[List.zip_append h,lQv];rfl
theorem jYn {W:Web} {ds:List Nat} {es:List (Nat×Nat)}:(jUd W ds es).length<=ds.length:=by
 simp[jUd];omega
noncomputable def jXe:Sp3:=fun xs G Q=>∃(W:Web) (r:Nat) (ds:List Nat) (es:List (Nat×Nat)),xs=[encW W,.int r,.tup (jJq ds)]/\Fine W/\r<W.length/\ds.length<=1000/\goW W r ds=some es/\∀G',Sub G G'->Q (jZp (dg W r,jUd W ds es)) G'
def qJq:List Str:=["_law_web_here","_law_room","_law_way_here","_law_path","_law_doors","_law_door","_law_came"]
noncomputable def jXi:TS3:=
 (tSeq (tAsg (tLst tNil) (jJe 3))
 (tSeq (tAsg (tCB rLen (jJb (tOp rIxF (tVar 0) (tVar 1)) tNil)) (jJe 4))
 (tSeq (tFor (iSeq (tVar 2)) (jJe 5) (tSeq (tAsg (tOp rIxF (tOp rIxF (tVar 0) (tVar 1)) (tVar 5)) (gTup 2 (jJu (jJe 1) (jJu (jJe 6) gNil))))
 (jK7 (tBM "list" jJ6 (tVar 3) (jJb (tTup (jJb (tVar 5) (jJb (tVar 6) (jJb (tCB rLen (jJb (tOp rIxF (tVar 0) (tVar 1)) tNil)) tNil)))) tNil)))))
 (tRet (tTup (jJb (tVar 4) (jJb (tCB jJv (jJb (tVar 3) tNil)) tNil)))))))
theorem kKs:RdOk jXe jXi qJq:=by
 intro xs G Q h_;apply xe4 h_;clear h_;intro W r ds es h_;apply ae5 h_;clear h_;intro fine hr hdl hg kk
 show jXi _ [some (.tup (W.map encR)),some (.int r),some (.tup (jJq ds)),none,none,none,none] G
 have hs:=sz
 obtain⟨row,hrow,hen⟩:=jVg hr
 have hrl:=fine.row _ _ hrow
 wp_walk using 1,jXi,jJ3,iSeq,jKl hrow,encR,List.length_map
 refine⟨lJu _,fun p hp=> ?_⟩
 let J1:Nat->St3->Gp->Prop:=fun i τ G'=>∃(v5 v6:Option T) (fs:List (Nat×Nat)),τ=[some (.tup (W.map encR)),some (.int (jKo r fs:Nat)),some (.tup (jJq ds)),some (.ref p),some (.int (row.length:Nat)),v5,v6]/\goW W r (ds.take i)=some fs/\G' p=some (.lst ((jUd W (ds.take i) fs).map jZa))/\Sub G G'
 refine⟨J1,?_,?_,?_,?_⟩
 ·exact xi3 none none [] rfl ⟨rfl,jJh,.new hp⟩
 ·intros;trivial
 ·intro i y τ G1 hy h_;apply xe3 h_;clear h_;intro v5 v6 fs h_;apply ae3 h_;clear h_;intro h1 h2 h3
  obtain⟨d,hd,rfl⟩:=jJ7 hy
  have hi:i<ds.length:=(lJi.mp hd).1
  obtain⟨c1,c2,c3⟩:=kVh fine hr h1
  obtain⟨row1,hrow1,hen1⟩:=jVg c1
  rw[lK1] at c2
  cases he:en W (jKo r fs) d with
  | none=>rw[kZw hd h1 he] at hg;cases hg
  | some e=>
   have he1:=fine.rng _ _ e.1 e.2 he
   obtain⟨row2,hrow2,hen2⟩:=jVg he1
   have hr2:=fine.row _ _ hrow2
   have hed:row1[d]? =some e:=by rw[<-hen1];exact he
   wp_walk using 1,jKl hrow1,encR,kKh hed,encE,jKl hrow2,List.length_map,jKy h2,h2
   have hl:=jYn (W:=W) (ds:=ds.take i) (es:=fs)
   rw[lK1] at hl
   refine⟨by omega,by omega,xi3 _ _ (fs++[e]) (by rw[jQ5]) ⟨?_,?_,h3.over hp⟩⟩
   ·rw[kJ8 hd,h1];simp[he]
   ·rw[jJh,lVg,hd]
    rw[show (some d).toList=[d] from rfl,kKp (by rw[lK1];omega),lQv,kQa hrow2];rfl
 ·intro τ G1 h_;apply xe3 h_;clear h_;intro v5 v6 fs h_;apply ae3 h_;clear h_;intro h1 h2 h3
  have e1:(jJq ds).length=ds.length:=by simp[jJq]
  rw[e1,lVu] at h1 h2
  rw[hg] at h1;cases h1
  wp_walk using 1,tSeq
  refine⟨_,jJj h2,?_⟩
  have:=kk G1 h3
  rw[jZp,kQa hrow] at this
  exact⟨by omega,this⟩
def LastT (W:Web) (r:Nat) (S:jVr) (t:T):Prop:=(t= .non/\¬ Fit W r S)\/((∃q:Nat,t= .int q)/\Fit W r S)
def jYr:Sp3:=fun xs G Q=>∃(W:Web) (r:Nat) (S:jVr),xs=[encW W,.int r,jZp S]/\Fine W/\r<W.length/\S.2.length<=1000/\∀t G',LastT W r S t->Sub G G'->Q t G'
def qQ3:List Str:=["_law_web_here","_law_room","_law_story_here","_law_door","_law_came","_law_doors","_law_back"]
noncomputable def jYy:TS3:=
 (tSeq (tIfS (jJw (tOp rNeA (tCB rLen (jJb (tOp rIxF (tVar 0) (tVar 1)) tNil)) (tOp rIxF (tVar 2) (tC (.int 0))))) (tRet (tC .non)) jKe)
 (tSeq (tFor (iSeq (tOp rIxF (tVar 2) (tC (.int 1)))) (gTup 3 (jJu (jJe 3) (jJu (jJe 4) (jJu (jJe 5) gNil)))) (tSeq (tIfS (jJw (tOp rGe (tVar 3) (tCB rLen (jJb (tOp rIxF (tVar 0) (tVar 1)) tNil)))) (tRet (tC .non)) jKe)
 (tSeq (tAsg (tOp rIxF (tOp rIxF (tVar 0) (tVar 1)) (tVar 3)) (gTup 2 (jJu (jJe 1) (jJu (jJe 6) gNil))))
 (tIfS (tOr (jJw (tOp rNeA (tVar 6) (tVar 4))) (jJw (tOp rNeA (tCB rLen (jJb (tOp rIxF (tVar 0) (tVar 1)) tNil)) (tVar 5)))) (tRet (tC .non)) jKe))))
 (tRet (tVar 1))))
theorem kQ1:RdOk jYr jYy qQ3:=by
 intro xs G Q h_;apply xe3 h_;clear h_;intro W r S h_;apply ae4 h_;clear h_;intro fine hr hl kk
 show jYy _ [some (.tup (W.map encR)),some (.int r),some (.tup [.int S.1,.tup (S.2.map jZa)]),none,none,none,none] G
 have hs:=sz
 obtain⟨row,hrow,hen⟩:=jVg hr
 wp_walk using 1,jYy,jJ3,iSeq,rNeA,jKl hrow,encR,List.length_map
 refine⟨_,jVp,?_⟩
 by_cases h0:row.length=S.1
 ·rw[lJb (by simpa using h0)]
  have hf:Fit W r S↔FitR W r S.2:=⟨fun h=>h.2,fun h=>⟨by rw[kQa hrow];exact h0,h⟩⟩
  let J1:Nat->St3->Gp->Prop:=fun i τ G'=>∃(q:Nat) (v3 v4 v5 v6:Option T),τ=[some (.tup (W.map encR)),some (.int (q:Nat)),some (.tup [.int S.1,.tup (S.2.map jZa)]),v3,v4,v5,v6]/\q<W.length/\(Fit W r S↔FitR W q (S.2.drop i))/\Sub G G'
  refine⟨J1,?_,?_,?_,?_⟩
  ·exact xi5 r _ _ _ _ rfl ⟨hr,hf,.refl _⟩
  ·intros;trivial
  ·intro i y τ G1 hy h_;apply xe5 h_;clear h_;intro q v3 v4 v5 v6 h_;apply ae3 h_;clear h_;intro hq hi s1
   obtain⟨s,hsi,rfl⟩:=jJ7 hy
   have hil:i<S.2.length:=(lJi.mp hsi).1
   have hdrop:S.2.drop i=s::S.2.drop (i+1):=by
    rw[lYi hil]
    rw[lJo hil] at hsi;cases hsi;rfl
   rw[hdrop] at hi
   obtain⟨row1,hrow1,hen1⟩:=jVg hq
   have hr1:=fine.row _ _ hrow1
   wp_walk using 1,jZa,rNeA,jKl hrow1,encR,List.length_map
   by_cases hd:s.1<row1.length
   ·rw[lJb (by omega)]
    have hed:row1[s.1]? =some row1[s.1]:=lJo hd
    generalize row1[s.1]=e at hed
    have he:en W q s.1=some e:=by rw[hen1];exact hed
    have he1:=fine.rng _ _ e.1 e.2 he
    obtain⟨row2,hrow2,hen2⟩:=jVg he1
    wp_walk using 1,kKh hed,encE,jKl hrow2,encR,List.length_map
    refine⟨_,jVp,?_⟩
    by_cases h1:e.2=s.2.1
    ·rw[lJb (by simpa using h1)]
     refine⟨_,jVp,?_⟩
     by_cases h2:row2.length=s.2.2
     ·rw[lJb (by simpa using h2)]
      refine xi5 e.1 _ _ _ _ rfl ⟨he1,hi.trans ⟨fun ⟨e',a1,a2,a3,a4⟩=> ?_,fun a4=>⟨e,he,h1,by rw[kQa hrow2];exact h2,a4⟩⟩,s1⟩
      rw[he] at a1;cases a1;exact a4
     ·rw[lJc (by simpa using h2)]
      refine kk _ _ (.inl ⟨rfl,fun h=> ?_⟩) s1
      obtain⟨e',a1,a2,a3,a4⟩:=hi.mp h
      rw[he] at a1;cases a1
      rw[kQa hrow2] at a3;exact h2 a3
    ·rw[lJc (by simpa using h1)]
     refine kk _ _ (.inl ⟨rfl,fun h=> ?_⟩) s1
     obtain⟨e',a1,a2,a3,a4⟩:=hi.mp h
     rw[he] at a1;cases a1;exact h1 a2
   ·rw[lJc (by omega)]
    refine kk _ _ (.inl ⟨rfl,fun h=> ?_⟩) s1
    obtain⟨e,h1,_⟩:=hi.mp h
    rw[hen1,lKq (by omega)] at h1;cases h1
  ·intro τ G1 h_;apply xe5 h_;clear h_;intro q v3 v4 v5 v6 h_;apply ae3 h_;clear h_;intro hq hi s1
   rw[lJh,List.drop_length] at hi
   wp_walk using 1,tSeq
   exact kk _ _ (.inr ⟨⟨q,rfl⟩,hi.mpr trivial⟩) s1
 ·rw[lJc (by simpa using h0)]
  exact kk _ _ (.inl ⟨rfl,fun h=>h0 (by have:=h.1;rw[kQa hrow] at this;exact this)⟩) (.refl _)
noncomputable def kJi:Sp3:=fun xs G Q=>∃(b:Addr) (W:Web) (r m n:Nat),xs=[.ref b,encW W,.int r,.int m]/\BoxAt G b n/\n+300<2^40/\Fine W/\r<W.length/\m<=60/\∀ds es G',goW W r ds=some es->ds.length<=60->BoxAt G' b (n+2*m)->Keep b G G'->Q (.tup (jJq ds)) G'
def qXw:List Str:=["_law_box_here","_law_web_here","_law_room","_law_many","_law_way_here","_law_gone_by","_law_k","_law_doors","_law_fresh","_law_door"]
noncomputable def kJt:TS3:=
 (tSeq (tAsg (tLst tNil) (jJe 4))
 (tSeq (tAsg (tLst tNil) (jJe 5))
 (tSeq (tFor (jKj (jJb (tVar 3) tNil)) (jJe 6) (tSeq (tAsg (tCB rLen (jJb (tOp rIxF (tVar 1) (tVar 2)) tNil)) (jJe 7))
 (tSeq (tIfS (jJw (tOp rEqA (tVar 7) (tC (.int 0)))) (tRet (tCB jJv (jJb (tVar 4) tNil))) jKe)
 (tSeq (tAsg (jKf [false,false,false,false,false,false,false,false,false,true] (jKj (jJb (tVar 7) tNil)) (jJe 9) (jJw (tOp kJw (tTup (jJb (tVar 2) (jJb (tVar 9) tNil))) (tVar 5))) (tVar 9)) (jJe 8))
 (tSeq (tIfS (tOr (jJw (tOp rEqA (tVar 8) (tLst tNil))) (jJw (tOp rEqA (jJ0 jJs (jJb (tVar 0) (jJb (tC (.int 5)) tNil))) (tC (.int 0))))) (tAsg (jU2 (jJb (tVar 7) tNil)) (jJe 8)) jKe)
 (tSeq (tAsg (tOp rIxF (tVar 8) (jJ0 jJs (jJb (tVar 0) (jJb (tCB rLen (jJb (tVar 8) tNil)) tNil)))) (jJe 9))
 (tSeq (jK7 (tBM "list" jJ6 (tVar 4) (jJb (tVar 9) tNil)))
 (tSeq (jK7 (tBM "list" jJ6 (tVar 5) (jJb (tTup (jJb (tVar 2) (jJb (tVar 9) tNil))) tNil)))
 (tSeq (jK7 (tBM "list" jJ6 (tVar 5) (jJb (tOp rIxF (tOp rIxF (tVar 1) (tVar 2)) (tVar 9)) tNil)))
 (tAsg (tOp rIxF (tOp rIxF (tOp rIxF (tVar 1) (tVar 2)) (tVar 9)) (tC (.int 0))) (jJe 2)))))))))))
 (tRet (tCB jJv (jJb (tVar 4) tNil))))))
theorem qQv {mask:List Bool} {g:TG3} {tif:TT3} {te:TE3} {τ:St3} {xs:List T} {stay:Gp->Prop} {G:Gp} {Q:VK3} (Pr:T->Prop) (hz:xs.length<=sizeLine) (hst:∀G',Sub G G'->stay G')
  (h:∀(i:Nat) x,xs[i]? =some x->∀G' (K:T->Gp->Prop) (K0:Gp->Prop),Sub G G'->(∀t G4,Pr t->Sub G' G4->K t G4)->(∀G4,Sub G' G4->K0 G4)->g x (msk mask τ) G' fun τ2 G2=>tif τ2 G2 fun b G3=>if b=true then te τ2 G3 K else K0 G3)
  (hq:∀D ts G',G D=none->G' D=some (.lst ts)->ts.length<=xs.length->(∀t,t∈ts->Pr t)->Sub G G'->Q (.ref D) G'):jU0 mask g tif te τ xs stay G Q:=by
 intro D hD
 refine⟨fun i acc G'=>acc.length<=i/\(∀t,t∈acc->Pr t)/\Sub G G'/\G' D=some (.lst acc),?_,?_,?_,?_⟩
 ·exact⟨lJg _,fun t z=>by simp at z,.new hD,jJh⟩
 ·rintro i acc G' hi ⟨j1,j2,j4,j5⟩
  exact⟨hst G' j4,j5⟩
 ·rintro i x acc G3 hx ⟨j1,j2,j4,j5⟩
  have hi:i<xs.length:=(lJi.mp hx).1
  refine h i x hx G3 _ _ j4 (fun t G4 hp kp=> ?_) fun G4 kp=>⟨by omega,j2,j4.trans kp,kp _ _ j5⟩
  refine⟨kp _ _ j5,by omega,by simp;omega,?_,(j4.trans kp).over hD,jJh⟩
  intro u hu
  rcases (lJt.mp hu) with hu | hu
  ·exact j2 u hu
  ·rw[lJ4.mp hu];exact hp
 ·rintro acc G3 ⟨j1,j2,j4,j5⟩
  exact hq D acc G3 hD j5 j1 j2 j4
theorem natsP {Pr:Nat->Prop}:∀(us:List T),(∀t,t∈us->∃x:Nat,Pr x/\t= .int x)->∃ts:List Nat,us=jJq ts/\∀x,x∈ts->Pr x
 | [],_=>⟨[],rfl,fun x hx=>by simp at hx⟩
 | u::us,h=>by
  obtain⟨x,hx,rfl⟩:=h u (by simp)
  obtain⟨ts,rfl,h2⟩:=natsP us fun t ht=>h t (lJz _ ht)
  refine⟨x::ts,rfl,fun y hy=> ?_⟩
  rcases (lJk.mp hy) with rfl | hy
  ·exact hx
  ·exact h2 y hy
theorem okD_ok {z:T} (h:OkD 40 z):eqOk z=true:=by
 unfold eqOk
 rw[h.tr,h.lay,lJ1 (show (td z).depth<=50 by have:=h.dep;omega)];rfl
noncomputable def jYv:TS3:=(tSeq (tAsg (tOp rIxF (tVar 8) (jJ0 jJs (jJb (tVar 0) (jJb (tCB rLen (jJb (tVar 8) tNil)) tNil)))) (jJe 9))
 (tSeq (jK7 (tBM "list" jJ6 (tVar 4) (jJb (tVar 9) tNil)))
 (tSeq (jK7 (tBM "list" jJ6 (tVar 5) (jJb (tTup (jJb (tVar 2) (jJb (tVar 9) tNil))) tNil)))
 (tSeq (jK7 (tBM "list" jJ6 (tVar 5) (jJb (tOp rIxF (tOp rIxF (tVar 1) (tVar 2)) (tVar 9)) tNil)))
 (tAsg (tOp rIxF (tOp rIxF (tOp rIxF (tVar 1) (tVar 2)) (tVar 9)) (tC (.int 0))) (jJe 2))))))
theorem kYl:kJt=(tSeq (tAsg (tLst tNil) (jJe 4))
 (tSeq (tAsg (tLst tNil) (jJe 5))
 (tSeq (tFor (jKj (jJb (tVar 3) tNil)) (jJe 6) (tSeq (tAsg (tCB rLen (jJb (tOp rIxF (tVar 1) (tVar 2)) tNil)) (jJe 7))
 (tSeq (tIfS (jJw (tOp rEqA (tVar 7) (tC (.int 0)))) (tRet (tCB jJv (jJb (tVar 4) tNil))) jKe)
 (tSeq (tAsg (jKf [false,false,false,false,false,false,false,false,false,true] (jKj (jJb (tVar 7) tNil)) (jJe 9) (jJw (tOp kJw (tTup (jJb (tVar 2) (jJb (tVar 9) tNil))) (tVar 5))) (tVar 9)) (jJe 8))
 (tSeq (tIfS (tOr (jJw (tOp rEqA (tVar 8) (tLst tNil))) (jJw (tOp rEqA (jJ0 jJs (jJb (tVar 0) (jJb (tC (.int 5)) tNil))) (tC (.int 0))))) (tAsg (jU2 (jJb (tVar 7) tNil)) (jJe 8)) jKe)
 jYv)))))
 (tRet (tCB jJv (jJb (tVar 4) tNil)))))):=rfl
theorem qJx {D:Ends3} {b p q f:Addr} {W:Web} {cur m n k:Nat} {v9:Option T} {ds F:List Nat} {gs row:List (Nat×Nat)} {G:Gp} (hw:W[cur]? =some row) (hf:G f=some (.lst (jJq F))) (hF:1<=F.length) (hF2:F.length<=1000) (hFr:∀d,d∈F->d<row.length) (hp:G p=some (.lst (jJq ds))) (hq:G q=some (.lst (gs.map encE))) (hdl:ds.length<=100) (hgl:gs.length<=200) (hpb:p≠b) (hqb:q≠b) (hfb:f≠b) (hpq:p≠q) (hb:BoxAt G b n) (hn:n<2^40)
  (kk:∀(d:Nat) e G',row[d]? =some e->G' p=some (.lst (jJq (ds++[d])))->G' q=some (.lst ((gs++[(cur,d),e]).map encE))->BoxAt G' b (n+1)->(∀c o,c≠b->c≠p->c≠q->G c=some o->G' c=some o)->D.nx [some (.ref b),some (.tup (W.map encR)),some (.int (e.1:Nat)),some (.int m),some (.ref p),some (.ref q),some (.int k),some (.int (row.length:Nat)),some (.ref f),some (.int (d:Nat))] G'):
  jYv D [some (.ref b),some (.tup (W.map encR)),some (.int (cur:Nat)),some (.int m),some (.ref p),some (.ref q),some (.int k),some (.int (row.length:Nat)),some (.ref f),v9] G:=by
 have hs:=sz
 wp_walk using 1,jYv,jJj hf
 refine⟨b,_,n,rfl,hb,hn,by simp[jJq];omega,by simp[jJq];omega,fun c G1 c0 c1 bx kp=> ?_⟩
 have hcl:c.toNat<F.length:=by simp[jJq] at c1;omega
 have hca:L2.atI (jJq F) c=some (.int (F[c.toNat]:Nat)):=by rw[atZ c0];simp[jJq,hcl]
 have hmem:F[c.toNat]∈F:=lX0 hcl
 generalize F[c.toNat]=d at hca hmem
 have hd:=hFr d hmem
 have hed:row[d]? =some row[d]:=lJo hd
 generalize row[d]=e at hed
 have hp1:=kp _ _ hpb hp
 have hq1:=kp _ _ hqb hq
 wp_walk using 1,jKs (kp _ _ hfb hf),hca,jKy hp1,hp1,jJp hpq.symm,hq1,jKl hw,encR,kKh hed,encE
 refine⟨by simp[jJq];omega,by rw[jKy (by rw[jJp hpq.symm];exact hq1)];trivial,by omega,by simp;omega,by simp;omega,kk d e _ hed ?_ ?_ ((bx.gup hpb.symm).gup hqb.symm) ?_⟩
 ·rw[jJp hpq,jJh];simp[jJq]
 ·rw[jJh];simp[encE]
 ·intro c o h1 h2 h3 h4
  rw[jJp h3,jJp h2];exact kp _ _ h1 h4
theorem kV4:RdOk kJi kJt qXw:=by
 intro xs G Q h_;apply xe5 h_;clear h_;intro b W r m n h_;apply ae6 h_;clear h_;intro hb hn fine hr hm kk
 show kJt _ [some (.ref b),some (.tup (W.map encR)),some (.int r),some (.int m),none,none,none,none,none,none] G
 have hs:=sz
 rw[kYl]
 wp_walk using 1,jJ3,jKj
 refine⟨by omega,fun p hp=>⟨by omega,fun q hq=>⟨by omega,by omega,?_⟩⟩⟩
 obtain⟨hqp,hq0⟩:=qQi hq
 obtain⟨bo,hbo⟩:=hb.some
 have hbp:=jJi hbo hp
 have hbq:=jJi hbo hq0
 let J1:Nat->St3->Gp->Prop:=fun i τ G'=>∃(v6 v7 v8 v9:Option T) (ds:List Nat) (es:List (Nat×Nat)) (gs:List (Nat×Nat)),τ=[some (.ref b),some (.tup (W.map encR)),some (.int (jKo r es:Nat)),some (.int m),some (.ref p),some (.ref q),v6,v7,v8,v9]/\goW W r ds=some es/\ds.length=i/\G' p=some (.lst (jJq ds))/\G' q=some (.lst (gs.map encE))/\gs.length=2*i/\BoxAt G' b (n+2*i)/\Keep b G G'
 refine⟨J1,?_,?_,?_,?_⟩
 ·exact xi7 none none none none [] [] [] rfl ⟨rfl,rfl,by rw[jJp hqp.symm];exact jJh,jJh,rfl,(hb.gup hbp).gup hbq,(Keep.new hp).over hq0⟩
 ·intros;trivial
 ·intro i y τ G1 hy h_;apply xe7 h_;clear h_;intro v6 v7 v8 v9 ds es gs h_;apply ae7 h_;clear h_;intro h1 h2 h3 h4 h5 h6 h7
  obtain⟨hi,rfl⟩:=jVw hy
  obtain⟨c1,c2,c3⟩:=kVh fine hr h1
  obtain⟨row,hrow,hen⟩:=jVg c1
  have hrl:=fine.row _ _ hrow
  wp_walk using 1,rEqA,jKj,jU2,jKl hrow,encR,List.length_map
  refine⟨decide (row.length=0),jVp (c:=0),?_⟩
  by_cases h0:row.length=0
  ·rw[lJc (lJ1 h0)]
   exact⟨_,jJj h3,kk ds es G1 h1 (by omega) (h6.mono (by omega)) h7⟩
  rw[lJb (by simpa using (h0))]
  have go:∀(f:Addr) (F:List Nat) G2 k,Sub G1 G2\/(Keep b G1 G2)->G2 f=some (.lst (jJq F))->1<=F.length->F.length<=1000->(∀d,d∈F->d<row.length)->f≠b->BoxAt G2 b k->k+1<=n+2*(i+1)->jYv {nx:=J1 (i+1),rt:=Q,bk:=tRet (tCB jJv (jJb (tVar 4) tNil)) {nx:=fun x G'=>Q T.non G',rt:=Q},ct:=J1 (i+1)} [some (.ref b),some (.tup (W.map encR)),some (.int (jKo r es:Nat)),some (.int m),some (.ref p),some (.ref q),some (.int i),some (.int (row.length:Nat)),some (.ref f),v9] G2:=by
   intro f F G2 k sk hf hF hF2 hFr hfb bx hk
   have kp:Keep b G1 G2:=sk.elim (fun s c o _ e=>s c o e) id
   refine qJx hrow hf hF hF2 hFr (kp _ _ hbp.symm h3) (kp _ _ hbq.symm h4) (by omega) (by omega) hbp.symm hbq.symm hfb hqp.symm bx (by omega) fun d e G3 he g1 g2 g3 g4=> ?_
   refine xi7 _ _ _ _ (ds++[d]) (es++[e]) (gs++[(jKo r es,d),e]) (by rw[jQ5]) ⟨?_,by simp[h2],g1,g2,by simp[h5];omega,g3.mono hk,fun c o hc ho=> ?_⟩
   ·rw[kJ9,h1,lVk,hen,he];rfl
   ·exact g4 c o hc (jJi ho hp) (jJi ho hq0) (kp c o hc (h7 c o hc ho))
  refine⟨by omega,by omega,?_⟩
  refine qQv (fun t=>∃d:Nat,d<row.length/\t= .int d) (by rw[jUg];omega) (fun _ _=>trivial) ?_ ?_
  ·intro j x hx G2 K K0 s2 hK hK0
   obtain⟨hj,rfl⟩:=jVw hx
   wp_walk using 1,kJw
   refine⟨by omega,_,s2 _ _ h4,okD_ok ((okD_enc (e:=(jKo r es,j))).mono (by decide)),kZa fun x hx=> ?_,fun c=> ?_⟩
   ·obtain⟨e,_,rfl⟩:=lJl.mp hx;exact okD_enc.mono (by decide)
   ·cases c with
    | true=>exact hK _ G2 ⟨j,by omega,rfl⟩ (.refl _)
    | false=>exact hK0 G2 (.refl _)
  ·intro D ts G2 hD hD2 hlen hts s2
   obtain⟨F,rfl,hF⟩:=natsP ts hts
   rw[jUg] at hlen
   refine⟨by omega,fun z hz=> ?_⟩
   have hDz:D≠z:=jJi hD2 hz
   refine⟨decide (F=[]),kK9 (b:=[]) (by rw[jJp hDz];exact hD2) jJh,?_⟩
   have sz2:Sub G1 (gup G2 z (.lst [])):=s2.trans (.new hz)
   have bxz:BoxAt (gup G2 z (.lst [])) b (n+2*i):=h6.sub sz2
   have hDz2:gup G2 z (.lst []) D=some (.lst (jJq F)):=by rw[jJp hDz];exact hD2
   generalize gup G2 z (.lst [])=G3 at sz2 bxz hDz2 ⊢
   obtain⟨bo3,hbo3⟩:=bxz.some
   have hDb:D≠b:=fun e=>by rw[e] at hD;obtain⟨o1,ho1⟩:=h6.some;rw[hD] at ho1;cases ho1
   have rng:∀G4 k,Keep b G1 G4->BoxAt G4 b k->k+1<=n+2*(i+1)-> -2^62<=(row.length:Int)/\(row.length:Int)<=2^20/\∀f,G4 f=none->jYv {nx:=J1 (i+1),rt:=Q,bk:=tRet (tCB jJv (jJb (tVar 4) tNil)) {nx:=fun x G'=>Q T.non G',rt:=Q},ct:=J1 (i+1)} [some (.ref b),some (.tup (W.map encR)),some (.int (jKo r es:Nat)),some (.int m),some (.ref p),some (.ref q),some (.int i),some (.int (row.length:Nat)),some (.ref f),v9] (gup G4 f (.lst (rngT 0 (row.length:Int).toNat))):=by
    intro G4 k kp bx hk
    refine⟨by omega,by omega,fun f hf=> ?_⟩
    obtain⟨bo4,hbo4⟩:=bx.some
    have hfb:b≠f:=jJi hbo4 hf
    refine go f (List.range row.length) _ k (.inr (kp.trans (.new hf))) ?_ (by simp;omega) (by simp;omega) (fun d hd=>lKy.mp hd) hfb.symm (bx.gup hfb) hk
    rw[jJh,show (row.length:Int).toNat=row.length by omega,jU4];rfl
   by_cases hFe:F=[]
   ·rw[lJc (lJ1 hFe)]
    exact rng G3 _ (fun c o _ e=>sz2 c o e) bxz (by omega)
   ·rw[lJb (by simpa using hFe)]
    have hF1:1<=F.length:=by
     cases F with
     | nil=>exact absurd rfl hFe
     | cons a F=>simp
    refine⟨b,5,_,rfl,bxz,by omega,by decide,by decide,fun c G4 c0 c1 bx kp=>⟨_,qXe,?_⟩⟩
    have kp14:Keep b G1 G4:=fun c o hc e=>kp c o hc (sz2 c o e)
    split
    ·exact rng G4 _ kp14 bx (by omega)
    ·exact go D F G4 _ (.inr kp14) (kp _ _ hDb hDz2) hF1 (by simp[jJq] at hlen;omega) hF hDb bx (by omega)
 ·intro τ G1 h_;apply xe7 h_;clear h_;intro v6 v7 v8 v9 ds es gs h_;apply ae7 h_;clear h_;intro h1 h2 h3 h4 h5 h6 h7
  rw[jUg] at h2 h6
  wp_walk using 1,tSeq
  exact⟨_,jJj h3,kk ds es G1 h1 (by omega) (h6.mono (by omega)) h7⟩
def keyR (es:List (Nat×Nat)):List L2.K1:=es.map fun p=> .inr [.inl (p.1:Int),.inl (p.2:Int)]
def keyW (V:Web):L2.TKey:=V.map fun es=> .inr (keyR es)
theorem kKl {α K:Type} {f:T->Option K} {enc:α->T} {g:α->K} (h:∀a,f (enc a)=some (g a)):∀l:List α,allK f (l.map enc)=some (l.map g)
 | []=>rfl
 | a::l=>by
  rw[lJn,lJn]
  unfold allK
  rw[h a,kKl h l]
theorem keysW (V:Web):jQn (V.map encR)=some (keyW V):=kKl (fun es=>by
 show (allK key1 _).map Sum.inr=_
 rw[kKl (g:=fun p:Nat×Nat=>(.inr [.inl (p.1:Int),.inl (p.2:Int)]:L2.K1)) fun p=>rfl];rfl) V
theorem qJ4 {V:Web} (h:1<=V.length):SKey false (V.map encR) (keyW V):=by
 refine⟨keysW V,?_,?_⟩
 ·cases V with
  | nil=>cases h
  | cons a V=>rfl
 ·show (keyW V).all _=true
  rw[lK2]
  intro k hk
  obtain⟨es,_,rfl⟩:=lJl.mp hk
  show (keyR es).all _=true
  rw[lK2]
  intro k hk
  obtain⟨p,_,rfl⟩:=lJl.mp hk
  rfl
theorem jYe {α K:Type} [DecidableEq K] {lt:K->K->Option Bool} {f:α->K} (h:∀a b,(lt (f a) (f b)).isSome=true):∀a b:List α,(L3.lexLt lt (a.map f) (b.map f)).isSome=true
 | [],[]=>rfl
 | [],_::_=>rfl
 | _::_,[]=>rfl
 | x::a,y::b=>by
  rw[lJn,lJn]
  unfold L3.lexLt
  split
  ·exact jYe h a b
  ·exact h x y
theorem qVf (p q:Nat×Nat):(L3.lexLt ltI [.inl (p.1:Int),.inl (p.2:Int)] [.inl (q.1:Int),.inl (q.2:Int)]).isSome=true:=
 jYe (lt:=ltI) (f:=fun i:Nat=>(.inl (i:Int):L2.Key)) (fun i j=>rfl) [p.1,p.2] [q.1,q.2]
theorem row_lt (es fs:List (Nat×Nat)):(L3.lexLt (ltS ltI) (keyR es) (keyR fs)).isSome=true:=
 jYe (lt:=ltS ltI) (f:=fun p:Nat×Nat=>(.inr [.inl (p.1:Int),.inl (p.2:Int)]:L2.K1)) (fun p q=>qVf p q) es fs
theorem web_lt (V V':Web):(ltK (keyW V) (keyW V')).isSome=true:=
 jYe (lt:=ltS (ltS ltI)) (f:=fun es=>(.inr (keyR es):L2.K2)) (fun es fs=>row_lt es fs) V V'
theorem jU6 {K:Type} [DecidableEq K] {lt:K->K->Option Bool}:∀a:List K,L3.lexLt lt a a=some false
 | []=>rfl
 | x::a=>by unfold L3.lexLt;rw[lJc rfl];exact jU6 a
theorem kXs:∀ {a b:List L2.TKey},a.Pairwise (fun x y=>ltK x y=some true)->b.Pairwise (fun x y=>ltK x y=some true)->(∀x,x∈a↔x∈b)->a=b
 | [],[],_,_,_=>rfl
 | [],y::b,_,_,h=>by have:=(h y).mpr (lJx ..);cases this
 | x::a,[],_,_,h=>by have:=(h x).mp (lJx ..);cases this
 | x::a,y::b,ha,hb,h=>by
  rw[List.pairwise_cons] at ha hb
  have no:∀z:L2.TKey,ltK z z≠some true:=fun z e=>by rw[show ltK z z=some false from jU6 z] at e;cases e
  have e:x=y:=by
   rcases lJk.mp ((h x).mp (lJx ..)) with e | hx
   ·exact e
   ·rcases lJk.mp ((h y).mpr (lJx ..)) with e | hy
    ·exact e.symm
    ·exact absurd (kUe (ha.1 y hy) (hb.1 x hx)) (no x)
  subst e
  rw[kXs ha.2 hb.2 fun z=>⟨fun hz=> ?_,fun hz=> ?_⟩]
  ·rcases lJk.mp ((h z).mp (lJz _ hz)) with e | q
   ·subst e;exact absurd (ha.1 z hz) (no z)
   ·exact q
  ·rcases lJk.mp ((h z).mpr (lJz _ hz)) with e | q
   ·subst e;exact absurd (hb.1 z hz) (no z)
   ·exact q
theorem kK1:∀ {a b:List (List T×L2.TKey)},(∀e,e∈a->jQn e.1=some e.2)->(∀e,e∈b->jQn e.1=some e.2)->a.map (·.2)=b.map (·.2)->a=b
 | [],[],_,_,_=>rfl
 | [],_::_,_,_,e=>by cases e
 | _::_,[],_,_,e=>by cases e
 | x::a,y::b,ha,hb,e=>by
  rw[lJn,lJn,lVy] at e
  have h1:=ha x (lJx ..)
  have h2:=hb y (lJx ..)
  rw[e.1] at h1
  rw[show x=y from lK7 (jZ1 h1 h2) e.1,kK1 (fun e h=>ha e (lJz _ h)) (fun e h=>hb e (lJz _ h)) e.2]
theorem kQx {xs xs' ys ys':List T} {kys kys':List (List T×L2.TKey)} (h:Rising xs ys kys) (h':Rising xs' ys' kys') (hm:∀t,t∈xs↔t∈xs'):ys=ys':=by
 have sub:∀ {xs xs' ys ys':List T} {kys kys':List (List T×L2.TKey)},Rising xs ys kys->Rising xs' ys' kys'->(∀t,t∈xs->t∈xs')->∀k,k∈kys.map (·.2)->k∈kys'.map (·.2):=by
  intro xs xs' ys ys' kys kys' h h' hm k hk
  obtain⟨e,he,rfl⟩:=lJl.mp hk
  have:T.tup e.1∈ys:=by rw[h.eq];exact lQ8 he
  have:=(h'.mem _).mpr (hm _ ((h.mem _).mp this))
  rw[h'.eq] at this
  obtain⟨e',he',ee⟩:=lJl.mp this
  have k1:=h'.keys e' he'
  rw[T.tup.inj ee,h.keys e he] at k1
  exact lJl.mpr ⟨e',he',(lJw k1).symm⟩
 have u1:=h.up
 have u2:=h'.up
 rw[h.eq,h'.eq,kK1 h.keys h'.keys (kXs (by rw[lQ7];exact u1) (by rw[lQ7];exact u2) fun k=>⟨sub h h' (fun t=>(hm t).mp) k,sub h' h (fun t=>(hm t).mpr) k⟩)]
theorem kV1 {Us:List Web} {ys:List T} {kys:List (List T×L2.TKey)} (h:Rising (Us.map encW) ys kys):ys.length<=Us.length:=by
 have nd:(kys.map (·.2)).Nodup:=by
  rw[List.Nodup,lQ7]
  refine h.up.imp fun {x y} z e=> ?_
  rw[e,show ltK y.2 y.2=some false from jU6 y.2] at z;cases z
 have sb:(kys.map (·.2)) ⊆ Us.map keyW:=fun k hk=>by
  obtain⟨e,he,rfl⟩:=lJl.mp hk
  have:T.tup e.1∈ys:=by rw[h.eq];exact lQ8 he
  obtain⟨V,hV,e2⟩:=lJl.mp ((h.mem _).mp this)
  have k1:=h.keys e he
  rw[<-T.tup.inj e2,keysW] at k1
  exact lJl.mpr ⟨V,hV,lJw k1⟩
 have:=nd.length_le_of_subset sb
 rw[h.eq,lJh]
 simpa using this
structure Due (W:Web) (r:Nat) (S:jVr) (ts:List T):Prop where
 ex:∃(Us:List Web) (kys:List (List T×L2.TKey)),Rising (Us.map encW) ts kys/\∀V,V∈Us↔(V=W\/IsC W V)/\Fit V r S
 fine:∀t,t∈ts->∃V,t=encW V/\Fine V
 len:ts.length<=75
theorem Due.uniq {W:Web} {r:Nat} {S:jVr} {ts ts':List T} (h:Due W r S ts) (h':Due W r S ts'):ts=ts':=by
 obtain⟨Us,kys,a1,a2⟩:=h.ex
 obtain⟨Us',kys',b1,b2⟩:=h'.ex
 refine kQx a1 b1 fun t=>⟨fun ht=> ?_,fun ht=> ?_⟩
 ·obtain⟨V,hV,rfl⟩:=lJl.mp ht
  exact lQ8 ((b2 V).mpr ((a2 V).mp hV))
 ·obtain⟨V,hV,rfl⟩:=lJl.mp ht
  exact lQ8 ((a2 V).mpr ((b2 V).mp hV))
theorem kZ8 {W:Web} {r:Nat} {S:jVr} {Vs Us:List Web} {D:Addr} {G:Gp} {K:Addr->List T->Prop} (hw:1<=W.length) (hl:Vs.length<=74) (hm:∀V,V∈Vs↔V=W\/IsC W V) (hf:∀V,V∈Vs->Fine V/\V.length=W.length) (hU:Us=Vs.filter fun V=> @decide (Fit V r S) (Classical.propDecidable _)) (hD:G D=some (.lst (Us.map encW))) (kk:∀p ts,G p=none->Due W r S ts->K p ts):
  ∃(b:Bool) (tks:List (List T×L2.TKey)),jK1 G (.ref D)=some (tks.map fun e:List T×L2.TKey=> .tup e.1)/\(∃us:List L2.TKey,us.length<76/\∀e,e∈tks->e.2∈us)/\(∀e,e∈tks->SKey b e.1 e.2)/\(∀e,e∈tks->∀e',e'∈tks->(ltK e.2 e'.2).isSome=true)/\∀(p:Addr) (ys:List T) (kys:List (List T×L2.TKey)),G p=none->Rising (tks.map fun e=> .tup e.1) ys kys->K p ys:=by
 have hUm:∀V,V∈Us↔(V=W\/IsC W V)/\Fit V r S:=fun V=>by rw[hU,lVb,hm];simp
 have hUl:Us.length<=74:=by rw[hU];exact lKo (lXj _ _) hl
 have hUf:∀V,V∈Us->Fine V/\V.length=W.length:=fun V hV=>hf V (by rw[hU] at hV;exact (lVb.mp hV).1)
 have e0:((Us.map fun V=>(V.map encR,keyW V)).map fun e:List T×L2.TKey=>T.tup e.1)=Us.map encW:=by rw[lQb];rfl
 refine⟨false,Us.map fun V=>(V.map encR,keyW V),?_,⟨Us.map keyW,by rw[lJh];omega,fun e he=> ?_⟩,fun e he=> ?_,fun e he e' he'=> ?_,fun p ys kys hp ris=> ?_⟩
 ·rw[show jK1 G (.ref D)=asL (G D) from rfl,hD,e0];rfl
 ·obtain⟨V,hV,rfl⟩:=lJl.mp he
  exact lQ8 hV
 ·obtain⟨V,hV,rfl⟩:=lJl.mp he
  exact qJ4 (by rw[(hUf V hV).2];exact hw)
 ·obtain⟨V,hV,rfl⟩:=lJl.mp he
  obtain⟨V',hV',rfl⟩:=lJl.mp he'
  exact web_lt V V'
 ·rw[e0] at ris
  refine kk p ys hp ⟨⟨Us,kys,ris,hUm⟩,fun t ht=> ?_,by have:=kV1 ris;omega⟩
  obtain⟨V,hV,rfl⟩:=lJl.mp ((ris.mem t).mp ht)
  exact⟨V,rfl,(hUf V hV).1⟩
abbrev jYq:Sp3:=jYs 4
theorem pl_web {W:Web} (f:Fine W):PlN 3 (encW W):=by
 refine .inr ⟨_,rfl,by have:=f.len;rw[lJh];omega,fun u hu=> ?_⟩
 obtain⟨es,hes,rfl⟩:=lJl.mp hu
 obtain⟨r,hr⟩:=lKg hes
 refine .inr ⟨_,rfl,by have:=f.row r es hr;rw[lJh];omega,fun u hu=> ?_⟩
 obtain⟨e,_,rfl⟩:=lJl.mp hu
 refine .inr ⟨_,rfl,by simp,fun u hu=> ?_⟩
 simp only[lJ2,lJk,lKd] at hu
 rcases hu with rfl | rfl<;>exact pl_int
theorem jV8 {α β:Type} {p:α->Bool} {f:α->β}:∀l:List α,l.filterMap (fun r=>if p r=true then some (f r) else none)=(l.filter p).map f
 | []=>rfl
 | a::l=>by
  rw[lKz,lXk]
  by_cases h:p a=true
  ·rw[lJc h,lJc h,lJn,jV8 l]
  ·rw[lJb h,lJb h,jV8 l]
noncomputable def fitB (r:Nat) (S:jVr) (V:Web):Bool:= @decide (Fit V r S) (Classical.propDecidable _)
theorem fitB_iff {r:Nat} {S:jVr} {V:Web}:fitB r S V=true↔Fit V r S:=by unfold fitB;simp
noncomputable def jUt:Sp3:=fun xs G Q=>∃(W:Web) (r:Nat) (S:jVr),xs=[encW W,.int r,jZp S]/\Fine W/\Sym W/\(jJx W).length<=9/\r<W.length/\S.2.length<=1000/\∀p ts G',G p=none->G' p=some (.lst ts)->Due W r S ts->Sub G G'->Q (.ref p) G'
def kUu:List Str:=["web","room","story","other"]
noncomputable def jUw:TS3:=
 (tRet (kKo (jJb (jKf [false,false,false,true] (iSeq (tOp jKn (tLst (jJb (tVar 0) tNil)) (jJ0 jQu (jJb (tVar 0) tNil)))) (jJe 3) (jJw (jJ0 kQt (jJb (tVar 3) (jJb (tVar 1) (jJb (tVar 2) tNil))))) (tVar 3)) tNil)))
theorem jZj:RdOk jUt jUw kUu:=by
 intro xs G Q h_;apply xe3 h_;clear h_;intro W r S h_;apply ae6 h_;clear h_;intro fine sym h9 hr hl kk
 show jUw _ [some (encW W),some (.int r),some (jZp S),none] G
 have hs:=sz
 wp_walk using 1,jUw,kKo,iSeq
 refine⟨by omega,fun q hq=>⟨W,rfl,fine,sym,by omega,h9,fun a Vs G1 ha hG1 hVl hVm hVf s1=> ?_⟩⟩
 have hq1:=s1 _ _ (jJh (G:=G) (a:=q) (o:= .lst [encW W]))
 refine⟨_,kKm hq1 hG1 (by simp;omega),?_⟩
 rw[kKe]
 intro u hu
 have em:[encW W]++Vs.map encW=(W::Vs).map encW:=rfl
 rw[em]
 refine⟨_,jYd,?_⟩
 have hm:∀V,V∈W::Vs↔V=W\/IsC W V:=fun V=>by rw[lJk,hVm]
 have hf:∀V,V∈W::Vs->Fine V/\V.length=W.length:=fun V hV=>by
  rcases (lJk.mp hV) with rfl | hV
  ·exact⟨fine,rfl⟩
  ·exact hVf V hV
 have hu2:∀G',Sub (gup G1 u (.lst ((W::Vs).map encW))) G'->seqT G' (.ref u)=some ((W::Vs).map encW):=fun G' s=>jJj (s _ _ jJh)
 refine jUk (fun V=>if fitB r S V=true then some (encW V) else none) (by simp;omega) hu2 ?_ ?_
 ·intro i V hV G2 K K0 s2 hK hK0
  have hf:=hf V (lJy hV)
  wp_walk using 1,tSeq
  refine⟨V,r,S,rfl,hf.1,by omega,hl,fun b G3 hb s3=>⟨b,rfl,?_⟩⟩
  by_cases h:fitB r S V=true
  ·rw[lJc (hb.mpr (fitB_iff.mp h))]
   exact hK _ _ (by rw[lJc h]) s3
  ·rw[lJb fun z=>h (fitB_iff.mpr (hb.mp z))]
   exact hK0 (by rw[lJb h]) _ s3
 ·intro D G2 hD hD2 s2
  rw[jV8] at hD2
  have sG:Sub G G2:=(((Sub.new hq).trans s1).trans (.new hu)).trans s2
  exact kZ8 (by omega) (by simp;omega) hm hf rfl hD2 fun p ts hp du=>kk p ts _ (sG.none hp) jJh du (sG.trans (.new hp))
def kX6:Sp3:=fun xs G Q=>∃ns:List Int,xs=[.scr (jQo ns)]/\ns.length<=63/\∀G',Q (.bl true) G'
def N_law:List Str:=["_law_script","_law_box_here","_law_size","_law_web_here","_law_made","_law_other","_law_room","_law_story_here","_law_due","_law_turn","_law_found","_law_one"]
noncomputable def kU6:TS3:=
 (tSeq (tFor (iSeq (jJ0 jXf (jJb (tVar 0) (jJb (tC (.int 6)) tNil)))) (jJe 1) (tSeq (tAsg (tOp rIxF (tLst (jJb (tOp jKn (tC (.int 1)) (jJ0 jJs (jJb (tVar 1) (jJb (tC (.int 4)) tNil)))) (jJb (tC (.int 7)) tNil))) (tCB kYs (jJb (tOp rEqA (jJ0 jJs (jJb (tVar 1) (jJb (tC (.int 8)) tNil))) (tC (.int 0))) tNil))) (jJe 2))
 (tSeq (tAsg (jJ0 jYb (jJb (tVar 1) (jJb (tVar 2) (jJb (tOp jKn (tC (.int 1)) (jJ0 jJs (jJb (tVar 1) (jJb (tC (.int 3)) tNil)))) tNil)))) (jJe 3))
 (tSeq (tAsg (jJ0 jK8 (jJb (tVar 3) tNil)) (jJe 4))
 (tSeq (tAsg (tOp rIxF (tLst (jJb (tVar 3) (jJb (tOp rIxF (tVar 4) (jJ0 jJs (jJb (tVar 1) (jJb (tCB rLen (jJb (tVar 4) tNil)) tNil)))) (jJb (jJ0 jYb (jJb (tVar 1) (jJb (tVar 2) (jJb (tC (.int 2)) tNil)))) tNil)))) (jJ0 jJs (jJb (tVar 1) (jJb (tC (.int 3)) tNil)))) (jJe 5))
 (tSeq (tAsg (jJ0 jJs (jJb (tVar 1) (jJb (tVar 2) tNil))) (jJe 6))
 (tSeq (tAsg (jJ0 jXe (jJb (tVar 5) (jJb (tVar 6) (jJb (jJ0 kJi (jJb (tVar 1) (jJb (tVar 5) (jJb (tVar 6) (jJb (jJ0 jJs (jJb (tVar 1) (jJb (tC (.int 9)) tNil))) tNil))))) tNil)))) (jJe 7))
 (tSeq (tAsg (kKo (jJb (jKf [false,false,false,false,false,false,false,false,false,false,false,true] (iSeq (tVar 4)) (jJe 11) (jJw (tOp kJv (jJ0 jYr (jJb (tVar 11) (jJb (tVar 6) (jJb (tVar 7) tNil)))) (tC .non))) (tVar 11)) tNil)) (jJe 8))
 (tFor (jKj (jJb (tC (.int 2)) tNil)) (jJe 9) (tSeq (tAsg (jJ0 jUt (jJb (tVar 3) (jJb (tVar 6) (jJb (tVar 7) tNil)))) (jJe 10))
 (tSeq (tIfS (tNot (jJw (jJ0 jYq (jJb (tVar 10) (jJb (tVar 8) tNil))))) (tRet (tC (.bl false))) jKe)
 (jK7 (tBM "list" jJ6 (tVar 10) (jJb (tVar 3) tNil))))))))))))))
 (tRet (tC (.bl true))))
theorem qKd:RdOk kX6 kU6 N_law:=by
 intro xs G Q h_;apply xe1 h_;clear h_;intro ns h_;apply ae2 h_;clear h_;intro hns kk
 show kU6 _ [some (.scr (jQo ns)),none,none,none,none,none,none,none,none,none,none,none] G
 have hs:=sz
 wp_walk using 1,kU6,jJ3,iSeq
 refine⟨ns,rfl,hns,fun D rs G1 hD hD1 hl hnd hbx s1=>⟨_,jJj hD1,?_⟩⟩
 rw[lK0] at hnd
 let J1:Nat->St3->Gp->Prop:=fun i τ G'=>∃(v1 v2 v3 v4 v5 v6 v7 v8 v9 v10:Option T),τ=[some (.scr (jQo ns)),v1,v2,v3,v4,v5,v6,v7,v8,v9,v10,none]/\G' D=some (.lst (rs.map T.ref))/\∀(j:Nat) (r:Addr),i<=j->rs[j]? =some r->BoxAt G' r 0
 refine⟨J1,?_,?_,?_,?_⟩
 ·exact xi10 _ _ _ _ _ _ _ _ _ _ rfl ⟨hD1,fun j r _ hj=>hbx r (lJy hj)⟩
 ·intro i τ G' hi h_;apply xe10 h_;clear h_;intro v1 v2 v3 v4 v5 v6 v7 v8 v9 v10 h_;apply ae2 h_;clear h_;intro h1 h2
  exact jJj h1
 ·intro i y τ G2 hy h_;apply xe10 h_;clear h_;intro v1 v2 v3 v4 v5 v6 v7 v8 v9 v10 h_;apply ae2 h_;clear h_;intro h1 h2
  obtain⟨b,hbi,rfl⟩:=jJ7 hy
  have hb2:=h2 i b (lJg _) hbi
  have hbm:=lJy hbi
  have hbD:b≠D:=fun e=>hnd.1 (e▸hbm)
  wp_walk using 1,jJ3,iSeq,jKj,rEqA,kKo
  refine⟨b,4,0,rfl,hb2,by decide,by decide,by decide,fun a G3 a0 a1 b3 k3=> ?_⟩
  wp_walk using 1,tSeq
  refine⟨by omega,fun p hp=> ?_⟩
  obtain⟨bo4,hbo4⟩:=b3.some
  have hbp:=jJi hbo4 hp
  refine⟨b,8,1,rfl,b3.gup hbp,by decide,by decide,by decide,fun z G5 z0 z1 b5 k5=>⟨decide (z=0),qXe,?_⟩⟩
  have hp5:=k5 _ _ hbp.symm jJh
  have two:∀(x y:Int) (c:Bool) (G:Gp) (p:Addr),G p=some (.lst [.int x,.int y])->ixR G (.ref p) (.int (if c=true then 1 else 0))=some (.int (if c=true then y else x)):=by
   intro x y c G p h
   rw[jKs h]
   cases c<;>rfl
  obtain⟨n,hn,hn1,hn2⟩:∃n:Nat,ixR G5 (.ref p) (.int (if decide (z=0)=true then 1 else 0))=some (.int (n:Nat))/\1<=n/\n<=7:=by
   rw[two _ _ _ _ _ hp5]
   refine⟨(if decide (z=0)=true then 7 else 1+a).toNat,?_,?_,?_⟩
   ·congr 2;split<;>omega
   ·split<;>omega
   ·split<;>omega
  refine⟨_,hn,b,3,2,rfl,b5,by decide,by decide,by decide,fun mo G6 m0 m1 b6 k6=> ?_⟩
  obtain⟨m,rfl⟩:=lXv m0
  wp_walk using 1,tSeq
  refine⟨b,n,1+m,3,by simp,b6,by decide,hn1,by omega,by omega,by omega,fun W G7 fW sym few hW b7 k7=> ?_⟩
  wp_walk using 1,tSeq
  refine⟨W,rfl,fW,sym,by omega,by omega,fun q Vs G8 hq hG8 hV1 hV2 hVm hVf s8=> ?_⟩
  obtain⟨bo7,hbo7⟩:=b7.some
  have hbq:=jJi hbo7 hq
  wp_walk using 1,jJj hG8,List.length_map
  refine⟨b,_,103,rfl,b7.sub s8,by omega,by omega,by omega,fun x G9 x0 x1 b9 k9=> ?_⟩
  obtain⟨x,rfl⟩:=lXv x0
  have hxV:x<Vs.length:=by omega
  have hq9:=k9 _ _ hbq.symm hG8
  refine⟨encW Vs[x],by rw[jKs hq9,atN,lKa,lJo hxV];rfl,?_⟩
  have hVx:=hVf Vs[x] (lX0 hxV)
  generalize Vs[x]=V at hVx ⊢
  refine⟨b,n,2,104,rfl,b9,by decide,hn1,by omega,by omega,by omega,fun W2 G10 f2 sym2 few2 hW2 b10 k10=> ?_⟩
  wp_walk using 1,tSeq
  refine⟨by omega,fun l hl=> ?_⟩
  obtain⟨bo10,hbo10⟩:=b10.some
  have hbl:=jJi hbo10 hl
  refine⟨b,3,204,rfl,b10.gup hbl,by decide,by decide,by decide,fun y G11 y0 y1 b11 k11=> ?_⟩
  have hl11:=k11 _ _ hbl.symm jJh
  obtain⟨O,hO,fO,hOl⟩:∃O:Web,ixR G11 (.ref l) (.int y)=some (encW O)/\Fine O/\O.length=n:=by
   rw[jKs hl11]
   rcases (by omega:y=0\/y=1\/y=2) with rfl | rfl | rfl
   ·exact⟨W,rfl,fW,hW⟩
   ·exact⟨V,rfl,hVx.1,hVx.2.trans hW⟩
   ·exact⟨W2,rfl,f2,hW2⟩
  refine⟨_,hO,b,n,205,rfl,b11,by decide,by omega,by omega,fun r G12 r0 r1 b12 k12=> ?_⟩
  obtain⟨r,rfl⟩:=lXv r0
  have hrn:r<n:=by omega
  refine⟨b,9,206,rfl,b12,by decide,by decide,by decide,fun w G13 w0 w1 b13 k13=> ?_⟩
  obtain⟨w,rfl⟩:=lXv w0
  refine⟨b,O,r,w,207,rfl,b13,by decide,fO,by omega,by omega,fun ds es G14 hgo hdl b14 k14=> ?_⟩
  refine⟨O,r,ds,es,rfl,fO,by omega,by omega,hgo,fun G15 s15=> ?_⟩
  have hSl:(jUd O ds es).length<=60:=lKo jYn hdl
  generalize hS:((dg O r,jUd O ds es):jVr)=S
  have hS2:S.2.length<=60:=by rw[<-hS];exact hSl
  have K915:Keep b G9 G15:=(((((k10.trans (.new hl)).trans k11).trans k12).trans k13).trans k14).trans (.sub s15)
  have K2:Keep b G2 G15:=((((((k3.trans (.new hp)).trans k5).trans k6).trans k7).trans (.sub s8)).trans k9).trans K915
  have hq15:=K915 _ _ hbq.symm hq9
  wp_walk using 1,jJj hq15
  refine jUk (fun V=>if fitB r S V=true then some (encW V) else none) (by omega) (fun G' s=>jJj (s _ _ hq15)) ?_ ?_
  ·intro i V hV G16 K K0 s16 hK hK0
   have hf:=hVf V (lJy hV)
   wp_walk using 1,kJv
   refine⟨V,r,S,rfl,hf.1,by omega,by omega,fun t G17 ht s17=> ?_⟩
   rcases ht with ⟨rfl,h⟩ | ⟨⟨c,rfl⟩,h⟩
   ·rw[lJb (by decide)]
    exact hK0 (by rw[lJb fun z=>h (fitB_iff.mp z)]) _ s17
   ·rw[lJc (by rfl)]
    exact hK _ _ (by rw[lJc (fitB_iff.mpr h)]) s17
  ·intro E G16 hE hE16 s16
   rw[jV8] at hE16
   have E2:Keep b G2 G16:=K2.trans (.sub s16)
   refine kZ8 (W:=W) (r:=r) (S:=S) (by omega) (by omega) hVm hVf rfl hE16 fun d ts hd du=> ?_
   have hd0:=s16.none hd
   refine⟨by decide,by decide,?_⟩
   let J2:Nat->St3->Gp->Prop:=fun k τ G'=>∃(v9 v10:Option T),τ=[some (.scr (jQo ns)),some (.ref b),some (.int n),some (encW W),some (.ref q),some (encW O),some (.int r),some (jZp S),some (.ref d),v9,v10,none]/\G' d=some (.lst ts)/\Keep b G2 G'
   refine⟨J2,?_,?_,?_,?_⟩
   ·exact xi2 _ _ rfl ⟨jJh,E2.trans (.new hd)⟩
   ·intros;trivial
   ·intro k y τ G17 hy h_;apply xe2 h_;clear h_;intro v9 v10 h_;apply ae2 h_;clear h_;intro j1 j2
    wp_walk using 1,tSeq
    refine⟨W,r,S,rfl,fW,sym,by omega,by omega,by omega,fun p ts' G18 hp hp18 du' s18=> ?_⟩
    cases du.uniq du'
    have hdp:=jJi j1 hp
    have hd18:=s18 _ _ j1
    have hlen:=du.len
    refine⟨.ref p,.ref d,rfl,.inr ⟨p,d,ts,rfl,rfl,hp18,hd18,by omega,fun u hu=> ?_⟩,fun G19 s19=>⟨true,rfl,?_⟩⟩
    ·obtain⟨V,rfl,fV⟩:=du.fine u hu
     exact pl_web fV
    rw[lJb (by decide)]
    have hp19:=s19 _ _ hp18
    wp_walk using 1,jKy hp19,hp19
    refine⟨by omega,xi2 _ _ rfl ⟨by rw[jJp hdp];exact s19 _ _ hd18,fun c o hc ho=> ?_⟩⟩
    have h17:=j2 c o hc ho
    rw[jJp (jJi h17 hp)]
    exact s19 _ _ (s18 _ _ h17)
   ·intro τ G17 h_;apply xe2 h_;clear h_;intro v9 v10 h_;apply ae2 h_;clear h_;intro j1 K9
    refine xi10 _ _ _ _ _ _ _ _ _ _ rfl ⟨K9 _ _ hbD.symm h1,fun j r' hj hr'=> ?_⟩
    have hne:r'≠b:=fun e=>by
     subst e
     have hjl:j<rs.length:=(lJi.mp hr').1
     have:=(List.getElem?_inj hjl hnd.2).mp (hr'.trans hbi.symm)
     omega
    obtain⟨x,y,z,e1,e2⟩:=h2 j r' (by omega) hr'
    exact⟨x,y,z,K9 _ _ hne e1,e2⟩
 ·intro τ G2 h_;apply xe10 h_;clear h_;intro v1 v2 v3 v4 v5 v6 v7 v8 v9 v10 h_;apply ae2 h_;clear h_;intro h1 h2
  wp_walk using 1,tSeq
  exact kk G2
end W
namespace W
open PySem PySem.Spec PyProof.Rows L2 L3
theorem ln1 {α:Type} {us:List α} {C:List α->Prop} (h:us.length=1) (k:∀a0,C [a0]):C us:=by
 obtain⟨a0,us,rfl⟩:=lQy h
 replace h:=lQz h
 cases lVs.mp h
 exact k a0
theorem ln2 {α:Type} {us:List α} {C:List α->Prop} (h:us.length=2) (k:∀a0 a1,C [a0,a1]):C us:=by
 obtain⟨a0,us,rfl⟩:=lQy h
 replace h:=lQz h
 obtain⟨a1,us,rfl⟩:=lQy h
 replace h:=lQz h
 cases lVs.mp h
 exact k a0 a1
theorem ln3 {α:Type} {us:List α} {C:List α->Prop} (h:us.length=3) (k:∀a0 a1 a2,C [a0,a1,a2]):C us:=by
 obtain⟨a0,us,rfl⟩:=lQy h
 replace h:=lQz h
 obtain⟨a1,us,rfl⟩:=lQy h
 replace h:=lQz h
 obtain⟨a2,us,rfl⟩:=lQy h
 replace h:=lQz h
 cases lVs.mp h
 exact k a0 a1 a2
theorem ln4 {α:Type} {us:List α} {C:List α->Prop} (h:us.length=4) (k:∀a0 a1 a2 a3,C [a0,a1,a2,a3]):C us:=by
 obtain⟨a0,us,rfl⟩:=lQy h
 replace h:=lQz h
 obtain⟨a1,us,rfl⟩:=lQy h
 replace h:=lQz h
 obtain⟨a2,us,rfl⟩:=lQy h
 replace h:=lQz h
 obtain⟨a3,us,rfl⟩:=lQy h
 replace h:=lQz h
 cases lVs.mp h
 exact k a0 a1 a2 a3
def top (i:Nat):Stmt:=PySem.Challenge.pw_stonewalker_k54_webs_put_right.main.body.getD i (.Pass ⟨0,0,0,0⟩)
def FnAt (K:PySem.W.Frag) (mg:Str->Option Value) (x:Str) (i:Nat):Prop:=∃f fd,mg x=some (.ref f)/\Fun K x x (top i) f fd
structure Txt (K:PySem.W.Frag) (mg:Str->Option Value):Prop where
 n_abs:mg "abs"=none
 n_all:mg "all"=none
 n_bool:mg "bool"=none
 n_enumerate:mg "enumerate"=none
 n_int:mg "int"=none
 n_isinstance:mg "isinstance"=none
 n_len:mg "len"=none
 n_list:mg "list"=none
 n_max:mg "max"=none
 n_min:mg "min"=none
 n_range:mg "range"=none
 n_set:mg "set"=none
 n_sorted:mg "sorted"=none
 n_sum:mg "sum"=none
 n_tuple:mg "tuple"=none
 n_zip:mg "zip"=none
 f_first_comings:FnAt K mg "first_comings" 1
 f_ties:FnAt K mg "ties" 2
 f_ends_on:FnAt K mg "ends_on" 3
 f_seen:FnAt K mg "seen" 4
 f_way_of:FnAt K mg "way_of" 6
 f_seen_in:FnAt K mg "seen_in" 7
 f_fits:FnAt K mg "fits" 8
 f_with_end:FnAt K mg "with_end" 10
 f_with_tie:FnAt K mg "with_tie" 11
 f_by_ties:FnAt K mg "by_ties" 12
 f_all_crossed:FnAt K mg "all_crossed" 13
 f_put_right:FnAt K mg "put_right" 14
 f_l_box:FnAt K mg "_law_box" 16
 f_l_take:FnAt K mg "_law_take" 17
 f_l_boxes:FnAt K mg "_law_boxes" 18
 f_l_web:FnAt K mg "_law_web" 19
 f_l_way:FnAt K mg "_law_way" 20
 f_l_same:FnAt K mg "_law_same" 21
 f_l_story:FnAt K mg "_law_story" 22
 f_l_last:FnAt K mg "_law_last" 23
 f_l_ties:FnAt K mg "_law_ties" 24
 f_l_crossed:FnAt K mg "_law_crossed" 25
 f_l_all_crossed:FnAt K mg "_law_all_crossed" 26
 f_law:FnAt K mg "law" 27
variable {P:Program} {w:World} {K:PySem.W.Frag} {mg:Str->Option Value} {base:Heap}
theorem cal3 {x:Str} {i k:Nat} {N ps:List Str} {sp:Sp3} {t:TS3} (F:FnAt K mg x i) (h:∀xs G Q,sp xs G Q->t {nx:=fun _ G'=>Q .non G',rt:=Q} (jUm N xs) G)
  (d:∀(f:Addr) (cdv:Value) (A:Around) (outer:List Env) (s:Shared) (H:Hp) (E:XK),Room k (A.deeper (envOfC x (jJ1 (top i)) s.heap.objs.size f cdv))->(A.deeper (envOfC x (jJ1 (top i)) s.heap.objs.size f cdv)).units+20<cLine->N.Nodup->PSs3 (cxOf CX0 P w K mg base N x (jJ1 (top i)) f cdv A outer s H E).nox (jQz (top i)) t)
  (S:FnScope N ps (jJ1 (top i)):=by exact⟨rfl,rfl,rfl,by decide +kernel,rfl,by decide +kernel,by decide +kernel⟩)
  (b:∀(kV doc pm:Value) (an:Option Addr) (cdv ct:Value) (us:List Value),us.length=ps.length->bindArgs (PySem.W.fnOf x x (jVq (top i)) (jQz (top i)) (jJ1 (top i)) .none kV doc pm an cdv ct) ⟨us,[]⟩=pure (ps.zip us):=by (intro _ _ _ _ _ _ us hl;first | (apply ln1 hl;intros;rfl) | (apply ln2 hl;intros;rfl) | (apply ln3 hl;intros;rfl) | (apply ln4 hl;intros;rfl)))
  (m:Mono sp:=by (intro xs G Q Q' hq;(repeat' (first | (refine Exists.imp fun _=> ?_) | (refine And.imp_right ?_)));intro k;intros;apply hq;apply k<;>assumption))
  (n:∀xs G Q,sp xs G Q->xs.length=ps.length:=by (intro xs G Q h;repeat (first | exact (lKp List.length h.1).trans rfl | obtain⟨_,h⟩:=h))):Cal P w K mg base (k+1) x ps sp:=by
 obtain⟨f,fd,a,F⟩:=F
 exact⟨⟨f,fd,fn3 F S fun cdv A outer s H E hr=>⟨t,d f cdv A outer s H E hr (hu_of hr) S.nd,h⟩,a,F.kp,F.binds b⟩,m,n⟩
theorem cal0 {x:Str} {i k:Nat} {ps:List Str} (F:FnAt K mg x i) (b:∀(kV doc pm:Value) (an:Option Addr) (cdv ct:Value) (us:List Value),us.length=ps.length->bindArgs (PySem.W.fnOf x x (jVq (top i)) (jQz (top i)) (jJ1 (top i)) .none kV doc pm an cdv ct) ⟨us,[]⟩=pure (ps.zip us):=by (intro _ _ _ _ _ _ us hl;first | (apply ln1 hl;intros;rfl) | (apply ln2 hl;intros;rfl) | (apply ln3 hl;intros;rfl) | (apply ln4 hl;intros;rfl))):Cal P w K mg base k x ps (fun _ _ _=>False):=by
 obtain⟨f,fd,a,F⟩:=F
 refine⟨⟨f,fd,⟨fun vs H Q E h=>h.1,?_⟩,a,F.kp,F.binds b⟩,fun _ _ _ _ _ h=>h,fun _ _ _ h=>h.elim⟩
 intros
 rename_i h
 exact absurd h (by rintro⟨_,_,_,_,_,h⟩;exact h)
theorem jX2 (T:Txt K mg):Cal P w K mg base 1 "first_comings" ["web","room"] jK9:=
 cal3 T.f_first_comings jV0 fun _ _ _ _ _ _ _ hr hu nd=>
  (jJd (jJy (i:=2) nd (qXh (jJc 1) jVe))
   (jJd (jJy (i:=3) nd (jQy (jJa (jJc 1) jJf)))
   (jJd (kYb lJ9 (t_tru kXy (jJc 3)) (jJd (jJy (i:=4) nd (jQy jJf))
   (jJd (jQj lJ9 rfl (jQ7 (jJc 3)) (jJm (i:=5) nd) (jJk (jQj lJ9 rfl (kUh rfl T.n_enumerate rfl (jJa (e_ix (ix_F hu) (jJc 0) (jJc 5) (fun _ _=>rfl)) jJf)) (jUp rfl (jJt (jJm (i:=6) nd) (jJt (jJm (i:=7) nd) jKx))) (jJk (s_if (jKk (kKz hu) (e_ix (ix_F hu) (jJc 7) jJl (fun _ _=>rfl)) (jJc 2) (jJn _)) (jJd (jXz (jK4 (jJa (jJc 5) (jJa (jJc 6) jJf))) (kKc (jJc 2) (e_ix (ix_F hu) (jJc 7) jJl (fun _ _=>rfl)) (s_F hu)))
   (jJk (jQk (e_bm lKv lQc lQd jKd (jJc 4) (jJa (e_ix (ix_F hu) (jJc 7) jJl (fun _ _=>rfl)) jJf))))) jKc)))))
   (jJk (jJy (i:=3) nd (jJc 4))))))
   (jJk (jKb (jJc 2))))))
theorem qVk (T:Txt K mg):Cal P w K mg base 1 "ties" ["web"] kQr:=
 cal3 T.f_ties kYh fun _ _ _ _ _ _ _ hr hu nd=>
  (jJd (jJy (i:=1) nd (jQy jJf))
   (jJd (jQj lJ9 rfl (kUh rfl T.n_enumerate rfl (jJa (jJc 0) jJf)) (jUp rfl (jJt (jJm (i:=2) nd) (jJt (jJm (i:=3) nd) jKx))) (jJk (jQj lJ9 rfl (kUh rfl T.n_enumerate rfl (jJa (jJc 3) jJf)) (jUp rfl (jJt (jJm (i:=4) nd) (jJt (jJm (i:=5) nd) jKx))) (jJk (s_if (jKk (qKt hu) (jK4 (jJa (jJc 2) (jJa (jJc 4) jJf))) (jJc 5) (jJn _)) (jJk (jQk (e_bm lKv lQc lQd jKd (jJc 1) (jJa (jK4 (jJa (jK4 (jJa (jJc 2) (jJa (jJc 4) jJf))) (jJa (jJc 5) jJf))) jJf)))) jKc)))))
   (jJk (jKb (jJc 1)))))
theorem kXc (T:Txt K mg):Cal P w K mg base 1 "ends_on" ["web","room","way"] jXg:=
 cal3 T.f_ends_on kKu (fun _ _ _ _ _ _ _ hr hu nd=>
  (jJd (jJy (i:=3) nd (jQy jJf))
   (jJd (jJy (i:=4) nd (jJc 1))
   (jJd (jQj lJ9 rfl (jQ7 (jJc 2)) (jJm (i:=5) nd) (jJd (s_if (qJz (qU3 (qKt hu) o_lt jJl (jJc 5) (jJo jKw (by rfl) T.n_len lJ3 (jJa (e_ix (ix_F hu) (jJc 0) (jJc 4) (fun _ _=>rfl)) jJf)))) (jJk (jKb jVe)) jKc)
   (jJd (jJy (i:=6) nd (e_ix (ix_F hu) (e_ix (ix_F hu) (jJc 0) (jJc 4) (fun _ _=>rfl)) (jJc 5) (fun _ _=>rfl)))
   (jJd (jQk (e_bm lKv lQc lQd jKd (jJc 3) (jJa (jJc 6) jJf)))
   (jJk (jJy (i:=4) nd (e_ix (ix_F hu) (jJc 6) jJl (fun _ _=>rfl))))))))
   (jJk (jKb (jJc 3))))))) (m:=by (intro xs G Q Q' hq;(repeat' (first | (refine Exists.imp fun _=> ?_) | (refine And.imp_right ?_)));intro k G' s;refine⟨fun a=>hq _ _ ((k G' s).1 a),?_⟩;intros;apply hq;apply (k G' s).2<;>assumption))
theorem qVl (T:Txt K mg):Cal P w K mg base 2 "seen" ["web","room","way"] kQs:=
 cal3 T.f_seen kYi fun _ _ _ _ _ _ _ hr hu nd=>
  (jJd (jJy (i:=3) nd (jKa (kXc T) (hr.mono (by decide)) (jJa (jJc 0) (jJa (jJc 1) (jJa (jJc 2) jJf)))))
   (jJd (s_if (jKk qVp (jJc 3) jVe (jJn _)) (jJk (jKb jVe)) jKc)
   (jJk (jKb (jKu jQ1 (by rfl) T.n_tuple rfl (jJa (e_op o_addF (jQy (jJa (jJo jKw (by rfl) T.n_len lJ3 (jJa (e_ix (ix_F hu) (jJc 0) (jJc 1) (fun _ _=>rfl)) jJf)) jJf)) (jQp (mask:=[false,false,false,false,true]) rfl ⟨rfl,rfl,rfl,rfl,rfl,rfl,rfl⟩ (jQ7 (jJc 3)) jJ8 (fun C fp s H=>(jJm (i:=4) nd)) (fun C fp s H=>jUo) (fun C fp s H=>(jK4 (jJa (e_ix (ix_F hu) (jJc 4) jJl (fun _ _=>rfl)) (jJa (jJo jKw (by rfl) T.n_len lJ3 (jJa (e_ix (ix_F hu) (jJc 0) (e_ix (ix_F hu) (jJc 4) jJl (fun _ _=>rfl)) (fun _ _=>rfl)) jJf)) jJf)))))) jJf))))))
theorem kY5 (T:Txt K mg):Cal P w K mg base 1 "way_of" ["story"] jYo:=
 cal3 T.f_way_of kQy fun _ _ _ _ _ _ _ hr hu nd=>
  (jJk (jKb (jKu jQ1 (by rfl) T.n_tuple rfl (jJa (jQp (mask:=[false,true]) rfl ⟨rfl,rfl,rfl,rfl,rfl,rfl,rfl⟩ (jQ7 (e_ix (ix_F hu) (jJc 0) jJl (fun _ _=>rfl))) jJ8 (fun C fp s H=>(jJm (i:=1) nd)) (fun C fp s H=>jUo) (fun C fp s H=>(e_ix (ix_F hu) (jJc 1) jJl (fun _ _=>rfl)))) jJf))))
theorem kV9 (T:Txt K mg):Cal P w K mg base 1 "seen_in" ["story"] jXd:=
 cal3 T.f_seen_in kKr fun _ _ _ _ _ _ _ hr hu nd=>
  (jJk (jKb (jKu jQ1 (by rfl) T.n_tuple rfl (jJa (e_op o_addF (jQy (jJa (e_ix (ix_F hu) (jJc 0) jJl (fun _ _=>rfl)) jJf)) (jQp (mask:=[false,true]) rfl ⟨rfl,rfl,rfl,rfl,rfl,rfl,rfl⟩ (jQ7 (e_ix (ix_F hu) (jJc 0) jJl (fun _ _=>rfl))) jJ8 (fun C fp s H=>(jJm (i:=1) nd)) (fun C fp s H=>jUo) (fun C fp s H=>(jK4 (jJa (e_ix (ix_F hu) (jJc 1) jJl (fun _ _=>rfl)) (jJa (e_ix (ix_F hu) (jJc 1) jJl (fun _ _=>rfl)) jJf)))))) jJf))))
theorem qVm (T:Txt K mg):Cal P w K mg base 3 "fits" ["web","room","story"] kQt:=
 cal3 T.f_fits kYj fun _ _ _ _ _ _ _ hr hu nd=>
  (jJk (jKb (jX4 (jUy hr.units) (jKa (qVl T) (hr.mono (by decide)) (jJa (jJc 0) (jJa (jJc 1) (jJa (jKa (kY5 T) (hr.mono (by decide)) (jJa (jJc 2) jJf)) jJf)))) (jKa (kV9 T) (hr.mono (by decide)) (jJa (jJc 2) jJf)) (jJn _))))
theorem jY2 (T:Txt K mg):Cal P w K mg base 1 "with_end" ["web","start","end"] jUf:=
 cal3 T.f_with_end kJp fun _ _ _ _ _ _ _ hr hu nd=>
  (jJd (jJy (i:=3) nd (e_ix (ix_F hu) (jJc 0) (e_ix (ix_F hu) (jJc 1) jJl (fun _ _=>rfl)) (fun _ _=>rfl)))
   (jJd (jJy (i:=4) nd (e_op jZz (e_op jZz (jXq sl_F (jJc 3) jZw (jV3 (e_ix (ix_F hu) (jJc 1) jJl (fun _ _=>rfl)))) (jK4 (jJa (jJc 2) jJf))) (jXq sl_F (jJc 3) (jV3 (e_op jZz (e_ix (ix_F hu) (jJc 1) jJl (fun _ _=>rfl)) jJl)) jZw)))
   (jJk (jKb (e_op jZz (e_op jZz (jXq sl_F (jJc 0) jZw (jV3 (e_ix (ix_F hu) (jJc 1) jJl (fun _ _=>rfl)))) (jK4 (jJa (jJc 4) jJf))) (jXq sl_F (jJc 0) (jV3 (e_op jZz (e_ix (ix_F hu) (jJc 1) jJl (fun _ _=>rfl)) jJl)) jZw))))))
theorem jY1 (T:Txt K mg):Cal P w K mg base 2 "with_tie" ["web","one","other"] jUe:=
 cal3 T.f_with_tie kJo fun _ _ _ _ _ _ _ hr hu nd=>
  (jJk (jKb (jKa (jY2 T) (hr.mono (by decide)) (jJa (jKa (jY2 T) (hr.mono (by decide)) (jJa (jJc 0) (jJa (jJc 1) (jJa (jJc 2) jJf)))) (jJa (jJc 2) (jJa (jJc 1) jJf))))))
theorem jZx (T:Txt K mg):Cal P w K mg base 3 "by_ties" ["web","first","second","about"] jU3:=
 cal3 T.f_by_ties kKv fun _ _ _ _ _ _ _ hr hu nd=>
  (jJd (s_if (jKk (kXd hr.units) (jX4 (jUy hr.units) (e_ix (ix_F hu) (jJc 1) jJl (fun _ _=>rfl)) (e_ix (ix_F hu) (jJc 1) jJl (fun _ _=>rfl)) (jJn _)) (jX4 (jUy hr.units) (e_ix (ix_F hu) (jJc 2) jJl (fun _ _=>rfl)) (e_ix (ix_F hu) (jJc 2) jJl (fun _ _=>rfl)) (jJn _)) (jJn _)) (jJk (jKb jVe)) jKc)
   (jJd (jJy (i:=4) nd (e_ix (ix_F hu) (jJc 2) (jJc 3) (fun _ _=>rfl)))
   (jJd (jJy (i:=5) nd (e_ix (ix_F hu) (jJc 2) (e_op kZe jJl (jJc 3)) (fun _ _=>rfl)))
   (jJd (jJy (i:=6) nd (jKa (jY1 T) (hr.mono (by decide)) (jJa (jKa (jY1 T) (hr.mono (by decide)) (jJa (jJc 0) (jJa (e_ix (ix_F hu) (jJc 1) jJl (fun _ _=>rfl)) (jJa (jJc 5) jJf)))) (jJa (jJc 4) (jJa (e_ix (ix_F hu) (jJc 1) jJl (fun _ _=>rfl)) jJf)))))
   (jJk (jKb (kUl (jKk (jUy hr.units) (jJo qUu (by rfl) T.n_len lJ3 (jJa (jKa (jX2 T) (hr.mono (by decide)) (jJa (jJc 6) (jJa jJl jJf))) jJf)) (jJo qUu (by rfl) T.n_len lJ3 (jJa (jJc 6) jJf)) (jJn _)) (jJc 6) jVe)))))))
theorem jZl (T:Txt K mg):Cal P w K mg base 4 "all_crossed" ["web"] jQu:=
 cal3 T.f_all_crossed jX0 fun _ _ _ _ _ _ _ hr hu nd=>
  (jJd (jJy (i:=1) nd (jKa (qVk T) (hr.mono (by decide)) (jJa (jJc 0) jJf)))
   (jJd (jJy (i:=2) nd (jQy jJf))
   (jJd (jQj lJ9 rfl (kZs rfl T.n_enumerate rfl (jJa (jJc 1) jJf)) (jUp rfl (jJt (jJm (i:=3) nd) (jJt (jJm (i:=4) nd) jKx))) (jJk (jQj lJ9 rfl (jQ7 (jXq sl_F (jJc 1) jZw (jV3 (jJc 3)))) (jJm (i:=5) nd) (jJd (jQk (e_bm lKv lQc lQd jKd (jJc 2) (jJa (jKa (jZx T) (hr.mono (by decide)) (jJa (jJc 0) (jJa (jJc 5) (jJa (jJc 4) (jJa jJl jJf))))) jJf)))
   (jJk (jQk (e_bm lKv lQc lQd jKd (jJc 2) (jJa (jKa (jZx T) (hr.mono (by decide)) (jJa (jJc 0) (jJa (jJc 5) (jJa (jJc 4) (jJa jJl jJf))))) jJf))))))))
   (jJk (jKb (jQp (mask:=[false,false,false,false,false,false,true]) rfl ⟨rfl,rfl,rfl,rfl,rfl,rfl,rfl⟩ (jQ7 (jJc 2)) jJ8 (fun C fp s H=>(jJm (i:=6) nd)) (fun C fp s H=>(jY7 (jKk kZf (jJc 6) jVe (jJn _)))) (fun C fp s H=>(jJc 6))))))))
theorem kKx (T:Txt K mg):Cal P w K mg base 5 "put_right" ["web","room","story"] jUt:=
 cal3 T.f_put_right jZj fun _ _ _ _ _ _ _ hr hu nd=>
  (jJk (jKb (kZ7 rfl hu (by rfl) T.n_sorted rfl (by rfl) T.n_set rfl (jJa (jQp (mask:=[false,false,false,true]) rfl ⟨rfl,rfl,rfl,rfl,rfl,rfl,rfl⟩ (jQ7 (e_op o_addF (jQy (jJa (jJc 0) jJf)) (jKa (jZl T) (hr.mono (by decide)) (jJa (jJc 0) jJf)))) jJ8 (fun C fp s H=>(jJm (i:=3) nd)) (fun C fp s H=>(jY7 (kX0 (jKa (qVm T) (hr.mono (by decide)) (jJa (jJc 3) (jJa (jJc 1) (jJa (jJc 2) jJf))))))) (fun C fp s H=>(jJc 3))) jJf))))
theorem qKq (T:Txt K mg):Cal P w K mg base 1 "_law_box" ["_law_script","_law_k"] kJj:=
 cal3 T.f_l_box kV5 fun _ _ _ _ _ _ _ hr hu nd=>
  (jJd (jJy (i:=2) nd jJl)
   (jJd (s_if (jKk o_lt (jJc 1) (jJo jKw (by rfl) T.n_len lJ3 (jJa (jJc 0) jJf)) (jJn _)) (jJk (jJy (i:=2) nd (e_ix (ix_F hu) (jJc 0) (jJc 1) (fun _ _=>rfl)))) jKc)
   (jJd (jJy (i:=3) nd jJl)
   (jJd (s_if (jKk o_ge (jJo c_abs (by rfl) T.n_abs rfl (jJa (jJc 2) jJf)) (e_op o_pow jJl jJl) (jJn _)) (jJk (jJy (i:=3) nd (jJo c_abs (by rfl) T.n_abs rfl (jJa (jJc 2) jJf)))) jKc)
   (jJk (jKb (jQy (jJa (jJc 3) (jJa (e_op kJ1 (e_op jZy (e_op o_addF (e_op o_addF (e_op kJ1 (jJc 2) jJl) (e_op jZy jJl (jJc 1))) jJl) jJl) jJl) (jJa jJl jJf))))))))))
theorem jJ4 (T:Txt K mg):Cal P w K mg base 1 "_law_take" ["_law_box_here","_law_many"] jJs:=
 cal3 T.f_l_take kQ0 fun _ _ _ _ _ _ _ hr hu nd=>
  (jJd (s_if (jKk o_gt (e_ix (ix_F hu) (jJc 0) jJl (fun _ _=>rfl)) jJl (jJn _)) (jJd (jJy (i:=2) nd (e_op kJ1 (e_ix (ix_F hu) (jJc 0) jJl (fun _ _=>rfl)) (jJc 1)))
   (jJd (jXz (e_op qUd (e_ix (ix_F hu) (jJc 0) jJl (fun _ _=>rfl)) (jJc 1)) (kKc (jJc 0) jJl (s_F hu)))
   (jJk (jKb (jJc 2))))) jKc)
   (jJd (jXz (e_op o_addF (e_ix (ix_F hu) (jJc 0) jJl (fun _ _=>rfl)) jJl) (kKc (jJc 0) jJl (s_F hu)))
   (jJd (jJy (i:=3) nd (e_op kJ1 (e_op jZy (e_op o_addF (e_ix (ix_F hu) (jJc 0) jJl (fun _ _=>rfl)) (e_op jZy jJl (e_ix (ix_F hu) (jJc 0) jJl (fun _ _=>rfl)))) (e_op o_addF jJl (e_ix (ix_F hu) (jJc 0) jJl (fun _ _=>rfl)))) jJl))
   (jJd (jXz (e_op kJ1 (e_op o_addF (e_op jZy (jJc 3) (e_op o_addF (e_op kJ1 (jJc 3) jJl) jJl)) (e_ix (ix_F hu) (jJc 0) jJl (fun _ _=>rfl))) jJl) (kKc (jJc 0) jJl (s_F hu)))
   (jJk (jKb (e_op kJ1 (e_op qUd (e_op kJ1 (e_op jZy (e_ix (ix_F hu) (jJc 0) jJl (fun _ _=>rfl)) (e_op o_addF (e_op kJ1 (e_ix (ix_F hu) (jJc 0) jJl (fun _ _=>rfl)) jJl) jJl)) jJl) jJl) (jJc 1))))))))
theorem kXb (T:Txt K mg):Cal P w K mg base 2 "_law_boxes" ["_law_script","_law_most"] jXf:=
 cal3 T.f_l_boxes kKt fun _ _ _ _ _ _ _ hr hu nd=>
  (jJd (jJy (i:=2) nd (jQp (mask:=[false,false,false,true]) rfl ⟨rfl,rfl,rfl,rfl,rfl,rfl,rfl⟩ (jKt rfl T.n_range (jJa (jJo (c_max rfl) (by rfl) T.n_max rfl (jJa jJl (jJa (jJo (c_min2 rfl) (by rfl) T.n_min rfl (jJa (jJc 1) (jJa (jJo jKw (by rfl) T.n_len lJ3 (jJa (jJc 0) jJf)) jJf))) jJf))) jJf)) jJ8 (fun C fp s H=>(jJm (i:=3) nd)) (fun C fp s H=>jUo) (fun C fp s H=>(jJo (c_sum rfl) (by rfl) T.n_sum rfl (jJa (e_slSt (jJc 0) (jV3 (jJc 3)) (jV3 jJl) (jV3 (jJc 1))) jJf)))))
   (jJk (jKb (jQp (mask:=[false,false,false,true]) rfl ⟨rfl,rfl,rfl,rfl,rfl,rfl,rfl⟩ (jKt rfl T.n_range (jJa (jJo jKw (by rfl) T.n_len lJ3 (jJa (jJc 2) jJf)) jJf)) jJ8 (fun C fp s H=>(jJm (i:=3) nd)) (fun C fp s H=>jUo) (fun C fp s H=>(jKa (qKq T) (hr.mono (by decide)) (jJa (jJc 2) (jJa (jJc 3) jJf))))))))
theorem kU7 (T:Txt K mg):Cal P w K mg base 2 "_law_web" ["_law_box_here","_law_size","_law_more"] jYb:=
 cal3 T.f_l_web kV3 fun _ _ _ _ _ _ _ hr hu nd=>
  (jJd (jJy (i:=3) nd (jQp (mask:=[false,false,false,false,false,false,false,false,false,false,false,false,true,false,false,false]) rfl ⟨rfl,rfl,rfl,rfl,rfl,rfl,rfl⟩ (jKt rfl T.n_range (jJa (jJc 1) jJf)) jJ8 (fun C fp s H=>(jJm (i:=12) nd)) (fun C fp s H=>jUo) (fun C fp s H=>(jQy jJf))))
   (jJd (jJy (i:=4) nd qXi)
   (jJd (jQj lJ9 rfl (jKt rfl T.n_range (jJa (e_op o_addF (e_op kZe (jJc 1) jJl) (jJc 2)) jJf)) (jJm (i:=5) nd) (jJd (kYc (i:=6) (mask:=[false,false,false,false,false,false,false,false,false,false,false,false,true,false,false,false]) rfl nd ⟨rfl,rfl,rfl,rfl,rfl,rfl,rfl⟩ (jKt rfl T.n_range (jJa (jJc 1) jJf)) jJ8 (fun C fp s H=>(jJm (i:=12) nd)) (fun C fp s H=>(jY7 (jKk o_lt (jJo jKw (by rfl) T.n_len lJ3 (jJa (e_ix (ix_F hu) (jJc 3) (jJc 12) (fun _ _=>rfl)) jJf)) jJl (jJn _)))) (fun C fp s H=>(jJc 12)))
   (jJd (s_if (jKk (jUy hr.units) (jJc 6) (jQy jJf) (jJn _)) (jJk s_cont) jKc)
   (jJd (jJy (i:=7) nd (e_ix (ix_F hu) (jJc 6) (jKa (jJ4 T) (hr.mono (by decide)) (jJa (jJc 0) (jJa (jJo jKw (by rfl) T.n_len lJ3 (jJa (jJc 6) jJf)) jJf))) (fun _ _=>rfl)))
   (jJd (jJy (i:=8) nd (e_ix (ix_F hu) (jJc 6) (jKa (jJ4 T) (hr.mono (by decide)) (jJa (jJc 0) (jJa (jJo jKw (by rfl) T.n_len lJ3 (jJa (jJc 6) jJf)) jJf))) (fun _ _=>rfl)))
   (jJd (s_if (jKk o_lt (jJc 5) (e_op kZe (jJc 1) jJl) (jJn _)) (jJd (jJy (i:=8) nd (e_op o_addF (jJc 5) jJl))
   (jJd (kYc (i:=9) (mask:=[false,false,false,false,false,false,false,false,false,false,false,false,true,false,false,false]) rfl nd ⟨rfl,rfl,rfl,rfl,rfl,rfl,rfl⟩ (jQ7 (jJc 6)) jJ8 (fun C fp s H=>(jJm (i:=12) nd)) (fun C fp s H=>(jY7 (jKk (qKt hu) (jJc 12) (jJc 5) (jJn _)))) (fun C fp s H=>(jJc 12)))
   (jJk (jJy (i:=7) nd (e_ix (ix_F hu) (jJc 9) (jKa (jJ4 T) (hr.mono (by decide)) (jJa (jJc 0) (jJa (jJo jKw (by rfl) T.n_len lJ3 (jJa (jJc 9) jJf)) jJf))) (fun _ _=>rfl)))))) jKc)
   (jJd (jJy (i:=10) nd (qQr (jX4 o_ge (jJc 5) (e_op kZe (jJc 1) jJl) (jJn _)) (qXg (jX4 (jUy hr.units) (jKa (jJ4 T) (hr.mono (by decide)) (jJa (jJc 0) (jJa jJl jJf))) jJl (jJn _)))))
   (jJd (jXz (jJc 10) (kKc (jJc 4) (jJc 5) (s_F hu)))
   (jJd (jQk (e_bm lKv PySem.F.slot_list_insert PySem.F.type_list_insert kVa (e_ix (ix_F hu) (jJc 3) (jJc 7) (fun _ _=>rfl)) (jJa (jKa (jJ4 T) (hr.mono (by decide)) (jJa (jJc 0) (jJa (e_op o_addF (jJo jKw (by rfl) T.n_len lJ3 (jJa (e_ix (ix_F hu) (jJc 3) (jJc 7) (fun _ _=>rfl)) jJf)) jJl) jJf))) (jJa (jK4 (jJa (jJc 5) (jJa jJl jJf))) jJf))))
   (jJk (s_if (qJz (t_tru kXy (jJc 10))) (jJk (jQk (e_bm lKv PySem.F.slot_list_insert PySem.F.type_list_insert kVa (e_ix (ix_F hu) (jJc 3) (jJc 8) (fun _ _=>rfl)) (jJa (jKa (jJ4 T) (hr.mono (by decide)) (jJa (jJc 0) (jJa (e_op o_addF (jJo jKw (by rfl) T.n_len lJ3 (jJa (e_ix (ix_F hu) (jJc 3) (jJc 8) (fun _ _=>rfl)) jJf)) jJl) jJf))) (jJa (jK4 (jJa (jJc 5) (jJa jJl jJf))) jJf))))) jKc)))))))))))
   (jJd (jJy (i:=11) nd qXi)
   (jJd (jQj lJ9 rfl (jKt rfl T.n_range (jJa (jJc 1) jJf)) (jJm (i:=12) nd) (jJk (jQj lJ9 rfl (kZs rfl T.n_enumerate rfl (jJa (e_ix (ix_F hu) (jJc 3) (jJc 12) (fun _ _=>rfl)) jJf)) (jUp rfl (jJt (jJm (i:=13) nd) (jJt (jJm (i:=14) nd) jKx))) (jJk (jXz (jK4 (jJa (jJc 12) (jJa (jJc 13) jJf))) (kKc (jJc 11) (jJc 14) (s_F hu)))))))
   (jJk (jKb (jKu jQ1 (by rfl) T.n_tuple rfl (jJa (jQp (mask:=[false,false,false,false,false,false,false,false,false,false,false,false,false,false,false,true]) rfl ⟨rfl,rfl,rfl,rfl,rfl,rfl,rfl⟩ (jQ7 (jJc 3)) jJ8 (fun C fp s H=>(jJm (i:=15) nd)) (fun C fp s H=>jUo) (fun C fp s H=>(jKu jQ1 (by rfl) T.n_tuple rfl (jJa (jQp (mask:=[false,false,false,false,false,true,false,false,false,false,false,false,false,false,true,false]) rfl ⟨rfl,rfl,rfl,rfl,rfl,rfl,rfl⟩ (jQ7 (jJc 15)) (qUl (kKb jJ8 jXo (kKb jJ8 jXo qUm kVi) (kZx jXo kVi))) (fun C fp s H=>(jUp rfl (jJt (jJm (i:=5) nd) (jJt (jJm (i:=14) nd) jKx)))) (fun C fp s H=>jUo) (fun C fp s H=>(e_ix (ix_F hu) (jJc 11) (jK4 (jJa (jJc 5) (jJa (kUl (kX0 (e_ix (ix_F hu) (jJc 4) (jJc 5) (fun _ _=>rfl))) (jJc 14) (e_op kZe jJl (jJc 14))) jJf))) (fun _ _=>rfl)))) jJf)))) jJf)))))))))
theorem qKp (T:Txt K mg):Cal P w K mg base 2 "_law_way" ["_law_box_here","_law_web_here","_law_room","_law_many"] kJi:=
 cal3 T.f_l_way kV4 fun _ _ _ _ _ _ _ hr hu nd=>
  (jJd (jJy (i:=4) nd (jQy jJf))
   (jJd (jJy (i:=5) nd (jQy jJf))
   (jJd (jQj lJ9 rfl (jKt rfl T.n_range (jJa (jJc 3) jJf)) (jJm (i:=6) nd) (jJd (jJy (i:=7) nd (jJo jKw (by rfl) T.n_len lJ3 (jJa (e_ix (ix_F hu) (jJc 1) (jJc 2) (fun _ _=>rfl)) jJf)))
   (jJd (s_if (jKk (jUy hr.units) (jJc 7) jJl (jJn _)) (jJk (jKb (jKu jQ1 (by rfl) T.n_tuple rfl (jJa (jJc 4) jJf)))) jKc)
   (jJd (kYc (i:=8) (mask:=[false,false,false,false,false,false,false,false,false,true]) rfl nd ⟨rfl,rfl,rfl,rfl,rfl,rfl,rfl⟩ (jKt rfl T.n_range (jJa (jJc 7) jJf)) jJ8 (fun C fp s H=>(jJm (i:=9) nd)) (fun C fp s H=>(jY7 (jKk (qKs hr.units) (jK4 (jJa (jJc 2) (jJa (jJc 9) jJf))) (jJc 5) (jJn _)))) (fun C fp s H=>(jJc 9)))
   (jJd (s_if (PW3.pt (w_or (jKk (jUy hr.units) (jJc 8) (jQy jJf) (jJn _)) (qU2 (jKk (jUy hr.units) (jKa (jJ4 T) (hr.mono (by decide)) (jJa (jJc 0) (jJa jJl jJf))) jJl (jJn _))))) (jJk (jJy (i:=8) nd (kUk rfl T.n_list rfl T.n_range rfl (jJa (jJc 7) jJf)))) jKc)
   (jJd (jJy (i:=9) nd (e_ix (ix_F hu) (jJc 8) (jKa (jJ4 T) (hr.mono (by decide)) (jJa (jJc 0) (jJa (jJo jKw (by rfl) T.n_len lJ3 (jJa (jJc 8) jJf)) jJf))) (fun _ _=>rfl)))
   (jJd (jQk (e_bm lKv lQc lQd jKd (jJc 4) (jJa (jJc 9) jJf)))
   (jJd (jQk (e_bm lKv lQc lQd jKd (jJc 5) (jJa (jK4 (jJa (jJc 2) (jJa (jJc 9) jJf))) jJf)))
   (jJd (jQk (e_bm lKv lQc lQd jKd (jJc 5) (jJa (e_ix (ix_F hu) (e_ix (ix_F hu) (jJc 1) (jJc 2) (fun _ _=>rfl)) (jJc 9) (fun _ _=>rfl)) jJf)))
   (jJk (jJy (i:=2) nd (e_ix (ix_F hu) (e_ix (ix_F hu) (e_ix (ix_F hu) (jJc 1) (jJc 2) (fun _ _=>rfl)) (jJc 9) (fun _ _=>rfl)) jJl (fun _ _=>rfl)))))))))))))
   (jJk (jKb (jKu jQ1 (by rfl) T.n_tuple rfl (jJa (jJc 4) jJf)))))))
theorem jQ2 {j:Nat} {sp sp':Sp3} (T:Txt K mg) (C_l_same:Cal P w K mg base (j) "_law_same" ["_law_found","_law_due"] sp) (h:∀xs G Q,sp' xs G Q->jK3 sp {nx:=fun _ G'=>Q .non G',rt:=Q} (jUm jXb xs) G) (m:Mono sp':=by unfold jYs;(intro xs G Q Q' hq;(repeat' (first | (refine Exists.imp fun _=> ?_) | (refine And.imp_right ?_)));intro k;intros;apply hq;apply k<;>assumption)) (n:∀xs G Q,sp' xs G Q->xs.length=(["_law_found","_law_due"]:List Str).length:=by (intro xs G Q h;repeat (first | exact (lKp List.length h.1).trans rfl | obtain⟨_,h⟩:=h))):Cal P w K mg base (j+1) "_law_same" ["_law_found","_law_due"] sp':=
 cal3 T.f_l_same h (fun _ _ _ _ _ _ _ hr hu nd=>(jJd (s_if (kX0 (jJo kUr (by rfl) T.n_isinstance rfl (jJa (jJc 1) (jJa (jK4 (jJa (e_ty rfl T.n_list rfl) (jJa (e_ty rfl T.n_tuple rfl) jJf))) jJf)))) (jJd (s_if (PW3.pt (w_or (qJz (kX0 (jJo kUr (by rfl) T.n_isinstance rfl (jJa (jJc 0) (jJa (jK4 (jJa (e_ty rfl T.n_list rfl) (jJa (e_ty rfl T.n_tuple rfl) jJf))) jJf))))) (qU2 (jKk (kXd hr.units) (jJo kUr (by rfl) T.n_isinstance rfl (jJa (jJc 0) (jJa (e_ty rfl T.n_list rfl) jJf))) (jJo kUr (by rfl) T.n_isinstance rfl (jJa (jJc 1) (jJa (e_ty rfl T.n_list rfl) jJf))) (jJn _))))) (jJk (jKb e_bl)) jKc)
   (jJk (jKb (qQr (jX4 (jUy hr.units) (jJo jKw (by rfl) T.n_len lJ3 (jJa (jJc 0) jJf)) (jJo jKw (by rfl) T.n_len lJ3 (jJa (jJc 1) jJf)) (jJn _)) (qXg (jJo (c_all rfl) (by rfl) T.n_all rfl (jJa (jQp (mask:=[false,false,true,true]) rfl ⟨rfl,rfl,rfl,rfl,rfl,rfl,rfl⟩ (i_zipB rfl T.n_zip rfl (jJa (jJc 0) (jJa (jJc 1) jJf))) (qUl (kKb jJ8 jXo (kKb jJ8 jXo qUm kVi) (kZx jXo kVi))) (fun C fp s H=>(jUp rfl (jJt (jJm (i:=2) nd) (jJt (jJm (i:=3) nd) jKx)))) (fun C fp s H=>jUo) (fun C fp s H=>(jKa C_l_same hr (jJa (jJc 2) (jJa (jJc 3) jJf))))) jJf))))))) jKc)
   (jJd (s_if (jKk qVp (jJc 1) jVe (jJn _)) (jJk (jKb (jX4 qVp (jJc 0) jVe (jJn _)))) jKc)
   (jJk (jKb (qQr (jJo kUr (by rfl) T.n_isinstance rfl (jJa (jJc 0) (jJa (e_ty rfl T.n_int rfl) jJf))) (qQr (jX4 (jUy hr.units) (jJo kUr (by rfl) T.n_isinstance rfl (jJa (jJc 0) (jJa (e_ty rfl T.n_bool rfl) jJf))) (jJo kUr (by rfl) T.n_isinstance rfl (jJa (jJc 1) (jJa (e_ty rfl T.n_bool rfl) jJf))) (jJn _)) (qXg (jX4 (jUy hr.units) (jJc 0) (jJc 1) (jJn _)))))))))) (m:=m) (n:=n)
theorem kY7 (T:Txt K mg):Cal P w K mg base 5 "_law_same" ["_law_found","_law_due"] (jYs 4):=
 jQ2 (j:=4) (sp':=jYs 4) T (jQ2 (j:=3) (sp':=jYs 3) T (jQ2 (j:=2) (sp':=jYs 2) T (jQ2 (j:=1) (sp':=jYs 1) T (jQ2 (j:=0) (sp':=jYs 0) T (cal0 T.f_l_same) (jXv _)) (jUh 0)) (jUh 1)) (jUh 2)) (jUh 3)
theorem kXa (T:Txt K mg):Cal P w K mg base 1 "_law_story" ["_law_web_here","_law_room","_law_way_here"] jXe:=
 cal3 T.f_l_story kKs fun _ _ _ _ _ _ _ hr hu nd=>
  (jJd (jJy (i:=3) nd (jQy jJf))
   (jJd (jJy (i:=4) nd (jJo jKw (by rfl) T.n_len lJ3 (jJa (e_ix (ix_F hu) (jJc 0) (jJc 1) (fun _ _=>rfl)) jJf)))
   (jJd (jQj lJ9 rfl (jQ7 (jJc 2)) (jJm (i:=5) nd) (jJd (jXz (e_ix (ix_F hu) (e_ix (ix_F hu) (jJc 0) (jJc 1) (fun _ _=>rfl)) (jJc 5) (fun _ _=>rfl)) (jUp rfl (jJt (jJm (i:=1) nd) (jJt (jJm (i:=6) nd) jKx))))
   (jJk (jQk (e_bm lKv lQc lQd jKd (jJc 3) (jJa (jK4 (jJa (jJc 5) (jJa (jJc 6) (jJa (jJo jKw (by rfl) T.n_len lJ3 (jJa (e_ix (ix_F hu) (jJc 0) (jJc 1) (fun _ _=>rfl)) jJf)) jJf)))) jJf))))))
   (jJk (jKb (jK4 (jJa (jJc 4) (jJa (jKu jQ1 (by rfl) T.n_tuple rfl (jJa (jJc 3) jJf)) jJf))))))))
theorem kY8 (T:Txt K mg):Cal P w K mg base 1 "_law_last" ["_law_web_here","_law_room","_law_story_here"] jYr:=
 cal3 T.f_l_last kQ1 fun _ _ _ _ _ _ _ hr hu nd=>
  (jJd (s_if (jKk (kXd hr.units) (jJo jKw (by rfl) T.n_len lJ3 (jJa (e_ix (ix_F hu) (jJc 0) (jJc 1) (fun _ _=>rfl)) jJf)) (e_ix (ix_F hu) (jJc 2) jJl (fun _ _=>rfl)) (jJn _)) (jJk (jKb jVe)) jKc)
   (jJd (jQj lJ9 rfl (jQ7 (e_ix (ix_F hu) (jJc 2) jJl (fun _ _=>rfl))) (jUp rfl (jJt (jJm (i:=3) nd) (jJt (jJm (i:=4) nd) (jJt (jJm (i:=5) nd) jKx)))) (jJd (s_if (jKk o_ge (jJc 3) (jJo jKw (by rfl) T.n_len lJ3 (jJa (e_ix (ix_F hu) (jJc 0) (jJc 1) (fun _ _=>rfl)) jJf)) (jJn _)) (jJk (jKb jVe)) jKc)
   (jJd (jXz (e_ix (ix_F hu) (e_ix (ix_F hu) (jJc 0) (jJc 1) (fun _ _=>rfl)) (jJc 3) (fun _ _=>rfl)) (jUp rfl (jJt (jJm (i:=1) nd) (jJt (jJm (i:=6) nd) jKx))))
   (jJk (s_if (PW3.pt (w_or (jKk (kXd hr.units) (jJc 6) (jJc 4) (jJn _)) (qU2 (jKk (kXd hr.units) (jJo jKw (by rfl) T.n_len lJ3 (jJa (e_ix (ix_F hu) (jJc 0) (jJc 1) (fun _ _=>rfl)) jJf)) (jJc 5) (jJn _))))) (jJk (jKb jVe)) jKc)))))
   (jJk (jKb (jJc 1)))))
theorem kY6 (T:Txt K mg):Cal P w K mg base 1 "_law_ties" ["_law_web_here"] jYp:=
 cal3 T.f_l_ties kQz fun _ _ _ _ _ _ _ hr hu nd=>
  (jJd (jJy (i:=1) nd (jQy jJf))
   (jJd (jQj lJ9 rfl (kUh rfl T.n_enumerate rfl (jJa (jJc 0) jJf)) (jUp rfl (jJt (jJm (i:=2) nd) (jJt (jJm (i:=3) nd) jKx))) (jJk (jQj lJ9 rfl (kUh rfl T.n_enumerate rfl (jJa (jJc 3) jJf)) (jUp rfl (jJt (jJm (i:=4) nd) (jJt (jJm (i:=5) nd) jKx))) (jJk (s_if (jKk (qKt hu) (jK4 (jJa (jJc 2) (jJa (jJc 4) jJf))) (jJc 5) (jJn _)) (jJk (jQk (e_bm lKv lQc lQd jKd (jJc 1) (jJa (jK4 (jJa (jK4 (jJa (jJc 2) (jJa (jJc 4) jJf))) (jJa (jJc 5) jJf))) jJf)))) jKc)))))
   (jJk (jKb (jJc 1)))))
theorem kKy (T:Txt K mg):Cal P w K mg base 1 "_law_crossed" ["_law_web_here","_law_first","_law_second","_law_about"] jUu:=
 cal3 T.f_l_crossed jZk fun _ _ _ _ _ _ _ hr hu nd=>
  (jJd (s_if (jKk (kXd hr.units) (jX4 (jUy hr.units) (e_ix (ix_F hu) (jJc 1) jJl (fun _ _=>rfl)) (e_ix (ix_F hu) (jJc 1) jJl (fun _ _=>rfl)) (jJn _)) (jX4 (jUy hr.units) (e_ix (ix_F hu) (jJc 2) jJl (fun _ _=>rfl)) (e_ix (ix_F hu) (jJc 2) jJl (fun _ _=>rfl)) (jJn _)) (jJn _)) (jJk (jKb jVe)) jKc)
   (jJd (jXz (jJc 2) (jUp rfl (jJt (jJm (i:=4) nd) (jJt (jJm (i:=5) nd) jKx))))
   (jJd (s_if (jKk (jUy hr.units) (jJc 3) jJl (jJn _)) (jJk (s_par (i:=4) (j:=5) rfl nd (by decide) (jJa (jJc 5) (jJa (jJc 4) jJf)))) jKc)
   (jJd (jJy (i:=6) nd qXi)
   (jJd (jQj lJ9 rfl (kUh rfl T.n_enumerate rfl (jJa (jJc 0) jJf)) (jUp rfl (jJt (jJm (i:=7) nd) (jJt (jJm (i:=8) nd) jKx))) (jJk (jQj lJ9 rfl (kUh rfl T.n_enumerate rfl (jJa (jJc 8) jJf)) (jUp rfl (jJt (jJm (i:=9) nd) (jJt (jJm (i:=10) nd) jKx))) (jJk (jXz (jJc 10) (kKc (jJc 6) (jK4 (jJa (jJc 7) (jJa (jJc 9) jJf))) (s_F hu)))))))
   (jJd (jQj lJ9 rfl (jQ7 (jQy (jJa (jK4 (jJa (e_ix (ix_F hu) (jJc 1) jJl (fun _ _=>rfl)) (jJa (jJc 5) jJf))) (jJa (jK4 (jJa (jJc 4) (jJa (e_ix (ix_F hu) (jJc 1) jJl (fun _ _=>rfl)) jJf))) jJf)))) (jUp rfl (jJt (jJm (i:=11) nd) (jJt (jJm (i:=12) nd) jKx))) (jJd (jXz (jJc 12) (kKc (jJc 6) (jJc 11) (s_F hu)))
   (jJk (jXz (jJc 11) (kKc (jJc 6) (jJc 12) (s_F hu))))))
   (jJd (jJy (i:=13) nd (jKu jQ1 (by rfl) T.n_tuple rfl (jJa (qXj (mask:=[false,false,false,false,false,false,false,true,false,false,false,false,false,false,false,false]) rfl ⟨rfl,rfl,rfl,rfl,rfl,rfl,rfl⟩ (jKt rfl T.n_range (jJa (jJo jKw (by rfl) T.n_len lJ3 (jJa (jJc 0) jJf)) jJf)) jJ8 (fun C fp s H=>(jJm (i:=7) nd)) (fun C fp s H=>jUo) (fun C fp s H=>(jKu jQ1 (by rfl) T.n_tuple rfl (jJa (jQp (mask:=[false,false,false,false,false,false,false,false,false,true,false,false,false,false,false,false]) rfl ⟨rfl,rfl,rfl,rfl,rfl,rfl,rfl⟩ (jKt rfl T.n_range (jJa (jJo jKw (by rfl) T.n_len lJ3 (jJa (e_ix (ix_F hu) (jJc 0) (jJc 7) (fun _ _=>rfl)) jJf)) jJf)) jJ8 (fun C fp s H=>(jJm (i:=9) nd)) (fun C fp s H=>jUo) (fun C fp s H=>(e_ix (ix_F hu) (jJc 6) (jK4 (jJa (jJc 7) (jJa (jJc 9) jJf))) (fun _ _=>rfl)))) jJf)))) jJf)))
   (jJd (jJy (i:=14) nd (jQy (jJa jJl jJf)))
   (jJd (jJy (i:=15) nd jJl)
   (jJd (kYb lJ9 (jKk o_lt (jJc 15) (jJo jKw (by rfl) T.n_len lJ3 (jJa (jJc 14) jJf)) (jJn _)) (jJd (jQj lJ9 rfl (jQ7 (e_ix (ix_F hu) (jJc 13) (e_ix (ix_F hu) (jJc 14) (jJc 15) (fun _ _=>rfl)) (fun _ _=>rfl))) (jUp rfl (jJt (jJm (i:=7) nd) (jJt (jJm (i:=9) nd) jKx))) (jJk (s_if (jKk (kKz hu) (jJc 7) (jJc 14) (jJn _)) (jJk (jQk (e_bm lKv lQc lQd jKd (jJc 14) (jJa (jJc 7) jJf)))) jKc)))
   (jJk (jJy (i:=15) nd (e_op o_addF (jJc 15) jJl)))))
   (jJk (jKb (kUl (jKk (jUy hr.units) (jJo jKw (by rfl) T.n_len lJ3 (jJa (jJc 14) jJf)) (jJo jKw (by rfl) T.n_len lJ3 (jJa (jJc 0) jJf)) (jJn _)) (jJc 13) jVe)))))))))))))
theorem jX1 (T:Txt K mg):Cal P w K mg base 2 "_law_all_crossed" ["_law_web_here"] jK8:=
 cal3 T.f_l_all_crossed jVz fun _ _ _ _ _ _ _ hr hu nd=>
  (jJd (jJy (i:=1) nd (jKa (kY6 T) (hr.mono (by decide)) (jJa (jJc 0) jJf)))
   (jJd (jJy (i:=2) nd (jQy (jJa (jJc 0) jJf)))
   (jJd (jQj lJ9 rfl (kZs rfl T.n_enumerate rfl (jJa (jJc 1) jJf)) (jUp rfl (jJt (jJm (i:=3) nd) (jJt (jJm (i:=4) nd) jKx))) (jJk (jQj lJ9 rfl (jQ7 (jXq sl_F (jJc 1) (jV3 (e_op o_addF (jJc 3) jJl)) jZw)) (jJm (i:=5) nd) (jJk (jQk (e_bm lKv PySem.F.slot_list_extend PySem.F.type_list_extend qK3 (jJc 2) (jJa (jQp (mask:=[false,false,false,false,false,false,true,false]) rfl ⟨rfl,rfl,rfl,rfl,rfl,rfl,rfl⟩ (jQ7 (jK4 (jJa jJl (jJa jJl jJf)))) jJ8 (fun C fp s H=>(jJm (i:=6) nd)) (fun C fp s H=>jUo) (fun C fp s H=>(jKa (kKy T) (hr.mono (by decide)) (jJa (jJc 0) (jJa (jJc 4) (jJa (jJc 5) (jJa (jJc 6) jJf))))))) jJf)))))))
   (jJk (jKb (jQp (mask:=[false,false,false,false,false,false,false,true]) rfl ⟨rfl,rfl,rfl,rfl,rfl,rfl,rfl⟩ (jQ7 (jJc 2)) jJ8 (fun C fp s H=>(jJm (i:=7) nd)) (fun C fp s H=>(jY7 (jKk kZf (jJc 7) jVe (jJn _)))) (fun C fp s H=>(jJc 7))))))))
theorem ok_law (T:Txt K mg) {f:Addr} {fd:FuncData} (F:Fun K "law" "law" (top 27) f fd):Fn3 P w K mg base 6 f fd ["_law_script"] kX6:=by
 have S:FnScope N_law ["_law_script"] (jJ1 (top 27)):=⟨rfl,rfl,rfl,by decide +kernel,rfl,by decide +kernel,by decide +kernel⟩
 refine fn3 F S fun cdv A outer s H E hr=>⟨kU6,?_,qKd⟩
 have hu:=hu_of hr
 have nd:=S.nd
 exact (jJd (jQj lJ9 rfl (jQ7 (jKa (kXb T) (hr.mono (by decide)) (jJa (jJc 0) (jJa jJl jJf)))) (jJm (i:=1) nd) (jJd (jJy (i:=2) nd (e_ix (ix_F hu) (jQy (jJa (e_op o_addF jJl (jKa (jJ4 T) (hr.mono (by decide)) (jJa (jJc 1) (jJa jJl jJf)))) (jJa jJl jJf))) (jKu c_int (by rfl) T.n_int rfl (jJa (jX4 (jUy hr.units) (jKa (jJ4 T) (hr.mono (by decide)) (jJa (jJc 1) (jJa jJl jJf))) jJl (jJn _)) jJf)) (fun _ _=>rfl)))
   (jJd (jJy (i:=3) nd (jKa (kU7 T) (hr.mono (by decide)) (jJa (jJc 1) (jJa (jJc 2) (jJa (e_op o_addF jJl (jKa (jJ4 T) (hr.mono (by decide)) (jJa (jJc 1) (jJa jJl jJf)))) jJf)))))
   (jJd (jJy (i:=4) nd (jKa (jX1 T) (hr.mono (by decide)) (jJa (jJc 3) jJf)))
   (jJd (jJy (i:=5) nd (e_ix (ix_F hu) (jQy (jJa (jJc 3) (jJa (e_ix (ix_F hu) (jJc 4) (jKa (jJ4 T) (hr.mono (by decide)) (jJa (jJc 1) (jJa (jJo jKw (by rfl) T.n_len lJ3 (jJa (jJc 4) jJf)) jJf))) (fun _ _=>rfl)) (jJa (jKa (kU7 T) (hr.mono (by decide)) (jJa (jJc 1) (jJa (jJc 2) (jJa jJl jJf)))) jJf)))) (jKa (jJ4 T) (hr.mono (by decide)) (jJa (jJc 1) (jJa jJl jJf))) (fun _ _=>rfl)))
   (jJd (jJy (i:=6) nd (jKa (jJ4 T) (hr.mono (by decide)) (jJa (jJc 1) (jJa (jJc 2) jJf))))
   (jJd (jJy (i:=7) nd (jKa (kXa T) (hr.mono (by decide)) (jJa (jJc 5) (jJa (jJc 6) (jJa (jKa (qKp T) (hr.mono (by decide)) (jJa (jJc 1) (jJa (jJc 5) (jJa (jJc 6) (jJa (jKa (jJ4 T) (hr.mono (by decide)) (jJa (jJc 1) (jJa jJl jJf))) jJf))))) jJf)))))
   (jJd (jJy (i:=8) nd (kZ7 rfl hu (by rfl) T.n_sorted rfl (by rfl) T.n_set rfl (jJa (jQp (mask:=[false,false,false,false,false,false,false,false,false,false,false,true]) rfl ⟨rfl,rfl,rfl,rfl,rfl,rfl,rfl⟩ (jQ7 (jJc 4)) jJ8 (fun C fp s H=>(jJm (i:=11) nd)) (fun C fp s H=>(jY7 (jKk kZf (jKa (kY8 T) (hr.mono (by decide)) (jJa (jJc 11) (jJa (jJc 6) (jJa (jJc 7) jJf)))) jVe (jJn _)))) (fun C fp s H=>(jJc 11))) jJf)))
   (jJk (jQj lJ9 rfl (jKt rfl T.n_range (jJa jJl jJf)) (jJm (i:=9) nd) (jJd (jJy (i:=10) nd (jKa (kKx T) (hr.mono (by decide)) (jJa (jJc 3) (jJa (jJc 6) (jJa (jJc 7) jJf)))))
   (jJd (s_if (qJz (kX0 (jKa (kY7 T) (hr.mono (by decide)) (jJa (jJc 10) (jJa (jJc 8) jJf))))) (jJk (jKb e_bl)) jKc)
   (jJk (jQk (e_bm lKv lQc lQd jKd (jJc 10) (jJa (jJc 3) jJf))))))))))))))))
   (jJk (jKb e_bl)))
def qU4 (K:PySem.W.Frag):Sp:=dn K 1 kX6
theorem fn_at {K:PySem.W.Frag} {h:Heap} {mg:Str->Option Value} {x:Str} {i:Nat} {f:Addr} {oc:Value} {od an:Option Addr} {osl:Array (Option Value)} {kV doc pm cdv ct:Value} (X:K.In h) (G:h.Ns mainGlobals mg) (a:PySem.W.nsIn K mainGlobals x=some (some (.ref f)))
  (l:K.lookup f=some ⟨oc,od,.func (PySem.W.fnOf x x (jVq (top i)) (jQz (top i)) (jJ1 (top i)) .none kV doc pm an cdv ct),osl⟩) (c:PySem.W.codeIn K cdv x=true) (k:PySem.W.keepIn K (.ref f)=true):FnAt K mg x i:=⟨f,_,PySem.W.mg_of X G a,fun_mk l c k⟩
theorem all_mk {l:PySem.W.OpenLaw} {w:World} {K:PySem.W.Frag} {mg:Str->Option Value} {fa:Addr} (hfa:mg "law"=some (.ref fa)) (T:Txt K mg):
  ∃fd:FuncData,(∀(s:Shared) (v:Value),BindsTo s fd ⟨[v],[]⟩ [("_law_script",v)])/\∀base:Heap,K.In base->base.Ns mainGlobals mg->FnOk l.prog w K mg base CX0 6 fa fd ["_law_script"] (qU4 K):=by
 obtain⟨f,fd,a,F⟩:=T.f_law
 cases hfa.symm.trans a
 refine⟨fd,fun s v=> ?_,fun base _ _=>ok_law T F⟩
 obtain⟨_,_,kV,doc,pm,an,cdv,ct,_,e,_⟩:=F.ex
 subst e
 exact .of_eq rfl
theorem fr_of {K:PySem.W.Frag} {H:Hp} {a:Addr} {xs:List V} (hO:Only H) (hS:SqL K H a xs):FrL K H a xs:=by
 rcases hS with h | h
 ·rcases h with h | ⟨ob,h⟩
  ·rcases hO a with z | ⟨o,ys,z⟩
   ·rw[z] at h;cases h
   ·rw[z] at h;cases h
  ·exact .inl ⟨ob,h⟩
 ·exact .inr h
theorem jQl {K:PySem.W.Frag} {H:Hp}:∀ns:List Int,Reps K H (jQo ns) (ns.map V.int)
 | []=>rfl
 | n::ns=>⟨_,_,rfl,rfl,jQl ns⟩
theorem walk {l:PySem.W.OpenLaw} {q:Program} {loose:List Str} {XP:(Str->Option Value)->Heap->Prop} {YP:World->Heap->Prop} {d:DefRec} {K:Params->PySem.W.Frag} (hn:l.most=some 63) (hdf:d.params.defaults=[])
  (hY:∀(w:World) (h:Heap),YP w h->(K w.params).In h)
  (F:∀(w:World) (mg:Str->Option Value) (fa:Addr) (h:Heap),(K w.params).In h->h.Ns mainGlobals mg->mg d.name=some (.ref fa)->
   ∃fd:FuncData,(∀(s:Shared) (u:Value),BindsTo s fd ⟨[u],[]⟩ [("_law_script",u)])/\∀base:Heap,(K w.params).In base->base.Ns mainGlobals mg->FnOk l.prog w (K w.params) mg base CX0 6 fa fd ["_law_script"] (qU4 (K w.params))):
  PySem.W.WalkO q loose XP YP l.row.toRowW d [] (fun f vs=>PySem.call f vs):=
 L2.walk_of (n:=63) (k:=6) (x:="_law_script") (CX:=fun _=>CX0) (sp:=fun w=>qU4 (K w.params)) hn (by decide) hdf ⟨rfl,rfl,by decide,by decide⟩ hY F
  (fun _ _ a ns hl hO hS=>⟨rfl,[.scr (jQo ns)],fun _=>none,⟨_,_,rfl,⟨a,_,rfl,fr_of hO hS,jQl ns⟩,rfl⟩,(fun _ _ h=>nomatch h),ns,rfl,hl,fun G' v H' _ _ r=>r⟩) fun _ _ _ _ _ z=>z
end W
def PySem.W.Fast.tw1378138084582128648 : Unit := ()
def PySem.W.Fast.tw11656319842474408952 : Unit := ()
def PySem.W.Fast.tw134472748256946381 : Unit := ()
def PySem.W.Fast.tw6230741231724889839 : Unit := ()
def PySem.W.Fast.tw14435266240178938359 : Unit := ()
def PySem.W.Fast.tw15033143796428534295 : Unit := ()
def PySem.W.Fast.tw12406465143133777615 : Unit := ()
def PySem.W.Fast.tw4997524003997852472 : Unit := ()
def PySem.W.Fast.tw10135786620027703931 : Unit := ()
def PySem.W.Fast.tw923312584856652309 : Unit := ()
def PySem.W.Fast.tw15388887128761897341 : Unit := ()
def PySem.W.Fast.tw10244810289790255506 : Unit := ()
def PySem.W.Fast.tw1237092915696023778 : Unit := ()
def PySem.W.Fast.tw61740219609530355 : Unit := ()
def PySem.W.Fast.tw12000562949311140331 : Unit := ()
def PySem.W.Fast.tw3319532723171918450 : Unit := ()
def PySem.W.Fast.tw15914697416331484446 : Unit := ()
def PySem.W.Fast.tw5389605977214459211 : Unit := ()
def PySem.W.Fast.tw4908331381739453440 : Unit := ()
def PySem.W.Fast.tw18391392274252911507 : Unit := ()
def PySem.W.Fast.tw5748791978759897558 : Unit := ()
def PySem.W.Fast.tw3258464477921565576 : Unit := ()
def PySem.W.Fast.tw5245849666942591971 : Unit := ()
def PySem.W.Fast.tw4169361398236883014 : Unit := ()
def PySem.W.Fast.tw11489438150431714782 : Unit := ()
def PySem.W.Fast.tw7298354894419242822 : Unit := ()
def PySem.W.Fast.tw14640620517609551342 : Unit := ()
def PySem.W.Fast.tw9795051921364694824 : Unit := ()
def PySem.W.Fast.tw13068028767125134270 : Unit := ()
def PySem.W.Fast.tw17300895078573964876 : Unit := ()
def PySem.W.Fast.tw6614661168562959676 : Unit := ()
def PySem.W.Fast.tw13609944490152945518 : Unit := ()
def PySem.W.Fast.tw1166899656461535507 : Unit := ()
def PySem.W.Fast.tw8591839680650983047 : Unit := ()
def PySem.W.Fast.tw4229351241259134955 : Unit := ()
def PySem.W.Fast.tw12337777024160031421 : Unit := ()
def PySem.W.Fast.tw16504004942136978261 : Unit := ()
def PySem.W.Fast.tw17846083177621589273 : Unit := ()
def PySem.W.Fast.tw7972774751398863165 : Unit := ()
def PySem.W.Fast.tw14611942322362919099 : Unit := ()
def PySem.W.Fast.tw5073401940509784556 : Unit := ()
def PySem.W.Fast.tw11287016968633932433 : Unit := ()
def PySem.W.Fast.tw9566023705806630772 : Unit := ()
def PySem.W.Fast.tw1186427572624811058 : Unit := ()
def PySem.W.Fast.tw6271410585634416295 : Unit := ()
def PySem.W.Fast.tw16733644825492762767 : Unit := ()
def PySem.W.Fast.tw17753011812330123843 : Unit := ()
def PySem.W.Fast.tw16476500251120053787 : Unit := ()
def PySem.W.Fast.tw2421246319980769621 : Unit := ()
def PySem.W.Fast.tw3428659745129678354 : Unit := ()
def PySem.W.Fast.tw2818209629956088373 : Unit := ()
def PySem.W.Fast.tw12466529291655139710 : Unit := ()
def PySem.W.Fast.tw11957829382670216639 : Unit := ()
def PySem.W.Fast.tw7942085210974898021 : Unit := ()
def PySem.W.Fast.tw3967760165314264526 : Unit := ()
def PySem.W.Fast.tw11176880139608474945 : Unit := ()
def PySem.W.Fast.tw5762164605244038705 : Unit := ()
def PySem.W.Fast.tw18096624412353691622 : Unit := ()
def PySem.W.Fast.tw1758738495021252617 : Unit := ()
def PySem.W.Fast.tw15164559558572895117 : Unit := ()
def PySem.W.Fast.tw1940788701023494133 : Unit := ()
def PySem.W.Fast.tw11638084471768406670 : Unit := ()
def PySem.W.Fast.tw9457754939564619655 : Unit := ()
def PySem.W.Fast.tw11564087950823367032 : Unit := ()
def PySem.W.Fast.tw17029426928741194282 : Unit := ()
def PySem.W.Fast.tw6647048156785139562 : Unit := ()
def PySem.W.Fast.tw5207099634840544871 : Unit := ()
def PySem.W.Fast.tw17480347100137488000 : Unit := ()
def PySem.W.Fast.tw11365754060675959303 : Unit := ()
def PySem.W.Fast.tw1898198854253472506 : Unit := ()
def PySem.W.Fast.tw11055323830280013977 : Unit := ()
open PySem PySem.W PyProof.Rows
set_option maxRecDepth 100000 in
set_option maxHeartbeats 0 in
theorem PySem.Challenge.cw_stonewalker_k54_webs_put_right_holds : PySem.Challenge.rw_stonewalker_k54_webs_put_right.Holds := by
 w_on;o_law;k_head;(case hw=>w_witness2)
 k_fill
 refine W.walk (l:=PySem.Challenge.rw_stonewalker_k54_webs_put_right) rfl rfl (fun w h Y=>PySem.W.kIn_of Y) ?F
 case F=>
  intro w mg fa h KX G hmg
  refine W.all_mk hmg ?T
  constructor
  iterate 16 (refine PySem.W.mg_none_of KX G ?_;k_is)
  iterate 24 (refine' W.fn_at KX G ?a ?l ?c ?k;(case a=>k_is);(case l=>k_is);(case c=>k_is);(case k=>k_is))
