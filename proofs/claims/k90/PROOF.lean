
import PyProof.Rows.All
import Wide.All
import OpenK.AllK
import Wide.FinOn
import Lean
import PyProof.EqAt
import PyProof.EqKinds
import PyProof.TupleCall
import PySem.Challenge.RW_stonewalker_k90_whole_put_right
set_option linter.all false
noncomputable section
def lJa:=@if_neg
def lJb:=@PySem.wpAny_bind
def lJc:=@if_pos
def lJd:=@PySem.wpAny_pure
def lJe:=@PyProof.Rows.wpS_bind
def lJf:=@PyProof.Rows.wpS_pure
def lJg:=@List.length_map
def lJh:=@Nat.le_refl
def lJi:=@List.getElem?_eq_some_iff
def lJj:=@PySem.Heap.lt_size
def lJk:=@List.mem_cons
def lJl:=@List.mem_map
def lJm:=@List.getElem?_eq_getElem
def lJn:=@Option.some.inj
def lJo:=@List.mem_of_getElem?
def lJp:=@List.map_cons
def lJq:=@List.append_assoc
def lJr:=@List.not_mem_nil
def lJs:=@PySem.Heap.get?_push_of_some
def lJt:=@decide_eq_false
def lJu:=@Nat.zero_le
def lJv:=@Bool.false_ne_true
def lJw:=@Nat.ne_of_lt
def lJx:=@List.mem_append
def lJy:=@List.size_toArray
def lJz:=@List.mem_cons_self
def lJ0:=@or_false
def lJ1:=@List.mem_singleton
def lJ2:=@PySem.PassesOwn.never
def lJ3:=@decide_eq_true
def lJ4:=@List.mem_cons_of_mem
def lJ5:=@List.mem_append_right
def lJ6:=@List.getElem?_of_mem
def lJ7:=@Array.getElem?_toList
def lJ8:=@PySem.Heap.get?_push_size
def lJ9:=@PySem.boot_len
def lKa:=@List.mem_append_left
def lKb:=@List.length_append
def lKc:=@List.pairwise_append
def lKd:=@if_false
def lKe:=@Nat.lt_of_lt_of_le
def lKf:=@Nat.le_trans
def lKg:=@congrArg
def lKh:=@PyProof.Rows.wpS_modify
def lKi:=@List.getElem?_eq_none
def lKj:=@Array.length_toList
def lKk:=@PyProof.Rows.wpS_mono
def lKl:=@PyProof.Rows.wpS_forRange
def lKm:=@List.length_cons
def lKn:=@Bool.false_eq_true
def lKo:=@List.map_map
def lKp:=@if_true
def lKq:=@List.mem_range
def lKr:=@List.getElem?_map
def lKs:=@PySem.sizeLine_eq
def lKt:=@Bool.and_eq_true
def lKu:=@Array.getElem?_eq_getElem
def lKv:=@Nat.not_lt_zero
def lKw:=@decide_eq_true_eq
def lKx:=@List.range_succ
def lKy:=@List.take_append_drop
def lKz:=@PySem.wpAny_mono
def lK0:=@List.nodup_cons
def lK1:=@List.getElem?_append_left
def lK2:=@List.lookup_cons
def lK3:=@PySem.F.plainAttrs_list
def lK4:=@PySem.wpAny_holding
def lK5:=@PyProof.Rows.wpS_get
def lK6:=@Nat.ne_of_gt
def lK7:=@List.getElem?_append_right
def lK8:=@PySem.wpAny_newObj_type
def lK9:=@PySem.wpAny_rule
def lQa:=@List.filterMap_cons
def lQb:=@List.getElem?_set_self
def lQc:=@List.length_take
def lQd:=@List.length_nil
def lQe:=@Option.map_eq_some_iff
def lQf:=@List.all_eq_true
def lQg:=@List.take_of_length_le
def lQh:=@Int.eq_ofNat_of_zero_le
def lQi:=@List.mem_of_mem_take
def lQj:=@Array.toList_append
def lQk:=@PySem.F.slot_list_append
def lQl:=@PySem.F.type_list_append
def lQm:=@PySem.wpAny_call_entry
def lQn:=@Nat.lt_or_ge
def lQo:=@PySem.Around.in1_units
def lQp:=@List.getElem?_set_ne
def lQq:=@List.mem_filterMap
def lQr:=@List.any_cons
def lQs:=@List.find?_cons
def lQt:=@List.take_succ
def lQu:=@List.filterMap_append
def lQv:=@List.getElem?_take
def lQw:=@Nat.lt_or_eq_of_le
def lQx:=@List.exists_cons_of_length_eq_add_one
def lQy:=@Nat.succ.inj
def lQz:=@PySem.wpAny_field
def lQ0:=@List.append_nil
def lQ1:=@List.take_sublist
def lQ2:=@List.all_cons
def lQ3:=@Array.getElem?_eq_none
def lQ4:=@List.mem_of_mem_drop
def lQ5:=@List.drop_sublist
def lQ6:=@Nat.le_of_lt_succ
def lQ7:=@List.pairwise_map
def lQ8:=@Option.bind_some
def lQ9:=@PyProof.Rows.reverseSlice'_eq
def lVa:=@Classical.byContradiction
def lVb:=@List.ext_getElem?
def lVc:=@List.mem_filter
def lVd:=@PyProof.Rows.callWith_type1
def lVe:=@List.length_eq_zero_iff
def lVf:=@Option.map_some
def lVg:=@List.take_length
def lVh:=@List.length_range
def lVi:=@PySem.F.called_set
def lVj:=@List.drop_of_length_le
def lVk:=@List.mem_reverse
def lVl:=@List.mem_map_of_mem
def lVm:=@PySem.wpAny_seqItems
def lVn:=@PySem.wpAny_callSpecial?_slot
def lVo:=@PySem.wpAny_setField_rec
def lVp:=@Nat.le_of_lt
def lVq:=@List.length_drop
def lVr:=@List.replicate_succ
def lVs:=@List.zip_cons_cons
def lVt:=@Nat.zero_add
def lVu:=@List.getElem_of_mem
def lVv:=@Int.emod_nonneg
def lVw:=@Int.emod_lt_of_pos
def lVx:=@Nat.mod_lt
def lVy:=@List.map_append
def lVz:=@List.cons.injEq
def lV0:=@List.take_append_of_le_length
def lV1:=@PySem.wpAny_forIn_list
def lV2:=@PySem.wpAny_truthy_bool
def lV3:=@PySem.wpAny_loadPart'
def lV4:=@PySem.wpAny_passesOwn
def lV5:=@decide_eq_false_iff_not
def lV6:=@PySem.Paired.length
def lV7:=@Nat.lt_irrefl
def lV8:=@PySem.mem_of_lookup
def lV9:=@PyProof.Rows.slot_tuple_getitem
def lXa:=@List.length_set
def lXb:=@List.flatten_cons
def lXc:=@List.foldl_cons
def lXd:=@List.getElem?_zip_eq_some
def lXe:=@PySem.Heap.size_push
def lXf:=@Array.getElem?_eq_some_iff
def lXg:=@Nat.succ_pos
def lXh:=@Nat.add_zero
def lXi:=@Array.getD_eq_getD_getElem?
def lXj:=@List.Perm.append_left
def lXk:=@List.getElem?_drop
def lXl:=@List.drop_zero
def lXm:=@List.filter_cons
def lXn:=@PySem.codeAny_mono
def lXo:=@PySem.wpAny_typeOf
def lXp:=@PySem.wpAny_execs_nil
def lXq:=@PySem.wpAny_pyIter_tuple
def lXr:=@PySem.wpAny_pyIter_zip
def lXs:=@PySem.codeAny_builtin
def lXt:=@Option.isSome_iff_exists
def lXu:=@Int.toNat_natCast
def lXv:=@PySem.Heap.get?_update_self
def lXw:=@List.nil_append
def lXx:=@List.nodup_nil
def lXy:=@List.getElem?_zipWith
def lXz:=@PySem.Heap.SameBut.update
def lX0:=@List.nodup_append
def lX1:=@Bool.not_eq_true'
def lX2:=@Nat.lt_trichotomy
def lX3:=@List.filterMap_cons_some
def lX4:=@List.getElem?_range
def lX5:=@PySem.Around.under_plainId
def lX6:=@List.Perm.append_right
def lX7:=@List.perm_append_comm
def lX8:=@List.getElem?_inj
def lX9:=@List.flatMap_append
def lYa:=@List.length_filter_le
def lYb:=@PySem.wpAny_isInstance
def lYc:=@PySem.wpAny_askSetting
def lYd:=@Array.forIn_toList
def lYe:=@PySem.Heap.get?_update_other
def lYf:=@Array.getElem?_setIfInBounds
def lYg:=@Array.mem_toList_iff
def lYh:=@List.zip_eq_zipWith
def lYi:=@PyProof.Rows.F.plain_set_update_loop
def lYj:=@Nat.add_sub_cancel
def lYk:=@Option.some.injEq
def lYl:=@List.drop_eq_getElem_cons
def lYm:=@List.drop_append_of_le_length
def lYn:=@Nat.add_sub_cancel_left
def lYo:=@List.foldl_append
def lYp:=@PySem.wpAny_Call_Name_kw
def lYq:=@PySem.wpAny_pyIter_list
def lYr:=@PySem.wpAny_pyIter_enum
def lYs:=@PySem.F.args_tuple_add_2
def lYt:=@List.length_filterMap_le
def lYu:=@List.pairwise_iff_getElem
def lYv:=@List.filterMap_cons_none
def lYw:=@Array.size_setIfInBounds
def lYx:=@List.take_length_add_append
def lYy:=@PySem.wpAny_letOwnedTupleGo_zip
local macro_rules
 | `(tactic| omega) => `(tactic| lia)
set_option Elab.async false
set_option linter.all false
set_option maxRecDepth 100000
namespace L2
open PySem PySem.Spec PyProof.Rows
abbrev Key:=Sum Int Str
def jV1:Key->Value->Bool
 | .inl k,v=>Value.isInt k v
 | .inr x,v=>Value.isStrOf x v
def keyH (w:World):Key->Int
 | .inl k=>hashInt k
 | .inr x=>hashStr w x
theorem jJo:∀ {k:Key} {v:Value},jV1 k v=true->(∃i t,k=Sum.inl i/\v=Value.int i t)\/(∃x t,k=Sum.inr x/\v=Value.str x t)
 | .inl i,v,h=>by
  obtain⟨t,e⟩:=Value.isInt_shape (k:=i) (v:=v) h
  exact .inl ⟨i,t,rfl,e⟩
 | .inr x,v,h=>by
  obtain⟨t,e⟩:=Value.isStrOf_shape (x:=x) (v:=v) h
  exact .inr ⟨x,t,rfl,e⟩
theorem qJ0 (i:Int) (t:Tok):jV1 (.inl i) (.int i t)=true:=by simp[jV1,Value.isInt]
theorem qJz (x:Str) (t:Tok):jV1 (.inr x) (.str x t)=true:=by simp[jV1,Value.isStrOf]
theorem key_ll (a b:Int):decide ((Sum.inl a:Key)=Sum.inl b)=(a == b):=by
 by_cases e:a=b
 ·subst e;simp
 ·have h:¬ (Sum.inl a:Key)=Sum.inl b:=fun q=>e (Sum.inl.inj q)
  rw[lJt h]
  exact (beq_eq_false_iff_ne.mpr e).symm
theorem key_rr (a b:Str):decide ((Sum.inr a:Key)=Sum.inr b)=decide (a=b):=by
 by_cases e:a=b
 ·subst e;simp
 ·have h:¬ (Sum.inr a:Key)=Sum.inr b:=fun q=>e (Sum.inr.inj q)
  rw[lJt h,lJt e]
theorem key_lr (a:Int) (b:Str):decide ((Sum.inl a:Key)=Sum.inr b)=false:=lJt (fun q=>nomatch q)
theorem key_rl (a:Str) (b:Int):decide ((Sum.inr a:Key)=Sum.inl b)=false:=lJt (fun q=>nomatch q)
noncomputable def jKl (prog:Program) (w:World):PySem.KeyKind prog w Key where
 is:=jV1
 hash:=keyH w
 inj:=fun v a b ha hb=>by
  rcases jJo ha with ⟨i,t,rfl,rfl⟩ | ⟨x,t,rfl,rfl⟩
  ·rcases jJo hb with ⟨j,u,rfl,e⟩ | ⟨y,u,rfl,e⟩
   ·injection e with e1 _;rw[e1]
   ·exact nomatch e
  ·rcases jJo hb with ⟨j,u,rfl,e⟩ | ⟨y,u,rfl,e⟩
   ·exact nomatch e
   ·injection e with e1 _;rw[e1]
 byValue:=fun k v h=>by
  rcases jJo h with ⟨i,t,rfl,rfl⟩ | ⟨x,t,rfl,rfl⟩<;>rfl
 pyHash:=fun hv h=>by
  rcases jJo hv with ⟨i,t,rfl,rfl⟩ | ⟨x,t,rfl,rfl⟩
  ·exact wpAny_pyHash_int h
  ·exact wpAny_pyHash_str h
 eqBool:=fun hu hv h=>by
  rcases jJo hu with ⟨i,t,rfl,rfl⟩ | ⟨x,t,rfl,rfl⟩
  ·rcases jJo hv with ⟨j,u,rfl,rfl⟩ | ⟨y,u,rfl,rfl⟩
   ·rw[key_ll] at h;exact wpAny_eqBool_int h
   ·rw[key_lr] at h;exact SeqAt.EqAt.int_str i t y u _ _ _ _ h
  ·rcases jJo hv with ⟨j,u,rfl,rfl⟩ | ⟨y,u,rfl,rfl⟩
   ·rw[key_rl] at h;exact SeqAt.EqAt.str_int x t j u _ _ _ _ h
   ·rw[key_rr] at h;exact wpAny_eqBool_str h
 «strs» :=fun k x t v h=>by
  rcases jJo h with ⟨i,u,rfl,e⟩ | ⟨y,u,rfl,e⟩
  ·exact nomatch e
  ·injection e with e1 _
   subst e1
   cases v<;>rfl
theorem kVi (prog:Program) (w:World) (i:Int) (t:Tok):(jKl prog w).is (.inl i) (.int i t)=true:=qJ0 i t
theorem kVh (prog:Program) (w:World) (x:Str) (t:Tok):(jKl prog w).is (.inr x) (.str x t)=true:=qJz x t
end L2
set_option synthInstance.maxSize 1000
namespace L2
open PySem PySem.Spec PyProof.Rows
structure KeyV (prog:Program) (w:World) (K:Type) [DecidableEq K] (c:Nat) where
 is:Heap->K->Value->Prop
 hash:K->Int
 draws:K->Nat
 inj:∀ {h:Heap} {v:Value} {x y:K},is h x v->is h y v->x=y
 keeps:∀ {h h':Heap} {k:K} {v:Value} {d:Addr} {o:Obj} {es:Array DictEntry} {ep:Nat},is h k v->h.get? d=some o->o.data= .dict es ep->Heap.SameBut d h h'->is h' k v
 hashed:∀ {A:Around} {E:Value->Shared->Prop} {s:Shared} {k:K} {v:Value} {Q:Int->Shared->Prop},A.units+c<cLine->is s.heap k v->Q (hash k) {s with toks:=s.toks+draws k}->wpAny (model prog w) A (PySem.pyHash v) Q E s
 eqAt:∀ {A:Around} {s:Shared} {x y:K} {u v:Value},A.units+c<cLine->is s.heap x u->is s.heap y v->SeqAt.EqAt A s u v (decide (x=y))
 quiet:∀ {A:Around} {E:Value->Shared->Prop} {s:Shared} {k:K} {v:Value} {Q:Bool->Shared->Prop} (n:Nat),c<=n->is s.heap k v->Q true s->wpAny (model prog w) A (eqIsQuiet n v) Q E s
noncomputable def jYc (prog:Program) (w:World):KeyV prog w Key 0 where
 is:=fun _ k v=>jV1 k v=true
 hash:=keyH w
 draws:=fun _=>1
 inj:=fun hx hy=>(jKl prog w).inj _ _ _ hx hy
 keeps:=fun x _ _ _=>x
 hashed:=fun _ hv h=>(jKl prog w).pyHash hv h
 eqAt:=fun _ hx hy prog' w' _ _ h=>(jKl prog' w').eqBool hx hy h
 quiet:=fun n _ hv h=>by rw[eqIsQuiet_byValue n ((jKl prog w).byValue _ _ hv)];exact lJd h
section
variable {prog:Program} {w:World} {K:Type} [DecidableEq K] {c:Nat}
inductive ItemsV (V:KeyV prog w K c) (h:Heap):List K->List Value->Prop
 | nil:ItemsV V h [] []
 | cons {k:K} {v:Value} {ks:List K} {vs:List Value}:V.is h k v->ItemsV V h ks vs->ItemsV V h (k::ks) (v::vs)
theorem ItemsV.inj {V:KeyV prog w K c} {h:Heap} {x:List K} {vs:List Value} (hx:ItemsV V h x vs):∀ {y:List K},ItemsV V h y vs->x=y:=by
 induction hx with
 | nil=>intro y hy;cases hy;rfl
 | cons a _ ih=>intro y hy;cases hy with | cons b t=>rw[V.inj a b,ih t]
theorem ItemsV.length {V:KeyV prog w K c} {h:Heap} {x:List K} {vs:List Value} (hx:ItemsV V h x vs):x.length=vs.length:=by
 induction hx with
 | nil=>rfl
 | cons _ _ ih=>simp[ih]
theorem ItemsV.get {V:KeyV prog w K c} {h:Heap} {x:List K} {vs:List Value} (hx:ItemsV V h x vs):∀ {j:Nat} {v:Value},vs[j]? =some v->∃k,x[j]? =some k/\V.is h k v:=by
 induction hx with
 | nil=>intro j v e;simp at e
 | cons a _ ih=>
  intro j v e
  cases j with
  | zero=>simp at e;subst e;exact⟨_,rfl,a⟩
  | succ j=>obtain⟨k,h1,h2⟩:=ih (j:=j) (v:=v) (by simpa using e);exact⟨k,by simpa using h1,h2⟩
theorem ItemsV.keeps {V:KeyV prog w K c} {h h':Heap} {x:List K} {vs:List Value} {d:Addr} {o:Obj} {es:Array DictEntry} {ep:Nat} (hx:ItemsV V h x vs) (ho:h.get? d=some o) (hd:o.data= .dict es ep) (hs:Heap.SameBut d h h'):ItemsV V h' x vs:=by
 induction hx with
 | nil=>exact .nil
 | cons a _ ih=>exact .cons (V.keeps a ho hd hs) ih
def kJc (V:KeyV prog w K c) (h:Heap) (ks:List K) (v:Value):Prop:=∃(a:Addr) (o:Obj) (items:Array Value) (n:Nat),v= .ref a/\h.get? a=some o/\o.cls= .type "tuple"/\o.data= .seq items n/\ItemsV V h ks items.toList
theorem all_eq:∀(x y:List K),((List.range (min x.length y.length)).all (fun j=>decide (x[j]? =y[j]?))&&x.length == y.length)=decide (x=y):=by
 intro x y
 by_cases e:x=y
 ·subst e;simp
 ·rw[lJt e,Bool.and_eq_false_iff]
  by_cases l:x.length=y.length
  ·left
   rw[List.all_eq_false]
   have:∃j:Nat,x[j]? ≠y[j]? :=by
    apply lVa
    intro q
    exact e (lVb fun j=>lVa fun z=>q ⟨j,z⟩)
   obtain⟨j,hj⟩:=this
   refine⟨j,lKq.mpr ?_,by simpa using hj⟩
   rcases lQn j (min x.length y.length) with z | z
   ·exact z
   ·exact absurd (by rw[lKi (by omega),lKi (by omega)]) hj
  ·right;simpa using l
noncomputable def jUg (V:KeyV prog w K c):KeyV prog w (List K) (c+2) where
 is:=kJc V
 hash:=fun ks=>reduceHash (Builtin.Tuple.tupleHashOf (ks.map V.hash))
 draws:=fun ks=>(ks.map V.draws).sum+1
 inj:=by
  rintro h v x y ⟨a,o,items,n,rfl,ho,_,hd,hi⟩ ⟨a',o',items',n',e,ho',_,hd',hi'⟩
  cases e
  rw[ho] at ho';cases ho'
  rw[hd] at hd';cases hd'
  exact hi.inj hi'
 keeps:=by
  rintro h h' k v d o es ep ⟨a,o',items,n,rfl,ho',hc,hd',hi⟩ ho hd hs
  have ne:a≠d:=by
   rintro rfl
   rw[ho] at ho';cases ho'
   rw[hd] at hd';cases hd'
  exact⟨a,o',items,n,rfl,(hs.2 a ne).trans ho',hc,hd',hi.keeps ho hd hs⟩
 hashed:=by
  rintro A E s ks v Q hu ⟨a,o,items,n,rfl,ho,hc,hd,hi⟩ h
  refine PySem.W.pyHash_slot (T:="tuple") ⟨o,ho,hc⟩ F.slot_tuple_hash F.entry_tuple_hash (F.args_tuple_hash_1 _) (beq_builtin_none _) (.inr (by omega)) ?_
  refine (show wpAny _ _ (Builtin.Tuple.tupleItemsOf (.ref a) >>= _) _ _ s from lJb (wpAny_tupleItemsOf ho hd (lJb ?_)))
  rw[<-lYd]
  refine lV1 _ (fun rest (b:Array Int) z=>∃done left,ks=done++left/\ItemsV V s.heap left rest/\b.toList=done.map V.hash/\z={s with toks:=s.toks+(done.map V.draws).sum}) _ ?_ ?_ _ _ ⟨[],ks,rfl,hi,rfl,rfl⟩
  ·rintro x rest b z ⟨done,left,rfl,hl,hb,rfl⟩
   cases hl with
   | @cons k _ ks' _ h1 hl'=>
    refine lJb (V.hashed (by rw[lQo];omega) h1 ?_)
    first
     | exact lJd ⟨done++[k],ks',by simp,hl',by simp[hb],(by simp[Nat.add_assoc])⟩
     | exact lJb (lJd (lJd ⟨done++[k],ks',by simp,hl',by simp[hb],(by simp[Nat.add_assoc])⟩))
  ·rintro b z ⟨done,left,rfl,hl,hb,rfl⟩
   cases hl
   rw[lQ0] at h
   refine (show wpAny _ _ (retInt (Builtin.Tuple.tupleHashOf b.toList)) _ _ _ from ?_)
   rw[hb]
   exact lJb (wpAny_mkInt (lJd ⟨_,_,rfl,by simpa[Nat.add_assoc] using h⟩))
 eqAt:=by
  rintro A s x y u v hu ⟨a,o,items,n,rfl,ho,hc,hd,hi⟩ ⟨a',o',items',n',rfl,ho',hc',hd',hi'⟩
  by_cases e:a=a'
  ·subst e
   rw[ho] at ho';cases ho'
   rw[hd] at hd';cases hd'
   rw[hi.inj hi',lJ3 rfl]
   exact SeqAt.EqAt.same _
  ·have R:=SeqAt.RcAt.tuples (A:=A) (s:=s) (l:=a) (b:=a') (e:=fun j=>decide (x[j]? =y[j]?)) ⟨o,ho,hc,n,hd⟩ ⟨o',ho',hc',n',hd'⟩ (by omega) (fun j j1 j2=> ?_)
   ·have l1:=hi.length
    have l2:=hi'.length
    rw[<-all_eq x y,l1,l2]
    have R':=SeqAt.EqAt.of_refs e R
    simpa using R'
   ·obtain⟨k,h1,h2⟩:=hi.get (j:=j) (v:=items[j]) (by simp[j1])
    obtain⟨k',h1',h2'⟩:=hi'.get (j:=j) (v:=items'[j]) (by simp[j2])
    have:=V.eqAt (A:=A.in1) (s:=s) (by rw[lQo];omega) h2 h2'
    rw[h1,h1']
    simpa using this
 quiet:=by
  rintro A E s ks v Q n hn ⟨a,o,items,m,rfl,ho,hc,hd,hi⟩ h
  obtain⟨n,rfl⟩:∃nn,n=nn+1:=⟨n-1,by omega⟩
  have hT:s.TypeIs (.ref a) "tuple":=⟨o,ho,hc⟩
  unfold eqIsQuiet;refine lJb (wpAny_specialOf hT F.slot_tuple_eq.lookup ?_)
  refine (show wpAny _ _ (isInstance (.ref a) (.type "tuple") >>= _) _ _ s from lJb (lYb hT isSubtype_tuple_tuple ?_))
  simp only[lKd,Bool.not_true,lKn]
  refine lJb (lVm ho hd (lJb ?_))
  refine (show wpAny _ _ (forIn items _ _) _ _ s from ?_)
  rw[<-lYd]
  refine lV1 _ (fun rest r z=>r.1=none/\z=s/\∃left,ItemsV V s.heap left rest) _ ?_ ?_ _ _ ⟨rfl,rfl,ks,hi⟩
  ·rintro x rest r z ⟨hr,rfl,left,hl⟩
   cases hl with
   | cons h1 hl'=>
    refine lJb (V.quiet n (by omega) h1 ?_)
    simp only[lKd,Bool.not_true,lKn]
    exact lJd ⟨rfl,rfl,_,hl'⟩
  ·rintro⟨r1,r2⟩ z ⟨hr,rfl,_⟩
   simp only at hr;subst hr
   exact lJd h
theorem qZe {α β:Type} [DecidableEq α] [DecidableEq β] (a b:α):decide ((Sum.inl a:α ⊕ β)=Sum.inl b)=decide (a=b):=by
 by_cases e:a=b
 ·simp[e]
 ·rw[lJt e,lJt fun z=>e (Sum.inl.inj z)]
theorem qZd {α β:Type} [DecidableEq α] [DecidableEq β] (a b:β):decide ((Sum.inr a:α ⊕ β)=Sum.inr b)=decide (a=b):=by
 by_cases e:a=b
 ·simp[e]
 ·rw[lJt e,lJt fun z=>e (Sum.inr.inj z)]
noncomputable def kX8 (V:KeyV prog w K c):KeyV prog w (Key ⊕ List K) (c+2) where
 is:=fun h k v=>match k with
  | .inl k=>jV1 k v=true
  | .inr ks=>kJc V h ks v
 hash:=fun k=>match k with
  | .inl k=>keyH w k
  | .inr ks=>(jUg V).hash ks
 draws:=fun k=>match k with
  | .inl _=>1
  | .inr ks=>(jUg V).draws ks
 inj:=by
  rintro h v (x | x) (y | y) hx hy
  ·rw[(jKl prog w).inj _ _ _ hx hy]
  ·obtain⟨a,_,_,_,rfl,_⟩:=hy
   rcases jJo hx with ⟨i,t,_,e⟩ | ⟨i,t,_,e⟩<;>cases e
  ·obtain⟨a,_,_,_,rfl,_⟩:=hx
   rcases jJo hy with ⟨i,t,_,e⟩ | ⟨i,t,_,e⟩<;>cases e
  ·rw[(jUg V).inj hx hy]
 keeps:=by
  rintro h h' (k | k) v d o es ep hx ho hd hs
  ·exact hx
  ·exact (jUg V).keeps hx ho hd hs
 hashed:=by
  rintro A E s (k | k) v Q hu hx h
  ·exact (jKl prog w).pyHash hx h
  ·exact (jUg V).hashed hu hx h
 eqAt:=by
  rintro A s (x | x) (y | y) u v hu hx hy
  ·rw[qZe]
   exact (jYc prog w).eqAt (by omega) hx hy
  ·rw[lJt fun z=>nomatch z]
   obtain⟨a,o,items,n,rfl,ho,hc,hd,_⟩:=hy
   rcases jJo hx with ⟨i,t,_,rfl⟩ | ⟨i,t,_,rfl⟩
   ·exact SeqAt.EqAt.int_tuple i t ⟨o,ho,hc,n,hd⟩ (by omega)
   ·exact SeqAt.EqAt.str_tuple i t ⟨o,ho,hc,n,hd⟩ (by omega)
  ·rw[lJt fun z=>nomatch z]
   obtain⟨a,o,items,n,rfl,ho,hc,hd,_⟩:=hx
   rcases jJo hy with ⟨i,t,_,rfl⟩ | ⟨i,t,_,rfl⟩
   ·exact SeqAt.EqAt.tuple_int i t ⟨o,ho,hc,n,hd⟩ (by omega)
   ·exact SeqAt.EqAt.tuple_str i t ⟨o,ho,hc,n,hd⟩ (by omega)
  ·rw[qZd]
   exact (jUg V).eqAt hu hx hy
 quiet:=by
  rintro A E s (k | k) v Q n hn hx h
  ·exact (jYc prog w).quiet n (lJu _) hx h
  ·exact (jUg V).quiet n hn hx h
end
abbrev K1:=Key ⊕ List Key
abbrev K2:=Key ⊕ List K1
abbrev TKey:=List K2
def vk1 (prog:Program) (w:World):KeyV prog w K1 2:=kX8 (jYc prog w)
def vk2 (prog:Program) (w:World):KeyV prog w K2 4:=kX8 (vk1 prog w)
noncomputable def jJf (prog:Program) (w:World):HeapKind prog w TKey where
 is:=fun h ks a=>(jUg (vk2 prog w)).is h ks (.ref a)
 hash:=(jUg (vk2 prog w)).hash
 draws:=(jUg (vk2 prog w)).draws
 room:=fun A=>A.units+6<cLine
 inj:=fun hx hy=>(jUg (vk2 prog w)).inj hx hy
 keeps:=fun x ho hd hs=>(jUg (vk2 prog w)).keeps x ho hd hs
 pyHash:=fun hu hk h=>(jUg (vk2 prog w)).hashed hu hk h
 eqBool:=fun hu hx hy h=>(jUg (vk2 prog w)).eqAt hu hx hy _ _ _ _ h
 quiet:=fun hk h=>(jUg (vk2 prog w)).quiet 8 (by decide) hk h
theorem jK3 {prog:Program} {w:World} {A:Around} (hu:A.units+20<cLine):(jJf prog w).room A.in1:=by
 show A.in1.units+6<cLine
 rw[lQo];omega
inductive V where
 | non | bl (b:Bool) | int (i:Int) | str (x:Str) | byt (b:Array UInt8) | flt (b:UInt64) | ref (a:Addr) | ty (n:String)
 deriving DecidableEq
noncomputable def RelV:V->Value->Prop
 | .non,u=>u=Value.none
 | .bl b,u=>u=Value.bool b
 | .int i,u=>∃t,u=Value.int i t
 | .str x,u=>∃t,u=Value.str x t
 | .byt b,u=>∃t,u=Value.bytes b t
 | .flt b,u=>∃t,u=Value.float b t
 | .ref a,u=>u=Value.ref a
 | .ty n,u=>u=Value.type n
abbrev Vals:List V->List Value->Prop:=Paired RelV
theorem Vals.length {xs:List V} {us:List Value} (r:Vals xs us):xs.length=us.length:=lV6 r
theorem Vals.get:∀ {xs:List V} {us:List Value} {i:Nat} {x:V},Vals xs us->xs[i]? =some x->∃u,us[i]? =some u/\RelV x u
 | _,_,_,_,.nil,e=>by simp at e
 | _,_,0,_,.cons r _,e=>by simp at e;subst e;exact⟨_,rfl,r⟩
 | _,_,i+1,x,.cons _ t,e=>by
  obtain⟨u,h1,h2⟩:=Vals.get (i:=i) (x:=x) t (by simpa using e)
  exact⟨u,by simpa using h1,h2⟩
theorem Vals.set {x:V} {u:Value} (r:RelV x u):∀ {xs:List V} {us:List Value} (i:Nat),Vals xs us->Vals (xs.set i x) (us.set i u)
 | _,_,_,.nil=> .nil
 | _,_,0,.cons _ t=> .cons r t
 | _,_,i+1,.cons q t=> .cons q (Vals.set r i t)
theorem Vals.append:∀ {xs ys:List V} {us ws:List Value},Vals xs us->Vals ys ws->Vals (xs++ys) (us++ws)
 | _,_,_,_,.nil,s=>s
 | _,_,_,_,.cons r t,s=> .cons r (Vals.append t s)
theorem Vals.take:∀ {xs:List V} {us:List Value} (n:Nat),Vals xs us->Vals (xs.take n) (us.take n)
 | _,_,0,_=> .nil
 | _,_,_+1,.nil=> .nil
 | _,_,n+1,.cons r t=> .cons r (Vals.take n t)
theorem Vals.drop:∀ {xs:List V} {us:List Value} (n:Nat),Vals xs us->Vals (xs.drop n) (us.drop n)
 | _,_,0,r=>r
 | _,_,_+1,.nil=> .nil
 | _,_,n+1,.cons _ t=>Vals.drop n t
def RelO:Option V->Option Value->Prop
 | some v,some u=>RelV v u
 | none,none=>True
 | _,_=>False
def KV {κ:Type}:List (κ×V)->List (κ×Value)->Prop:=Paired fun (p:κ×V) (q:κ×Value)=>p.1=q.1/\RelV p.2 q.2
def kV:Key->V
 | .inl i=> .int i
 | .inr x=> .str x
inductive HO where
  | lst (xs:List V)
  | tup (xs:List V)
  | dK (kvs:List (Key×V)) | dT (kvs:List (TKey×V))
  | set (S:Int->Bool) (n:Nat)
  | ins (C dx:Addr) (fs:List (Str×V))
  | own (x:Addr)
  | xd (fs:List (Str×V))
  | met (f x:Addr)
  | rng (lo hi:Int)
  | frz (o:Obj) (u:HO)
  | tbl (ps:Array Value)
  | ext (φ:Heap->Prop)
abbrev Hp:=Addr->Option HO
def upd (H:Hp) (a:Addr) (o:HO):Hp:=fun b=>if b=a then some o else H b
theorem jKg {H:Hp} {a:Addr} {o:HO}:upd H a o a=some o:=by unfold upd;rw[lJc rfl]
theorem jJw {H:Hp} {a b:Addr} {o:HO} (h:b≠a):upd H a o b=H b:=by unfold upd;rw[lJa h]
theorem ne_of {H:Hp} {a b:Addr} {o u:HO} (h:H a=some o) (h':H b=some u) (d:o≠u):a≠b:=by
 intro e;subst e;rw[h] at h';exact d (lJn h')
theorem jUb {H:Hp} {a b:Addr} {o:HO} (h:H a=some o) (h':H b=none):a≠b:=by
 intro e;subst e;rw[h] at h';cases h'
def Rk1 (H:Hp) (k:K1) (v:V):Prop:=match k with
 | .inl k=>v=kV k
 | .inr ks=>∃p vs,v= .ref p/\H p=some (.tup vs)/\Paired (fun k v=>v=kV k) ks vs
def Rk2 (H:Hp) (k:K2) (v:V):Prop:=match k with
 | .inl k=>v=kV k
 | .inr ks=>∃p vs,v= .ref p/\H p=some (.tup vs)/\Paired (Rk1 H) ks vs
def TKeyAt (H:Hp) (ks:TKey) (a:Addr):Prop:=∃vs,H a=some (.tup vs)/\Paired (Rk2 H) ks vs
theorem jVz {α β:Type} {F G:α->β->Prop} (f:∀a b,F a b->G a b):∀ {l:List α} {m:List β},Paired F l m->Paired G l m
 | _,_,.nil=> .nil
 | _,_,.cons r t=> .cons (f _ _ r) (jVz f t)
theorem Rk1.mono {H H':Hp} (ht:∀b ys,H b=some (.tup ys)->H' b=some (.tup ys)) (k:K1) (v:V) (r:Rk1 H k v):Rk1 H' k v:=by
 cases k with
 | inl k=>exact r
 | inr ks=>obtain⟨p,vs,e,h,t⟩:=r;exact⟨p,vs,e,ht _ _ h,t⟩
theorem Rk2.mono {H H':Hp} (ht:∀b ys,H b=some (.tup ys)->H' b=some (.tup ys)) (k:K2) (v:V) (r:Rk2 H k v):Rk2 H' k v:=by
 cases k with
 | inl k=>exact r
 | inr ks=>obtain⟨p,vs,e,h,t⟩:=r;exact⟨p,vs,e,ht _ _ h,jVz (Rk1.mono ht) t⟩
theorem TKeyAt.mono {H H':Hp} {ks:TKey} {a:Addr} (r:TKeyAt H ks a) (ht:∀b ys,H b=some (.tup ys)->H' b=some (.tup ys)):TKeyAt H' ks a:=by
 obtain⟨vs,h,t⟩:=r;exact⟨vs,ht _ _ h,jVz (Rk2.mono ht) t⟩
section
variable (P:Program) (w:World)
def TupD (h:Heap) (a:Addr) (items:Array Value):Prop:=∃o,h.get? a=some o/\o.cls= .type "tuple"/\∃n,o.data= .seq items n/\o.dict=none
theorem TupD.is {h:Heap} {a:Addr} {items:Array Value} (x:TupD h a items):IsTup h a items:=let ⟨o,e,c,n,d,_⟩:=x;⟨o,e,c,n,d⟩
theorem TupD.new (h:Heap) (items:Array Value):TupD (h.push {cls:= .type "tuple",data:= .seq items}) h.objs.size items:=⟨_,lJ8 _ rfl,rfl,_,rfl,rfl⟩
noncomputable def ObjOk (H:Hp) (h:Heap) (a:Addr):HO->Prop
 | .lst xs=>xs.length<=sizeLine/\∃(its:List Value) (n:Nat),Vals xs its/\h.get? a=some {cls:= .type "list",data:= .seq its.toArray n}
 | .tup xs=>xs.length<=sizeLine/\∃its:List Value,Vals xs its/\TupD h a its.toArray
 | .dK kvs=>kvs.length<=sizeLine/\(a == sysModules)=false/\∃vs,KV kvs vs/\h.DictOf (jKl P w) a vs
 | .dT kvs=>kvs.length<=sizeLine/\(a == sysModules)=false/\∃xs:List (TKey×Addr×Value),
   Paired (fun (p:TKey×V) (q:TKey×Addr×Value)=>p.1=q.1/\TKeyAt H p.1 q.2.1/\RelV p.2 q.2.2) kvs xs/\
   ∃o es ep,h.get? a=some o/\o.ExactDict/\o.data= .dict es ep/\es.toList=xs.map (entryOfKey (jJf P w))/\(xs.map (·.1)).Nodup
 | .set S n=>h.SetOf (intKind P w) a S n
 | .ins C dx fs=>H dx=some (.own a)/\fs.length<=1000/\dx≠a/\h.get? a=some (PySem.W.instObj C dx)/\
   ∃mA,h.Ns1 dx mA/\(∀f,RelO (fs.lookup f) (mA f))/\PySem.Within mA (fs.map (·.1))
 | .own _=>∃o,h.get? a=some o
 | .xd fs=>∃mA,h.Ns1 a mA/\∀f,RelO (fs.lookup f) (mA f)
 | .rng lo hi=>∃t u v,h.get? a=some {cls:= .type "range",data:= .fields #[.int lo t,.int hi u,.int 1 v]}
 | .frz o u=>h.get? a=some o/\ObjOk H h a u
 | .tbl ps=>h.get? a=some {cls:= .none,data:= .fields ps}
 | .met f x=>h.get? a=some (PySem.W.methodObj (.ref f) (.ref x))
 | .ext φ=>φ h/\(∃o,h.get? a=some o)/\∀h1 h2:Heap,φ h1->(∀o,h1.get? a=some o->h2.get? a=some o)->φ h2
def HOk (H:Hp) (h:Heap):Prop:=∀a o,H a=some o->ObjOk P w H h a o
end
section
variable {P:Program} {w:World} {H H':Hp} {h h':Heap} {a:Addr} {o:HO}
theorem ObjOk.lt (x:ObjOk P w H h a o):a<h.objs.size:=by
 cases o with
 | lst xs=>obtain⟨_,_,_,_,e⟩:=x;exact lJj e
 | tup xs=>obtain⟨_,_,_,p⟩:=x;exact p.is.lt
 | dK kvs=>obtain⟨_,_,_,_,o,_,_,e,_⟩:=x;exact lJj e
 | dT kvs=>obtain⟨_,_,_,_,o,_,_,e,_⟩:=x;exact lJj e
 | set S n=>obtain⟨o,_,_,_,e,_⟩:=x;exact lJj e
 | ins C dx fs=>obtain⟨_,_,_,e,_⟩:=x;exact lJj e
 | own y=>obtain⟨_,e⟩:=x;exact lJj e
 | xd fs=>obtain⟨_,⟨_,_,_,e,_⟩,_⟩:=x;exact lJj e
 | rng lo hi=>obtain⟨_,_,_,e⟩:=x;exact lJj e
 | frz ob u=>obtain⟨e,_⟩:=x;exact lJj e
 | tbl ps=>exact lJj (show h.get? a=some _ from x)
 | met f y=>exact lJj (show h.get? a=some _ from x)
 | ext φ=>obtain⟨_,⟨_,e⟩,_⟩:=x;exact lJj e
theorem Paired.mapP {α β:Type} {F G:α->β->Prop}:∀ {l₁:List α} {l₂:List β},Paired F l₁ l₂->(∀a b,F a b->G a b)->Paired G l₁ l₂
 | _,_,.nil,_=> .nil
 | _,_,.cons r t,f=> .cons (f _ _ r) (Paired.mapP t f)
theorem ObjOk.stay (x:ObjOk P w H h a o) (k:∀b u,(b=a\/H b=some (.own a))->h.get? b=some u->h'.get? b=some u)
  (ho:∀b,H b=some (.own a)->H' b=some (.own a)) (ht:∀b xs,H b=some (.tup xs)->H' b=some (.tup xs)):ObjOk P w H' h' a o:=by
 induction o with
 | lst xs=>obtain⟨z,its,n,r,e⟩:=x;exact⟨z,its,n,r,k _ _ (.inl rfl) e⟩
 | tup xs=>obtain⟨z,its,r,ob,e,c⟩:=x;exact⟨z,its,r,ob,k _ _ (.inl rfl) e,c⟩
 | dK kvs=>obtain⟨z,y,vs,r,ob,es,ep,e,c⟩:=x;exact⟨z,y,vs,r,ob,es,ep,k _ _ (.inl rfl) e,c⟩
 | dT kvs=>
  obtain⟨z,y,xs,r,ob,es,ep,e,c⟩:=x
  exact⟨z,y,xs,Paired.mapP r fun p q z=>⟨z.1,z.2.1.mono ht,z.2.2⟩,ob,es,ep,k _ _ (.inl rfl) e,c⟩
 | set S n=>obtain⟨ob,es,ep,t,e,c⟩:=x;exact⟨ob,es,ep,t,k _ _ (.inl rfl) e,c⟩
 | ins C dx fs=>
  obtain⟨d,z,ne,e,mA,⟨od,es,ep,e2,c⟩,r⟩:=x
  exact⟨ho _ d,z,ne,k _ _ (.inl rfl) e,mA,⟨od,es,ep,k _ _ (.inr d) e2,c⟩,r⟩
 | own y=>obtain⟨ob,e⟩:=x;exact⟨ob,k _ _ (.inl rfl) e⟩
 | xd fs=>obtain⟨mA,⟨od,es,ep,e,c⟩,r⟩:=x;exact⟨mA,⟨od,es,ep,k _ _ (.inl rfl) e,c⟩,r⟩
 | rng lo hi=>obtain⟨t,u,v,e⟩:=x;exact⟨t,u,v,k _ _ (.inl rfl) e⟩
 | frz ob u ih=>obtain⟨e,q⟩:=x;exact⟨k _ _ (.inl rfl) e,ih q⟩
 | tbl ps=>
  have e:h.get? a=some {cls:= .none,data:= .fields ps}:=x
  show h'.get? a=some {cls:= .none,data:= .fields ps}
  exact k a _ (.inl rfl) e
 | met f y=>
  have e:h.get? a=some (PySem.W.methodObj (.ref f) (.ref y)):=x
  show h'.get? a=some (PySem.W.methodObj (.ref f) (.ref y))
  exact k a _ (.inl rfl) e
 | ext φ=>obtain⟨p,⟨o,e⟩,st⟩:=x;exact⟨st _ _ p fun o q=>k _ _ (.inl rfl) q,⟨o,k _ _ (.inl rfl) e⟩,st⟩
theorem HOk.lt (x:HOk P w H h) (e:H a=some o):a<h.objs.size:=(x a o e).lt
theorem HOk.fresh (x:HOk P w H h) (e:h.objs.size<=a):H a=none:=by
 cases q:H a with
 | none=>rfl
 | some u=>exact absurd (lKe (x.lt q) e) (lV7 _)
theorem HOk.kept (x:HOk P w H h) (k:∀b u,h.get? b=some u->h'.get? b=some u):HOk P w H h':=fun a o e=>
 (x a o e).stay (fun b u _ q=>k b u q) (fun _ q=>q) fun _ _ q=>q
theorem HOk.laid (x:HOk P w H h) (k:∀b u,h.get? b=some u->h'.get? b=some u) (hp:h.objs.size<=a) (new:ObjOk P w (upd H a o) h' a o):HOk P w (upd H a o) h':=fun b u e=>by
 have hn:=x.fresh hp
 by_cases hb:b=a
 ·subst hb;rw[jKg] at e;cases e;exact new
 ·rw[jJw hb] at e
  exact (x b u e).stay (fun c v _ q=>k c v q) (fun c q=>by rw[jJw (jUb q hn)];exact q) fun c xs q=>by rw[jJw (jUb q hn)];exact q
end
def Rd (H:Hp) (a:Addr) (u:HO):Prop:=H a=some u\/∃o,H a=some (.frz o u)
theorem Rd.ok {P:Program} {w:World} {H:Hp} {h:Heap} {a:Addr} {u:HO} (r:Rd H a u) (x:HOk P w H h):ObjOk P w H h a u:=by
 rcases r with r | ⟨o,r⟩
 ·exact x a u r
 ·obtain⟨_,q⟩:=x a _ r
  exact q
def Mut:Option HO->Prop
 | some (.lst _)=>True
 | some (.dK _)=>True
 | some (.dT _)=>True
 | some (.set _ _)=>True
 | some (.ins _ _ _)=>True
 | some (.ext _)=>True
 | _=>False
section
variable {P:Program} {w:World} {H:Hp} {h h':Heap} {x e:Addr} {o':HO}
theorem HOk.write (ok:HOk P w H h) (mu:Mut (H x)) (he:e=x\/H e=some (.own x)) (k:∀b u,b≠e->h.get? b=some u->h'.get? b=some u) (heo:∃u,h'.get? e=some u)
  (new:ObjOk P w (upd H x o') h' x o'):HOk P w (upd H x o') h':=fun b u q=>by
 have nown:∀c y,H c=some (.own y)->c≠x:=fun c y r z=>by subst z;rw[r] at mu;exact mu
 have ntup:∀c xs,H c=some (.tup xs)->c≠x:=fun c xs r z=>by subst z;rw[r] at mu;exact mu
 by_cases hb:b=x
 ·subst hb;rw[jKg] at q;cases q;exact new
 ·rw[jJw hb] at q
  by_cases hbe:b=e
  ·have q':H b=some (.own x):=by
    rcases he with z | z
    ·exact absurd (hbe.trans z) hb
    ·rw[hbe];exact z
   rw[q] at q';cases q'
   obtain⟨v,hv⟩:=heo
   exact⟨v,by rw[hbe];exact hv⟩
  ·refine (ok b u q).stay (fun c v hc r=>k c v ?_ r) (fun c r=>by rw[jJw (nown c b r)];exact r) fun c xs r=>by rw[jJw (ntup c xs r)];exact r
   rcases hc with rfl | hc
   ·exact hbe
   ·rintro rfl
    rcases he with z | z
    ·exact nown c b hc z
    ·rw[hc] at z;cases z;exact hb rfl
end
structure Un (fs ex:List Addr) (H H':Hp) (h h':Heap):Prop where
 keep:∀b o,h.get? b=some o->H b=none->b∉fs->b∉ex->h'.get? b=some o
 slot:∀b o,h.get? b=some o->H b=none->b∈fs->b∉ex->∃sl,h'.get? b=some {o with slots:=sl}
 free:∀b o,h.get? b=some o->H b=none->b∉ex->H' b=none
 there:∀b o,h.get? b=some o->b∉ex->∃o',h'.get? b=some o'
 tups:∀b xs,H b=some (.tup xs)->H' b=some (.tup xs)
 frzs:∀b o u,H b=some (.frz o u)->H' b=some (.frz o u)
 tbls:∀b ps,H b=some (.tbl ps)->∃more,H' b=some (.tbl (ps++more))
section
variable {fs fs' ex ex':List Addr} {H H1 H2:Hp} {h h1 h2 h':Heap} {a x e:Addr} {o:HO}
theorem Un.any (u:Un fs ex H H1 h h1) {b:Addr} {ob:Obj} (q:h.get? b=some ob) (n:H b=none) (hx:b∉ex):∃sl,h1.get? b=some {ob with slots:=sl}:=by
 by_cases hb:b∈fs
 ·exact u.slot b ob q n hb hx
 ·exact⟨ob.slots,u.keep b ob q n hb hx⟩
theorem Un.kept (k:∀b u,h.get? b=some u->h'.get? b=some u):Un fs ex H H h h':=
 ⟨fun b ob q _ _ _=>k b ob q,fun b ob q _ _ _=>⟨ob.slots,k b ob q⟩,fun _ _ _ n _=>n,fun b ob q _=>⟨ob,k b ob q⟩,fun _ _ q=>q,fun _ _ _ q=>q,fun _ ps q=>⟨#[],by rw[q];simp⟩⟩
theorem Un.refl:Un fs ex H H h h:=Un.kept fun _ _ q=>q
theorem Un.laid (k:∀b u,h.get? b=some u->h'.get? b=some u) (hp:h.objs.size<=a) (hn:H a=none):Un fs ex H (upd H a o) h h' where
 keep:=fun b u q _ _ _=>k b u q
 slot:=fun b u q _ _ _=>⟨u.slots,k b u q⟩
 free:=fun b u q n _=>by rw[jJw (lJw (lKe (lJj q) hp))];exact n
 there:=fun b u q _=>⟨u,k b u q⟩
 tups:=fun b xs q=>by rw[jJw (jUb q hn)];exact q
 frzs:=fun b u xs q=>by rw[jJw (jUb q hn)];exact q
 tbls:=fun b ps q=>⟨#[],by rw[jJw (jUb q hn),q];simp⟩
theorem Un.write (mu:Mut (H x)) (he:e=x\/H e=some (.own x)) (k:∀b u,b≠e->h.get? b=some u->h'.get? b=some u) (heo:∃u,h'.get? e=some u):Un fs ex H (upd H x o) h h':=by
 have hx:∀b,H b=none->b≠x:=fun b n z=>by subst z;rw[n] at mu;exact mu
 have hb:∀b,H b=none->b≠e:=fun b n z=>by
  subst z
  rcases he with r | r
  ·exact hx b n r
  ·rw[n] at r;cases r
 have hm:∀b u,H b=some u->¬ Mut (some u)->b≠x:=fun b u q nm z=>by subst z;rw[q] at mu;exact nm mu
 refine⟨fun b u q n _ _=>k b u (hb b n) q,fun b u q n _ _=>⟨u.slots,k b u (hb b n) q⟩,fun b u q n _=>by rw[jJw (hx b n)];exact n,fun b u q _=> ?_,
  fun b xs q=>by rw[jJw (hm b _ q fun z=>z)];exact q,fun b u xs q=>by rw[jJw (hm b _ q fun z=>z)];exact q,fun b ps q=>⟨#[],by rw[jJw (hm b _ q fun z=>z),q];simp⟩⟩
 by_cases hbe:b=e
 ·subst hbe;exact heo
 ·exact⟨u,k b u hbe q⟩
end
def trk (h:Heap) (H:Hp):List Addr:=(List.range h.objs.size).filter fun a=>(H a).isSome
def hidT (h:Heap) (H:Hp):Heap:=PySem.W.hideAll h (trk h H)
theorem qJ6 (h:Heap) (H:Hp):(hidT h H).objs.size=h.objs.size:=PySem.W.hideAll_size _ _
theorem qU7 {h:Heap} {H:Hp} {b:Addr} {o:Obj} (e:h.get? b=some o) (n:H b=none):(hidT h H).get? b=some o:=
 PySem.W.hideAll_get _ e fun hm=>by
  have q:(H b).isSome=true:=(lVc.mp hm).2
  rw[n] at q;simp at q
theorem qYa {h:Heap} {H:Hp} {b:Addr} {o:Obj} (e:(hidT h H).get? b=some o):h.get? b=some o/\H b=none:=by
 have e':h.get? b=some o:=PySem.W.of_hideAll (trk h H) e
 refine⟨e',?_⟩
 cases q:H b with
 | none=>rfl
 | some x=>
  have hm:b∈trk h H:=lVc.mpr ⟨lKq.mpr (lJj e'),by simp[q]⟩
  have z:(hidT h H).get? b=none:=PySem.W.hideAll_none (trk h H) hm
  rw[z] at e;cases e
def qZl (g h:Heap) (L:Addr):List (Addr×Obj):=(List.range h.objs.size).filterMap fun a=>if a=L\/(g.get? a).isSome=true then none else (h.get? a).map fun o=>(a,o)
def rest (g h:Heap) (L d:Addr):List (Addr×Obj):=(qZl g h L).filter fun p=>decide (p.1≠d)
structure Mod (K:PySem.W.Frag) (mg:Str->Option Value) (base:Heap):Prop where
 kin:K.In base
 glob:base.Ns mainGlobals mg
 blt:∃mb,base.Ns builtinsNs mb/\∀x:Str,x≠"__name__"->mb x=bootBuiltins x
 nolimit:base.NoLimit
structure Cx where
 prog:Program
 w:World
 K:PySem.W.Frag
 mg:Str->Option Value
 base:Heap
 A:Around
 N:List Str
 s₀:Shared
 H₀:Hp
 env:Env
 outer:List Env
 stack:List Env
 ex:List Addr
 fn:Str->Bool
 calm:Bool
 pn:List (Addr×Obj)
 xe:Value->Shared->Prop
def frs (l:List Env):List Addr:=l.filterMap (·.frame)
abbrev Cx.fs (X:Cx):List Addr:=frs X.outer
def Vis (sc:Scope) (x:Str):Prop:=sc.names.lookup x=some .local\/sc.names.lookup x=some .cell\/sc.names.lookup x=some .free
def Loc (sc:Scope) (x:Str):Prop:=sc.names.lookup x=some .local\/sc.names.lookup x=some .cell
def Look (env:Env) (h:Heap) (m:Str->Option Value) (x:Str) (u:Value):Prop:=
 (env.kindOf x=some .local/\m x=some u)\/((env.kindOf x=some .cell\/env.kindOf x=some .free)/\∃c,env.cells.lookup x=some c/\h.IsCell c (some u))
structure Cx.Ok (X:Cx):Prop where
 mod:Mod X.K X.mg X.base
 kind:X.env.scope.kind= .function
 glob:X.env.globals=mainGlobals
 blt:X.env.builtins=builtinsNs
 above:X.s₀.heap.objs.size<=X.env.locals
 inj:∀x y c,X.env.cells.lookup x=some c->X.env.cells.lookup y=some c->x=y
 has:∀x,(X.env.kindOf x=some .cell\/X.env.kindOf x=some .free)->∃c,X.env.cells.lookup x=some c
 cab:∀x c,X.fn x=true->X.env.cells.lookup x=some c->X.s₀.heap.objs.size<=c
 hd:X.calm=true->X.A.handled=none
 gd:X.calm=true->X.A.guards=some []
 frames:X.A.frames=some X.stack
 stk:X.stack=X.outer\/(X.stack=X.env::X.outer/\X.env.frame=some X.env.locals)
 exf:∀b∈X.ex,b≠X.env.locals/\∀x c,X.env.cells.lookup x=some c->c≠b
 bs:∀b o,X.base.get? b=some o->X.s₀.heap.get? b=some o/\X.H₀ b=none
 bsz:X.base.objs.size<=X.s₀.heap.objs.size
 noex:∀b o,X.base.get? b=some o->b∉X.ex
 exfs:∀b∈X.ex,b∉X.fs
 funs:X.s₀.heap.FunFrames X.base X.outer
 frf:∀b∈X.fs,X.H₀ b=none
structure Inv (X:Cx) (pins:List (Addr×Obj)) (σ:List (Option V)) (H:Hp) (s:Shared):Prop where
 ok:X.Ok
 os:s.os=X.s₀.os
 bare:AllBare s.gens
 base:Un X.fs X.ex X.H₀ H X.s₀.heap s.heap
 loc:∃m,s.heap.Ns X.env.locals m/\∀(i:Nat) (x:Str) (v:V),X.N[i]? =some x->σ[i]? =some (some v)->Vis X.env.scope x->∃u,RelV v u/\Look X.env s.heap m x u
 cell:∀x c,X.env.cells.lookup x=some c->∃v,s.heap.IsCell c v
 free:H X.env.locals=none
 freeC:∀x c,X.env.cells.lookup x=some c->H c=none
 pin:∀p∈X.pn++pins,s.heap.get? p.1=some p.2/\H p.1=none/\p.1≠X.env.locals/\p.1∉X.fs/\∀v,p.2.data≠ .cell v
 hok:HOk X.prog X.w H s.heap
 len:σ.length=X.N.length
section
variable {X:Cx} {pins:List (Addr×Obj)} {σ:List (Option V)} {H H':Hp} {s:Shared} {h':Heap}
theorem Cx.Ok.nofr (ok:X.Ok) {b:Addr} {o:Obj} (e:X.base.get? b=some o):b∉X.fs:=fun hb=>by
 have:=(ok.funs.mem hb).1
 rw[e] at this;cases this
theorem Inv.bs (I:Inv X pins σ H s):∀b o,X.base.get? b=some o->s.heap.get? b=some o/\H b=none:=fun b o e=>
 ⟨I.base.keep b o (I.ok.bs b o e).1 (I.ok.bs b o e).2 (I.ok.nofr e) (I.ok.noex b o e),I.base.free b o (I.ok.bs b o e).1 (I.ok.bs b o e).2 (I.ok.noex b o e)⟩
theorem Inv.bk (I:Inv X pins σ H s):∀b o,X.base.get? b=some o->s.heap.get? b=some o:=fun b o e=>(I.bs b o e).1
theorem Inv.mod (I:Inv X pins σ H s):Mod X.K X.mg X.base:=I.ok.mod
theorem Inv.kIn (I:Inv X pins σ H s):X.K.In s.heap:=I.ok.mod.kin.keeps I.bk
theorem Inv.lt (I:Inv X pins σ H s):X.env.locals<s.heap.objs.size:=let ⟨_,hn,_⟩:=I.loc;hn.lt
theorem Inv.sz (I:Inv X pins σ H s):X.s₀.heap.objs.size<=s.heap.objs.size:=lKf I.ok.above (lVp I.lt)
theorem Inv.nofs (I:Inv X pins σ H s) {a:Addr} (h:s.heap.objs.size<=a):a∉X.fs:=fun hb=>by
 obtain⟨_,o,ho,_⟩:=I.ok.funs.mem hb
 exact absurd (lKe (lJj ho) (lKf I.sz h)) (lV7 _)
theorem Inv.cne (I:Inv X pins σ H s):∀x c,X.env.cells.lookup x=some c->c≠X.env.locals:=fun x c e z=>by
 obtain⟨v,o,ho,hd⟩:=I.cell x c e
 obtain⟨m,⟨o',es,ep,ho',hd',_⟩,_⟩:=I.loc
 rw[z,ho'] at ho;cases ho;rw[hd'] at hd;cases hd
theorem Inv.funs (I:Inv X pins σ H s):s.heap.FunFrames X.base X.outer:=by
 have all:∀(l:List Env),(∀b∈frs l,b∈X.fs)->X.s₀.heap.FunFrames X.base l->s.heap.FunFrames X.base l:=by
  intro l
  induction l with
  | nil=>intro _ _;trivial
  | cons env r ih=>
   intro hs hl
   obtain⟨hk,⟨L,o,hf,hn,ho,hd⟩,hr⟩:=hl
   have hL:L∈X.fs:=hs L (by unfold frs;rw[lQa,hf];exact lJz)
   obtain⟨sl,e⟩:=I.base.slot L o ho (I.ok.frf L hL) hL fun z=>I.ok.exfs L z hL
   exact⟨hk,⟨L,_,hf,hn,e,hd⟩,ih (fun b hb=>hs b (by unfold frs;rw[lQa,hf];exact lJ4 _ hb)) hr⟩
 exact all X.outer (fun _ hb=>hb) I.ok.funs
theorem Inv.stack (I:Inv X pins σ H s):s.heap.FunFrames X.base X.stack:=by
 rcases I.ok.stk with e | ⟨e,hf⟩
 ·rw[e];exact I.funs
 ·rw[e]
  obtain⟨m,hn,_⟩:=I.loc
  refine .cons (by rw[I.ok.kind];decide) hf hn ?_ I.funs
  exact Heap.get?_none_of_le (lKf I.ok.bsz I.ok.above)
theorem Inv.stkSub (I:Inv X pins σ H s):∀b∈frs X.stack,b∈X.env.locals::X.fs:=fun b hb=>by
 rcases I.ok.stk with e | ⟨e,hf⟩
 ·rw[e] at hb;exact lJ4 _ hb
 ·rw[e] at hb
  unfold frs at hb
  rw[lQa,hf] at hb
  exact hb
theorem Inv.stkFree (I:Inv X pins σ H s):∀b∈frs X.stack,H b=none:=fun b hb=>by
 rcases lJk.mp (I.stkSub b hb) with e | hb
 ·rw[e];exact I.free
 ·obtain⟨_,o,ho,_⟩:=I.ok.funs.mem hb
  exact I.base.free b o ho (I.ok.frf b hb) fun z=>I.ok.exfs b z hb
theorem Inv.step {g':Array GenState} {t':Nat} {d':Drawn} {ch:List Addr} (I:Inv X pins σ H s)
  (hch:∀b∈ch,(b∈X.ex\/X.s₀.heap.objs.size<=b)/\b≠X.env.locals/\(∀x c,X.env.cells.lookup x=some c->c≠b)/\∀p∈X.pn++pins,p.1≠b)
  (keep:∀b o,b≠X.env.locals->b∉X.fs->b∉ch->s.heap.get? b=some o->H b=none->h'.get? b=some o)
  (slot:∀b o,b≠X.env.locals->b∈X.fs->b∉ch->s.heap.get? b=some o->H b=none->∃sl,h'.get? b=some {o with slots:=sl}) (free:∀b o,b∉ch->s.heap.get? b=some o->H b=none->H' b=none)
  (there:∀b o,b∉ch->s.heap.get? b=some o->∃o',h'.get? b=some o')
  (tups:∀b xs,H b=some (.tup xs)->H' b=some (.tup xs)) (frzs:∀b o u,H b=some (.frz o u)->H' b=some (.frz o u)) (tbls:∀b ps,H b=some (.tbl ps)->∃more,H' b=some (.tbl (ps++more)))
  (ns:∀m,s.heap.Ns X.env.locals m->h'.Ns X.env.locals m) (hok:HOk X.prog X.w H' h') (hg:AllBare g'):
  Inv X pins σ H' {s with heap:=h',gens:=g',drawn:=d',toks:=t'}:=by
 have neL:∀b o,X.s₀.heap.get? b=some o->b≠X.env.locals:=fun b o e=>lJw (lKe (lJj e) I.ok.above)
 have neC:∀b o,X.s₀.heap.get? b=some o->b∉X.ex->b∉ch:=fun b o e hx hb=>by
  rcases (hch b hb).1 with z | z
  ·exact hx z
  ·exact absurd (lKe (lJj e) z) (lV7 _)
 have cellK:∀x c,X.env.cells.lookup x=some c->∀v,s.heap.IsCell c v->h'.IsCell c v:=fun x c e v ⟨o,ho,hd⟩=>by
  have nch:c∉ch:=fun z=>(hch c z).2.2.1 x c e rfl
  by_cases hc:c∈X.fs
  ·obtain⟨sl,q⟩:=slot c o (I.cne x c e) hc nch ho (I.freeC x c e)
   exact⟨_,q,hd⟩
  ·exact⟨o,keep c o (I.cne x c e) hc nch ho (I.freeC x c e),hd⟩
 refine⟨I.ok,I.os,hg,⟨fun b o e n hb hx=> ?_,fun b o e n hb hx=> ?_,fun b o e n hx=> ?_,fun b o e hx=> ?_,fun b xs e=>tups b xs (I.base.tups b xs e),fun b o xs e=>frzs b o xs (I.base.frzs b o xs e),fun b ps e=> ?_⟩,?_,fun x c e=> ?_,?_,fun x c e=> ?_,fun p hp=> ?_,hok,I.len⟩
 ·exact keep b o (neL b o e) hb (neC b o e hx) (I.base.keep b o e n hb hx) (I.base.free b o e n hx)
 ·obtain⟨sl,e1⟩:=I.base.slot b o e n hb hx
  obtain⟨sl',e2⟩:=slot b _ (neL b o e) hb (neC b o e hx) e1 (I.base.free b o e n hx)
  exact⟨sl',e2⟩
 ·obtain⟨o',e1⟩:=I.base.there b o e hx
  exact free b o' (neC b o e hx) e1 (I.base.free b o e n hx)
 ·obtain⟨o',e1⟩:=I.base.there b o e hx
  exact there b o' (neC b o e hx) e1
 ·obtain⟨m1,e1⟩:=I.base.tbls b ps e
  obtain⟨m2,e2⟩:=tbls b _ e1
  exact⟨m1++m2,by rw[e2,Array.append_assoc]⟩
 ·obtain⟨m,hn,hl⟩:=I.loc
  refine⟨m,ns m hn,fun i x v e1 e2 e3=> ?_⟩
  obtain⟨u,r,l⟩:=hl i x v e1 e2 e3
  refine⟨u,r,?_⟩
  rcases l with l | ⟨k,c,e,z⟩
  ·exact .inl l
  ·exact .inr ⟨k,c,e,cellK x c e _ z⟩
 ·obtain⟨v,z⟩:=I.cell x c e
  exact⟨v,cellK x c e v z⟩
 ·obtain⟨m,⟨o,_,_,ho,_⟩,_⟩:=I.loc
  exact free _ o (fun z=>(hch _ z).2.1 rfl) ho I.free
 ·obtain⟨v,o,ho,hd⟩:=I.cell x c e
  exact free c o (fun z=>(hch c z).2.2.1 x c e rfl) ho (I.freeC x c e)
 ·obtain⟨e,n,ne,nf,d⟩:=I.pin p hp
  have nch:p.1∉ch:=fun z=>(hch p.1 z).2.2.2 p hp rfl
  exact⟨keep p.1 p.2 ne nf nch e n,free p.1 p.2 nch e n,ne,nf,d⟩
theorem Inv.un {t':Nat} (I:Inv X pins σ H s) (u:Un X.fs [] H H' s.heap h') (hok:HOk X.prog X.w H' h'):Inv X pins σ H' {s with heap:=h',toks:=t'}:=by
 obtain⟨m,⟨o,es,ep,ho,r⟩,_⟩:=id I.loc
 obtain⟨sl,hL⟩:=u.any ho I.free (by simp)
 exact I.step (g':=s.gens) (d':=s.drawn) (ch:=[]) (fun _ z=>nomatch z) (fun b o _ hb _ e n=>u.keep b o e n hb (by simp)) (fun b o _ hb _ e n=>u.slot b o e n hb (by simp)) (fun b o _ e n=>u.free b o e n (by simp)) (fun b o _ e=>u.there b o e (by simp)) u.tups u.frzs u.tbls (fun m' hm=>by
  obtain⟨o',es',ep',ho',r'⟩:=hm
  rw[ho] at ho';cases ho'
  exact⟨_,es',ep',hL,r'⟩) hok I.bare
theorem Inv.call {g':Array GenState} {t':Nat} {d':Drawn} {ch:List Addr} (I:Inv X pins σ H s) (u:Un (frs X.stack) ch H H' s.heap h') (hok:HOk X.prog X.w H' h') (hg:AllBare g')
  (hch:∀b∈ch,(b∈X.ex\/X.s₀.heap.objs.size<=b)/\b≠X.env.locals/\(∀x c,X.env.cells.lookup x=some c->c≠b)/\∀p∈X.pn++pins,p.1≠b):
  Inv X pins σ H' {s with heap:=h',gens:=g',drawn:=d',toks:=t'}:=by
 obtain⟨m,⟨o,es,ep,ho,r⟩,_⟩:=id I.loc
 obtain⟨sl,hL⟩:=u.any ho I.free fun z=>(hch _ z).2.1 rfl
 exact I.step (ch:=ch) hch (fun b o hL hb hc e n=>u.keep b o e n (fun z=>(lJk.mp (I.stkSub b z)).elim hL hb) hc) (fun b o _ _ hc e n=>u.any e n hc) (fun b o hc e n=>u.free b o e n hc) (fun b o hc e=>u.there b o e hc) u.tups u.frzs u.tbls (fun m' hm=>by
  obtain⟨o',es',ep',ho',r'⟩:=hm
  rw[ho] at ho';cases ho'
  exact⟨_,es',ep',hL,r'⟩) hok hg
theorem Inv.turned {t':Nat} {it:Addr} (I:Inv X pins σ H s) (k:∀b o,b≠it->s.heap.get? b=some o->h'.get? b=some o) (hn:H it=none) (hL:it≠X.env.locals)
  (h1:it∈X.ex\/X.s₀.heap.objs.size<=it) (h2:∀x c,X.env.cells.lookup x=some c->c≠it) (h3:∀p∈X.pn++pins,p.1≠it):Inv X pins σ H {s with heap:=h',toks:=t'}:=by
 have nit:∀b u,H b=some u->b≠it:=fun b u e z=>by rw[z,hn] at e;cases e
 refine I.step (g':=s.gens) (d':=s.drawn) (ch:=[it]) (fun b hb=> ?_) (fun b o _ _ hc e _=>k b o (fun z=>hc (by simp[z])) e) (fun b o _ _ hc e _=>⟨o.slots,k b o (fun z=>hc (by simp[z])) e⟩) (fun _ _ _ _ n=>n)
  (fun b o hc e=>⟨o,k b o (fun z=>hc (by simp[z])) e⟩) (fun _ _ e=>e) (fun _ _ _ e=>e) (fun b ps e=>⟨#[],by rw[e];simp⟩) (fun m hm=> ?_) (fun b u e=> ?_) I.bare
 ·have e:b=it:=by simpa using hb
  subst e
  exact⟨h1,hL,h2,h3⟩
 ·obtain⟨o,es,ep,ho,r⟩:=hm
  exact⟨o,es,ep,k _ o (Ne.symm hL) ho,r⟩
 ·refine (I.hok b u e).stay (fun c v hc q=>k c v ?_ q) (fun _ q=>q) fun _ _ q=>q
  rcases hc with z | z
  ·rw[z];exact nit b u e
  ·exact nit c _ z
theorem Inv.tok (I:Inv X pins σ H s) (t:Nat):Inv X pins σ H {s with toks:=t}:=I.un (h':=s.heap) (t':=t) Un.refl I.hok
theorem Inv.kept {t':Nat} (I:Inv X pins σ H s) (k:∀b u,s.heap.get? b=some u->h'.get? b=some u):Inv X pins σ H {s with heap:=h',toks:=t'}:=I.un (Un.kept k) (I.hok.kept k)
theorem Inv.laid {a:Addr} {o:HO} {t':Nat} (I:Inv X pins σ H s) (k:∀b u,s.heap.get? b=some u->h'.get? b=some u) (hp:s.heap.objs.size<=a) (new:ObjOk X.prog X.w (upd H a o) h' a o):
  Inv X pins σ (upd H a o) {s with heap:=h',toks:=t'}:=I.un (Un.laid k hp (I.hok.fresh hp)) (I.hok.laid k hp new)
theorem Inv.write {x e:Addr} {o:HO} {t':Nat} (I:Inv X pins σ H s) (mu:Mut (H x)) (he:e=x\/H e=some (.own x)) (k:∀b u,b≠e->s.heap.get? b=some u->h'.get? b=some u) (heo:∃u,h'.get? e=some u)
  (new:ObjOk X.prog X.w (upd H x o) h' x o):Inv X pins σ (upd H x o) {s with heap:=h',toks:=t'}:=I.un (Un.write mu he k heo) (I.hok.write mu he k heo new)
theorem Inv.weak {σ':List (Option V)} (I:Inv X pins σ H s) (hl:σ'.length=σ.length) (w:∀(i:Nat) v,σ'[i]? =some (some v)->σ[i]? =some (some v)):Inv X pins σ' H s:=
 ⟨I.ok,I.os,I.bare,I.base,let ⟨m,hn,hl'⟩:=I.loc;⟨m,hn,fun i x v e1 e2 e3=>hl' i x v e1 (w i v e2) e3⟩,I.cell,I.free,I.freeC,I.pin,I.hok,hl.trans I.len⟩
theorem Inv.pins_of {pins':List (Addr×Obj)} (I:Inv X pins σ H s) (h:∀p∈pins',s.heap.get? p.1=some p.2/\H p.1=none/\p.1≠X.env.locals/\p.1∉X.fs/\∀v,p.2.data≠ .cell v):Inv X pins' σ H s:=
 ⟨I.ok,I.os,I.bare,I.base,I.loc,I.cell,I.free,I.freeC,fun p hp=>(lJx.mp hp).elim (fun z=>I.pin p (lKa _ z)) (h p),I.hok,I.len⟩
theorem kXe {N:List Str} (hN:N.Nodup) {i j:Nat} {x:Str} (a:N[i]? =some x) (b:N[j]? =some x):i=j:=by
 obtain⟨h1,e1⟩:=lJi.mp a
 obtain⟨h2,e2⟩:=lJi.mp b
 exact (List.getElem_inj hN).mp (e1.trans e2.symm)
theorem kZp {M:Model} {A:Around} {E:Value->Shared->Prop} {i:Nat} {x:Str} {v:V} {u:Value} {Q:Unit->Shared->Prop} (I:Inv X pins σ H s) (hN:X.N.Nodup) (hi:X.N[i]? =some x) (hx:Loc X.env.scope x) (r:RelV v u)
  (h:∀s',Inv X pins (σ.set i (some v)) H s'->(∃a,Heap.SameBut a s.heap s'.heap/\(a=X.env.locals\/X.env.cells.lookup x=some a))->Q () s') (hf:X.fn x=true\/X.env.scope.names.lookup x=some .local:=by first | exact .inl rfl | exact .inr rfl | assumption):wpAny M A (storeName X.env x u) Q E s:=by
 obtain⟨m,hn,hl⟩:=id I.loc
 have hcls:(X.env.scope.kind == .class||(X.env.scope.kind == .module&&X.env.locals != X.env.globals))=false:=by rw[I.ok.kind];rfl
 have hiσ:i<σ.length:=by rw[I.len];exact (lJi.mp hi).1
 have cne:=I.cne
 have tracked:∀ {a:Addr} {h':Heap},(∃o,s.heap.get? a=some o/\H a=none)->Heap.SameBut a s.heap h'->HOk X.prog X.w H h':=fun {a h'} ha hs b ob e=>by
  obtain⟨_,_,hfree⟩:=ha
  refine (I.hok b ob e).stay (fun c w' hc q=>(hs.2 c ?_).trans q) (fun _ q=>q) fun _ _ q=>q
  rintro rfl
  rcases hc with rfl | hc
  ·rw[hfree] at e;cases e
  ·rw[hfree] at hc;cases hc
 rcases hx with hk | hk
 ·refine wpAny_storeName_local hk hn (fun h' hn' hs=> ?_) hcls
  obtain⟨oL,_,_,hoL,_⟩:=id hn
  refine h _ ⟨I.ok,I.os,I.bare,⟨fun b o e n hb hx=> ?_,fun b o e n hb hx=> ?_,I.base.free,fun b o e hx=> ?_,I.base.tups,I.base.frzs,I.base.tbls⟩,⟨_,hn',fun j y v' e1 e2 e3=> ?_⟩,fun y c e=> ?_,I.free,I.freeC,fun p hp=> ?_,tracked ⟨oL,hoL,I.free⟩ hs,by simpa using I.len⟩ ⟨_,hs,.inl rfl⟩
  ·exact (hs.2 b (lJw (lKe (lJj e) I.ok.above))).trans (I.base.keep b o e n hb hx)
  ·obtain⟨sl,e1⟩:=I.base.slot b o e n hb hx
   exact⟨sl,(hs.2 b (lJw (lKe (lJj e) I.ok.above))).trans e1⟩
  ·obtain⟨o',e1⟩:=I.base.there b o e hx
   exact⟨o',(hs.2 b (lJw (lKe (lJj e) I.ok.above))).trans e1⟩
  ·by_cases hj:j=i
   ·subst hj
    rw[hi] at e1;cases e1
    rw[lQb hiσ] at e2
    cases e2
    exact⟨u,r,.inl ⟨hk,by simp⟩⟩
   ·rw[lQp (Ne.symm hj)] at e2
    obtain⟨u',r',q⟩:=hl j y v' e1 e2 e3
    refine⟨u',r',?_⟩
    rcases q with ⟨k,e⟩ | ⟨k,c,e,z⟩
    ·refine .inl ⟨k,?_⟩
     have:y≠x:=fun e=>hj (kXe hN e1 (e▸hi))
     simp[this,e]
    ·exact .inr ⟨k,c,e,z.sameBut hs (cne y c e)⟩
  ·obtain⟨w',z⟩:=I.cell y c e
   exact⟨w',z.sameBut hs (cne y c e)⟩
  ·obtain⟨e,n,ne,nf,d⟩:=I.pin p hp
   exact⟨(hs.2 p.1 ne).trans e,n,ne,nf,d⟩
 ·have hfn:X.fn x=true:=by
   rcases hf with z | z
   ·exact z
   ·rw[z] at hk;cases hk
  obtain⟨c,hc⟩:=I.ok.has x (.inl hk)
  obtain⟨w',z⟩:=I.cell x c hc
  refine wpAny_storeName_cell I.ok.kind hk hc z (fun h' hc' hs=> ?_)
  obtain⟨oc,hoc,hocd⟩:=id z
  refine h {s with heap:=h'} ⟨I.ok,I.os,I.bare,⟨fun b o e n hb hx=> ?_,fun b o e n hb hx=> ?_,I.base.free,fun b o e hx=> ?_,I.base.tups,I.base.frzs,I.base.tbls⟩,⟨m,hn.sameBut hs (Ne.symm (cne x c hc)),fun j y v' e1 e2 e3=> ?_⟩,fun y c' e=> ?_,I.free,I.freeC,fun p hp=> ?_,tracked ⟨oc,hoc,I.freeC x c hc⟩ hs,by simpa using I.len⟩ ⟨c,hs,.inr hc⟩
  ·exact (hs.2 b (lJw (lKe (lJj e) (I.ok.cab x c hfn hc)))).trans (I.base.keep b o e n hb hx)
  ·obtain⟨sl,e1⟩:=I.base.slot b o e n hb hx
   exact⟨sl,(hs.2 b (lJw (lKe (lJj e) (I.ok.cab x c hfn hc)))).trans e1⟩
  ·obtain⟨o',e1⟩:=I.base.there b o e hx
   exact⟨o',(hs.2 b (lJw (lKe (lJj e) (I.ok.cab x c hfn hc)))).trans e1⟩
  ·by_cases hj:j=i
   ·subst hj
    rw[hi] at e1;cases e1
    rw[lQb hiσ] at e2
    cases e2
    exact⟨u,r,.inr ⟨.inl hk,c,hc,hc'⟩⟩
   ·rw[lQp (Ne.symm hj)] at e2
    obtain⟨u',r',q⟩:=hl j y v' e1 e2 e3
    refine⟨u',r',?_⟩
    rcases q with q | ⟨k,c',e,z'⟩
    ·exact .inl q
    ·refine .inr ⟨k,c',e,z'.sameBut hs ?_⟩
     rintro rfl
     exact hj (kXe hN e1 (I.ok.inj _ _ _ e hc▸hi))
  ·by_cases hcc:c'=c
   ·subst hcc;exact⟨_,hc'⟩
   ·obtain⟨w2,z2⟩:=I.cell y c' e
    exact⟨w2,z2.sameBut hs hcc⟩
  ·obtain⟨e,n,ne,nf,d⟩:=I.pin p hp
   refine⟨(hs.2 p.1 ?_).trans e,n,ne,nf,d⟩
   intro q
   rw[q,hoc] at e
   have q':oc=p.2:=lJn e
   exact d w' (by rw[<-q'];exact hocd)
theorem jU8 {M:Model} {A:Around} {E:Value->Shared->Prop} {i:Nat} {x:Str} {v:V} {u:Value} {Q:Unit->Shared->Prop} (I:Inv X pins σ H s) (hN:X.N.Nodup) (hi:X.N[i]? =some x) (hx:Loc X.env.scope x) (r:RelV v u)
  (h:∀s',Inv X pins (σ.set i (some v)) H s'->Q () s') (hf:X.fn x=true\/X.env.scope.names.lookup x=some .local:=by first | exact .inl rfl | exact .inr rfl | assumption):wpAny M A (storeName X.env x u) Q E s:=
 kZp I hN hi hx r (fun s' I' _=>h s' I') hf
theorem Inv.call' {s':Shared} {ch:List Addr} (I:Inv X pins σ H s) (ho:s'.os=s.os) (u:Un (frs X.stack) ch H H' s.heap s'.heap) (hok:HOk X.prog X.w H' s'.heap) (hg:AllBare s'.gens)
  (hch:∀b∈ch,(b∈X.ex\/X.s₀.heap.objs.size<=b)/\b≠X.env.locals/\(∀x c,X.env.cells.lookup x=some c->c≠b)/\∀p∈X.pn++pins,p.1≠b):Inv X pins σ H' s':=by
 obtain⟨h',g',d',t',o'⟩:=s'
 have e:o'=s.os:=ho
 subst e
 exact I.call (g':=g') (t':=t') (d':=d') u hok hg hch
end
abbrev XK:=Value->Option Addr->Hp->Prop
abbrev St:=List (Option V)
abbrev VK:=V->Hp->Prop
abbrev TE:=St->Hp->VK->Prop
abbrev TT:=St->Hp->(Bool->Hp->Prop)->Prop
abbrev TA:=St->Hp->(List V->Hp->Prop)->Prop
structure Ends where
 nx:St->Hp->Prop
 rt:VK
 bk:St->Hp->Prop:=fun _ _=>False
 ct:St->Hp->Prop:=fun _ _=>False
abbrev TS:=Ends->St->Hp->Prop
def EP (X:Cx) (pins:List (Addr×Obj)) (σ:St) (Q:VK) (u:Value) (s':Shared):Prop:=∃v H',Inv X pins σ H' s'/\RelV v u/\Q v H'
def TP (X:Cx) (pins:List (Addr×Obj)) (σ:St) (Q:Bool->Hp->Prop) (b:Bool) (s':Shared):Prop:=∃H',Inv X pins σ H' s'/\Q b H'
def SP (X:Cx) (pins:List (Addr×Obj)) (D:Ends) (f:Flow) (s':Shared):Prop:=
 match f with
 | .next=>∃ σ' H',Inv X pins σ' H' s'/\D.nx σ' H'
 | .brk=>∃ σ' H',Inv X pins σ' H' s'/\D.bk σ' H'
 | .cont=>∃ σ' H',Inv X pins σ' H' s'/\D.ct σ' H'
 | .ret u=>∃v σ' H',Inv X pins σ' H' s'/\RelV v u/\D.rt v H'
def PE (X:Cx) (e:Expr) (t:TE):Prop:=
 ∀(pins:List (Addr×Obj)) (s:Shared) (σ:St) (H:Hp) (Q:VK),Inv X pins σ H s->t σ H Q->wpAny (model X.prog X.w) X.A (eval e X.env) (EP X pins σ Q) X.xe s
def PSs (X:Cx) (st:List Stmt) (t:TS):Prop:=
 ∀(pins:List (Addr×Obj)) (s:Shared) (σ:St) (H:Hp) (D:Ends),Inv X pins σ H s->t D σ H->wpAny (model X.prog X.w) X.A (execs st X.env) (SP X pins D) X.xe s
theorem thn {α:Type} {t:Sem α} {Q Q':α->Shared->Prop} {M:Model} {A:Around} {E:Value->Shared->Prop} {s:Shared} (h:wpAny M A t Q E s) (hQ:∀a s,Q a s->Q' a s):wpAny M A t Q' E s:=lKz h hQ fun _ _ x=>x
section
variable {X:Cx}
def tVar (i:Nat):TE:=fun σ H Q=>∃v,σ[i]? =some (some v)/\Q v H
def tC (v:V):TE:=fun _ H Q=>Q v H
theorem pe_var {i:Nat} {x:Str} {pos:Pos} (hN:X.N[i]? =some x) (hv:Vis X.env.scope x) (hd:(x == ("__debug__":Str))=false:=by decide) (hcd:(x == ("__classdict__":Str))=false:=by decide):PE X (.Name x pos) (tVar i):=by
 intro pins s σ H Q I h
 obtain⟨v,e,h⟩:=h
 obtain⟨m,hn,hl⟩:=I.loc
 obtain⟨u,r,l⟩:=hl i x v hN e hv
 have fin:EP X pins σ Q u s:=⟨v,H,I,r,h⟩
 rcases l with ⟨hk,hm⟩ | ⟨hk,c,hc,hcell⟩
 ·exact wpAny_Name (wpAny_loadName_local I.ok.kind hk hn hm fin) hd
 ·rcases hk with hk | hk
  ·exact wpAny_Name (wpAny_loadName_cell I.ok.kind hk hc hcell fin) hd
  ·exact wpAny_Name (wpAny_loadName_free I.ok.kind hk hc hcell fin hcd) hd
theorem pe_int {i j pos}:PE X (.Constant (.int i) j pos) (tC (.int i)):=fun _ _ _ H _ I h=>wpAny_Constant_int ⟨.int i,H,I.tok _,⟨_,rfl⟩,h⟩
theorem pe_bl {b j pos}:PE X (.Constant (.bool b) j pos) (tC (.bl b)):=fun _ _ _ H _ I h=>Constant_bool ⟨.bl b,H,I,rfl,h⟩
theorem pe_non {j pos}:PE X (.Constant .none j pos) (tC .non):=fun _ _ _ H _ I h=>Constant_none ⟨.non,H,I,rfl,h⟩
theorem pe_str {x j pos}:PE X (.Constant (.str x) j pos) (tC (.str x)):=fun _ _ _ H _ I h=>Calls.Constant_str ⟨.str x,H,I.tok _,⟨_,rfl⟩,h⟩
def Gl (X:Cx) (x:Str):Prop:=X.env.kindOf x=some .globalImplicit
theorem kKw {E:Value->Shared->Prop} {pins:List (Addr×Obj)} {s:Shared} {σ:St} {H:Hp} {x:Str} {u:Value} {pos:Pos} {Q:Value->Shared->Prop} (I:Inv X pins σ H s) (hg:Gl X x) (hm:X.mg x=some u) (h:Q u s)
  (hd:(x == ("__debug__":Str))=false:=by decide):wpAny (model X.prog X.w) X.A (eval (.Name x pos) X.env) Q E s:=
 Calls.Name_function_global I.ok.kind hg (Calls.loadGlobal_global (by rw[I.ok.glob];exact I.mod.glob.keeps I.bk) hm h) hd
theorem jU5 {E:Value->Shared->Prop} {pins:List (Addr×Obj)} {s:Shared} {σ:St} {H:Hp} {x:Str} {u:Value} {pos:Pos} {Q:Value->Shared->Prop} (I:Inv X pins σ H s) (hg:Gl X x) (hm:X.mg x=none) (hv:bootBuiltins x=some u) (h:Q u s)
  (hn:x≠"__name__":=by decide) (hd:(x == ("__debug__":Str))=false:=by decide):wpAny (model X.prog X.w) X.A (eval (.Name x pos) X.env) Q E s:=by
 obtain⟨mb,h1,h2⟩:=I.mod.blt
 exact Calls.Name_function_global I.ok.kind hg (Calls.loadGlobal_builtin (by rw[I.ok.glob];exact I.mod.glob.keeps I.bk) hm (by rw[I.ok.blt];exact h1.keeps I.bk) ((h2 x hn).trans hv) h) hd
theorem qX2 {x:Str} {v:V} {u:Value} {pos:Pos} (hg:Gl X x) (hm:X.mg x=none) (hv:bootBuiltins x=some u) (r:RelV v u) (hn:x≠"__name__":=by decide) (hd:(x == ("__debug__":Str))=false:=by decide):PE X (.Name x pos) (tC v):=
 fun _ _ _ H _ I h=>jU5 I hg hm hv ⟨v,H,I,r,h⟩ hn hd
variable {a b:Expr} {ta tb:TE} {pos:Pos}
def tB (t:TE):TT:=fun σ H Q=>t σ H fun x H1=>∃c,x= .bl c/\Q c H1
variable {tA tB':TT} {rest:List Expr}
def tOrV (ta tb:TE):TE:=fun σ H Q=>ta σ H fun x H1=>∃c,x= .bl c/\if c=true then Q (.bl true) H1 else tb σ H1 Q
def tNotV (ta:TE):TE:=fun σ H Q=>ta σ H fun x H1=>∃c,x= .bl c/\Q (.bl (!c)) H1
end
def SqL (K:PySem.W.Frag) (H:Hp) (a:Addr) (xs:List V):Prop:=
 Rd H a (.lst xs)\/
  ∃(o:Obj) (its:Array Value) (n:Nat),K.lookup a=some o/\o.cls= .type "list"/\o.dict=none/\o.data= .seq its n/\its.size<=sizeLine/\Vals xs its.toList
def SqT (K:PySem.W.Frag) (H:Hp) (a:Addr) (xs:List V):Prop:=
 Rd H a (.tup xs)\/
  ∃(o:Obj) (its:Array Value) (n:Nat),K.lookup a=some o/\o.cls= .type "tuple"/\o.data= .seq its n/\its.size<=sizeLine/\Vals xs its.toList
noncomputable def absV:Value->Option V
 | .none=>some .non
 | .bool b=>some (.bl b)
 | .int i _=>some (.int i)
 | .str x _=>some (.str x)
 | .bytes b _=>some (.byt b)
 | .float b _=>some (.flt b)
 | .ref a=>some (.ref a)
 | .type n=>some (.ty n)
 | _=>none
theorem RelV.abs {x:V} {u:Value} (r:RelV x u):absV u=some x:=by
 cases x with
 | non=>cases r;rfl
 | bl _=>cases r;rfl
 | int _=>obtain⟨t,rfl⟩:=r;rfl
 | str _=>obtain⟨t,rfl⟩:=r;rfl
 | byt _=>obtain⟨t,rfl⟩:=r;rfl
 | flt _=>obtain⟨t,rfl⟩:=r;rfl
 | ref _=>cases r;rfl
 | ty _=>cases r;rfl
theorem RelV.inj {x y:V} {u:Value} (r:RelV x u) (q:RelV y u):x=y:=lJn (r.abs.symm.trans q.abs)
theorem Vals.inj {xs ys:List V} {us:List Value} (h:Vals xs us) (g:Vals ys us):xs=ys:=by
 induction h generalizing ys with
 | nil=>(cases g;rfl)
 | cons r _ ih=>(cases g with | cons r' t'=>rw[r.inj r',ih t'])
section
variable {X:Cx} {pins:List (Addr×Obj)} {σ:St} {H:Hp} {s:Shared} {a:Addr} {xs ys:List V}
theorem SqL.of {K:PySem.W.Frag} (h:H a=some (.lst xs)):SqL K H a xs:= .inl (.inl h)
theorem SqT.of {K:PySem.W.Frag} (h:H a=some (.tup xs)):SqT K H a xs:= .inl (.inl h)
theorem Inv.list (I:Inv X pins σ H s) (h:SqL X.K H a xs):∃its:List Value,Vals xs its/\PlainL s.heap a its.toArray/\xs.length<=sizeLine:=by
 rcases h with h | ⟨o,its,n,hk,hc,hd,hs,hz,r⟩
 ·obtain⟨z,its,n,r,e⟩:=h.ok I.hok
  exact⟨its,r,⟨_,n,e,rfl,rfl,rfl⟩,z⟩
 ·refine⟨its.toList,r,⟨o,n,I.kIn a o hk,hc,hd,by simpa using hs⟩,?_⟩
  have e:=r.length
  simp only[lKj] at e
  omega
theorem Inv.tuple (I:Inv X pins σ H s) (h:SqT X.K H a xs):∃its:List Value,Vals xs its/\IsTup s.heap a its.toArray/\xs.length<=sizeLine:=by
 rcases h with h | ⟨o,its,n,hk,hc,hs,hz,r⟩
 ·obtain⟨z,its,r,p⟩:=h.ok I.hok
  exact⟨its,r,p.is,z⟩
 ·refine⟨its.toList,r,⟨o,I.kIn a o hk,hc,n,by simpa using hs⟩,?_⟩
  have e:=r.length
  simp only[lKj] at e
  omega
theorem Inv.list_inj (I:Inv X pins σ H s) (h:SqL X.K H a xs) (h':SqL X.K H a ys):xs=ys:=by
 obtain⟨its,r,⟨o,n,e,_,_,d⟩,_⟩:=I.list h
 obtain⟨its',r',⟨o',n',e',_,_,d'⟩,_⟩:=I.list h'
 rw[e] at e';cases e'
 rw[d] at d'
 injection d' with d1 _
 have:its=its':=by simpa using lKg Array.toList d1
 subst this
 exact r.inj r'
theorem Inv.tuple_inj (I:Inv X pins σ H s) (h:SqT X.K H a xs) (h':SqT X.K H a ys):xs=ys:=by
 obtain⟨its,r,⟨o,e,_,n,d⟩,_⟩:=I.tuple h
 obtain⟨its',r',⟨o',e',_,n',d'⟩,_⟩:=I.tuple h'
 rw[e] at e';cases e'
 rw[d] at d'
 injection d' with d1 _
 have:its=its':=by simpa using lKg Array.toList d1
 subst this
 exact r.inj r'
end
abbrev Cx.wish (X:Cx) (E:Value->Shared->Prop):Cx:={X with xe:=E}
abbrev Cx.nox (X:Cx):Cx:=X.wish fun _ _=>False
theorem Cx.Ok.wish {X:Cx} (ok:X.Ok) (E:Value->Shared->Prop):(X.wish E).Ok:=
 ⟨ok.mod,ok.kind,ok.glob,ok.blt,ok.above,ok.inj,ok.has,ok.cab,ok.hd,ok.gd,ok.frames,ok.stk,ok.exf,ok.bs,ok.bsz,ok.noex,ok.exfs,ok.funs,ok.frf⟩
theorem Cx.Ok.unwish {X:Cx} {E:Value->Shared->Prop} (ok:(X.wish E).Ok):X.Ok:=
 ⟨ok.mod,ok.kind,ok.glob,ok.blt,ok.above,ok.inj,ok.has,ok.cab,ok.hd,ok.gd,ok.frames,ok.stk,ok.exf,ok.bs,ok.bsz,ok.noex,ok.exfs,ok.funs,ok.frf⟩
section
variable {X:Cx} {pins:List (Addr×Obj)} {σ:St} {H:Hp} {s:Shared} {E:Value->Shared->Prop}
theorem Inv.wish (I:Inv X pins σ H s) (E:Value->Shared->Prop):Inv (X.wish E) pins σ H s:=⟨I.ok.wish E,I.os,I.bare,I.base,I.loc,I.cell,I.free,I.freeC,I.pin,I.hok,I.len⟩
theorem Inv.unwish (I:Inv (X.wish E) pins σ H s):Inv X pins σ H s:=⟨I.ok.unwish,I.os,I.bare,I.base,I.loc,I.cell,I.free,I.freeC,I.pin,I.hok,I.len⟩
theorem SP.unwish {D:Ends} {f:Flow} {s':Shared} (h:SP (X.wish E) pins D f s'):SP X pins D f s':=by
 cases f with
 | next=>obtain⟨σ',H',I,q⟩:=h;exact⟨σ',H',I.unwish,q⟩
 | brk=>obtain⟨σ',H',I,q⟩:=h;exact⟨σ',H',I.unwish,q⟩
 | cont=>obtain⟨σ',H',I,q⟩:=h;exact⟨σ',H',I.unwish,q⟩
 | ret u=>obtain⟨v,σ',H',I,r,q⟩:=h;exact⟨v,σ',H',I.unwish,r,q⟩
theorem PSs.nox {st:List Stmt} {t:TS} (h:PSs X.nox st t):PSs X st t:=fun pins s σ H D I hw=>
 lKz (h pins s σ H D (I.wish _) hw) (fun _ _ q=>q.unwish) fun _ _ z=>False.elim z
end
section
variable {X:Cx} {st:Stmt} {rest:List Stmt} {t u:TS} {e:Expr} {te:TE} {pos:Pos}
theorem Inv.quiet {pins:List (Addr×Obj)} {σ:St} {H:Hp} {s:Shared} (I:Inv X pins σ H s):interactive X.env=false:=by simp[interactive,I.ok.kind]
def tRetN:TS:=fun D _ H=>D.rt .non H
end
abbrev TSet:=V->V->V->Hp->(Hp->Prop)->Prop
def PSet (X:Cx) (t:TSet):Prop:=
 ∀(pins:List (Addr×Obj)) (s:Shared) (σ:St) (H:Hp) (o i v:V) (ov iv u:Value) (Q:Hp->Prop),Inv X pins σ H s->RelV o ov->RelV i iv->RelV v u->t o i v H Q->
  wpAny (model X.prog X.w) X.A (setItem ov iv u) (fun _ s'=>∃H',Inv X pins σ H' s'/\Q H') X.xe s
section
variable {X:Cx} {pos:Pos}
end
section
variable {X:Cx} {pos:Pos}
end
structure It where
 go:Nat->Hp->Prop
 yld:Nat->Hp->V->Hp->Prop
 stop:Nat->Hp->Prop
def FpOk (X:Cx) (pins:List (Addr×Obj)) (H:Hp) (b:Addr):Prop:=
 H b=none/\b≠X.env.locals/\b∉X.fs/\(b∈X.ex\/X.s₀.heap.objs.size<=b)/\(∀x c,X.env.cells.lookup x=some c->c≠b)/\∀p∈X.pn++pins,p.1≠b
theorem Inv.fpOk {X:Cx} {pins:List (Addr×Obj)} {σ:St} {H H':Hp} {s:Shared} {b:Addr} (I:Inv X pins σ H s) (hb:s.heap.objs.size<=b) (hn:H' b=none):FpOk X pins H' b:=by
 refine⟨hn,lK6 (lKe I.lt hb),I.nofs hb,.inr (lKf I.sz hb),fun x c e z=> ?_,fun p hp z=> ?_⟩
 ·obtain⟨v,q⟩:=I.cell x c e
  exact absurd (lKe q.lt (by rw[z];exact hb)) (lV7 _)
 ·exact absurd (lKe (lJj (I.pin p hp).1) (by rw[z];exact hb)) (lV7 _)
structure Turn (P:Program) (w:World) (K:PySem.W.Frag) (tg:Expr) (J:It) (fp:List Addr) (it:Addr) (tn:Nat->Heap->Prop):Prop where
 mem:it∈fp
 obj:∀i h,tn i h->∀b∈fp,∃o,h.get? b=some o/\∀v,o.data≠ .cell v
 keep:∀i h h',tn i h->(∀b∈fp,∀o,h.get? b=some o->h'.get? b=some o)->tn i h'
 item:∀(X:Cx),X.prog=P->X.w=w->X.K=K->X.calm=true->∀(i:Nat) (pins:List (Addr×Obj)) (s:Shared) (σ:St) (H:Hp) (E:Value->Shared->Prop),Inv X pins σ H s->(∀b∈fp,FpOk X pins H b)->tn i s.heap->J.go i H->
  wpAny (model P w) X.A (pyNext (.ref it)) (fun r s1=>∃u,r=some u/\
   wpAny (model P w) X.A (letOwnedTupleGo tg (.ref it) u) (fun _ s2=>∃x H',Inv X pins σ H' s2/\RelV x u/\J.yld i H x H'/\tn (i+1) s2.heap/\∀b∈fp,H' b=none) E s1) E s
 done:∀(X:Cx),X.prog=P->X.w=w->X.K=K->X.calm=true->∀(i:Nat) (pins:List (Addr×Obj)) (s:Shared) (σ:St) (H:Hp) (E:Value->Shared->Prop),Inv X pins σ H s->(∀b∈fp,FpOk X pins H b)->tn i s.heap->J.stop i H->
  wpAny (model P w) X.A (pyNext (.ref it)) (fun r s1=>r=none/\Inv X pins σ H s1) E s
 self:∀(A:Around) (i:Nat) (s:Shared) (Q:Value->Shared->Prop) (E:Value->Shared->Prop),tn i s.heap->Q (.ref it) s->wpAny (model P w) A (pyIter (.ref it)) Q E s
abbrev TI:=St->Hp->(It->Hp->Prop)->Prop
def PIE (X:Cx) (pins:List (Addr×Obj)) (σ:St) (tg:Expr) (R:It->Hp->Prop) (itv:Value) (s2:Shared):Prop:=
 ∃(it:Addr) (fp:List Addr) (tn:Nat->Heap->Prop) (J:It) (H':Hp),itv= .ref it/\Inv X pins σ H' s2/\Turn X.prog X.w X.K tg J fp it tn/\tn 0 s2.heap/\(∀b∈fp,FpOk X pins H' b)/\R J H'
def PI (X:Cx) (tg iter:Expr) (wi:TI):Prop:=
 ∀(pins:List (Addr×Obj)) (s:Shared) (σ:St) (H:Hp) (R:It->Hp->Prop),Inv X pins σ H s->wi σ H R->
  wpAny (model X.prog X.w) X.A (eval iter X.env) (fun v s1=>wpAny (model X.prog X.w) X.A (pyIter v) (PIE X pins σ tg R) X.xe s1) X.xe s
theorem qY2 {M:Model} {A:Around} {E:Value->Shared->Prop} {s:Shared} {tg:Expr} {it:Addr} {u:Value} {o:Obj} {n:String} {vs:Array Value} {Q:Unit->Shared->Prop} (ho:s.heap.get? it=some o) (hc:o.cls= .type n) (hd:o.data= .fields vs)
  (hn:["enumerate","zip","dict_itemiterator","dict_reverseitemiterator","odict_iterator","itertools.zip_longest","itertools.pairwise"].contains n=false) (hQ:Q () s):wpAny M A (letOwnedTupleGo tg (.ref it) u) Q E s:=by
 unfold letOwnedTupleGo
 cases tg<;>first
  | exact lJd hQ
  | (cases u<;>first
    | exact lJd hQ
    | (refine lJb (wpAny_load ho ?_)
       rw[hc,hd]
       show wpAny M A (if (["enumerate","zip","dict_itemiterator","dict_reverseitemiterator","odict_iterator","itertools.zip_longest","itertools.pairwise"].contains n&&vs[0]? == some (rawInt _))=true then _ else _) Q E s
       rw[lJa (by intro h;rw[hn,Bool.false_and] at h;cases h)]
       exact lJd hQ))
noncomputable def Itl (K:PySem.W.Frag) (a:Addr):It:=
 ⟨fun i H=>∃xs x,SqL K H a xs/\xs[i]? =some x,fun i H x H'=>H'=H/\∀xs,SqL K H a xs->xs[i]? =some x,fun i H=>∃xs,SqL K H a xs/\xs.length<=i⟩
noncomputable def Itt (K:PySem.W.Frag) (a:Addr):It:=
 ⟨fun i H=>∃xs x,SqT K H a xs/\xs[i]? =some x,fun i H x H'=>H'=H/\∀xs,SqT K H a xs->xs[i]? =some x,fun i H=>∃xs,SqT K H a xs/\xs.length<=i⟩
def Itr (lo:Int) (n:Nat):It:=⟨fun i _=>i<n,fun i H x H'=>H'=H/\x= .int (lo+i),fun i _=>n<=i⟩
theorem kZf {P:Program} {w:World} {K:PySem.W.Frag} {tg:Expr} (a it:Addr):Turn P w K tg (Itl K a) [it] it (fun i h=>h.IsListIter it a i) where
 mem:=by simp
 obj:=fun i h st b hb=>by
  have e:b=it:=by simpa using hb
  subst e
  obtain⟨o,e,c,d⟩:=st
  exact⟨o,e,fun v z=>by rw[d] at z;cases z⟩
 keep:=fun i h h' st k=>st.at fun o e=>k it (by simp) o e
 item:=by
  intro X hP hw hK hc i pins s σ H E I hf st hg
  subst hP hw hK
  obtain⟨xs,x,hq,hx⟩:=hg
  obtain⟨its,rv,p,hz⟩:=I.list hq
  obtain⟨u,hu,ru⟩:=rv.get hx
  obtain⟨f0,f1,f2,f3,f4,f5⟩:=hf it (by simp)
  refine wpAny_pyNext_list_item st p.isList (x:=u) (by simpa using hu) fun h' st' sb=> ?_
  have I1:Inv X pins σ H {s with heap:=h'}:=I.turned (t':=s.toks) (fun b o hb e=>(sb.2 b hb).trans e) f0 f1 f3 f4 f5
  obtain⟨o,e,c,d⟩:=id st'
  exact⟨u,rfl,qY2 (s:={s with heap:=h'}) e c d (by decide) ⟨x,H,I1,ru,⟨rfl,fun ys hy=>by rw[I.list_inj hy hq];exact hx⟩,st',fun b hb=>(hf b hb).1⟩⟩
 done:=by
  intro X hP hw hK hc i pins s σ H E I hf st hg
  subst hP hw hK
  obtain⟨xs,hq,hx⟩:=hg
  obtain⟨its,rv,p,hz⟩:=I.list hq
  obtain⟨f0,f1,f2,f3,f4,f5⟩:=hf it (by simp)
  have hl:=rv.length
  exact wpAny_pyNext_list_end (I.ok.hd hc) st p.isList (by simp;omega) fun h' eb=>⟨rfl,I.turned (t':=s.toks) (fun b o hb e=>eb b o hb e) f0 f1 f3 f4 f5⟩
 self:=fun _ _ _ _ _ st h=>wpAny_pyIter_listiter st h
theorem kX4 {P:Program} {w:World} {K:PySem.W.Frag} {tg:Expr} (a it:Addr):Turn P w K tg (Itt K a) [it] it (fun i h=>h.IsTupleIter it a i) where
 mem:=by simp
 obj:=fun i h st b hb=>by
  have e:b=it:=by simpa using hb
  subst e
  obtain⟨o,e,c,d⟩:=st
  exact⟨o,e,fun v z=>by rw[d] at z;cases z⟩
 keep:=fun i h h' st k=>st.at fun o e=>k it (by simp) o e
 item:=by
  intro X hP hw hK hc i pins s σ H E I hf st hg
  subst hP hw hK
  obtain⟨xs,x,hq,hx⟩:=hg
  obtain⟨its,rv,p,hz⟩:=I.tuple hq
  obtain⟨u,hu,ru⟩:=rv.get hx
  obtain⟨f0,f1,f2,f3,f4,f5⟩:=hf it (by simp)
  refine wpAny_pyNext_tuple_item st (show s.heap.IsTuple a its.toArray from p) (x:=u) (by simpa using hu) fun h' st' sb=> ?_
  have I1:Inv X pins σ H {s with heap:=h'}:=I.turned (t':=s.toks) (fun b o hb e=>(sb.2 b hb).trans e) f0 f1 f3 f4 f5
  obtain⟨o,e,c,d⟩:=id st'
  exact⟨u,rfl,qY2 (s:={s with heap:=h'}) e c d (by decide) ⟨x,H,I1,ru,⟨rfl,fun ys hy=>by rw[I.tuple_inj hy hq];exact hx⟩,st',fun b hb=>(hf b hb).1⟩⟩
 done:=by
  intro X hP hw hK hc i pins s σ H E I hf st hg
  subst hP hw hK
  obtain⟨xs,hq,hx⟩:=hg
  obtain⟨its,rv,p,hz⟩:=I.tuple hq
  obtain⟨f0,f1,f2,f3,f4,f5⟩:=hf it (by simp)
  have hl:=rv.length
  exact wpAny_pyNext_tuple_end (I.ok.hd hc) st (show s.heap.IsTuple a its.toArray from p) (by simp;omega) fun h' eb=>⟨rfl,I.turned (t':=s.toks) (fun b o hb e=>eb b o hb e) f0 f1 f3 f4 f5⟩
 self:=fun _ _ _ _ _ st h=>wpAny_pyIter_tupleiter st h
theorem kX5 {P:Program} {w:World} {K:PySem.W.Frag} {tg:Expr} (it:Addr) (lo:Int) (n:Nat):Turn P w K tg (Itr lo n) [it] it (fun i h=>IsRangeIter h it (lo+(i:Nat)*1) ((n:Int)-(i:Nat)) 1) where
 mem:=by simp
 obj:=fun i h st b hb=>by
  have e:b=it:=by simpa using hb
  subst e
  exact⟨_,st,fun v z=>by
   have z':Data.fields _=Data.cell v:=z
   cases z'⟩
 keep:=fun i h h' st k=>k it (by simp) _ st
 item:=by
  intro X hP hw hK hc i pins s σ H E I hf st hg
  subst hP hw hK
  obtain⟨f0,f1,f2,f3,f4,f5⟩:=hf it (by simp)
  have W:=Walks.range (prog:=X.prog) (w:=X.w) (I.ok.hd hc) it lo 1 n
  refine W.item i s _ _ hg st fun v h' tk hv st' kk=> ?_
  obtain⟨t,rfl⟩:=hv
  have I1:Inv X pins σ H {s with heap:=h',toks:=tk}:=I.turned (fun b o hb e=>kk b o (by simpa using hb) e) f0 f1 f3 f4 f5
  refine⟨_,rfl,qY2 (s:={s with heap:=h',toks:=tk}) (n:="range_iterator") st' rfl rfl (by decide) ⟨.int (lo+i),H,I1,⟨t,?_⟩,⟨rfl,rfl⟩,st',fun b hb=>(hf b hb).1⟩⟩
  rw[Int.mul_one]
 done:=by
  intro X hP hw hK hc i pins s σ H E I hf st hg
  subst hP hw hK
  obtain⟨f0,f1,f2,f3,f4,f5⟩:=hf it (by simp)
  exact wpAny_pyNext_range_end (I.ok.hd hc) st (by have:n<=i:=hg;omega) fun h' eb=>⟨rfl,I.turned (t':=s.toks) (fun b o hb e=>eb b o hb e) f0 f1 f3 f4 f5⟩
 self:=fun _ _ _ _ _ st h=>wpAny_pyIter_rangeiter st h
section
variable {X:Cx} {tg:Expr}
theorem kXd {pins:List (Addr×Obj)} {σ:St} {H:Hp} {s:Shared} {R:It->Hp->Prop} {E:Value->Shared->Prop} {lo hi:Int} {t u v:Tok} {tk:Nat} (I:Inv X pins σ H s) (h1: -(2^62)<=lo) (h2:lo<2^62) (h3: -(2^62)<=hi) (h4:hi<2^62)
  (q:R (Itr lo (hi-lo).toNat) H):wpAny (model X.prog X.w) X.A (pyIter (.ref s.heap.objs.size)) (PIE X pins σ tg R) E {s with heap:=s.heap.push {cls:= .type "range",data:= .fields #[.int lo t,.int hi u,.int 1 v]},toks:=tk}:=by
 refine wpAny_pyIter_range (IsRange.new ..) (small_one h1 h2 h3 h4) ?_
 have I1:Inv X pins σ H {s with heap:=s.heap.push {cls:= .type "range",data:= .fields #[.int lo t,.int hi u,.int 1 v]},toks:=tk}:=I.kept fun b o e=>lJs _ e
 refine⟨(s.heap.push {cls:= .type "range",data:= .fields #[.int lo t,.int hi u,.int 1 v]}).objs.size,[(s.heap.push {cls:= .type "range",data:= .fields #[.int lo t,.int hi u,.int 1 v]}).objs.size],_,_,H,rfl,
  I1.kept (t':=tk) fun b o e=>lJs _ e,kX5 _ lo (hi-lo).toNat,?_,fun b hb=> ?_,q⟩
 ·have e1:lo+((0:Nat):Int)*1=lo:=by simp
  have e2:(((hi-lo).toNat:Nat):Int)-((0:Nat):Int)=Builtin.Range.rangeSize lo hi 1:=by rw[rangeSize_one];split<;>omega
  show IsRangeIter _ _ (lo+((0:Nat):Int)*1) ((((hi-lo).toNat:Nat):Int)-((0:Nat):Int)) 1
  rw[e1,e2]
  exact lJ8 _ rfl
 ·have e:b=(s.heap.push {cls:= .type "range",data:= .fields #[.int lo t,.int hi u,.int 1 v]}).objs.size:=by simpa using hb
  subst e
  exact I1.fpOk (lJh _) (I1.hok.fresh (lJh _))
def jVp (fp:List Addr) (h:Heap):List (Addr×Obj):=fp.filterMap fun b=>(h.get? b).map fun o=>(b,o)
theorem jVe {fp:List Addr} {h:Heap} {b:Addr} {o:Obj} (hb:b∈fp) (e:h.get? b=some o):(b,o)∈jVp fp h:=lQq.mpr ⟨b,hb,by rw[e];rfl⟩
theorem qJo {fp:List Addr} {h:Heap} {p:Addr×Obj} (hp:p∈jVp fp h):p.1∈fp/\h.get? p.1=some p.2:=by
 obtain⟨b,hb,e⟩:=lQq.mp hp
 cases q:h.get? b with
 | none=>rw[q] at e;cases e
 | some o=>
  rw[q] at e
  have e':(b,o)=p:=lJn e
  subst e'
  exact⟨hb,q⟩
theorem Inv.pinned {pins:List (Addr×Obj)} {σ:St} {H:Hp} {s:Shared} {fp:List Addr} (I:Inv X pins σ H s) (hf:∀b∈fp,FpOk X pins H b) (ho:∀b∈fp,∃o,s.heap.get? b=some o/\∀v,o.data≠ .cell v):Inv X (pins++jVp fp s.heap) σ H s:=
 I.pins_of fun p hp=>(lJx.mp hp).elim (fun z=>I.pin p (lJ5 _ z)) fun z=>by
  obtain⟨hb,e⟩:=qJo z
  obtain⟨f0,f1,f2,_⟩:=hf p.1 hb
  obtain⟨o,e',d⟩:=ho p.1 hb
  rw[e] at e';cases e'
  exact⟨e,f0,f1,f2,d⟩
theorem Inv.unpinned {pins pl:List (Addr×Obj)} {σ:St} {H:Hp} {s:Shared} (I:Inv X (pins++pl) σ H s):Inv X pins σ H s:=I.pins_of fun p hp=>I.pin p (lJ5 _ (lKa _ hp))
end
abbrev R2:=V->V->Hp->VK->Prop
def OpR (X:Cx) (f:Value->Value->Sem Value) (r:R2):Prop:=
 ∀(pins:List (Addr×Obj)) (s:Shared) (σ:St) (H:Hp) (x y:V) (v u:Value) (Q:VK),Inv X pins σ H s->RelV x v->RelV y u->r x y H Q->
  wpAny (model X.prog X.w) X.A (f v u) (EP X pins σ Q) X.xe s
def UnR (X:Cx) (f:Value->Sem Value) (r:V->Hp->VK->Prop):Prop:=
 ∀(pins:List (Addr×Obj)) (s:Shared) (σ:St) (H:Hp) (x:V) (v:Value) (Q:VK),Inv X pins σ H s->RelV x v->r x H Q->
  wpAny (model X.prog X.w) X.A (f v) (EP X pins σ Q) X.xe s
def kY2 (X:Cx) (f:Value) (r:List V->Hp->VK->Prop):Prop:=
 ∀(pins:List (Addr×Obj)) (s:Shared) (σ:St) (H:Hp) (xs:List V) (us:List Value) (Q:VK),Inv X pins σ H s->Vals xs us->r xs H Q->
  wpAny (model X.prog X.w) X.A (call f us) (EP X pins σ Q) X.xe s
def TruR (X:Cx) (r:V->Hp->(Bool->Hp->Prop)->Prop):Prop:=
 ∀(pins:List (Addr×Obj)) (s:Shared) (σ:St) (H:Hp) (x:V) (v:Value) (Q:Bool->Hp->Prop),Inv X pins σ H s->RelV x v->r x H Q->
  wpAny (model X.prog X.w) X.A (truthy v) (TP X pins σ Q) X.xe s
def rI (C:Int->Int->Prop) (g:Int->Int->V):R2:=fun x y H Q=>∃i j,x= .int i/\y= .int j/\C i j/\Q (g i j) H
def rI0 (g:Int->Int->V):R2:=fun x y H Q=>∃i j,x= .int i/\y= .int j/\Q (g i j) H
def rU (g:Int->V):V->Hp->VK->Prop:=fun x H Q=>∃i,x= .int i/\Q (g i) H
section
variable {X:Cx} {a b c:Expr} {ta tb tc:TE} {pos:Pos}
theorem opI {f:Value->Value->Sem Value} {C:Int->Int->Prop} {g:Int->Int->Int}
  (rule:∀(i j:Int) (t u:Tok) (s:Shared) (Q:Value->Shared->Prop) (E:Value->Shared->Prop),C i j->Q (.int (g i j) s.toks) {s with toks:=s.toks+1}->wpAny (model X.prog X.w) X.A (f (.int i t) (.int j u)) Q E s):
  OpR X f (rI C fun i j=> .int (g i j)):=by
 intro pins s σ H x y v u Q I rx ry h
 obtain⟨i,j,rfl,rfl,hc,q⟩:=h
 obtain⟨t,rfl⟩:=rx
 obtain⟨t',rfl⟩:=ry
 exact rule i j t t' s _ _ hc ⟨.int (g i j),H,I.tok _,⟨_,rfl⟩,q⟩
theorem opI0 {f:Value->Value->Sem Value} {g:Int->Int->Int}
  (rule:∀(i j:Int) (t u:Tok) (s:Shared) (Q:Value->Shared->Prop) (E:Value->Shared->Prop),Q (.int (g i j) s.toks) {s with toks:=s.toks+1}->wpAny (model X.prog X.w) X.A (f (.int i t) (.int j u)) Q E s):
  OpR X f (rI0 fun i j=> .int (g i j)):=by
 intro pins s σ H x y v u Q I rx ry h
 obtain⟨i,j,rfl,rfl,q⟩:=h
 obtain⟨t,rfl⟩:=rx
 obtain⟨t',rfl⟩:=ry
 exact rule i j t t' s _ _ ⟨.int (g i j),H,I.tok _,⟨_,rfl⟩,q⟩
theorem opB0 {f:Value->Value->Sem Value} {g:Int->Int->Bool}
  (rule:∀(i j:Int) (t u:Tok) (s:Shared) (Q:Value->Shared->Prop) (E:Value->Shared->Prop),Q (.bool (g i j)) s->wpAny (model X.prog X.w) X.A (f (.int i t) (.int j u)) Q E s):
  OpR X f (rI0 fun i j=> .bl (g i j)):=by
 intro pins s σ H x y v u Q I rx ry h
 obtain⟨i,j,rfl,rfl,q⟩:=h
 obtain⟨t,rfl⟩:=rx
 obtain⟨t',rfl⟩:=ry
 exact rule i j t t' s _ _ ⟨.bl (g i j),H,I,rfl,q⟩
def CDiv (i j:Int):Prop:=0<j/\j<1073741824
def CPow (i j:Int):Prop:=0<=j/\j<=1000000/\i.natAbs<2^64
def CMul (i j:Int):Prop:=(-(2^64)<i/\i<2^64)\/(-(2^64)<j/\j<2^64)
theorem CMul.ok {i j:Int} (h:CMul i j):IntMulOk i j:=by
 rcases h with ⟨h1,h2⟩ | ⟨h1,h2⟩
 ·exact .of_left (intBits_le_64 h1 h2)
 ·exact .of_right (intBits_le_64 h1 h2)
theorem op_add:OpR X (binaryOp .Add) (rI0 fun i j=> .int (i+j)):=opI0 fun _ _ _ _ _ _ _ q=>add_int q
theorem op_sub:OpR X (binaryOp .Sub) (rI0 fun i j=> .int (i-j)):=opI0 fun _ _ _ _ _ _ _ q=>sub_int q
theorem op_mul:OpR X (binaryOp .Mult) (rI CMul fun i j=> .int (i*j)):=opI fun _ _ _ _ _ _ _ hc q=>mul_int q hc.ok
theorem qX5:OpR X (binaryOp .FloorDiv) (rI CDiv fun i j=> .int (i / j)):=opI fun i j _ _ _ _ _ hc q=>by
 have h1:(0:Int)<j:=hc.1
 have h2:j<1073741824:=hc.2
 exact floordiv_int (by omega) (by rw[Int.fdiv_eq_ediv_of_nonneg i (by omega)];exact q) (.inl (PyProof.noPylong_small (by omega)))
theorem op_mod:OpR X (binaryOp .Mod) (rI (fun _ j=>0<j) fun i j=> .int (i%j)):=opI fun i j _ _ _ _ _ hc q=>by
 have h1:(0:Int)<j:=hc
 exact mod_int' (by omega) (by rw[Int.fmod_eq_emod_of_nonneg i (by omega)];exact q)
theorem op_pow:OpR X (binaryOp .Pow) (rI CPow fun i j=> .int (i^j.toNat)):=opI fun _ _ _ _ _ _ _ hc q=>pow_int_small hc.1 hc.2.1 hc.2.2 q
theorem unI {f:Value->Sem Value} {g:Int->Int}
  (rule:∀(i:Int) (t:Tok) (s:Shared) (Q:Value->Shared->Prop) (E:Value->Shared->Prop),Q (.int (g i) s.toks) {s with toks:=s.toks+1}->wpAny (model X.prog X.w) X.A (f (.int i t)) Q E s):
  UnR X f (rU fun i=> .int (g i)):=by
 intro pins s σ H x v Q I rx h
 obtain⟨i,rfl,q⟩:=h
 obtain⟨t,rfl⟩:=rx
 exact rule i t s _ _ ⟨.int (g i),H,I.tok _,⟨_,rfl⟩,q⟩
theorem un_neg:UnR X (unaryOp .USub) (rU fun i=> .int (-i)):=unI fun _ _ _ _ _ q=>neg_int q
end
section
variable {X:Cx} {a b c:Expr} {ta tb tc:TE} {pos:Pos}
theorem qXb {pins:List (Addr×Obj)} {σ:St} {H:Hp} {s:Shared} {Q:VK} {k k':Bool} (I:Inv X pins σ H s) (q:Q (.bl k) H) (e:k=k'):EP X pins σ Q (.bool k') s:=by
 subst e
 exact⟨.bl k,H,I,rfl,q⟩
theorem op_lt:OpR X (compareOp .Lt) (rI0 fun i j=> .bl (decide (i<j))):=opB0 fun _ _ _ _ _ _ _ q=>lt_int q
theorem op_le:OpR X (compareOp .LtE) (rI0 fun i j=> .bl (decide (i<=j))):=opB0 fun _ _ _ _ _ _ _ q=>le_int q
theorem op_gt:OpR X (compareOp .Gt) (rI0 fun i j=> .bl (decide (j<i))):=opB0 fun _ _ _ _ _ _ _ q=>gt_int q
theorem op_ge:OpR X (compareOp .GtE) (rI0 fun i j=> .bl (decide (j<=i))):=opB0 fun _ _ _ _ _ _ _ q=>ge_int q
theorem op_isN:OpR X (compareOp .Is) (fun x y H Q=>y= .non/\Q (.bl (decide (x= .non))) H):=by
 intro pins s σ H x y v u Q I rx ry h
 obtain⟨rfl,q⟩:=h
 cases ry
 refine is_none_gen (qXb I q ?_)
 cases x<;>first
  | (cases rx;rfl)
  | (obtain⟨t,rfl⟩:=rx;rfl)
theorem qX4:OpR X (compareOp .IsNot) (fun x y H Q=>y= .non/\Q (.bl (!decide (x= .non))) H):=by
 intro pins s σ H x y v u Q I rx ry h
 obtain⟨rfl,q⟩:=h
 cases ry
 refine isnot_none_gen (qXb I q ?_)
 cases x<;>first
  | (cases rx;rfl)
  | (obtain⟨t,rfl⟩:=rx;rfl)
theorem nomark (b:Expr) {op:CmpOp} (h:op≠ .In:=by decide) (h2:op≠ .NotIn:=by decide):behindInMarks op b=false:=by
 have e1:(op == CmpOp.In)=false:=by cases op<;>first | rfl | exact absurd rfl h
 have e2:(op == CmpOp.NotIn)=false:=by cases op<;>first | rfl | exact absurd rfl h2
 cases b<;>simp[behindInMarks,e1,e2]
def TruV (K:PySem.W.Frag) (x:V) (H:Hp) (k:Bool):Prop:=
 match x with
 | .non=>k=false
 | .bl b=>k=b
 | .int i=>k=(i != 0)
 | .str y=>y.length<=sizeLine/\k=((y.length:Int) != 0)
 | .byt y=>y.size<=sizeLine/\k=((y.size:Int) != 0)
 | .ref p=>(∃xs,SqL K H p xs/\k= !xs.isEmpty)\/(∃xs,SqT K H p xs/\k= !xs.isEmpty)\/∃kvs,H p=some (.dK kvs)/\k= !kvs.isEmpty
 | _=>False
theorem kYr {κ:Type} {kvs:List (κ×V)} {vs:List (κ×Value)} (r:KV kvs vs):(!vs.isEmpty)= !kvs.isEmpty:=by
 cases r<;>rfl
theorem kJy {xs:List V} {its:List Value} (r:Vals xs its):(!its.toArray.isEmpty)= !xs.isEmpty:=by
 cases r<;>simp
theorem kJv:(sizeLine:Nat)<2^63:=by rw[lKs];decide
theorem tru_ok:TruR X (fun x H Q=>∃k,TruV X.K x H k/\Q k H):=by
 intro pins s σ H x v Q I rx h
 obtain⟨k,e,q⟩:=h
 have hl:=kJv
 have hs:sizeLine=16777216:=lKs
 cases x with
 | non=>
  cases rx
  have e':k=false:=e
  subst e'
  exact truthy_none ⟨H,I,q⟩
 | bl b=>
  cases rx
  have e':k=b:=e
  subst e'
  exact lV2 ⟨H,I,q⟩
 | int i=>
  obtain⟨t,rfl⟩:=rx
  have e':k=(i != 0):=e
  subst e'
  exact PySem.P.truthy_int ⟨H,I,q⟩
 | str y=>
  obtain⟨t,rfl⟩:=rx
  obtain⟨hy,e'⟩:y.length<=sizeLine/\k=((y.length:Int) != 0):=e
  subst e'
  exact PySem.P.truthy_str (by omega) ⟨H,I.tok _,q⟩
 | byt y=>
  obtain⟨t,rfl⟩:=rx
  obtain⟨hy,e'⟩:y.size<=sizeLine/\k=((y.size:Int) != 0):=e
  subst e'
  exact PySem.W.truthy_bytes (by omega) ⟨H,I.tok _,q⟩
 | ref p=>
  cases rx
  have e':(∃xs,SqL X.K H p xs/\k= !xs.isEmpty)\/(∃xs,SqT X.K H p xs/\k= !xs.isEmpty)\/∃kvs,H p=some (.dK kvs)/\k= !kvs.isEmpty:=e
  rcases e' with ⟨xs,hx,e'⟩ | ⟨xs,hx,e'⟩ | ⟨kvs,hx,e'⟩
  ·subst e'
   obtain⟨its,r,pl,hz⟩:=I.list hx
   have hlen:=r.length
   exact wpAny_truthy_list pl.isList (by simp only[lJy];omega) ⟨H,I.tok _,by rw[kJy r];exact q⟩
  ·subst e'
   obtain⟨its,r,pl,hz⟩:=I.tuple hx
   have hlen:=r.length
   exact truthy_tuple pl (by simp only[lJy];omega) ⟨H,I.tok _,by rw[kJy r];exact q⟩
  ·subst e'
   obtain⟨hz,hS,vs,r,m⟩:kvs.length<=sizeLine/\(p == sysModules)=false/\∃vs,KV kvs vs/\s.heap.DictOf (jKl X.prog X.w) p vs:=I.hok p _ hx
   have hlen:kvs.length=vs.length:=lV6 r
   exact wpAny_truthy_dict hS m (by omega) ⟨H,I.tok _,by rw[kYr r];exact q⟩
 | _=>exact (show False from e).elim
theorem qQf {x:V} {us:List Value} (r:Vals [x] us):∃u,us=[u]/\RelV x u:=by
 cases r with
 | cons r1 r2=>cases r2;exact⟨_,rfl,r1⟩
theorem vals2 {x y:V} {us:List Value} (r:Vals [x,y] us):∃u w',us=[u,w']/\RelV x u/\RelV y w':=by
 cases r with
 | cons r1 r2=>
  cases r2 with
  | cons r3 r4=>cases r4;exact⟨_,_,rfl,r1,r3⟩
theorem qVl:kY2 X (.builtin "abs") (fun xs H Q=>∃i,xs=[.int i]/\Q (.int (if i<0 then -i else i)) H):=by
 intro pins s σ H xs us Q I r h
 obtain⟨i,rfl,q⟩:=h
 obtain⟨u,rfl,t,rfl⟩:=qQf r
 exact call_abs_int fun u tk=>⟨.int (if i<0 then -i else i),H,I.tok _,⟨_,rfl⟩,q⟩
theorem qKy (hc:X.calm=true):kY2 X (.builtin "max") (fun xs H Q=>∃i j,xs=[.int i,.int j]/\Q (.int (if j>i then j else i)) H):=by
 intro pins s σ H xs us Q I r h
 obtain⟨i,j,rfl,q⟩:=h
 obtain⟨u,w',rfl,⟨t,rfl⟩,⟨t',rfl⟩⟩:=vals2 r
 refine max_two_ints (I.ok.hd hc) fun h' tk k=>⟨_,H,I.kept k,?_,q⟩
 by_cases hj:j>i
 ·rw[lJc hj,lJc hj];exact⟨_,rfl⟩
 ·rw[lJa hj,lJa hj];exact⟨_,rfl⟩
end
section
variable {prog:Program} {w:World} {A:Around} {E:Value->Shared->Prop} {s:Shared} {K:PySem.W.Frag} {x dx C f:Addr} {mA:Str->Option Value} {name:Str} {v:Value}
end
theorem RelO.some_of {v:V} {o:Option Value} (r:RelO (some v) o):∃u,o=some u/\RelV v u:=by
 cases o with
 | none=>exact (show False from r).elim
 | some u=>exact⟨u,rfl,r⟩
section
variable {P:Program} {w:World} {H H':Hp} {h h':Heap} {a C dx:Addr} {fs fs':List (Str×V)}
end
section
variable {X:Cx} {pins:List (Addr×Obj)} {σ:St} {H:Hp} {s:Shared} {a C dx:Addr} {fs:List (Str×V)} {f:Str} {v:V} {A:Around} {E:Value->Shared->Prop}
end
section
variable {X:Cx} {o e value:Expr} {f:Str} {pos pos' tpos:Pos} {ta tv:TE}
end
section
variable {X:Cx} {pins:List (Addr×Obj)} {σ:St} {H:Hp} {s:Shared} {A:Around} {E:Value->Shared->Prop} {Q:Value->Shared->Prop} {c:Value} {b:Bool}
end
structure Room (k:Nat) (A:Around):Prop where
 hd:A.handled=none
 gd:A.guards=some []
 dp:A.depth+3*k+5<recursionLimit
 un:A.units+16*k+200<cLine
theorem Room.mono {j k:Nat} {A:Around} (r:Room k A) (h:j<=k):Room j A:=⟨r.hd,r.gd,by have:=r.dp;omega,by have:=r.un;omega⟩
theorem Room.deeper {k:Nat} {A:Around} (r:Room (k+1) A) (env:Env):Room k (A.deeper env):=
 ⟨r.hd,r.gd,by have:=r.dp;show A.depth+1+3*k+5<_;omega,by have:=r.un;show A.units+3+16*k+200<_;omega⟩
theorem Room.depth {k:Nat} {A:Around} (r:Room k A):A.depth<recursionLimit:=by have:=r.dp;omega
theorem Room.units {k:Nat} {A:Around} (r:Room k A):A.units+64<cLine:=by have:=r.un;omega
section
variable {X:Cx} {e:Expr} {es:List Expr} {te:TE} {t:TA} {pos:Pos}
end
abbrev Sp:=List V->Hp->VK->XK->Prop
abbrev CXT:=List Env->Hp->Shared->XK->Value->Shared->Prop
structure Env0 (P:Program) (w:World) (K:PySem.W.Frag) (mg:Str->Option Value) (base:Heap) (A:Around) (outer:List Env) (s:Shared) (H:Hp):Prop where
 frames:A.frames=some outer
 mod:Mod K mg base
 bs:∀b o,base.get? b=some o->s.heap.get? b=some o/\H b=none
 bsz:base.objs.size<=s.heap.objs.size
 funs:s.heap.FunFrames base outer
 frf:∀b∈frs outer,H b=none
 hok:HOk P w H s.heap
 bare:AllBare s.gens
def CE (outer:List Env) (P:Program) (w:World) (H:Hp) (s:Shared) (Q:VK) (u:Value) (s':Shared):Prop:=
 ∃v H',s'.os=s.os/\AllBare s'.gens/\Un (frs outer) [] H H' s.heap s'.heap/\HOk P w H' s'.heap/\RelV v u/\Q v H'
def CR (CX:CXT) (outer:List Env) (P:Program) (w:World) (H:Hp) (s:Shared) (Q:VK) (E:XK) (r:Result) (s':Shared):Prop:=
 match r with
 | .ok (.ret u)=>CE outer P w H s Q u s'
 | .ok _=>False
 | .error e=>CX outer H s E e s'
structure FnOk (P:Program) (w:World) (K:PySem.W.Frag) (mg:Str->Option Value) (base:Heap) (CX:CXT) (k:Nat) (f:Addr) (fd:FuncData) (ps:List Str) (sp:Sp):Prop where
 len:∀vs H Q E,sp vs H Q E->vs.length=ps.length
 run:∀(A:Around) (outer:List Env) (s:Shared) (H:Hp) (args:Args) (us:List Value) (vs:List V) (Q:VK) (E:XK),Room k A->Env0 P w K mg base A outer s H->BindsTo s fd args (ps.zip us)->Vals vs us->sp vs H Q E->
  codeAny (model P w) A (.call (.ref f) args) (CR CX outer P w H s Q E) s
section
variable {X:Cx} {pins:List (Addr×Obj)} {σ:St} {H:Hp} {s s':Shared}
theorem Inv.env0 (I:Inv X pins σ H s):Env0 X.prog X.w X.K X.mg X.base X.A X.stack s H:=
 ⟨I.ok.frames,I.ok.mod,I.bs,lKf I.ok.bsz I.sz,I.stack,I.stkFree,I.hok,I.bare⟩
theorem Inv.after {Q:VK} {u:Value} (I:Inv X pins σ H s) (h:CE X.stack X.prog X.w H s Q u s'):EP X pins σ Q u s':=by
 obtain⟨v,H',os,bare,un,hok,r,q⟩:=h
 obtain⟨hh,g,d,t,os'⟩:=s'
 obtain rfl:os'=s.os:=os
 exact⟨v,H',I.call (h':=hh) (g':=g) (d':=d) (t':=t) (ch:=[]) un hok bare (fun b z=>absurd z (by simp)),r,q⟩
end
def Binds (K:PySem.W.Frag) (fd:FuncData) (ps:List Str) (ds:List Value):Prop:=
 ∀(s:Shared) (us:List Value),K.In s.heap->(us++ds).length=ps.length->BindsTo s fd ⟨us,[]⟩ (ps.zip (us++ds))
theorem Binds.all {K:PySem.W.Frag} {fd:FuncData} {ps:List Str} (h:∀us:List Value,us.length=ps.length->bindArgs fd ⟨us,[]⟩=pure (ps.zip us)):Binds K fd ps []:=fun s us _ hl=>by
 rw[lQ0] at hl ⊢
 exact .of_eq (h us hl)
def qXi (CX:CXT) (X:Cx) (E:XK):Prop:=∀(pins:List (Addr×Obj)) (σ:St) (H:Hp) (s:Shared) (e:Value) (s':Shared),Inv X pins σ H s->CX X.stack H s E e s'->X.xe e s'
section
variable {X:Cx} {CX:CXT} {k:Nat} {f C:Addr} {fd:FuncData} {ps:List Str} {sp:Sp} {dvs:List V} {ds:List Value} {E:XK} {x m:Str} {p pos apos:Pos} {e o:Expr} {es:List Expr} {ta:TE} {t:TA}
theorem run_fn {pins:List (Addr×Obj)} {σ:St} {H:Hp} {s:Shared} {Q:VK} {us:List Value} {vs:List V} (F:FnOk X.prog X.w X.K X.mg X.base CX k f fd ps sp) (hr:Room k X.A) (hb:Binds X.K fd ps ds) (hd:Vals dvs ds) (hx:qXi CX X E)
  (I:Inv X pins σ H s) (r:Vals vs us) (h:sp (vs++dvs) H Q E):wpAny (model X.prog X.w) X.A (call (.ref f) us) (EP X pins σ Q) X.xe s:=by
 have r2:Vals (vs++dvs) (us++ds):=r.append hd
 have hl:(us++ds).length=ps.length:=by rw[<-r2.length];exact F.len _ _ _ _ h
 refine wpAny_call (lXn (F.run X.A X.stack s H ⟨us,[]⟩ (us++ds) (vs++dvs) Q E hr I.env0 (hb s us I.kIn hl) r2 h) fun r s' hq=> ?_)
 cases r with
 | error e=>exact hx pins σ H s e s' I hq
 | ok fl=>
  cases fl with
  | ret u=>exact I.after hq
  | next=>exact False.elim hq
  | brk=>exact False.elim hq
  | cont=>exact False.elim hq
end
section
variable {X:Cx} {CX:CXT} {k:Nat} {f C:Addr} {fd:FuncData} {ps ks:List Str} {sp:Sp} {E:XK} {x m:Str} {p pos apos kpos:Pos} {e o:Expr} {es:List Expr} {kws:List Keyword} {te ta:TE} {t tk:TA} {nm:Option Str}
variable {g:List Value->List Value->List Value} {gV:List V->List V->List V}
end
structure FnScope (N P:List Str) (sc:Scope):Prop where
 kind:sc.kind= .function
 co:sc.isCoroutine=false
 gen:sc.isGenerator=false
 nd:N.Nodup
 pre:N.take P.length=P
 par:∀x∈P,sc.names.lookup x=some .local\/sc.names.lookup x=some .cell
 nofree:∀y∈sc.names,y.2≠ .free
theorem kUe {kindOf:Str->Option NameKind} {x:Str}:∀ {binds:List (Str×Value)} {m:Str->Option Value},(∀v,(x,v)∉binds)->bindL kindOf binds m x=m x
 | [],_,_=>rfl
 | (n,v)::r,m,h=>by
  unfold bindL
  rw[kUe fun w hw=>h w (lJ4 _ hw)]
  split
  ·have:x≠n:=by rintro rfl;exact h v lJz
   simp[this]
  ·rfl
theorem kUg {kindOf:Str->Option NameKind} {x:Str}:∀ {binds:List (Str×Value)} {m:Str->Option Value},(∀v,(x,v)∉binds)->bindC kindOf binds m x=m x
 | [],_,_=>rfl
 | (n,v)::r,m,h=>by
  unfold bindC
  rw[kUg fun w hw=>h w (lJ4 _ hw)]
  split
  ·rfl
  ·have:x≠n:=by rintro rfl;exact h v lJz
   simp[this]
theorem kUf {kindOf:Str->Option NameKind} {x:Str} {v:Value}:∀ {P:List Str} {vs:List Value} {i:Nat} {m:Str->Option Value},P.Nodup->P[i]? =some x->vs[i]? =some v->kindOf x=some .local->
  bindL kindOf (P.zip vs) m x=some v
 | [],_,_,_,_,h,_,_=>by simp at h
 | _::_,[],_,_,_,_,h,_=>by simp at h
 | p::P,w::vs,0,m,nd,h1,h2,hk=>by
  simp at h1 h2;subst h1;subst h2
  show bindL kindOf ((p,w)::P.zip vs) m p=_
  unfold bindL
  rw[kUe fun v hv=>(lK0.mp nd).1 (List.of_mem_zip hv).1,lJc hk]
  simp
 | p::P,w::vs,i+1,m,nd,h1,h2,hk=>by
  show bindL kindOf ((p,w)::P.zip vs) m x=_
  unfold bindL
  exact kUf (i:=i) (lK0.mp nd).2 (by simpa using h1) (by simpa using h2) hk
theorem kUh {kindOf:Str->Option NameKind} {x:Str} {v:Value}:∀ {P:List Str} {vs:List Value} {i:Nat} {m:Str->Option Value},P.Nodup->P[i]? =some x->vs[i]? =some v->kindOf x≠some .local->
  bindC kindOf (P.zip vs) m x=some v
 | [],_,_,_,_,h,_,_=>by simp at h
 | _::_,[],_,_,_,_,h,_=>by simp at h
 | p::P,w::vs,0,m,nd,h1,h2,hk=>by
  simp at h1 h2;subst h1;subst h2
  show bindC kindOf ((p,w)::P.zip vs) m p=_
  unfold bindC
  rw[kUg fun v hv=>(lK0.mp nd).1 (List.of_mem_zip hv).1,lJa hk]
  simp
 | p::P,w::vs,i+1,m,nd,h1,h2,hk=>by
  show bindC kindOf ((p,w)::P.zip vs) m x=_
  unfold bindC
  exact kUh (i:=i) (lK0.mp nd).2 (by simpa using h1) (by simpa using h2) hk
def start (N:List Str) (vs:List V):St:=vs.map some++List.replicate (N.length-vs.length) none
noncomputable def cxOf (CX:CXT) (P:Program) (w:World) (K:PySem.W.Frag) (mg:Str->Option Value) (base:Heap) (N:List Str) (qual:Str) (scope:Scope) (f:Addr) (cd:Value) (A:Around) (outer:List Env) (s:Shared) (H:Hp) (E:XK):Cx where
 prog:=P
 w:=w
 K:=K
 mg:=mg
 base:=base
 A:=A.deeper (envOfC qual scope s.heap.objs.size f cd)
 N:=N
 s₀:=s
 H₀:=H
 env:=envOfC qual scope s.heap.objs.size f cd
 outer:=outer
 stack:=envOfC qual scope s.heap.objs.size f cd::outer
 ex:=[]
 calm:=true
 fn:=fun _=>true
 pn:=[]
 xe:=fun e s'=>wpAny (model P w) (A.deeper (envOfC qual scope s.heap.objs.size f cd)) (leaving (envOfC qual scope s.heap.objs.size f cd) e) (fun _ s''=>CX outer H s E e s'') (fun e' s''=>CX outer H s E e' s'') s'
theorem kX1 {sc:Scope} {n:Nat} {x:Str} (h:sc.names.lookup x=some .cell):∃c,(cellsFrom n sc.names []).lookup x=some c:=by
 have q:=PySem.W.cellsFrom_some sc.names n [] (.inl h)
 exact lXt.mp q
theorem qJ4 {CX:CXT} {P:Program} {w:World} {K:PySem.W.Frag} {mg:Str->Option Value} {base:Heap} {N ps:List Str} {qual:Str} {scope:Scope} {f:Addr} {cd:Value} {A:Around} {outer:List Env} {s s1:Shared} {H:Hp} {E:XK} {us:List Value} {vs:List V}
  (S:FnScope N ps scope) (hd:A.handled=none/\A.guards=some []) (e0:Env0 P w K mg base A outer s H) (hl:vs.length=ps.length) (r:Vals vs us)
  (x:InCallC s s.heap.objs.size (bindL (envOfC qual scope s.heap.objs.size f cd).kindOf (ps.zip us) fun _=>none) (cellsFrom (s.heap.objs.size+1) scope.names []) (bindC (envOfC qual scope s.heap.objs.size f cd).kindOf (ps.zip us) fun _=>none) s1):
  Inv (cxOf CX P w K mg base N qual scope f cd A outer s H E) [] (start N vs) H s1:=by
 have hpl:ps.length<=N.length:=by have:=lKg List.length S.pre;rw[lQc] at this;omega
 obtain⟨h1,tk,rfl,hk⟩:=x.done
 have noA:∀b:Addr,b∉(cxOf CX P w K mg base N qual scope f cd A outer s H E).ex:=fun b z=>absurd (show b∈([]:List Addr) from z) (by simp)
 refine⟨⟨e0.mod,S.kind,rfl,rfl,lJh _,fun y z c h1 h2=> ?_,fun y hy=> ?_,fun y c _ h=> ?_,fun _=>hd.1,fun _=>hd.2,Around.frames_deeper e0.frames,.inr ⟨rfl,rfl⟩,fun b z=>absurd z (noA b),e0.bs,e0.bsz,fun b _ _=>noA b,fun b z=>absurd z (noA b),e0.funs,e0.frf⟩,
  rfl,e0.bare,Un.kept hk,⟨_,x.toInCall.ns,fun i y v h1 h2 h3=> ?_⟩,fun y c h=>⟨_,x.cell y c h⟩,e0.hok.fresh (lJh _),fun y c h=> ?_,fun p hp=>absurd (show p∈([]:List (Addr×Obj)) from hp) (by simp),e0.hok.kept hk,?_⟩
 ·exact name_of_addr x.apart (lV8 h1) (lV8 h2)
 ·have hy:scope.names.lookup y=some .cell\/scope.names.lookup y=some .free:=hy
  rcases hy with hy | hy
  ·exact kX1 hy
  ·exact absurd rfl (S.nofree _ (lV8 hy))
 ·exact lVp (x.above y c (lV8 h))
 ·have hi:i<vs.length:=by
   unfold start at h2
   by_cases hi:i<vs.length
   ·exact hi
   ·rw[lK7 (by simpa using hi)] at h2
    rw[List.getElem?_replicate] at h2
    split at h2<;>cases h2
  have ha:vs[i]? =some v:=by
   unfold start at h2
   rw[lK1 (by simpa using hi),lKr] at h2
   cases e:vs[i]? with
   | none=>rw[e] at h2;cases h2
   | some a=>rw[e] at h2;cases h2;rfl
  obtain⟨u,hu,rv⟩:=r.get ha
  have hp:ps[i]? =some y:=by
   rw[<-S.pre,List.getElem?_take_of_lt (by omega)];exact h1
  have ndP:ps.Nodup:=by rw[<-S.pre];exact S.nd.sublist (lQ1 _ _)
  refine⟨u,rv,?_⟩
  rcases S.par y (lJo hp) with k | k
  ·exact .inl ⟨k,kUf ndP hp hu k⟩
  ·obtain⟨c,e⟩:=kX1 (n:=s.heap.objs.size+1) k
   refine .inr ⟨.inl k,c,e,?_⟩
   have q:=x.cell y c e
   rw[kUh ndP hp hu (by show scope.names.lookup y≠_;rw[k];decide)] at q
   exact q
 ·exact e0.hok.fresh (lVp (x.above y c (lV8 h)))
 ·unfold start
  show _=N.length
  rw[lKb,lJg,List.length_replicate]
  omega
theorem fn_of {CX:CXT} {P:Program} {w:World} {K:PySem.W.Frag} {mg:Str->Option Value} {base:Heap} {k:Nat} {f:Addr} {name qual:Str} {params:Arguments} {body:List Stmt} {scope:Scope} {dV kV doc pm cdv ct oc:Value} {an od:Option Addr}
  {osl:Array (Option Value)} {N ps:List Str} {sp:Sp} (lk:K.lookup f=some ⟨oc,od,.func (PySem.W.fnOf name qual params body scope dV kV doc pm an cdv ct),osl⟩) (hcd:PySem.W.codeIn K cdv qual=true) (S:FnScope N ps scope)
  (len:∀vs H Q E,sp vs H Q E->vs.length=ps.length)
  (hbody:∀(A:Around) (outer:List Env) (s:Shared) (H:Hp) (vs:List V) (Q:VK) (E:XK),Room k (A.deeper (envOfC qual scope s.heap.objs.size f cdv))->sp vs H Q E->
   ∃t,PSs (cxOf CX P w K mg base N qual scope f cdv A outer s H E) body t/\t {nx:=fun _ H'=>Q .non H',rt:=Q} (start N vs) H):
  FnOk P w K mg base CX (k+1) f (PySem.W.fnOf name qual params body scope dV kV doc pm an cdv ct) ps sp:=by
 refine⟨len,fun A outer s H args us vs Q E hr e0 hb r hsp=> ?_⟩
 have hl:=len _ _ _ _ hsp
 have KX:K.In s.heap:=e0.mod.kin.keeps fun b o e=>(e0.bs b o e).1
 have lim:s.heap.NoLimit:=e0.mod.nolimit.keeps fun b o e=>(e0.bs b o e).1
 have hkind:∀y∈ps.zip us,scope.names.lookup y.1=some .local\/(scope.names.lookup y.1=some .cell/\((cellsFrom (s.heap.objs.size+1) scope.names []).lookup y.1).isSome=true):=fun ⟨n,v⟩ hy=>by
  rcases S.par n (List.of_mem_zip hy).1 with q | q
  ·exact .inl q
  ·exact .inr ⟨q,PySem.W.cellsFrom_some _ _ _ (.inl q)⟩
 refine codeAny_call_function hr.depth (KX _ _ lk) rfl S.co S.gen rfl (PySem.W.codeRec_of KX hcd) (hb _ _ _ _ ?_)
 refine wpAny_newFunctionEnv_cells S.kind hkind fun env he s1 x=> ?_
 subst he
 refine⟨lim.keeps x.toInCall.keep,codeAny_func ?_⟩
 obtain⟨t,ht,hq⟩:=hbody A outer s H vs Q E (hr.deeper _) hsp
 have I:Inv (cxOf CX P w K mg base N qual scope f cdv A outer s H E) [] (start N vs) H s1:=qJ4 S ⟨hr.hd,hr.gd⟩ e0 hl r x
 refine lKz (ht [] s1 (start N vs) H _ I hq) (fun fl s' hs=> ?_) fun e s' hs=>hs
 have fin:∀ {σ':St} {H':Hp} {v:V} {u:Value},Inv (cxOf CX P w K mg base N qual scope f cdv A outer s H E) [] σ' H' s'->RelV v u->Q v H'->CE outer P w H s Q u s':=
  fun {σ' H' v u} J rv q=>⟨v,H',J.os,J.bare,J.base,J.hok,rv,q⟩
 cases fl with
 | ret u=>
  obtain⟨v,σ',H',J,rv,q⟩:=hs
  exact fin J rv q
 | next=>
  obtain⟨σ',H',J,q⟩:=hs
  exact fin (v:=V.non) (u:=Value.none) J rfl q
 | brk=>
  obtain⟨_,_,_,q⟩:=hs
  exact False.elim q
 | cont=>
  obtain⟨_,_,_,q⟩:=hs
  exact False.elim q
section
variable {X:Cx} {x:Str} {p pos:Pos} {e:Expr} {es:List Expr} {t:TA} {id T:String} {r:List V->Hp->VK->Prop}
end
end L2
namespace HT
open PySem PyProof.Rows
theorem qVd (A:Around) (s:Shared) (a:Int) (t:Tok) (c:Int) (u:Tok):∃e,SeqAt.EqAt A s (.int a t) (.int c u) e/\(e=true↔a=c):=
 ⟨(a == c),SeqAt.EqAt.int_int a t c u,by simp⟩
section
open PySem.SeqAt
open PySem.AutoSeq1 (wpAny_loadPart')
open PySem.MeetsSeq PySem.MeetsSeq2 PySem.MeetsSeq3
end
section
variable {prog:Program} {w:World} {A:Around} {E:Value->Shared->Prop} {s:Shared}
theorem cat_tup {t b:Addr} {vs ws:List Value} {Q:Value->Shared->Prop} (ht:IsTup s.heap t vs.toArray) (hb:IsTup s.heap b ws.toArray) (hv:vs≠[])
  (h1:ws=[]->Q (.ref t) s) (h2:ws≠[]->Q (.ref s.heap.objs.size) {s with heap:=s.heap.push {cls:= .type "tuple",data:= .seq (vs++ws).toArray} })
  (hsz:vs.length+ws.length<=sizeLine):wpAny (model prog w) A (binaryOp .Add (.ref t) (.ref b)) Q E s:=by
 obtain⟨⟨cls,dd,data,sl⟩,ho,hc,n,hd⟩:=id ht
 obtain⟨⟨cls2,dd2,data2,sl2⟩,ho2,hc2,n2,hd2⟩:=id hb
 simp only at hc hd hc2 hd2
 subst hc hd hc2 hd2
 have e:vs.toArray++ws.toArray=(vs++ws).toArray:=by simp
 by_cases hw:ws=[]
 ·exact concat_meets ⟨_,ho,rfl⟩ ⟨_,ho2,rfl⟩ noFill_tuple_add seq_tuple_add PySem.F.slot_tuple_add PySem.F.entry_tuple_add (lYs _ _)
   (tuple_addW1 t b vs.toArray ws.toArray n n2 dd dd2 sl sl2 (by simpa using hv) (by simp[hw])) ⟨ho,ho2,h1 hw⟩
 ·refine concat_meets ⟨_,ho,rfl⟩ ⟨_,ho2,rfl⟩ noFill_tuple_add seq_tuple_add PySem.F.slot_tuple_add PySem.F.entry_tuple_add (lYs _ _)
   (tuple_addW2 t b vs.toArray ws.toArray n n2 dd dd2 sl sl2 (by simpa using hv) (by simpa using hw) (by rw[lJy,lJy];exact hsz)) ⟨ho,ho2,?_⟩
  rw[e]
  exact h2 hw
def sIx (n d:Nat):Option Int->Nat
 | none=>d
 | some v=>if v<0 then (v+(n:Int)).toNat else min v.toNat n
theorem sIx_none (n d:Nat):sIx n d none=d:=rfl
theorem sIx_nat (n d k:Nat):sIx n d (some (k:Int))=min k n:=by
 show (if (k:Int)<0 then ((k:Int)+(n:Int)).toNat else min (k:Int).toNat n)=min k n
 rw[lJa (by omega),lXu]
theorem sIx_le (n d:Nat) (hd:d<=n) (o:Option Int):sIx n d o<=n:=by
 cases o with
 | none=>exact hd
 | some v=>
  show (if v<0 then (v+(n:Int)).toNat else min v.toNat n)<=n
  by_cases hv:v<0
  ·rw[lJc hv];omega
  ·rw[lJa hv];exact Nat.min_le_right _ _
theorem qKx (v:Int) (n d:Nat):(if v<0 then max (v+(n:Int)) 0 else min v (n:Int))=((sIx n d (some v):Nat):Int):=by
 show (if v<0 then max (v+(n:Int)) 0 else min v (n:Int))=(((if v<0 then (v+(n:Int)).toNat else min v.toNat n):Nat):Int)
 by_cases hv:v<0
 ·simp only[lJc hv];omega
 ·simp only[lJa hv];omega
theorem kYv (lo hi:Option Int) (n:Nat):Builtin.Slice.sliceAdjust lo hi 1 (n:Int)=(((sIx n 0 lo:Nat):Int),((sIx n n hi:Nat):Int)):=by
 have h1:¬ ((1:Int)<0):=by omega
 unfold Builtin.Slice.sliceAdjust
 simp only[h1,lKd]
 refine Prod.ext ?_ ?_
 ·cases lo with
  | none=>rfl
  | some v=>exact qKx v n 0
 ·cases hi with
  | none=>rfl
  | some v=>exact qKx v n n
theorem kYg (i j:Nat):Builtin.Slice.slicePlaces (i:Int) (j:Int) 1=j-i:=by
 unfold Builtin.Slice.slicePlaces
 have h1:(1:Int)>0:=by omega
 simp only[h1,lKp,Int.ediv_one]
 split<;>omega
theorem kJo {v:Value} {o:Option Int} {Q:Option Int->Shared->Prop} (p:IsPart v o) (h:Q o s):wpAny (model prog w) A (Builtin.Slice.slicePartIndex v) Q E s:=by
 cases p with
 | none=>exact slicePart_none h
 | int i t=>exact slicePart_int h
theorem jUs {sl:Addr} {vl vu:Value} {lo hi:Option Int} {n:Nat} {Q:Int×Int×Nat->Shared->Prop} (hs:s.heap.IsSliceOf sl vl vu .none) (pl:IsPart vl lo) (pu:IsPart vu hi)
  (h:Q (((sIx n 0 lo:Nat):Int),1,sIx n n hi-sIx n 0 lo) s):wpAny (model prog w) A (Builtin.Slice.sliceApplied (.ref sl) (pure (n:Int))) Q E s:=by
 obtain⟨os,hos,hcs,hds⟩:=id hs
 unfold Builtin.Slice.sliceApplied Builtin.Slice.sliceFields
 refine lJb (lJb (lQz hos hds (x:=vl) rfl (lJb (lQz hos hds (x:=vu) rfl (lJb (lQz hos hds (x:= .none) rfl (lJd ?_)))))))
 refine lJb (slicePart_none ?_)
 show wpAny _ _ (if ((1:Int) == 0)=true then _ else _) _ _ s
 rw[lJa (by decide)]
 refine lJb (kJo pl (lJb (kJo pu (lJb (lJd ?_)))))
 show wpAny _ _ (match Builtin.Slice.sliceAdjust lo hi 1 (n:Int) with | (lo,hi)=>pure (lo,(1:Int),Builtin.Slice.slicePlaces lo hi 1)) _ _ s
 rw[kYv lo hi n]
 show wpAny _ _ (pure (((sIx n 0 lo:Nat):Int),(1:Int),Builtin.Slice.slicePlaces ((sIx n 0 lo:Nat):Int) ((sIx n n hi:Nat):Int) 1)) _ _ s
 rw[kYg]
 exact lJd h
theorem qQ4 (xs:Array Value) (i k:Nat):((List.range k).filterMap fun (m:Nat)=>xs[((i:Int)+(m:Int)*1).toNat]?).toArray=((xs.toList.drop i).take k).toArray:=by
 have e:(fun (m:Nat)=>xs[((i:Int)+(m:Int)*1).toNat]?)=fun m=>xs[i+m]? :=by
  funext m
  have:((i:Int)+(m:Int)*1).toNat=i+m:=by omega
  rw[this]
 rw[e]
 have:=pick_run xs i k
 rw[List.filterMap_map] at this
 have e2:((fun x=>xs[x]?)∘fun x=>i+x)=fun m=>xs[i+m]? :=rfl
 rw[e2] at this
 rw[this]
theorem getItem_tuple_cut {t sl:Addr} {items:Array Value} {vl vu:Value} {lo hi:Option Int} {Q:Value->Shared->Prop} (ht:IsTup s.heap t items) (hs:s.heap.IsSliceOf sl vl vu .none) (pl:IsPart vl lo) (pu:IsPart vu hi)
  (hw:¬ (sIx items.size 0 lo=0/\sIx items.size items.size hi=items.size))
  (h:Q (.ref s.heap.objs.size) {s with heap:=s.heap.push {cls:= .type "tuple",data:= .seq ((items.toList.drop (sIx items.size 0 lo)).take (sIx items.size items.size hi-sIx items.size 0 lo)).toArray} })
  (hsz:items.size<=sizeLine):wpAny (model prog w) A (getItem (.ref t) (.ref sl)) Q E s:=by
 have htake:sizeOk (.seq ((items.toList.drop (sIx items.size 0 lo)).take (sIx items.size items.size hi-sIx items.size 0 lo)).toArray):=by
  show ((items.toList.drop (sIx items.size 0 lo)).take (sIx items.size items.size hi-sIx items.size 0 lo)).toArray.size<=sizeLine
  rw[lJy,lQc,lVq,lKj]
  omega
 have hj:sIx items.size items.size hi<=items.size:=sIx_le _ _ (lJh _) hi
 obtain⟨os,hos,hcs,hds⟩:=id hs
 have hTs:s.TypeIs (.ref sl) "slice":=⟨os,hos,hcs⟩
 unfold getItem
 try with_reducible refine lK4 ?_
 first | refine lJb (lJd ?_) | skip
 refine lJb (wpAny_sequenceKey ht.typeIs (by decide) ?_)
 refine lJb (lVn (name:=Str.ofString "__getitem__") ht.typeIs lV9
  (lQm lV9 ht.typeIs entry_tuple_getitem ?_ (args_tuple_getitem _ _)))
 show wpAny _ _ (Builtin.Tuple.tupleItemsOf (.ref t) >>= _) _ _ s
 refine lJb (tupleItemsOf_ ht ?_)
 refine lJb (lXo hTs ?_)
 rw[lJc (by decide)]
 refine lJb (jUs hs pl pu ?_)
 have hno:¬ ((((sIx items.size 0 lo:Nat):Int) == 0&&(1:Int) == 1&&(sIx items.size items.size hi-sIx items.size 0 lo) == items.size)=true):=by
  intro q
  rw[lKt,lKt] at q
  have q1:((sIx items.size 0 lo:Nat):Int)=0:=eq_of_beq q.1.1
  have q2:sIx items.size items.size hi-sIx items.size 0 lo=items.size:=eq_of_beq q.2
  exact hw ⟨by omega,by omega⟩
 show wpAny _ _ (if (((sIx items.size 0 lo:Nat):Int) == 0&&(1:Int) == 1&&(sIx items.size items.size hi-sIx items.size 0 lo) == items.size)=true then _ else _) _ _ s
 rw[lJa hno,qQ4]
 first
  | exact lJb (m:=Builtin.Tuple.tupleExact _) (lK8 (lJd ⟨_,rfl,lJd h⟩) htake)
  | exact lJb (m:=Builtin.Tuple.tupleExact _) (lK8 (lJb (lJd (lJd ⟨_,rfl,lJd h⟩))) htake)
  | exact lJb (lJb (m:=Builtin.Tuple.tupleExact _) (lK8 (lJd (lJd ⟨_,rfl,lJd h⟩)) htake))
  | exact lJb (lJb (m:=Builtin.Tuple.tupleExact _) (lK8 (lJd ⟨_,rfl,lJd h⟩) htake))
end
end HT
namespace L2
open PySem PySem.Spec PyProof.Rows
abbrev TO:=St->Hp->(Option Int->Hp->Prop)->Prop
theorem kJz {ns:List Int}:∀ {us:List Value},Vals (ns.map V.int) us->IntsAre us ns:=by
 induction ns with
 | nil=>intro us r;rw[List.map_nil] at r;cases r;exact .nil
 | cons n ns ih=>
  intro us r
  rw[lJp] at r
  cases r with
  | cons r1 r2=>
   obtain⟨t,e⟩:=r1
   subst e
   exact .cons n t (ih r2)
section
variable {X:Cx} {e:Expr} {te:TE} {lo hi:Option Expr} {tl th:TO} {pos p2:Pos}
def SlR (X:Cx) (r:V->Option Int->Option Int->Hp->VK->Prop):Prop:=
 ∀(pins:List (Addr×Obj)) (s:Shared) (σ:St) (H:Hp) (x:V) (v vl vu:Value) (lo hi:Option Int) (sl:Addr) (Q:VK),Inv X pins σ H s->RelV x v->s.heap.IsSliceOf sl vl vu .none->IsPart vl lo->IsPart vu hi->r x lo hi H Q->
  ∃T id,typeLookup (.type T) "__getitem__"=pure (some (.builtin id))/\s.TypeIs v T/\wpAny (model X.prog X.w) X.A (getItem v (.ref sl)) (EP X pins σ Q) X.xe s
def cutV (xs:List V) (lo hi:Option Int):List V:=(xs.drop (HT.sIx xs.length 0 lo)).take (HT.sIx xs.length xs.length hi-HT.sIx xs.length 0 lo)
theorem jZ5 (xs:List V) (lo hi:Option Int):(cutV xs lo hi).length<=xs.length:=by
 unfold cutV
 rw[lQc,lVq]
 omega
noncomputable def rSlT (K:PySem.W.Frag):V->Option Int->Option Int->Hp->VK->Prop:=fun x lo hi H Q=>∃a xs,x= .ref a/\SqT K H a xs/\
 ¬ (HT.sIx xs.length 0 lo=0/\HT.sIx xs.length xs.length hi=xs.length)/\∀p,H p=none->Q (.ref p) (upd H p (.tup (cutV xs lo hi)))
theorem sl_tup:SlR X (rSlT X.K):=by
 intro pins s σ H x v vl vu lo hi sl Q I rx hs pl pu h
 obtain⟨a,xs,rfl,hx,hw,q⟩:=h
 cases rx
 obtain⟨its,r,ht,hz⟩:=I.tuple hx
 have hlen:its.toArray.size=xs.length:=by rw[lJy];exact r.length.symm
 refine⟨"tuple",_,lV9.lookup,ht.typeIs,?_⟩
 refine HT.getItem_tuple_cut ht hs pl pu (by rw[hlen];exact hw) ?_ (by rw[hlen];exact hz)
 rw[hlen]
 refine⟨.ref s.heap.objs.size,_,I.laid (t':=s.toks) (o:= .tup (cutV xs lo hi)) (fun b ob q=>lJs _ q) (lJh _) ?_,rfl,q _ (I.hok.fresh (lJh _))⟩
 exact⟨lKf (jZ5 xs lo hi) hz,_,(r.drop (HT.sIx xs.length 0 lo)).take (HT.sIx xs.length xs.length hi-HT.sIx xs.length 0 lo),TupD.new _ _⟩
noncomputable def qQ1 (K:PySem.W.Frag):R2:=fun x y H Q=>∃a b xs ys,x= .ref a/\y= .ref b/\SqT K H a xs/\SqT K H b ys/\xs≠[]/\xs.length+ys.length<=sizeLine/\
 (ys=[]->Q (.ref a) H)/\(ys≠[]->∀p,H p=none->Q (.ref p) (upd H p (.tup (xs++ys))))
theorem Vals.nil_iff {xs:List V} {us:List Value} (r:Vals xs us):us=[]↔xs=[]:=by
 cases r with
 | nil=>simp
 | cons _ _=>simp
theorem qX6:OpR X (binaryOp .Add) (qQ1 X.K):=by
 intro pins s σ H x y v u Q I rx ry h
 obtain⟨a,b,xs,ys,rfl,rfl,ha,hb,hx,hz,q1,q2⟩:=h
 cases rx
 cases ry
 obtain⟨its,r1,p1,_⟩:=I.tuple ha
 obtain⟨its2,r2,p2,_⟩:=I.tuple hb
 refine HT.cat_tup p1 p2 (fun z=>hx (r1.nil_iff.mp z)) (fun z=>⟨.ref a,H,I,rfl,q1 (r2.nil_iff.mp z)⟩) (fun z=> ?_) (by rw[<-r1.length,<-r2.length];exact hz)
 refine⟨.ref s.heap.objs.size,_,I.laid (t':=s.toks) (o:= .tup (xs++ys)) (fun b ob q=>lJs _ q) (lJh _) ?_,rfl,q2 (fun w=>z (r2.nil_iff.mpr w)) _ (I.hok.fresh (lJh _))⟩
 exact⟨by rw[lKb];exact hz,_,r1.append r2,TupD.new _ _⟩
end
def ixN (n:Nat) (i:Int):Option Nat:=if 0<=i then (if i<n then some i.toNat else none) else if -(n:Int)<=i then some (i+n).toNat else none
def atI {α:Type} (xs:List α) (i:Int):Option α:=(ixN xs.length i).bind fun j=>xs[j]?
theorem qJ2 {n:Nat} {i:Int} {j:Nat} (h:ixN n i=some j):seqIndex? i n=some j/\j<n/\ -(n:Int)<=i/\i<n:=by
 unfold ixN at h
 by_cases h0:0<=i
 ·rw[lJc h0] at h
  by_cases h1:i<n
  ·rw[lJc h1] at h
   have e:i.toNat=j:=lJn h
   exact⟨by rw[seqIndex_of h0 h1,e],by omega,by omega,h1⟩
  ·rw[lJa h1] at h;cases h
 ·rw[lJa h0] at h
  by_cases h1: -(n:Int)<=i
  ·rw[lJc h1] at h
   have e:(i+n).toNat=j:=lJn h
   exact⟨by rw[seqIndex_neg (by omega) h1,e],by omega,h1,by omega⟩
  ·rw[lJa h1] at h;cases h
theorem qK5 {α:Type} {xs:List α} {i:Int} {v:α} (h:atI xs i=some v):∃j,seqIndex? i xs.length=some j/\xs[j]? =some v/\j<xs.length/\ -(xs.length:Int)<=i/\i<xs.length:=by
 unfold atI at h
 cases e:ixN xs.length i with
 | none=>rw[e] at h;cases h
 | some j=>
  rw[e] at h
  obtain⟨h1,h2,h3,h4⟩:=qJ2 e
  exact⟨j,h1,h,h2,h3,h4⟩
def qZm (b:Expr):Prop:=∀o i,subscripted b false o i=operate [o,i] (getItem o i)
def IxR (X:Cx) (r:R2):Prop:=
 ∀(value slice:Expr) (pins:List (Addr×Obj)) (s:Shared) (σ:St) (H:Hp) (x y:V) (v u:Value) (Q:VK),Inv X pins σ H s->RelV x v->RelV y u->r x y H Q->
  subscripted slice false v u=operate [v,u] (getItem v u)->wpAny (model X.prog X.w) X.A (subscriptTail value slice v u) (EP X pins σ Q) X.xe s
def MtR (X:Cx) (id:String) (r:V->List V->Hp->VK->Prop):Prop:=
 ∀(pins:List (Addr×Obj)) (s:Shared) (σ:St) (H:Hp) (x:V) (xs:List V) (v:Value) (us:List Value) (Q:VK),Inv X pins σ H s->RelV x v->Vals xs us->r x xs H Q->
  wpAny (model X.prog X.w) X.A (call (.builtin id) (v::us)) (EP X pins σ Q) X.xe s
section
variable {X:Cx} {a b:Expr} {ta tb:TE} {pos:Pos}
theorem IxR.or {r r':R2} (h:IxR X r) (h':IxR X r'):IxR X (fun x y H Q=>r x y H Q\/r' x y H Q):=by
 intro value slice pins s σ H x y v u Q I rx ry q hs
 rcases q with q | q
 ·exact h value slice pins s σ H x y v u Q I rx ry q hs
 ·exact h' value slice pins s σ H x y v u Q I rx ry q hs
def rIxL (K:PySem.W.Frag):R2:=fun x y H Q=>∃p xs i v,x= .ref p/\y= .int i/\SqL K H p xs/\atI xs i=some v/\Q v H
def rIxT (K:PySem.W.Frag):R2:=fun x y H Q=>∃p xs i v,x= .ref p/\y= .int i/\SqT K H p xs/\atI xs i=some v/\Q v H
theorem ix_list:IxR X (rIxL X.K):=by
 intro value slice pins s σ H x y v u Q I rx ry h hs
 obtain⟨p,xs,i,z,rfl,rfl,hq,he,q⟩:=h
 cases rx
 obtain⟨t,rfl⟩:=ry
 obtain⟨its,r,pl,hz⟩:=I.list hq
 obtain⟨j,h1,h2,h3,h4,h5⟩:=qK5 he
 obtain⟨w,ew,rw'⟩:=r.get h2
 have hl:=r.length
 have hn:=kJv
 have fin:EP X pins σ Q w s:=⟨z,H,I,rw',q⟩
 by_cases h0:0<=i
 ·have hj:i.toNat=j:=by
   rw[seqIndex_of h0 h5] at h1
   exact lJn h1
  exact item_listR pl.isList h0 (by omega) (by rw[hj];simpa using ew) fin hs
 ·have hj:(i+(its.toArray.size:Int)).toNat=j:=by
   rw[seqIndex_neg (by omega) h4] at h1
   rw[lJy,<-hl]
   exact lJn h1
  exact subscriptTail_builtinR (x:=w) pl.isList.typeIs slot_list_getitem.lookup
   (wpAny_getItem_list_neg (Q:=fun r s'=>r=w/\EP X pins σ Q r s') pl.isList (by omega) (by rw[lJy]<;>omega) (by omega) (by rw[hj];simpa using ew) ⟨rfl,fin⟩) hs
theorem ix_tup:IxR X (rIxT X.K):=by
 intro value slice pins s σ H x y v u Q I rx ry h hs
 obtain⟨p,xs,i,z,rfl,rfl,hq,he,q⟩:=h
 cases rx
 obtain⟨t,rfl⟩:=ry
 obtain⟨its,r,pl,hz⟩:=I.tuple hq
 obtain⟨j,h1,h2,h3,h4,h5⟩:=qK5 he
 obtain⟨w,ew,rw'⟩:=r.get h2
 have hl:=r.length
 have hn:=kJv
 have fin:EP X pins σ Q w s:=⟨z,H,I,rw',q⟩
 exact subscriptTail_builtinR (x:=w) pl.typeIs slot_tuple_getitem.lookup
  (getItem_tuple (j:=j) (Q:=fun r s'=>r=w/\EP X pins σ Q r s') pl (by omega) (by omega) (by rw[lJy,<-hl];exact h1) (by simpa using ew) ⟨rfl,fin⟩) hs
theorem kYo (its:List Value) (n j:Nat) (u:Value):Obj.mapSeq (·.setIfInBounds j u) {cls:= .type "list",data:= .seq its.toArray n}={cls:= .type "list",data:= .seq (its.set j u).toArray n}:=by
 simp[Obj.mapSeq]
theorem Inv.lst {pins:List (Addr×Obj)} {σ:St} {H:Hp} {s:Shared} {p:Addr} {xs:List V} (I:Inv X pins σ H s) (h:H p=some (.lst xs)):
  ∃(its:List Value) (n:Nat),Vals xs its/\s.heap.get? p=some {cls:= .type "list",data:= .seq its.toArray n}/\xs.length<=sizeLine:=by
 obtain⟨z,its,n,r,e⟩:=I.hok p _ h
 exact⟨its,n,r,e,z⟩
theorem Inv.lstUpd {pins:List (Addr×Obj)} {σ:St} {H:Hp} {s:Shared} {p:Addr} {xs ys:List V} {its its':List Value} {n n':Nat} {f:Obj->Obj} (I:Inv X pins σ H s) (h:H p=some (.lst xs))
  (ho:s.heap.get? p=some {cls:= .type "list",data:= .seq its.toArray n}) (hf:f {cls:= .type "list",data:= .seq its.toArray n}={cls:= .type "list",data:= .seq its'.toArray n'}) (r:Vals ys its') (hz:ys.length<=sizeLine) (t:Nat):
  Inv X pins σ (upd H p (.lst ys)) {s with heap:=s.heap.update p f,toks:=t}:=by
 have e:(s.heap.update p f).get? p=some {cls:= .type "list",data:= .seq its'.toArray n'}:=by
  rw[lXv f ho (by rw[hf]<;>rfl),hf]
 refine I.write (x:=p) (e:=p) (by rw[h];trivial) (.inl rfl) (fun b u hb q=>(lYe _ _ (Ne.symm hb)).trans q) ⟨_,e⟩ ?_
 exact⟨hz,its',n',r,e⟩
def qQz:V->V->V->Hp->(Hp->Prop)->Prop:=fun o i v H Q=>∃p xs k j,o= .ref p/\i= .int k/\H p=some (.lst xs)/\ixN xs.length k=some j/\Q (upd H p (.lst (xs.set j v)))
theorem kKf:PSet X qQz:=by
 intro pins s σ H o i v ov iv u Q I ro ri rv h
 obtain⟨p,xs,k,j,rfl,rfl,hp,hj,q⟩:=h
 cases ro
 obtain⟨t,rfl⟩:=ri
 obtain⟨its,n,r,ho,hz⟩:=I.lst hp
 obtain⟨h1,h2,h3,h4⟩:=qJ2 hj
 have hl:=r.length
 have hn:=kJv
 have I':Inv X pins σ (upd H p (.lst (xs.set j v))) {s with heap:=s.heap.update p (Obj.mapSeq (·.setIfInBounds j u))}:=
  I.lstUpd hp ho (kYo its n j u) (r.set rv j) (by rw[lXa];exact hz) s.toks
 by_cases h0:0<=k
 ·have hk:k.toNat=j:=by
   rw[seqIndex_of h0 h4] at h1
   exact lJn h1
  exact PySem.W.ki_setAt ho h0 (by omega) (by rw[lJy,<-hl];exact h4) (by rw[hk];exact⟨_,I',q⟩)
 ·have hk:(k+(its.toArray.size:Int)).toNat=j:=by
   rw[seqIndex_neg (by omega) h3] at h1
   rw[lJy,<-hl]
   exact lJn h1
  exact PySem.W.ki_setBack ho (by omega) (by rw[lJy,<-hl];exact h3) (by omega) (by rw[hk];exact⟨_,I',q⟩)
theorem kQm (lo hi:Option Int) (n:Nat):(sliceBounds lo hi none n).1=((HT.sIx n 0 lo:Nat):Int)/\(sliceBounds lo hi none n).2.1=((HT.sIx n n hi:Nat):Int)/\(sliceBounds lo hi none n).2.2=1:=by
 refine⟨?_,?_,rfl⟩
 ·cases lo with
  | none=>simp[sliceBounds,HT.sIx]
  | some i=>
   simp only[sliceBounds,HT.sIx,Option.getD_none,show (1:Int)>0 by decide,lKp]
   by_cases h:i<0
   ·simp only[h,lKp]<;>omega
   ·simp only[h,lKd]<;>omega
 ·cases hi with
  | none=>simp[sliceBounds,HT.sIx]
  | some i=>
   simp only[sliceBounds,HT.sIx,Option.getD_none,show (1:Int)>0 by decide,lKp]
   by_cases h:i<0
   ·simp only[h,lKp]<;>omega
   ·simp only[h,lKd]<;>omega
theorem kKe (its:List Value) (lo hi:Option Int):slicePick its.toArray lo hi none=((its.drop (HT.sIx its.length 0 lo)).take (HT.sIx its.length its.length hi-HT.sIx its.length 0 lo)).toArray:=by
 obtain⟨h1,h2,h3⟩:=kQm lo hi its.toArray.size
 unfold slicePick
 rw[h1,h2,h3]
 simp only[sliceRange_one,pick_run,lJy]<;>rfl
def rSlL (K:PySem.W.Frag):V->Option Int->Option Int->Hp->VK->Prop:=fun x lo hi H Q=>∃a xs,x= .ref a/\SqL K H a xs/\∀p,H p=none->Q (.ref p) (upd H p (.lst (cutV xs lo hi)))
theorem qXu:SlR X (rSlL X.K):=by
 intro pins s σ H x v vl vu lo hi sl Q I rx hs pl pu h
 obtain⟨a,xs,rfl,hx,q⟩:=h
 cases rx
 obtain⟨its,r,ht,hz⟩:=I.list hx
 have hlen:=r.length
 refine⟨"list",_,slot_list_getitem.lookup,ht.isList.typeIs,?_⟩
 refine wpAny_getItem_list_slice ht.isList hs pl pu .none (by simp) ?_ (by rw[lJy]<;>omega)
 rw[kKe,<-hlen]
 refine⟨.ref s.heap.objs.size,_,I.laid (t':=s.toks) (o:= .lst (cutV xs lo hi)) (fun b ob q=>lJs _ q) (lJh _) ?_,rfl,q _ (I.hok.fresh (lJh _))⟩
 exact⟨lKf (jZ5 xs lo hi) hz,_,0,(r.drop (HT.sIx xs.length 0 lo)).take (HT.sIx xs.length xs.length hi-HT.sIx xs.length 0 lo),lJ8 _ rfl⟩
def kJj:V->Bool
 | .non=>true
 | .bl _=>true
 | .int _=>true
 | .str _=>true
 | _=>false
noncomputable def eqV:V->V->Bool
 | .non,.non=>true
 | .bl a,.bl b=>a == b
 | .bl a,.int b=>(if a then 1 else 0) == b
 | .int a,.bl b=>a == (if b then 1 else 0)
 | .int a,.int b=>a == b
 | .str a,.str b=>a == b
 | _,_=>false
theorem eqAt_V {A:Around} {s:Shared} {y x:V} {u v:Value} (ry:RelV y u) (rx:RelV x v) (fy:kJj y=true) (fx:kJj x=true):SeqAt.EqAt A s u v (eqV y x):=by
 cases y with
 | non=>
  cases ry
  cases x with
  | non=>cases rx;exact SeqAt.EqAt.same _
  | bl b=>cases rx;exact SeqAt.EqAt.none_bool b
  | int b=>obtain⟨t,rfl⟩:=rx;exact SeqAt.EqAt.none_int b t
  | str b=>obtain⟨t,rfl⟩:=rx;exact SeqAt.EqAt.none_str b t
  | _=>exact absurd (show false=true from fx) lJv
 | bl a=>
  cases ry
  cases x with
  | non=>cases rx;exact SeqAt.EqAt.bool_none a
  | bl b=>cases rx;exact SeqAt.EqAt.bool_bool a b
  | int b=>obtain⟨t,rfl⟩:=rx;exact SeqAt.EqAt.bool_int a b t
  | str b=>obtain⟨t,rfl⟩:=rx;exact SeqAt.EqAt.bool_str a b t
  | _=>exact absurd (show false=true from fx) lJv
 | int a=>
  obtain⟨t',rfl⟩:=ry
  cases x with
  | non=>cases rx;exact SeqAt.EqAt.int_none a t'
  | bl b=>cases rx;exact SeqAt.EqAt.int_bool a t' b
  | int b=>obtain⟨t,rfl⟩:=rx;exact SeqAt.EqAt.int_int a t' b t
  | str b=>obtain⟨t,rfl⟩:=rx;exact SeqAt.EqAt.int_str a t' b t
  | _=>exact absurd (show false=true from fx) lJv
 | str a=>
  obtain⟨t',rfl⟩:=ry
  cases x with
  | non=>cases rx;exact SeqAt.EqAt.str_none a t'
  | bl b=>cases rx;exact SeqAt.EqAt.str_bool a t' b
  | int b=>obtain⟨t,rfl⟩:=rx;exact SeqAt.EqAt.str_int a t' b t
  | str b=>obtain⟨t,rfl⟩:=rx;exact SeqAt.EqAt.str_str a t' b t
  | _=>exact absurd (show false=true from fx) lJv
 | _=>exact absurd (show false=true from fy) lJv
def eqU (x:V) (u:Value):Bool:=match u with
 | .none=>eqV .non x
 | .bool b=>eqV (.bl b) x
 | .int i _=>eqV (.int i) x
 | .str z _=>eqV (.str z) x
 | _=>false
theorem qKi {x y:V} {u:Value} (r:RelV y u) (f:kJj y=true):eqU x u=eqV y x:=by
 cases y with
 | non=>cases r;rfl
 | bl b=>cases r;rfl
 | int i=>obtain⟨t,rfl⟩:=r;rfl
 | str z=>obtain⟨t,rfl⟩:=r;rfl
 | _=>exact absurd (show false=true from f) lJv
theorem kVz {x:V}:∀ {xs:List V} {us:List Value},Vals xs us->xs.all kJj=true->us.any (eqU x)=xs.any fun y=>eqV y x
 | _,_,.nil,_=>rfl
 | y::xs,u::us,.cons r t,f=>by
  rw[lQ2,lKt] at f
  rw[lQr,lQr,qKi r f.1,kVz t f.2]
theorem jYz {A:Around} {s:Shared} {x:V} {v:Value} (rx:RelV x v) (fx:kJj x=true):∀ {xs:List V} {us:List Value},Vals xs us->xs.all kJj=true->∀u∈us,SeqAt.EqAt A s u v (eqU x u)
 | _,_,.nil,_=>fun u hu=>by cases hu
 | y::xs,u::us,.cons r t,f=>fun u' hu=>by
  rw[lQ2,lKt] at f
  rcases (lJk.mp hu) with rfl | hu
  ·rw[qKi r f.1];exact eqAt_V r rx f.1 fx
  ·exact jYz rx fx t f.2 u' hu
def inV (x:V) (xs:List V):Bool:=xs.any fun y=>eqV y x
def rIn (K:PySem.W.Frag) (neg:Bool):R2:=fun x y H Q=>∃p xs,y= .ref p/\(SqL K H p xs\/SqT K H p xs)/\kJj x=true/\xs.all kJj=true/\Q (.bl (if neg then !inV x xs else inV x xs)) H
theorem kQu:OpR X (compareOp .NotIn) (rIn X.K true):=by
 intro pins s σ H x y v u Q I rx ry h
 obtain⟨p,xs,rfl,hq,fx,fs,q⟩:=h
 cases ry
 rcases hq with hq | hq
 ·obtain⟨its,r,pl,hz⟩:=I.list hq
  refine SeqAt.notIn_listAt (eqU x) pl.isList (fun w hw=>jYz rx fx r fs w (by simpa using hw)) ⟨.bl _,H,I,rfl,?_⟩
  rw[show its.toArray.any (eqU x)=its.any (eqU x) by simp,kVz r fs]
  exact q
 ·obtain⟨its,r,pl,hz⟩:=I.tuple hq
  refine SeqAt.notIn_tupleAt (eqU x) pl (fun w hw=>jYz rx fx r fs w (by simpa using hw)) ⟨.bl _,H,I,rfl,?_⟩
  rw[show its.toArray.any (eqU x)=its.any (eqU x) by simp,kVz r fs]
  exact q
theorem kUd:kY2 X (.builtin "len") (fun xs H Q=>∃p ys,xs=[.ref p]/\(SqL X.K H p ys\/SqT X.K H p ys)/\Q (.int ys.length) H):=by
 intro pins s σ H xs us Q I r h
 obtain⟨p,ys,rfl,hq,q⟩:=h
 obtain⟨u,rfl,rx⟩:=qQf r
 cases rx
 have hn:=kJv
 rcases hq with hq | hq
 ·obtain⟨its,r',pl,hz⟩:=I.list hq
  have hlen:=r'.length
  exact Calls.call_len_list pl.isList (by simp only[lJy]<;>omega) ⟨.int ys.length,H,I.tok _,⟨s.toks+1,by rw[lJy,hlen]⟩,q⟩
 ·obtain⟨its,r',pl,hz⟩:=I.tuple hq
  have hlen:=r'.length
  exact len_tuple pl (by simp only[lJy]<;>omega) ⟨.int ys.length,H,I.tok _,⟨s.toks+1,by rw[lJy,hlen]⟩,q⟩
theorem kUc:kY2 X (.type "list") (fun xs H Q=>∃p ys,xs=[.ref p]/\(SqL X.K H p ys\/SqT X.K H p ys)/\∀l,H l=none->Q (.ref l) (upd H l (.lst ys))):=by
 intro pins s σ H xs us Q I r h
 obtain⟨p,ys,rfl,hq,q⟩:=h
 obtain⟨u,rfl,rx⟩:=qQf r
 cases rx
 have fin:∀(its:List Value),Vals ys its->ys.length<=sizeLine->∀(h':Heap) (c':Nat),(∀b o',s.heap.get? b=some o'->h'.get? b=some o')->
   h'.get? s.heap.objs.size=some {cls:= .type "list",dict:=none,data:= .seq its.toArray c',slots:= #[]}->EP X pins σ Q (.ref s.heap.objs.size) {s with heap:=h'}:=fun its r' hz h' c' kp e=>
  ⟨.ref s.heap.objs.size,_,I.laid (t':=s.toks) kp (lJh _) (show ObjOk X.prog X.w _ h' _ (.lst ys) from⟨hz,its,c',r',e⟩),rfl,q _ (I.hok.fresh (lJh _))⟩
 rcases hq with hq | hq
 ·obtain⟨its,r',pl,hz⟩:=I.list hq
  have hlen:=r'.length
  obtain⟨o,ho,hc,n,hd⟩:=pl.isList
  exact call_list_seq p (.inl rfl) ho hc hd (fun h' c' kp e=>fin its r' hz h' c' kp e) (by simp only[lJy]<;>omega)
 ·obtain⟨its,r',pl,hz⟩:=I.tuple hq
  have hlen:=r'.length
  obtain⟨o,ho,hc,n,hd⟩:=pl
  exact call_list_seq p (.inr rfl) ho hc hd (fun h' c' kp e=>fin its r' hz h' c' kp e) (by simp only[lJy]<;>omega)
theorem kQb:kY2 X (.type "tuple") (fun xs H Q=>∃p ys,xs=[.ref p]/\((SqL X.K H p ys/\∀l,H l=none->Q (.ref l) (upd H l (.tup ys)))\/(SqT X.K H p ys/\Q (.ref p) H))):=by
 intro pins s σ H xs us Q I r h
 obtain⟨p,ys,rfl,h⟩:=h
 obtain⟨u,rfl,rx⟩:=qQf r
 cases rx
 rcases h with ⟨hq,q⟩ | ⟨hq,q⟩
 ·obtain⟨its,r',pl,hz⟩:=I.list hq
  have hlen:=r'.length
  refine call_tuple_list pl.isList (fun h' kp=> ?_) (by simp only[lJy]<;>omega)
  have I1:Inv X pins σ H {s with heap:=h'}:=I.kept (t':=s.toks) kp
  have I2:Inv X pins σ (upd H h'.objs.size (.tup ys)) {s with heap:=h'.push {cls:= .type "tuple",data:= .seq its.toArray} }:=
   I1.laid (t':=s.toks) (fun b o e=>lJs _ e) (lJh _) (show ObjOk X.prog X.w _ _ _ (.tup ys) from⟨hz,its,r',TupD.new _ _⟩)
  exact⟨.ref h'.objs.size,_,I2,rfl,q _ (I1.hok.fresh (lJh _))⟩
 ·obtain⟨its,r',pl,hz⟩:=I.tuple hq
  exact call_tuple_same pl ⟨.ref p,H,I,rfl,q⟩
def tyV (K:PySem.W.Frag) (T:String) (x:V) (H:Hp):Prop:=match x with
 | .str _=>T="str"
 | .int _=>T="int"
 | .ref p=>(T="list"/\∃xs,SqL K H p xs)\/(T="tuple"/\∃o,K.lookup p=some o/\o.cls= .type "tuple"/\o.dict=none)\/
   (T="dict"/\((∃kvs,H p=some (.dK kvs))\/∃kvs,H p=some (.dT kvs)))\/(T="set"/\∃S n,H p=some (.set S n))
 | _=>False
theorem tyV_is {pins:List (Addr×Obj)} {σ:St} {H:Hp} {s:Shared} {T:String} {x:V} {v:Value} (I:Inv X pins σ H s) (r:RelV x v) (ty:tyV X.K T x H):
  s.TypeIs v T/\∀a,v= .ref a->∃ob,s.heap.get? a=some ob/\ob.dict=none:=by
 cases x with
 | str z=>
  obtain⟨t,rfl⟩:=r
  cases (show T="str" from ty)
  exact⟨typeIs_str s z t,fun _ e=>nomatch e⟩
 | int i=>
  obtain⟨t,rfl⟩:=r
  cases (show T="int" from ty)
  exact⟨typeIs_int s i t,fun _ e=>nomatch e⟩
 | ref p=>
  cases r
  rcases ty with ⟨rfl,xs,hq⟩ | ⟨rfl,o,hk,hc,hd⟩ | ⟨rfl,hk⟩ | ⟨rfl,S,n,hk⟩
  ·obtain⟨its,_,pl,_⟩:=I.list hq
   refine⟨pl.isList.typeIs,fun a e=> ?_⟩
   cases e
   obtain⟨o,n,e,c,hd,_⟩:=pl
   exact⟨o,e,hd⟩
  ·refine⟨⟨o,I.kIn p o hk,hc⟩,fun a e=> ?_⟩
   cases e
   exact⟨o,I.kIn _ o hk,hd⟩
  ·have z:∃o,s.heap.get? p=some o/\o.ExactDict:=by
    rcases hk with ⟨kvs,hk⟩ | ⟨kvs,hk⟩
    ·obtain⟨_,_,_,_,o,_,_,e,ex,_⟩:=I.hok p _ hk
     exact⟨o,e,ex⟩
    ·obtain⟨_,_,_,_,o,_,_,e,ex,_⟩:=I.hok p _ hk
     exact⟨o,e,ex⟩
   obtain⟨o,e,ex⟩:=z
   refine⟨⟨o,e,ex.1⟩,fun a e2=> ?_⟩
   cases e2
   exact⟨o,e,ex.2.1⟩
  ·obtain⟨o,_,_,_,e,ex,_⟩:=I.hok p _ hk
   refine⟨⟨o,e,ex.1⟩,fun a e2=> ?_⟩
   cases e2
   exact⟨o,e,ex.2.1⟩
 | _=>exact False.elim ty
variable {o e:Expr} {es:List Expr} {to:TE} {t:TA} {name:Str} {apos cpos:Pos} {T id:String} {r:V->List V->Hp->VK->Prop}
end
def MtM (X:Cx) (id:String) (r:V->List V->Hp->VK->Prop):Prop:=
 ∀(pins:List (Addr×Obj)) (s:Shared) (σ:St) (H:Hp) (x:V) (xs:List V) (v:Value) (us:List Value) (Q:VK),Inv X pins σ H s->RelV x v->Vals xs us->r x xs H Q->
  wpAny (model X.prog X.w) X.A (call (.builtin id) (v::us)) (EP X pins σ Q) X.xe s
theorem Vals.one {x:V} {us:List Value} (h:Vals [x] us):∃u,us=[u]/\RelV x u:=by
 cases h with | cons r t=>(cases t;exact⟨_,rfl,r⟩)
theorem Vals.two {x y:V} {us:List Value} (h:Vals [x,y] us):∃u v,us=[u,v]/\RelV x u/\RelV y v:=by
 cases h with | cons r t=>(cases t with | cons q t=>(cases t;exact⟨_,_,rfl,r,q⟩))
theorem Vals.rep {xs:List V} {us:List Value} (h:Vals xs us):∀k:Nat,Vals (List.replicate k xs).flatten (List.replicate k us).flatten
 | 0=> .nil
 | k+1=>by
  rw[lVr,lVr,lXb,lXb]
  exact Vals.append h (Vals.rep h k)
theorem kQ6 (its:List Value):∀(k:Nat) (acc:List Value),
  List.foldl (fun x1 x2=>x1++x2) acc.toArray (List.replicate k its.toArray)=(acc++(List.replicate k its).flatten).toArray
 | 0,acc=>by simp
 | k+1,acc=>by
  have e:acc.toArray++its.toArray=(acc++its).toArray:=by simp
  have e2:(acc++its)++(List.replicate k its).flatten=acc++(List.replicate (k+1) its).flatten:=by
   rw[lVr,lXb,lJq]
  rw[<-e2,<-kQ6 its k (acc++its),<-e,lVr,lXc]
section
variable {X:Cx} {pins:List (Addr×Obj)} {σ:St} {H:Hp} {s:Shared} {l b:Addr} {xs ys zs:List V}
theorem Inv.lset {its its':List Value} {n:Nat} {f:Array Value->Array Value} {t':Nat} (I:Inv X pins σ H s) (hH:H l=some (.lst xs))
  (e:s.heap.get? l=some {cls:= .type "list",data:= .seq its.toArray n}) (hf:f its.toArray=its'.toArray) (hv:Vals ys its') (hz:ys.length<=sizeLine):
  Inv X pins σ (upd H l (.lst ys)) {s with heap:=s.heap.update l (Obj.mapSeq f),toks:=t'}:=by
 have q:=PySem.IsL.update e f
 rw[hf] at q
 refine I.write (x:=l) (e:=l) (by rw[hH];exact trivial) (.inl rfl) (fun b' u hb hu=>(lYe s.heap (Obj.mapSeq f) (Ne.symm hb)).trans hu) ⟨_,q⟩ ?_
 exact⟨hz,its',_,hv,q⟩
theorem Inv.lnew {its:List Value} {t':Nat} (I:Inv X pins σ H s) (hv:Vals ys its) (hz:ys.length<=sizeLine):
  Inv X pins σ (upd H s.heap.objs.size (.lst ys)) {s with heap:=s.heap.push {cls:= .type "list",data:= .seq its.toArray},toks:=t'}:=
 I.laid (fun _ _ q=>lJs _ q) (lJh _) ⟨hz,its,0,hv,lJ8 _ rfl⟩
theorem Inv.fresh (I:Inv X pins σ H s):H s.heap.objs.size=none:=I.hok.fresh (lJh _)
theorem Inv.lstM (I:Inv X pins σ H s) (hH:H l=some (.lst xs)):xs.length<=sizeLine/\∃(its:List Value) (n:Nat),Vals xs its/\xs.length=its.length/\s.heap.get? l=some {cls:= .type "list",data:= .seq its.toArray n}:=by
 obtain⟨z,its,n,r,e⟩:=I.hok l _ hH
 exact⟨z,its,n,r,r.length,e⟩
theorem qUe {n:Nat} (h:n<=sizeLine):Builtin.List.listTooLong n=false:=by
 unfold Builtin.List.listTooLong
 exact lJt (by omega)
end
section
variable {X:Cx}
def jKq:V->List V->Hp->VK->Prop:=fun x vs H Q=>∃l xs y,x= .ref l/\vs=[y]/\H l=some (.lst xs)/\xs.length<sizeLine/\Q .non (upd H l (.lst (xs++[y])))
theorem qJs:MtM X "list.append" jKq:=by
 intro pins s σ H x vs v us Q I rx rv h
 obtain⟨l,xs,y,rfl,rfl,hH,hz,q⟩:=h
 cases rx
 obtain⟨u,rfl,ru⟩:=rv.one
 obtain⟨z,its,n,r,hl,e⟩:=I.lstM hH
 refine call_meets F.slot_list_append ⟨_,e,rfl⟩ F.entry_list_append (F.args_list_append_2 _ _) (PySem.list_append l its.toArray n u (by rw[lJy];omega)) ⟨e,?_⟩
 refine⟨.non,_,I.lset (its':=its++[u]) hH e (by simp) (r.append (.cons ru .nil)) ?_,rfl,q⟩
 rw[lKb,List.length_singleton]
 omega
noncomputable def rCat:R2:=fun x y H Q=>∃l b xs zs,x= .ref l/\y= .ref b/\H l=some (.lst xs)/\H b=some (.lst zs)/\xs.length+zs.length<=sizeLine/\∀p,H p=none->Q (.ref p) (upd H p (.lst (xs++zs)))
theorem op_cat:OpR X (binaryOp .Add) rCat:=by
 intro pins s σ H x y v u Q I rx ry h
 obtain⟨l,b,xs,zs,rfl,rfl,hH,hB,hz,q⟩:=h
 cases rx
 cases ry
 obtain⟨z,its,n,r,hl,e⟩:=I.lstM hH
 obtain⟨z2,its2,n2,r2,hl2,e2⟩:=I.lstM hB
 refine PySem.P.add_list e e2 ?_ (by rw[lJy,lJy];omega)
 have ea:its.toArray++its2.toArray=(its++its2).toArray:=by simp
 rw[ea]
 exact⟨.ref _,_,I.lnew (t':=s.toks) (r.append r2) (by rw[lKb];omega),rfl,q _ I.fresh⟩
noncomputable def rRep:R2:=fun x y H Q=>∃l k xs,x= .ref l/\y= .int k/\H l=some (.lst xs)/\ -(2^63)<=k/\k<2^63/\xs.length*k.toNat<=sizeLine/\
 ∀p,H p=none->Q (.ref p) (upd H p (.lst (List.replicate k.toNat xs).flatten))
theorem qYi {α:Type} (xs:List α) (k:Nat):(List.replicate k xs).flatten.length=k*xs.length:=by
 induction k with
 | zero=>simp
 | succ k ih=>rw[lVr,lXb,lKb,ih,Nat.succ_mul,Nat.add_comm]
theorem op_rep:OpR X (binaryOp .Mult) rRep:=by
 intro pins s σ H x y v u Q I rx ry h
 obtain⟨l,k,xs,rfl,rfl,hH,h1,h2,hz,q⟩:=h
 cases rx
 obtain⟨t,rfl⟩:=ry
 obtain⟨z,its,n,r,hl,e⟩:=I.lstM hH
 have hlen:its.toArray.size*k.toNat<=sizeLine:=by rw[lJy,<-hl];exact hz
 have hcap:¬ its.toArray.size*k.toNat>(2^63-1) / 8:=by
  have:(sizeLine:Nat)<=(2^63-1) / 8:=by decide
  omega
 have hfit:¬ (!Builtin.List.listFitsIndex k)=true:=by
  rw[fitsIndex_both h1 h2]
  exact lJv
 have hlong:¬ Builtin.List.listTooLong (its.toArray.size*k.toNat)=true:=by
  rw[qUe hlen]
  exact lJv
 have hnew:List.foldl (fun x1 x2=>x1++x2) #[] (List.replicate (if its.toArray.isEmpty=true then 0 else k.toNat) its.toArray)=(List.replicate k.toNat its).flatten.toArray:=by
  have f0:∀m:Nat,List.foldl (fun x1 x2=>x1++x2) #[] (List.replicate m its.toArray)=(List.replicate m its).flatten.toArray:=fun m=>by
   have:=kQ6 its m []
   rw[lXw] at this
   exact this
  rw[f0]
  cases its with
  | nil=>simp
  | cons a r'=>rw[lJa (by simp)]
 refine wpAny_binaryOp_repeat_ref (T:="list") (U:="int") (by decide) ⟨_,e,rfl⟩ (fun s'=>typeIs_int s' k t) noFill_list_mul F.fills_int_mul F.slot_int_rmul repeat_list F.slot_int_index.lookup
  (call_meets F.slot_int_rmul (typeIs_int s k t) F.entry_int_rmul (F.args_int_rmul_2 _ _) (int___rmul___int_list k t l its.toArray n)
   ⟨e,rfl,⟨_,e,rfl⟩,call_meets F.slot_list_mul ⟨_,e,rfl⟩ F.entry_list_mul (F.args_list_mul_2 _ _) (AutoListH.list___mul___list_int_3 l its.toArray n k t hfit hcap hlong) ⟨e,?_⟩⟩)
 rw[hnew]
 exact⟨.ref _,_,I.lnew (t':=s.toks) (r.rep k.toNat) (by rw[qYi,Nat.mul_comm];exact hz),rfl,q _ I.fresh⟩
end
section
variable {prog:Program} {w:World} {A:Around} {E:Value->Shared->Prop} {s:Shared}
end
section
variable {X:Cx}
end
section
variable {κ:Type} [DecidableEq κ]
def valV (kvs:List (κ×V)) (k:κ):Option V:=(kvs.find? fun kv=>decide (kv.1=k)).map (·.2)
def putK (kvs:List (κ×V)) (k:κ) (v:V):List (κ×V):=
 if (kvs.any fun kv=>decide (kv.1=k))=true then kvs.map (fun kv=>if kv.1=k then (kv.1,v) else kv) else kvs++[(k,v)]
theorem jYr {p:κ×V} {r:List (κ×V)} {k:κ} (e:p.1=k):valV (p::r) k=some p.2:=by simp[valV,lQs,e]
theorem jYs {p:κ×V} {r:List (κ×V)} {k:κ} (e:¬ p.1=k):valV (p::r) k=valV r k:=by simp[valV,lQs,e]
theorem kV5 (k:κ):∀kvs:List (κ×V),(kvs.any fun kv=>decide (kv.1=k))=(valV kvs k).isSome
 | []=>rfl
 | p::r=>by
  rw[lQr]
  by_cases e:p.1=k
  ·simp only[jYr e,lJ3 e,Bool.true_or,Option.isSome_some]
  ·rw[jYs e,lJt e,Bool.false_or];exact kV5 k r
theorem jZu (kvs:List (κ×V)) (k:κ) (v:V):(putK kvs k v).length<=kvs.length+1:=by
 unfold putK
 split
 ·rw[lJg];omega
 ·rw[lKb,lKm,lQd];omega
theorem RelO.isSome_eq {o:Option V} {u:Option Value} (r:RelO o u):o.isSome=u.isSome:=by
 cases o with
 | none=>cases u with
  | none=>rfl
  | some _=>exact (show False from r).elim
 | some _=>cases u with
  | none=>exact (show False from r).elim
  | some _=>rfl
theorem KV.val {kvs:List (κ×V)} {vs:List (κ×Value)} (r:KV kvs vs) (k:κ):RelO (valV kvs k) (valueAt vs k):=by
 unfold KV at r
 induction r with
 | nil=>exact True.intro
 | @cons p q ps qs h t ih=>
  obtain⟨h1,h2⟩:=h
  by_cases e:p.1=k
  ·have e':q.1=k:=h1.symm.trans e
   have b:valueAt (q::qs) k=some q.2:=by simp[valueAt,lQs,e']
   rw[jYr e,b];exact h2
  ·have e':¬ q.1=k:=fun z=>e (h1.trans z)
   have b:valueAt (q::qs) k=valueAt qs k:=by simp[valueAt,lQs,e']
   rw[jYs e,b];exact ih
theorem KV.any {kvs:List (κ×V)} {vs:List (κ×Value)} (r:KV kvs vs) (k:κ):(kvs.any fun kv=>decide (kv.1=k))=vs.any fun kv=>decide (kv.1=k):=by
 unfold KV at r
 induction r with
 | nil=>rfl
 | cons h t ih=>rw[lQr,lQr,ih,h.1]
theorem KV.repl {kvs:List (κ×V)} {vs:List (κ×Value)} (r:KV kvs vs) (k:κ) {y:V} {u:Value} (ry:RelV y u):
  KV (kvs.map fun kv=>if kv.1=k then (kv.1,y) else kv) (vs.map fun kv=>if kv.1=k then (kv.1,u) else kv):=by
 unfold KV at r ⊢
 induction r with
 | nil=>exact .nil
 | @cons p q ps qs h t ih=>
  rw[lJp,lJp]
  refine .cons ?_ ih
  obtain⟨h1,h2⟩:=h
  by_cases e:p.1=k
  ·rw[lJc e,lJc (h1.symm.trans e)];exact⟨h1,ry⟩
  ·rw[lJa e,lJa (fun z=>e (h1.trans z))];exact⟨h1,h2⟩
theorem KV.put {kvs:List (κ×V)} {vs:List (κ×Value)} (r:KV kvs vs) (k:κ) {y:V} {u:Value} (ry:RelV y u):KV (putK kvs k y) (stored vs k u):=by
 unfold putK stored
 rw[r.any k]
 by_cases e:(vs.any fun kv=>decide (kv.1=k))=true
 ·rw[lJc e,lJc e];exact r.repl k ry
 ·rw[lJa e,lJa e];exact Paired.snoc r ⟨rfl,ry⟩
theorem KV.length {kvs:List (κ×V)} {vs:List (κ×Value)} (r:KV kvs vs):kvs.length=vs.length:=lV6 r
end
theorem kVq {P:Program} {w:World} {k:Key} {u:Value} (r:RelV (kV k) u):(jKl P w).is k u=true:=by
 cases k with
 | inl i=>obtain⟨t,e⟩:=(show ∃t,u=Value.int i t from r);subst e;exact kVi P w i t
 | inr x=>obtain⟨t,e⟩:=(show ∃t,u=Value.str x t from r);subst e;exact kVh P w x t
abbrev KT (H:Hp):List (TKey×V)->List (TKey×Addr×Value)->Prop:=Paired fun p q=>p.1=q.1/\TKeyAt H p.1 q.2.1/\RelV p.2 q.2.2
theorem KT.val {H:Hp} {kvs:List (TKey×V)} {xs:List (TKey×Addr×Value)} (r:KT H kvs xs) (k:TKey):RelO (valV kvs k) ((atKey xs k).map (·.2)):=by
 induction r with
 | nil=>exact True.intro
 | @cons p q ps qs h t ih=>
  obtain⟨h1,_,h2⟩:=h
  by_cases e:p.1=k
  ·have e':q.1=k:=h1.symm.trans e
   have b:atKey (q::qs) k=some q.2:=by simp[atKey,lQs,e']
   rw[jYr e,b];exact h2
  ·have e':¬ q.1=k:=fun z=>e (h1.trans z)
   have b:atKey (q::qs) k=atKey qs k:=by simp[atKey,lQs,e']
   rw[jYs e,b];exact ih
theorem KT.repl {H:Hp} {kvs:List (TKey×V)} {xs:List (TKey×Addr×Value)} (r:KT H kvs xs) (k:TKey) {y:V} {u:Value} (ry:RelV y u):
  KT H (kvs.map fun kv=>if kv.1=k then (kv.1,y) else kv) (xs.map (putAt k u)):=by
 induction r with
 | nil=>exact .nil
 | @cons p q ps qs h t ih=>
  rw[lJp,lJp]
  refine .cons ?_ ih
  obtain⟨h1,h2,h3⟩:=h
  unfold putAt
  by_cases e:p.1=k
  ·rw[lJc e,lJc (h1.symm.trans e)];exact⟨h1,h2,ry⟩
  ·rw[lJa e,lJa (fun z=>e (h1.trans z))];exact⟨h1,h2,h3⟩
theorem KT.put {H:Hp} {kvs:List (TKey×V)} {xs:List (TKey×Addr×Value)} (r:KT H kvs xs) (k:TKey) {b:Addr} {y:V} {u:Value} (hb:TKeyAt H k b) (ry:RelV y u):
  KT H (putK kvs k y) (storedH xs k b u):=by
 have e:(kvs.any fun kv=>decide (kv.1=k))=(atKey xs k).isSome:=by
  rw[kV5,(r.val k).isSome_eq,Option.isSome_map]
 unfold putK storedH
 rw[e]
 by_cases q:(atKey xs k).isSome=true
 ·rw[lJc q,lJc q];exact r.repl k ry
 ·rw[lJa q,lJa q];exact Paired.snoc r ⟨rfl,hb,ry⟩
theorem KT.keeps {H H':Hp} {kvs:List (TKey×V)} {xs:List (TKey×Addr×Value)} (r:KT H kvs xs) (ht:∀b ys,H b=some (.tup ys)->H' b=some (.tup ys)):KT H' kvs xs:=
 Paired.mapP r fun _ _ z=>⟨z.1,z.2.1.mono ht,z.2.2⟩
section
variable {P:Program} {w:World} {H:Hp} {h:Heap} {a:Addr}
theorem rd_of {u:HO} (ok:HOk P w H h) (e:Rd H a u):ObjOk P w H h a u:=e.ok ok
theorem qVi {kvs:List (Key×V)} (ok:HOk P w H h) (e:Rd H a (.dK kvs)):kvs.length<=sizeLine/\(a == sysModules)=false/\∃vs,KV kvs vs/\h.DictOf (jKl P w) a vs:=
 show ObjOk P w H h a (.dK kvs) from rd_of ok e
theorem dk_of {kvs:List (Key×V)} (ok:HOk P w H h) (e:H a=some (.dK kvs)):kvs.length<=sizeLine/\(a == sysModules)=false/\∃vs,KV kvs vs/\h.DictOf (jKl P w) a vs:=qVi ok (.inl e)
theorem kXl {K:Type} [DecidableEq K] {c:Nat} {T:KeyV P w K c} {R:K->V->Prop} (hR:∀k x u,R k x->RelV x u->T.is h k u):∀ {ks:List K} {xs:List V} {us:List Value},Paired R ks xs->Vals xs us->ItemsV T h ks us
 | _,_,_,.nil,.nil=> .nil
 | _,_,_,.cons r t,.cons q z=> .cons (hR _ _ _ r q) (kXl hR t z)
theorem kUn {K:Type} [DecidableEq K] {c:Nat} {T:KeyV P w K c} {R:K->V->Prop} {ks:List K} {xs:List V} {p:Addr} (ok:HOk P w H h) (hR:∀k x u,R k x->RelV x u->T.is h k u) (e:H p=some (.tup xs)) (r:Paired R ks xs):kJc T h ks (.ref p):=by
 obtain⟨_,its,q,o,h1,h2,n,h3,_⟩:=(show ObjOk P w H h p (.tup xs) from ok p _ e)
 exact⟨p,o,its.toArray,n,rfl,h1,h2,h3,by simpa using kXl hR r q⟩
theorem r1_of (ok:HOk P w H h) (k:K1) (x:V) (u:Value) (r:Rk1 H k x) (q:RelV x u):(vk1 P w).is h k u:=by
 cases k with
 | inl k=>cases (show x=kV k from r);exact kVq (P:=P) (w:=w) q
 | inr ks=>
  obtain⟨p,vs,rfl,e,t⟩:=(show ∃p vs,x= .ref p/\H p=some (.tup vs)/\Paired (fun k v=>v=kV k) ks vs from r)
  cases (show u=Value.ref p from q)
  exact kUn (T:=jYc P w) ok (fun k x u r q=>by subst r;exact kVq (P:=P) (w:=w) q) e t
theorem r2_of (ok:HOk P w H h) (k:K2) (x:V) (u:Value) (r:Rk2 H k x) (q:RelV x u):(vk2 P w).is h k u:=by
 cases k with
 | inl k=>cases (show x=kV k from r);exact kVq (P:=P) (w:=w) q
 | inr ks=>
  obtain⟨p,vs,rfl,e,t⟩:=(show ∃p vs,x= .ref p/\H p=some (.tup vs)/\Paired (Rk1 H) ks vs from r)
  cases (show u=Value.ref p from q)
  exact kUn (T:=vk1 P w) ok (r1_of ok) e t
theorem kQ2 {ks:TKey} (ok:HOk P w H h) (e:TKeyAt H ks a):(jJf P w).is h ks a:=by
 obtain⟨vs,h1,t⟩:=e
 exact kUn (T:=vk2 P w) ok (r2_of ok) h1 t
theorem qVg {kvs:List (TKey×V)} (ok:HOk P w H h) (e:Rd H a (.dT kvs)):kvs.length<=sizeLine/\(a == sysModules)=false/\
  ∃xs,KT H kvs xs/\h.DictOfH (jJf P w) a xs:=by
 obtain⟨z,y,xs,r,o,es,ep,h1,h2,h3,h4,h5⟩:=(show ObjOk P w H h a (.dT kvs) from rd_of ok e)
 refine⟨z,y,xs,r,o,es,ep,h1,h2,h3,h4,fun x hx=> ?_,h5⟩
 have all:∀ {l:List (TKey×V)} {m:List (TKey×Addr×Value)},KT H l m->∀x∈m,(jJf P w).is h x.1 x.2.1:=by
  intro l m q
  induction q with
  | nil=>intro x hx;exact nomatch hx
  | @cons p q ps qs hq t ih=>
   intro x hx
   rcases (lJk.mp hx) with e | hx
   ·subst e
    exact kQ2 ok (by rw[<-hq.1];exact hq.2.1)
   ·exact ih x hx
 exact all r x hx
theorem dt_of {kvs:List (TKey×V)} (ok:HOk P w H h) (e:H a=some (.dT kvs)):kvs.length<=sizeLine/\(a == sysModules)=false/\
  ∃xs,KT H kvs xs/\h.DictOfH (jJf P w) a xs:=qVg ok (.inl e)
end
def DGet (H:Hp) (a:Addr) (y:V) (r:Option V):Prop:=
 (∃kvs k,Rd H a (.dK kvs)/\y=kV k/\r=valV kvs k)\/∃kvs k b,Rd H a (.dT kvs)/\y= .ref b/\TKeyAt H k b/\r=valV kvs k
def DPut (H:Hp) (a:Addr) (y v:V) (H':Hp):Prop:=
 (∃kvs k,H a=some (.dK kvs)/\y=kV k/\kvs.length<sizeLine/\H'=upd H a (.dK (putK kvs k v)))\/
 ∃kvs k b,H a=some (.dT kvs)/\y= .ref b/\TKeyAt H k b/\kvs.length<sizeLine/\H'=upd H a (.dT (putK kvs k v))
theorem DGet.k {H:Hp} {a:Addr} {kvs:List (Key×V)} {k:Key} (e:H a=some (.dK kvs)):DGet H a (kV k) (valV kvs k):= .inl ⟨kvs,k,.inl e,rfl,rfl⟩
theorem DGet.t {H:Hp} {a b:Addr} {kvs:List (TKey×V)} {k:TKey} (e:H a=some (.dT kvs)) (eb:TKeyAt H k b):DGet H a (.ref b) (valV kvs k):= .inr ⟨kvs,k,b,.inl e,rfl,eb,rfl⟩
theorem DPut.k {H:Hp} {a:Addr} {kvs:List (Key×V)} {k:Key} {v:V} (e:H a=some (.dK kvs)) (hl:kvs.length<sizeLine):DPut H a (kV k) v (upd H a (.dK (putK kvs k v))):= .inl ⟨kvs,k,e,rfl,hl,rfl⟩
theorem DPut.t {H:Hp} {a b:Addr} {kvs:List (TKey×V)} {k:TKey} {v:V} (e:H a=some (.dT kvs)) (eb:TKeyAt H k b) (hl:kvs.length<sizeLine):
  DPut H a (.ref b) v (upd H a (.dT (putK kvs k v))):= .inr ⟨kvs,k,b,e,rfl,eb,hl,rfl⟩
section
variable {X:Cx} {pins:List (Addr×Obj)} {σ:St} {H:Hp} {s:Shared} {a:Addr} {y v:V} {u r:Value} {o:Option V} {A:Around} {E:Value->Shared->Prop}
theorem Inv.big (I:Inv X pins σ H s):sysModules<s.heap.objs.size:=by
 have h:mainGlobals<s.heap.objs.size:=(I.mod.glob.keeps I.bk).lt
 exact Nat.lt_trans (by decide) h
theorem qKs {Q:Value->Shared->Prop} (hu:A.units+20<cLine) (I:Inv X pins σ H s) (g:DGet H a y (some v)) (ry:RelV y u) (h:∀w' s',Inv X pins σ H s'->RelV v w'->Q w' s'):
  wpAny (model X.prog X.w) A (getItem (.ref a) u) Q E s:=by
 rcases g with ⟨kvs,k,e,ey,l⟩ | ⟨kvs,k,b,e,ey,eb,l⟩
 ·subst ey
  obtain⟨z,hd,vs,rel,dd⟩:=qVi I.hok e
  obtain⟨w',hw,rw'⟩:=RelO.some_of (v:=v) (o:=valueAt vs k) (by rw[l];exact rel.val k)
  exact wpAny_getItem_of (kVq ry) dd.mapOf hw (h w' _ (I.tok _) rw')
 ·subst ey
  cases (show u=Value.ref b from ry)
  obtain⟨z,hd,xs,rel,dd⟩:=qVg I.hok e
  obtain⟨w',hw,rw'⟩:=RelO.some_of (v:=v) (o:=(atKey xs k).map (·.2)) (by rw[l];exact rel.val k)
  obtain⟨p,hp,hp2⟩:=lQe.mp hw
  refine wpAny_getItem_heap (jK3 hu) (kQ2 I.hok eb) dd hp ?_
  rw[hp2]
  exact h w' _ (I.tok _) rw'
theorem qZf {Q:Value->Shared->Prop} (hu:A.units+20<cLine) (I:Inv X pins σ H s) (g:DGet H a y o) (ry:RelV y u) (h:∀s',Inv X pins σ H s'->Q (.bool (!o.isSome)) s'):
  wpAny (model X.prog X.w) A (compareOp .NotIn u (.ref a)) Q E s:=by
 rcases g with ⟨kvs,k,e,ey,l⟩ | ⟨kvs,k,b,e,ey,eb,l⟩
 ·subst ey
  obtain⟨z,hd,vs,rel,dd⟩:=qVi I.hok e
  refine wpAny_notIn_of (kVq ry) hd dd.mapOf ?_
  rw[<-(rel.val k).isSome_eq,<-l]
  exact h _ (I.tok _)
 ·subst ey
  cases (show u=Value.ref b from ry)
  obtain⟨z,hd,xs,rel,dd⟩:=qVg I.hok e
  refine wpAny_notIn_heap (jK3 hu) (kQ2 I.hok eb) hd dd ?_
  have q:=(rel.val k).isSome_eq
  rw[Option.isSome_map] at q
  rw[<-q,<-l]
  exact h _ (I.tok _)
theorem kVw {h':Heap} {t':Nat} {ob:HO} (I:Inv X pins σ H s) (mu:Mut (H a)) (hs:Heap.SameBut a s.heap h') (he:∃q,h'.get? a=some q) (new:ObjOk X.prog X.w (upd H a ob) h' a ob):
  Inv X pins σ (upd H a ob) {s with heap:=h',toks:=t'}:=
 I.write (x:=a) (e:=a) mu (.inl rfl) (fun b q hb z=>(hs.2 b hb).trans z) he new
theorem qXe {P:Program} {w:World} {H':Hp} {h':Heap} {kvs:List (Key×V)} {vs:List (Key×Value)} (z:kvs.length<=sizeLine) (hd:(a == sysModules)=false) (rel:KV kvs vs) (dd:h'.DictOf (jKl P w) a vs):
  ObjOk P w H' h' a (.dK kvs):=⟨z,hd,vs,rel,dd⟩
theorem kUa {H':Hp} {Q:Unit->Shared->Prop} (hu:A.units+20<cLine) (I:Inv X pins σ H s) (g:DPut H a y v H') (ry:RelV y u) (rv:RelV v r) (h:∀s',Inv X pins σ H' s'->Q () s'):
  wpAny (model X.prog X.w) A (setItem (.ref a) u r) Q E s:=by
 rcases g with ⟨kvs,k,e,ey,l,eH⟩ | ⟨kvs,k,b,e,ey,eb,l,eH⟩
 ·subst ey eH
  obtain⟨z,hd,vs,rel,dd⟩:=dk_of I.hok e
  have hz:vs.length<=sizeLine:=by rw[<-rel.length];exact z
  have hl:(putK kvs k v).length<=sizeLine:=by have:=jZu kvs k v;omega
  refine wpAny_setItem_pairs (hsz:=hz) (kVq ry) dd fun h' dd' hs=>h _ ?_
  have he:∃q,h'.get? a=some q:=let ⟨q,_,_,hq,_⟩:=dd';⟨q,hq⟩
  exact kVw I (by rw[e];exact True.intro) hs he (qXe hl hd (rel.put k rv) dd')
 ·subst ey eH
  cases (show u=Value.ref b from ry)
  obtain⟨z,hd,xs,rel,dd⟩:=dt_of I.hok e
  have hz:xs.length<=sizeLine:=by rw[<-lV6 rel];exact z
  have hl:(putK kvs k v).length<=sizeLine:=by have:=jZu kvs k v;omega
  refine wpAny_setItem_heap (hsz:=hz) (jK3 hu) (kQ2 I.hok eb) dd fun h' dd' hs=>h _ ?_
  obtain⟨q,es,ep,hq,h2,h3,h4,_,h5⟩:=dd'
  refine kVw I (by rw[e];exact True.intro) hs ⟨q,hq⟩ ⟨hl,hd,_,(rel.put k eb rv).keeps fun c ys ec=> ?_,q,es,ep,hq,h2,h3,h4,h5⟩
  rw[jJw (ne_of ec e (fun z=>nomatch z))]
  exact ec
end
section
variable {X:Cx} {pins:List (Addr×Obj)} {σ:St} {H:Hp} {s:Shared} {a:Addr} {kvs:List (Key×V)} {k:Key} {u:Value} {A:Around} {E:Value->Shared->Prop}
end
theorem kVv {X:Cx} {pins:List (Addr×Obj)} {σ:St} {H:Hp} {s:Shared} {a:Addr} {y:V} {o:Option V} (I:Inv X pins σ H s) (g:DGet H a y o):s.TypeIs (.ref a) "dict":=by
 rcases g with ⟨kvs,k,e,_,_⟩ | ⟨kvs,k,b,e,_,_,_⟩
 ·obtain⟨_,_,vs,_,dd⟩:=qVi I.hok e
  exact dd.typeIs
 ·obtain⟨_,_,xs,_,dd⟩:=qVg I.hok e
  exact dd.typeIs
section
variable {X:Cx} {o i e value:Expr} {pos pos' tpos:Pos} {td ty tv:TE}
end
theorem kXz {P:Program} {w:World} {H:Hp} (h:Heap) (hb:sysModules<h.objs.size):ObjOk P w H (h.push {cls:= .type "dict",data:= .dict #[]}) h.objs.size (.dK []):=
 ⟨lJu _,beq_eq_false_iff_ne.mpr (Ne.symm (lJw hb)),[],.nil,Heap.DictOf.new h⟩
theorem qVh {P:Program} {w:World} {H:Hp} (h:Heap) (hb:sysModules<h.objs.size):ObjOk P w H (h.push {cls:= .type "dict",data:= .dict #[]}) h.objs.size (.dT []):=
 ⟨lJu _,beq_eq_false_iff_ne.mpr (Ne.symm (lJw hb)),[],.nil,_,#[],0,lJ8 _ rfl,⟨rfl,rfl,rfl⟩,rfl,rfl,lXx⟩
def tDNewK:TE:=fun _ H Q=>∀p,H p=none->Q (.ref p) (upd H p (.dK []))
def tDNewT:TE:=fun _ H Q=>∀p,H p=none->Q (.ref p) (upd H p (.dT []))
section
variable {X:Cx} {pos:Pos}
theorem qQ6:PE X (.Dict [] [] pos) tDNewK:=fun pins s σ H Q I h=>
 wpAny_Dict_empty ⟨.ref s.heap.objs.size,_,I.laid (a:=s.heap.objs.size) (o:= .dK []) (t':=s.toks) (fun _ _ q=>lJs _ q) (lJh _) (kXz s.heap I.big),rfl,h _ (I.hok.fresh (lJh _))⟩
theorem qQ5:PE X (.Dict [] [] pos) tDNewT:=fun pins s σ H Q I h=>
 wpAny_Dict_empty ⟨.ref s.heap.objs.size,_,I.laid (a:=s.heap.objs.size) (o:= .dT []) (t':=s.toks) (fun _ _ q=>lJs _ q) (lJh _) (qVh s.heap I.big),rfl,h _ (I.hok.fresh (lJh _))⟩
end
abbrev VV:List (V×V)->List (Value×Value)->Prop:=Paired fun p q=>RelV p.1 q.1/\RelV p.2 q.2
def mergeK (kvs more:List (Key×V)):List (Key×V):=more.foldl (fun acc kv=>putK acc kv.1 kv.2) kvs
theorem KV.merge:∀ {more:List (Key×V)} {rs:List (Key×Value)} {kvs:List (Key×V)} {vs:List (Key×Value)},KV more rs->KV kvs vs->KV (mergeK kvs more) (merged vs rs):=by
 intro more rs kvs vs r
 unfold KV at r
 induction r generalizing kvs vs with
 | nil=>intro q;exact q
 | @cons p q ps qs h t ih=>
  intro r0
  have e:KV (putK kvs p.1 p.2) (stored vs q.1 q.2):=by
   have:=r0.put p.1 h.2
   rw[<-h.1];exact this
  exact ih e
theorem kJ6 {P:Program} {w:World}:∀ {kvs:List (Key×V)} {ws:List (Value×Value)},VV (kvs.map fun kv=>(kV kv.1,kv.2)) ws->∃rs,Carries (jKl P w) ws rs/\KV kvs rs
 | [],_,r=>by rw[List.map_nil] at r;cases r;exact⟨[],True.intro,.nil⟩
 | p::kvs,_,r=>by
  rw[lJp] at r
  cases r with
  | @cons a b as bs h t=>
   obtain⟨rs,c,q⟩:=kJ6 (P:=P) (w:=w) t
   obtain⟨b1,b2⟩:=b
   exact⟨(p.1,b2)::rs,⟨kVq h.1,rfl,c⟩,.cons ⟨rfl,h.2⟩ q⟩
section
variable {X:Cx} {pins:List (Addr×Obj)} {σ:St} {H:Hp} {s:Shared} {a:Addr} {y d:V} {u r:Value} {o:Option V} {A:Around} {E:Value->Shared->Prop}
end
section
variable {X:Cx} {o e f:Expr} {apos cpos:Pos} {td ty tx:TE}
end
section
variable {X:Cx} {pins:List (Addr×Obj)} {σ:St} {H:Hp} {s:Shared} {a:Addr} {kvs:List (Key×V)} {A:Around} {E:Value->Shared->Prop}
end
section
variable {X:Cx} {pins:List (Addr×Obj)} {σ:St} {H:Hp} {s:Shared} {a:Addr} {y:V} {u:Value} {A:Around} {E:Value->Shared->Prop}
end
end L2
namespace Att
open PySem PySem.W PySem.Calls PyProof.Rows
theorem jZw {P:Params} {h:Heap}:∀(ns:List Int) (vs:List Value),WellAll P h vs (ns.map WData.int)->IntsAre vs ns:=by
 intro ns
 induction ns with
 | nil=>
  intro vs w
  rw[List.map_nil] at w
  cases w
  exact .nil
 | cons n ns ih=>
  intro vs w
  rw[lJp] at w
  cases w with
  | cons a b=>
   cases a
   exact .cons _ _ (ih _ b)
theorem kZu {l:OpenLaw} {n:Nat} (hn:l.most=some n) {P:Params} {h:Heap} {args:List WData} {vals:List Value}
  (hpre:l.row.toRowW.claim.pre args=true) (hwl:WellAll P h vals args):
  ∃a vs ns,vals=[Value.ref a]/\args=[WData.list (ns.map WData.int)]/\h.get? a=some {cls:= .type "list",data:= .seq vs.toArray}/\IntsAre vs ns/\ns.length<=n:=by
 have hsh:WShape.hasAll [] args [.list .int]=true:=(pre_splitW hpre).1
 have hc:l.pre.holds [] {args:=args}=true:=(pre_splitW hpre).2
 obtain⟨d,r,rfl,h1,h2⟩:=hasAllW_cons hsh
 obtain rfl:=hasAllW_nil h2
 obtain⟨xs,rfl,h3⟩:=hasW_list h1
 obtain⟨ns,rfl⟩:=items_int h3
 have hlen:ns.length<=n:=by
  unfold OpenLaw.pre at hc
  have h4:(WTm.not (.lt (.lit (.int (n:Int))) (.len (.arg 0)))).holds [] {args:=[.list (ns.map .int)]}=true:=by
   have h4:=(holds_andW hc).1
   rw[hn] at h4
   exact h4
  have h5:=condW_of h4 (w_not (w_lt w_lit (w_len_list (w_arg rfl))))
  rw[lJg] at h5
  refine Nat.le_of_not_lt fun q=> ?_
  have q':(n:Int)<((ns.length:Nat):Int):=by omega
  first
   | (rw[lJ3 q'] at h5;exact absurd h5 (by decide))
   | (simp at h5;omega)
 cases hwl with
 | cons w1 w2=>
  cases w2
  cases w1 with
  | list ho hall=>exact⟨_,_,ns,rfl,rfl,ho,jZw ns _ hall,hlen⟩
theorem qJc (l:OpenLaw) (args:List WData):l.row.toRowW.claim.post args (.bool true) args=true:=
 postW_of (r:=l.row.toRowW) (X:=(true == true))
  (show WShape.has [] (.bool true) .bool=true by first | rfl | decide | simp[WShape.has,WShape.arms,WShape.armsAll])
  (show (WTm.eq .res (.lit (.bool true))).value [] {args:=args,res:=some (.bool true),after:=args}=some (.bool (true == true)) from w_eq_bool (w_res rfl) w_lit) rfl
theorem attach_call {l:OpenLaw} {n:Nat} {q:Program} {loose:List Str} {XP:(Str->Option Value)->Heap->Prop} {YP:World->Heap->Prop} {d:DefRec}
  (hn:l.most=some n) (hdf:d.params.defaults=[])
  (call:∀(w:World) (s₀ s₁:Shared) (mg mb:Str->Option Value) (fa:Addr) (o:Obj) (pm cd doc:Value) (a:Addr) (vs:List Value) (ns:List Int),
   Ground q loose [] XP w s₀ mg mb s₁.heap->YP w s₁.heap->
   s₁.heap.get? fa=some o->o.data= .func (docDef d.name d.params d.body d.scope pm cd doc)->s₁.heap.CodeRec cd d.name->mg d.name=some (.ref fa)->
   s₁.heap.get? a=some {cls:= .type "list",data:= .seq vs.toArray}->IntsAre vs ns->ns.length<=n->s₁.gens= #[]->
   codeAny (model l.prog w) callerA (.call (.ref fa) ⟨[.ref a],[]⟩) (fun r s'=>r= .ok (.ret (.bool true))/\OldK s₁.heap s'.heap/\s'.os=s₁.os/\AllBare s'.gens) s₁):
  WalkO q loose XP YP l.row.toRowW d [] (fun f vs=>PySem.call f vs):=by
 intro w s₀ s₁ mg mb G Y fa o pm cd doc dV kV ho hd hcd hD hmg hg args vals as hpre hlay hrd hwl hlo
 obtain rfl:dV= .none:=Dflts.none hD hdf
 obtain rfl:kV= .none:=Dflts.noKw hD
 obtain⟨a,vs,ns,rfl,rfl,hobj,hints,hlen⟩:=kZu hn hpre hwl
 refine enter_call (lXn (call w s₀ s₁ mg mb fa o pm cd doc a vs ns G Y ho (fd_plain hd) hcd hmg hobj hints hlen hg) fun r s' hq=> ?_)
 obtain⟨rfl,h2,h3,h4⟩:=hq
 exact⟨.inl ⟨.bool true,.bool true,[],rfl,fun _=>rfl,.bool true,qJc l _,fun _=>⟨List.Pairwise.nil,fun _ hm=>(nomatch hm)⟩⟩,h2,h3,h4⟩
section
variable {prog:Program} {w:World} {A:Around} {E:Value->Shared->Prop} {s:Shared} {K:Frag}
end
end Att
namespace L2
open PySem PySem.Spec PyProof.Rows
theorem kQh:∀ {vs:List Value} {ns:List Int},IntsAre vs ns->Vals (ns.map V.int) vs
 | _,_,.nil=> .nil
 | _,_,.cons n t h=> .cons ⟨t,rfl⟩ (kQh h)
def Only (H:Hp):Prop:=∀b,H b=none\/∃o xs,H b=some (.frz o (.lst xs))
theorem qUr {P:Program} {w:World} {K:PySem.W.Frag} {mg mb:Str->Option Value} {CX:CXT} {k:Nat} {fa a:Addr} {fd:FuncData} {x:Str} {sp:Sp} {s₁:Shared} {vs:List Value} {ns:List Int}
  (KX:K.In s₁.heap) (hns:s₁.heap.Ns mainGlobals mg) (hb:s₁.heap.Ns builtinsNs mb) (hbb:∀x:Str,x≠"__name__"->mb x=bootBuiltins x) (hlim:s₁.heap.NoLimit) (hg:s₁.gens= #[])
  (ha:s₁.heap.get? a=some {cls:= .type "list",data:= .seq vs.toArray}) (hi:IntsAre vs ns) (hl:ns.length<=sizeLine) (hr:Room k callerA)
  (F:∀base:Heap,K.In base->base.Ns mainGlobals mg->FnOk P w K mg base CX k fa fd [x] sp) (hbind:∀(s:Shared) (u:Value),BindsTo s fd ⟨[u],[]⟩ [(x,u)])
  (hsp:∀H:Hp,Only H->SqL K H a (ns.map V.int)->sp [.ref a] H (fun v _=>v= .bl true) fun _ _ _=>False)
  (hCX:∀H e s',CX [] H s₁ (fun _ _ _=>False) e s'->False):
  codeAny (model P w) callerA (.call (.ref fa) ⟨[.ref a],[]⟩) (fun r s'=>r= .ok (.ret (.bool true))/\OldK s₁.heap s'.heap/\s'.os=s₁.os/\AllBare s'.gens) s₁:=by
 have rv:=kQh hi
 have lenV:=hi.length
 have core:∀H:Hp,Only H->SqL K H a (ns.map V.int)->HOk P w H s₁.heap->(∀b,H b≠none->b=a)->(H a≠none->K.lookup a=none)->
   codeAny (model P w) callerA (.call (.ref fa) ⟨[.ref a],[]⟩) (fun r s'=>r= .ok (.ret (.bool true))/\OldK s₁.heap s'.heap/\s'.os=s₁.os/\AllBare s'.gens) s₁:=by
  intro H hO hS hok hA hK
  have base_of:∀ {b:Addr} {o:Obj},s₁.heap.get? b=some o->H b=none->(hidT s₁.heap H).get? b=some o:=fun e n=>qU7 e n
  have noA:∀ {b:Addr} {o:Obj} {es:Array DictEntry} {ep:Nat},s₁.heap.get? b=some o->o.data= .dict es ep->H b=none:=fun {b o es ep} e d=>by
   cases q:H b with
   | none=>rfl
   | some u=>
    have e':b=a:=hA b (by rw[q];simp)
    subst e'
    rw[ha] at e;cases e
    have d':Data.seq vs.toArray _=Data.dict es ep:=d
    cases d'
  have nsK:∀ {b:Addr} {m:Str->Option Value},s₁.heap.Ns b m->(hidT s₁.heap H).Ns b m:=fun {b m} ⟨o,es,ep,e,d,r⟩=>⟨o,es,ep,base_of e (noA e d),d,r⟩
  have hKb:K.In (hidT s₁.heap H):=fun b o e=>base_of (KX b o e) (by
   cases q:H b with
   | none=>rfl
   | some u=>
    have e':b=a:=hA b (by rw[q];simp)
    subst e'
    rw[hK (by rw[q];simp)] at e;cases e)
  have hM:Mod K mg (hidT s₁.heap H):=⟨hKb,nsK hns,⟨mb,nsK hb,hbb⟩,let ⟨mc,h1,h2⟩:=hlim;⟨mc,nsK h1,h2⟩⟩
  have e0:Env0 P w K mg (hidT s₁.heap H) callerA [] s₁ H:=⟨rfl,hM,fun b o e=>qYa e,Nat.le_of_eq (qJ6 _ _),trivial,fun b hb=>absurd (show b∈([]:List Addr) from hb) (by simp),hok,.of_eq hg⟩
  refine lXn ((F _ hKb (nsK hns)).run callerA [] s₁ H ⟨[.ref a],[]⟩ [.ref a] [.ref a] _ _ hr e0 (hbind s₁ (.ref a)) (.cons rfl .nil) (hsp H hO hS)) fun r s' h=> ?_
  cases r with
  | error e=>exact (hCX H e s' h).elim
  | ok fl=>
   cases fl with
   | next=>exact False.elim h
   | brk=>exact False.elim h
   | cont=>exact False.elim h
   | ret u=>
    obtain⟨v,H',os,bare,un,hok',r',q⟩:=h
    have q':v= .bl true:=q
    subst q'
    obtain rfl:u=Value.bool true:=r'
    refine⟨rfl,OldK.of_keep fun b o e=> ?_,os,bare⟩
    cases q:H b with
    | none=>exact un.keep b o e q (by intro z;exact absurd (show b∈([]:List Addr) from z) (by simp)) (by simp)
    | some u=>
     rcases hO b with z | ⟨ob,xs,z⟩
     ·rw[q] at z;cases z
     ·have z2:=un.frzs b ob _ z
      obtain⟨e1,_⟩:=hok b _ z
      obtain⟨e2,_⟩:=hok' b _ z2
      rw[e] at e1;cases e1
      exact e2
 cases hk:K.lookup a with
 | some o=>
  have e:=KX a o hk
  rw[ha] at e
  cases e
  refine core (fun _=>none) (fun _=> .inl rfl) (.inr ⟨_,vs.toArray,_,hk,rfl,rfl,rfl,by rw[lJy,lenV];exact hl,by simpa using rv⟩) (fun b u z=>by have z':(none:Option HO)=some u:=z;cases z') (fun b z=>absurd rfl z) fun z=>absurd rfl z
 | none=>
  refine core (fun b=>if b=a then some (.frz {cls:= .type "list",data:= .seq vs.toArray} (.lst (ns.map V.int))) else none) (fun b=> ?_) (.inl (.inr ⟨{cls:= .type "list",data:= .seq vs.toArray},lJc rfl⟩)) (fun b u z=> ?_) (fun b z=> ?_) fun _=>hk
  ·by_cases hb:b=a
   ·exact .inr ⟨_,_,lJc hb⟩
   ·exact .inl (lJa hb)
  ·by_cases hb:b=a
   ·have z':=(lJc hb).symm.trans z
    cases z'
    subst hb
    exact⟨ha,by rw[lJg];exact hl,vs,_,rv,ha⟩
   ·have z':=(lJa hb).symm.trans z
    cases z'
  ·by_cases hb:b=a
   ·exact hb
   ·exact absurd (lJa hb) z
theorem walk_of {l:PySem.W.OpenLaw} {n k:Nat} {q:Program} {loose:List Str} {XP:(Str->Option Value)->Heap->Prop} {YP:World->Heap->Prop} {d:DefRec} {K:Params->PySem.W.Frag} {CX:World->CXT} {sp:World->Sp} {x:Str}
  (hn:l.most=some n) (hn2:n<=sizeLine) (hdf:d.params.defaults=[]) (hr:Room k callerA)
  (hY:∀(w:World) (h:Heap),YP w h->(K w.params).In h)
  (F:∀(w:World) (mg:Str->Option Value) (fa:Addr) (h:Heap),(K w.params).In h->h.Ns mainGlobals mg->mg d.name=some (.ref fa)->
   ∃fd:FuncData,(∀(s:Shared) (u:Value),BindsTo s fd ⟨[u],[]⟩ [(x,u)])/\
    ∀base:Heap,(K w.params).In base->base.Ns mainGlobals mg->FnOk l.prog w (K w.params) mg base (CX w) k fa fd [x] (sp w))
  (hsp:∀(w:World) (H:Hp) (a:Addr) (ns:List Int),ns.length<=n->Only H->SqL (K w.params) H a (ns.map V.int)->sp w [.ref a] H (fun v _=>v= .bl true) fun _ _ _=>False)
  (hCX:∀(w:World) (H:Hp) (s:Shared) (e:Value) (s':Shared),CX w [] H s (fun _ _ _=>False) e s'->False):
  PySem.W.WalkO q loose XP YP l.row.toRowW d [] (fun f vs=>PySem.call f vs):=by
 refine Att.attach_call hn hdf fun w s₀ s₁ mg mb fa o pm cd doc a vs ns G Y ho hd hcd hmg hobj hints hlen hg=> ?_
 have KX:=hY w _ Y
 obtain⟨fd,hb,hF⟩:=F w mg fa _ KX G.T.g hmg
 exact qUr KX G.T.g G.T.b G.T.builtins G.T.nolimit hg hobj hints (lKf hlen hn2) hr hF hb (fun H hO hS=>hsp w H a ns hlen hO hS) fun H e s'=>hCX w H s₁ e s'
noncomputable def jU7 (s:Stmt):Arguments:=match s with
 | .FunctionDef _ a _ _ _ _ _ _ _ _=>a
 | _=>{posonlyargs:=[],args:=[],vararg:=none,kwonlyargs:=[],kw_defaults:=[],kwarg:=none,defaults:=[]}
def jK7 (s:Stmt):List Stmt:=match s with
 | .FunctionDef _ _ b _ _ _ _ _ _ _=>b
 | _=>[]
def jJq (s:Stmt):Scope:=match s with
 | .FunctionDef _ _ _ _ _ _ sc _ _ _=>sc
 | _=>{kind:= .function,names:=[],isGenerator:=false,isCoroutine:=false}
abbrev CX0:CXT:=fun _ _ _ _ _ _=>False
abbrev E0:XK:=fun _ _ _=>False
theorem pass0 {X:Cx}:qXi CX0 X E0:=fun _ _ _ _ _ _ _ h=>h.elim
structure Fun (K:PySem.W.Frag) (x qual:Str) (st:Stmt) (f:Addr) (fd:FuncData):Prop where
 ex:∃(oc:Value) (od:Option Addr) (kV doc pm:Value) (an:Option Addr) (cdv ct:Value) (osl:Array (Option Value)),
  fd=PySem.W.fnOf x qual (jU7 st) (jK7 st) (jJq st) .none kV doc pm an cdv ct/\K.lookup f=some ⟨oc,od,.func fd,osl⟩/\PySem.W.codeIn K cdv qual=true
 kp:PySem.W.keepIn K (.ref f)=true
section
variable {P:Program} {w:World} {K:PySem.W.Frag} {mg:Str->Option Value} {base:Heap}
theorem Fun.ok {x qual:Str} {st:Stmt} {f:Addr} {fd:FuncData} {N ps:List Str} {k:Nat} {sp:Sp} (F:Fun K x qual st f fd) (S:FnScope N ps (jJq st)) (len:∀vs H Q E,sp vs H Q E->vs.length=ps.length)
  (hbody:∀(cdv:Value) (A:Around) (outer:List Env) (s:Shared) (H:Hp) (vs:List V) (Q:VK) (E:XK),Room k (A.deeper (envOfC qual (jJq st) s.heap.objs.size f cdv))->sp vs H Q E->
   ∃t,PSs (cxOf CX0 P w K mg base N qual (jJq st) f cdv A outer s H E).nox (jK7 st) t/\t {nx:=fun _ H'=>Q .non H',rt:=Q} (start N vs) H):FnOk P w K mg base CX0 (k+1) f fd ps sp:=by
 obtain⟨oc,od,kV,doc,pm,an,cdv,ct,osl,rfl,lk,hcd⟩:=F.ex
 refine fn_of lk hcd S len fun A outer s H vs Q E hr hsp=> ?_
 obtain⟨t,h,q⟩:=hbody cdv A outer s H vs Q E hr hsp
 exact⟨t,h.nox,q⟩
theorem Fun.binds {x qual:Str} {st:Stmt} {f:Addr} {fd:FuncData} {ps:List Str} (F:Fun K x qual st f fd)
  (h:∀(kV doc pm:Value) (an:Option Addr) (cdv ct:Value) (us:List Value),us.length=ps.length->bindArgs (PySem.W.fnOf x qual (jU7 st) (jK7 st) (jJq st) .none kV doc pm an cdv ct) ⟨us,[]⟩=pure (ps.zip us)):Binds K fd ps []:=by
 obtain⟨oc,od,kV,doc,pm,an,cdv,ct,osl,rfl,lk,hcd⟩:=F.ex
 exact .all (h kV doc pm an cdv ct)
theorem fun_mk {x qual:Str} {st:Stmt} {f:Addr} {oc:Value} {od an:Option Addr} {osl:Array (Option Value)} {kV doc pm cdv ct:Value} (l:K.lookup f=some ⟨oc,od,.func (PySem.W.fnOf x qual (jU7 st) (jK7 st) (jJq st) .none kV doc pm an cdv ct),osl⟩)
  (c:PySem.W.codeIn K cdv qual=true) (k:PySem.W.keepIn K (.ref f)=true):Fun K x qual st f (PySem.W.fnOf x qual (jU7 st) (jK7 st) (jJq st) .none kV doc pm an cdv ct):=⟨⟨oc,od,kV,doc,pm,an,cdv,ct,osl,rfl,l,c⟩,k⟩
end
theorem qYz {A:Around} {k:Nat} (hr:Room k A):A.units+20<cLine:=Nat.lt_of_le_of_lt (Nat.add_le_add_left (by decide:20<=64) _) hr.units
section
variable {X:Cx}
end
end L2
set_option Elab.async false
set_option linter.all false
set_option maxRecDepth 100000
set_option maxHeartbeats 5000000
namespace L3
open PySem PySem.Spec PyProof.Rows L2
inductive T where
 | non | bl (b:Bool) | int (i:Int) | str (x:Str) | tup (xs:List T) | scr (xs:List T) | ref (a:Addr) | ty (n:String)
structure Ext (H H':Hp):Prop where
 tup:∀b xs,H b=some (.tup xs)->H' b=some (.tup xs)
 frz:∀b ob u,H b=some (.frz ob u)->H' b=some (.frz ob u)
theorem Ext.refl (H:Hp):Ext H H:=⟨fun _ _ h=>h,fun _ _ _ h=>h⟩
theorem Ext.trans {H H1 H2:Hp} (a:Ext H H1) (b:Ext H1 H2):Ext H H2:=⟨fun c o h=>b.tup c o (a.tup c o h),fun c o u h=>b.frz c o u (a.frz c o u h)⟩
def FrL (K:PySem.W.Frag) (H:Hp) (a:Addr) (xs:List V):Prop:=
 (∃ob,H a=some (.frz ob (.lst xs)))\/
  ∃(o:Obj) (its:Array Value) (n:Nat),K.lookup a=some o/\o.cls= .type "list"/\o.dict=none/\o.data= .seq its n/\its.size<=sizeLine/\Vals xs its.toList
theorem FrL.sq {K:PySem.W.Frag} {H:Hp} {a:Addr} {xs:List V} (h:FrL K H a xs):SqL K H a xs:=by
 rcases h with ⟨ob,h⟩ | h
 ·exact .inl (.inr ⟨ob,h⟩)
 ·exact .inr h
theorem FrL.mono {K:PySem.W.Frag} {H H':Hp} {a:Addr} {xs:List V} (e:Ext H H') (h:FrL K H a xs):FrL K H' a xs:=by
 rcases h with ⟨ob,h⟩ | h
 ·exact .inl ⟨ob,e.frz _ _ _ h⟩
 ·exact .inr h
mutual
noncomputable def Rep (K:PySem.W.Frag) (H:Hp):T->V->Prop
 | .non,v=>v= .non
 | .bl b,v=>v= .bl b
 | .int i,v=>v= .int i
 | .str x,v=>v= .str x
 | .ref a,v=>v= .ref a
 | .ty n,v=>v= .ty n
 | .tup xs,v=>∃a vs,v= .ref a/\H a=some (.tup vs)/\Reps K H xs vs
 | .scr xs,v=>∃a vs,v= .ref a/\FrL K H a vs/\Reps K H xs vs
noncomputable def Reps (K:PySem.W.Frag) (H:Hp):List T->List V->Prop
 | [],vs=>vs=[]
 | x::xs,vs=>∃v ws,vs=v::ws/\Rep K H x v/\Reps K H xs ws
end
mutual
theorem Rep.mono {K:PySem.W.Frag} {H H':Hp} (e:Ext H H'):∀(x:T) {v:V},Rep K H x v->Rep K H' x v
 | .non,_,h=>h
 | .bl _,_,h=>h
 | .int _,_,h=>h
 | .str _,_,h=>h
 | .ref _,_,h=>h
 | .ty _,_,h=>h
 | .tup xs,_,⟨a,vs,r1,r2,r3⟩=>⟨a,vs,r1,e.tup _ _ r2,Reps.mono e xs r3⟩
 | .scr xs,_,⟨a,vs,r1,r2,r3⟩=>⟨a,vs,r1,r2.mono e,Reps.mono e xs r3⟩
theorem Reps.mono {K:PySem.W.Frag} {H H':Hp} (e:Ext H H'):∀(xs:List T) {vs:List V},Reps K H xs vs->Reps K H' xs vs
 | [],_,h=>h
 | x::xs,_,⟨v,ws,r1,r2,r3⟩=>⟨v,ws,r1,Rep.mono e x r2,Reps.mono e xs r3⟩
end
section
variable {K:PySem.W.Frag} {H:Hp}
theorem Reps.length:∀ {xs:List T} {vs:List V},Reps K H xs vs->xs.length=vs.length
 | [],_,h=>by cases h;rfl
 | _::_,_,⟨_,_,r1,_,r3⟩=>by subst r1;simp[Reps.length r3]
theorem Reps.get:∀ {xs:List T} {vs:List V} {i:Nat} {x:T},Reps K H xs vs->xs[i]? =some x->∃v,vs[i]? =some v/\Rep K H x v
 | [],_,_,_,_,e=>by simp at e
 | y::ys,_,0,x,⟨v,ws,r1,r2,r3⟩,e=>by subst r1;simp at e;subst e;exact⟨v,rfl,r2⟩
 | y::ys,_,i+1,x,⟨v,ws,r1,r2,r3⟩,e=>by subst r1;simpa using Reps.get r3 (by simpa using e)
theorem Reps.get':∀ {xs:List T} {vs:List V} {i:Nat} {v:V},Reps K H xs vs->vs[i]? =some v->∃x,xs[i]? =some x/\Rep K H x v
 | [],_,_,_,h,e=>by cases h;simp at e
 | y::ys,_,0,x,⟨v,ws,r1,r2,r3⟩,e=>by subst r1;simp at e;subst e;exact⟨y,rfl,r2⟩
 | y::ys,_,i+1,x,⟨v,ws,r1,r2,r3⟩,e=>by subst r1;simpa using Reps.get' r3 (by simpa using e)
theorem Reps.append:∀ {xs ys:List T} {vs ws:List V},Reps K H xs vs->Reps K H ys ws->Reps K H (xs++ys) (vs++ws)
 | [],_,_,_,h,h2=>by cases h;exact h2
 | _::_,_,_,_,⟨v,ws,r1,r2,r3⟩,h2=>by subst r1;exact⟨v,_,rfl,r2,Reps.append r3 h2⟩
theorem Reps.one {x:T} {v:V} (r:Rep K H x v):Reps K H [x] [v]:=⟨v,[],rfl,r,rfl⟩
theorem Reps.set {x:T} {v:V} (r:Rep K H x v):∀ {xs:List T} {vs:List V} (i:Nat),Reps K H xs vs->Reps K H (xs.set i x) (vs.set i v)
 | [],_,_,e=>by cases e;rfl
 | _::_,_,0,⟨_,ws,r1,r2,r3⟩=>by subst r1;exact⟨v,ws,rfl,r,r3⟩
 | _::_,_,i+1,⟨u,ws,r1,r2,r3⟩=>by subst r1;exact⟨u,_,rfl,r2,Reps.set r i r3⟩
theorem Reps.take:∀ {xs:List T} {vs:List V} (n:Nat),Reps K H xs vs->Reps K H (xs.take n) (vs.take n)
 | _,_,0,_=>by simp[Reps]
 | [],_,_+1,h=>by cases h;simp[Reps]
 | _::_,_,n+1,⟨u,ws,r1,r2,r3⟩=>by subst r1;exact⟨u,_,rfl,r2,Reps.take n r3⟩
theorem Reps.drop:∀ {xs:List T} {vs:List V} (n:Nat),Reps K H xs vs->Reps K H (xs.drop n) (vs.drop n)
 | _,_,0,h=>h
 | [],_,_+1,h=>by cases h;simp[Reps]
 | _::_,_,n+1,⟨u,ws,r1,r2,r3⟩=>by subst r1;exact Reps.drop n r3
theorem Reps.rep {xs:List T} {vs:List V} (r:Reps K H xs vs):∀n:Nat,Reps K H (List.replicate n xs).flatten (List.replicate n vs).flatten
 | 0=>by simp[Reps]
 | n+1=>by simpa[lVr] using r.append (Reps.rep r n)
theorem Reps.atI {xs:List T} {vs:List V} {i:Int} {x:T} (r:Reps K H xs vs) (h:atI xs i=some x):∃v,atI vs i=some v/\Rep K H x v:=by
 unfold L2.atI at h ⊢
 rw[<-r.length]
 cases e:ixN xs.length i with
 | none=>rw[e] at h;cases h
 | some j=>rw[e] at h;exact r.get h
end
inductive GO where
 | lst (xs:List T) | dct (kvs:List (TKey×T)) | dck (kvs:List (Key×T)) | fdc (kvs:List (TKey×T)) | ins (cn:Str) (fs:List (Str×T)) | exc (cn:Str)
abbrev Gp:=Addr->Option GO
def gup (G:Gp) (a:Addr) (o:GO):Gp:=fun b=>if b=a then some o else G b
theorem jJh {G:Gp} {a:Addr} {o:GO}:gup G a o a=some o:=by simp[gup]
theorem jJu {G:Gp} {a b:Addr} {o:GO} (h:b≠a):gup G a o b=G b:=by simp[gup,h]
theorem qJ9 {G:Gp} {a:Addr} {o o':GO}:gup (gup G a o) a o'=gup G a o':=by funext b;by_cases h:b=a<;>simp[gup,h]
def asL:Option GO->Option (List T)
 | some (.lst xs)=>some xs
 | _=>none
def seqT (G:Gp):T->Option (List T)
 | .tup xs=>some xs
 | .scr xs=>some xs
 | .ref a=>asL (G a)
 | _=>none
def PKV {κ:Type} (K:PySem.W.Frag) (H:Hp):List (κ×T)->List (κ×V)->Prop:=Paired fun p q=>p.1=q.1/\Rep K H p.2 q.2
noncomputable def GOk (K:PySem.W.Frag) (H:Hp) (a:Addr):GO->Prop
 | .lst xs=>∃vs,H a=some (.lst vs)/\Reps K H xs vs
 | .dct kvs=>∃ws,H a=some (.dT ws)/\PKV K H kvs ws
 | .dck kvs=>∃ws,H a=some (.dK ws)/\PKV K H kvs ws
 | .fdc kvs=>∃ob ws,H a=some (.frz ob (.dT ws))/\PKV K H kvs ws
 | .ins cn fs=>∃C dx ws,H a=some (.ins C dx ws)/\PySem.W.nsIn K mainGlobals cn=some (some (.ref C))/\PKV K H fs ws
 | .exc cn=>∃ob C u,H a=some (.frz ob u)/\ob.cls= .ref C/\PySem.W.nsIn K mainGlobals cn=some (some (.ref C))
def GRel (K:PySem.W.Frag) (H:Hp) (G:Gp):Prop:=∀a o,G a=some o->GOk K H a o
section
variable {K:PySem.W.Frag} {H H':Hp} {G:Gp} {a:Addr}
theorem PKV.mono {κ:Type} {kvs:List (κ×T)} {ws:List (κ×V)} (e:Ext H H') (h:PKV K H kvs ws):PKV K H' kvs ws:=Paired.mapP h fun _ _ z=>⟨z.1,Rep.mono e _ z.2⟩
theorem GOk.move {o:GO} (h:GOk K H a o) (e:Ext H H') (ha:H' a=H a):GOk K H' a o:=by
 cases o with
 | lst xs=>obtain⟨vs,h1,h2⟩:=h;exact⟨vs,ha.trans h1,Reps.mono e _ h2⟩
 | dct kvs=>obtain⟨vs,h1,h2⟩:=h;exact⟨vs,ha.trans h1,h2.mono e⟩
 | dck kvs=>obtain⟨vs,h1,h2⟩:=h;exact⟨vs,ha.trans h1,h2.mono e⟩
 | fdc kvs=>obtain⟨ob,vs,h1,h2⟩:=h;exact⟨ob,vs,ha.trans h1,h2.mono e⟩
 | ins cn fs=>obtain⟨C,dx,ws,h1,h2,h3⟩:=h;exact⟨C,dx,ws,ha.trans h1,h2,h3.mono e⟩
 | exc cn=>obtain⟨ob,C,u,h1,h2,h3⟩:=h;exact⟨ob,C,u,ha.trans h1,h2,h3⟩
theorem GOk.some {o:GO} (h:GOk K H a o):H a≠none:=by
 cases o with
 | lst xs=>obtain⟨vs,h1,h2⟩:=h;rw[h1];simp
 | dct kvs=>obtain⟨vs,h1,h2⟩:=h;rw[h1];simp
 | dck kvs=>obtain⟨vs,h1,h2⟩:=h;rw[h1];simp
 | fdc kvs=>obtain⟨ob,vs,h1,h2⟩:=h;rw[h1];simp
 | ins cn fs=>obtain⟨C,dx,ws,h1,h2,h3⟩:=h;rw[h1];simp
 | exc cn=>obtain⟨ob,C,u,h1,h2,h3⟩:=h;rw[h1];simp
theorem GRel.fresh (g:GRel K H G) (h:H a=none):G a=none:=by
 cases e:G a with
 | none=>rfl
 | some o=>exact absurd h (g a o e).some
def Soft (o:Option HO):Prop:=o=none\/(∃xs,o=some (.lst xs))\/(∃kvs,o=some (.dK kvs))\/(∃kvs,o=some (.dT kvs))\/∃C dx fs,o=some (.ins C dx fs)
theorem Ext.upd {o:HO} (h:Soft (H a)):Ext H (L2.upd H a o):=by
 refine⟨fun b xs e=> ?_,fun b ob u e=> ?_⟩
 ·rw[jJw];exact e
  rintro rfl;rw[e] at h;rcases h with h | ⟨_,h⟩ | ⟨_,h⟩ | ⟨_,h⟩ | ⟨_,_,_,h⟩<;>cases h
 ·rw[jJw];exact e
  rintro rfl;rw[e] at h;rcases h with h | ⟨_,h⟩ | ⟨_,h⟩ | ⟨_,h⟩ | ⟨_,_,_,h⟩<;>cases h
theorem GRel.upd {o:HO} {go:GO} (g:GRel K H G) (h:Soft (H a)) (n:GOk K (L2.upd H a o) a go):GRel K (L2.upd H a o) (gup G a go):=by
 intro b u e
 by_cases hb:b=a
 ·subst hb;rw[jJh] at e;cases e;exact n
 ·rw[jJu hb] at e;exact (g b u e).move (Ext.upd h) (jJw hb)
theorem Soft.none (h:H a=none):Soft (H a):= .inl h
theorem Soft.lst {xs:List V} (h:H a=some (.lst xs)):Soft (H a):= .inr (.inl ⟨xs,h⟩)
theorem Soft.dT {xs:List (TKey×V)} (h:H a=some (.dT xs)):Soft (H a):= .inr (.inr (.inr (.inl ⟨xs,h⟩)))
theorem Soft.dK {xs:List (Key×V)} (h:H a=some (.dK xs)):Soft (H a):= .inr (.inr (.inl ⟨xs,h⟩))
theorem GRel.tupNew {vs:List V} (g:GRel K H G) (h:H a=Option.none):GRel K (L2.upd H a (.tup vs)) G:=by
 intro b u e
 have hb:b≠a:=by rintro rfl;exact (g b u e).some h
 exact (g b u e).move (Ext.upd (.none h)) (jJw hb)
theorem Rep.tupNew {xs:List T} {vs:List V} (r:Reps K H xs vs) (h:H a=Option.none):Rep K (L2.upd H a (.tup vs)) (.tup xs) (.ref a):=
 ⟨a,vs,rfl,jKg,Reps.mono (Ext.upd (.none h)) _ r⟩
theorem GRel.lstNew {xs:List T} {vs:List V} (g:GRel K H G) (r:Reps K H xs vs) (h:Soft (H a)):GRel K (L2.upd H a (.lst vs)) (gup G a (.lst xs)):=
 g.upd h ⟨vs,jKg,Reps.mono (Ext.upd h) _ r⟩
theorem GRel.lst {xs:List T} (g:GRel K H G) (h:G a=some (.lst xs)):∃vs,H a=some (.lst vs)/\Reps K H xs vs:=g a _ h
end
abbrev St3:=List (Option T)
def SRel (K:PySem.W.Frag) (H:Hp) (σ:L2.St) (τ:St3):Prop:=σ.length=τ.length/\∀(i:Nat) (t:T),τ[i]? =some (some t)->∃v,σ[i]? =some (some v)/\Rep K H t v
theorem SRel.mono {K:PySem.W.Frag} {H H':Hp} {σ:L2.St} {τ:St3} (e:Ext H H') (h:SRel K H σ τ):SRel K H' σ τ:=
 ⟨h.1,fun i t q=>let ⟨v,h1,h2⟩:=h.2 i t q;⟨v,h1,Rep.mono e _ h2⟩⟩
theorem SRel.set {K:PySem.W.Frag} {H:Hp} {σ:L2.St} {τ:St3} {t:T} {v:V} (h:SRel K H σ τ) (i:Nat) (r:Rep K H t v):SRel K H (σ.set i (some v)) (τ.set i (some t)):=by
 refine⟨by simp[h.1],fun j u q=> ?_⟩
 by_cases hj:i=j
 ·subst hj
  have hl:i<τ.length:=by
   rcases lQn i τ.length with z | z
   ·exact z
   ·rw[lKi (by simpa using z)] at q;cases q
  rw[lQb hl] at q
  cases q
  exact⟨v,by rw[lQb (by rw[h.1];exact hl)],r⟩
 ·rw[lQp hj] at q ⊢
  exact h.2 j u q
def Inv3 (X:Cx) (pins:List (Addr×Obj)) (τ:St3) (G:Gp) (H:Hp) (s:Shared):Prop:=∃ σ,Inv X pins σ H s/\SRel X.K H σ τ/\GRel X.K H G
abbrev VK3:=T->Gp->Prop
abbrev TE3:=St3->Gp->VK3->Prop
abbrev TT3:=St3->Gp->(Bool->Gp->Prop)->Prop
abbrev TA3:=St3->Gp->(List T->Gp->Prop)->Prop
structure Ends3 where
 nx:St3->Gp->Prop
 rt:VK3
 bk:St3->Gp->Prop:=fun _ _=>False
 ct:St3->Gp->Prop:=fun _ _=>False
abbrev TS3:=Ends3->St3->Gp->Prop
def RU (K:PySem.W.Frag) (H:Hp) (t:T) (u:Value):Prop:=∃v,Rep K H t v/\RelV v u
def RUs (K:PySem.W.Frag) (H:Hp) (ts:List T) (us:List Value):Prop:=∃vs,Reps K H ts vs/\Vals vs us
theorem RU.mono {K:PySem.W.Frag} {H H':Hp} {t:T} {u:Value} (e:Ext H H') (h:RU K H t u):RU K H' t u:=let ⟨v,h1,h2⟩:=h;⟨v,Rep.mono e _ h1,h2⟩
def EP3 (X:Cx) (pins:List (Addr×Obj)) (τ:St3) (H:Hp) (Q:VK3) (u:Value) (s':Shared):Prop:=∃t G' H',Ext H H'/\Inv3 X pins τ G' H' s'/\RU X.K H' t u/\Q t G'
def TP3 (X:Cx) (pins:List (Addr×Obj)) (τ:St3) (H:Hp) (Q:Bool->Gp->Prop) (b:Bool) (s':Shared):Prop:=∃G' H',Ext H H'/\Inv3 X pins τ G' H' s'/\Q b G'
def AP3 (X:Cx) (pins:List (Addr×Obj)) (τ:St3) (H:Hp) (Q:List T->Gp->Prop) (us:List Value) (s':Shared):Prop:=∃ts G' H',Ext H H'/\Inv3 X pins τ G' H' s'/\RUs X.K H' ts us/\Q ts G'
def SP3 (X:Cx) (pins:List (Addr×Obj)) (H:Hp) (D:Ends3) (f:Flow) (s':Shared):Prop:=
 match f with
 | .next=>∃ τ' G' H',Ext H H'/\Inv3 X pins τ' G' H' s'/\D.nx τ' G'
 | .brk=>∃ τ' G' H',Ext H H'/\Inv3 X pins τ' G' H' s'/\D.bk τ' G'
 | .cont=>∃ τ' G' H',Ext H H'/\Inv3 X pins τ' G' H' s'/\D.ct τ' G'
 | .ret u=>∃t τ' G' H',Ext H H'/\Inv3 X pins τ' G' H' s'/\RU X.K H' t u/\D.rt t G'
def PE3 (X:Cx) (e:Expr) (t:TE3):Prop:=∀(pins:List (Addr×Obj)) (s:Shared) (τ:St3) (G:Gp) (H:Hp) (Q:VK3),Inv3 X pins τ G H s->t τ G Q->wpAny (model X.prog X.w) X.A (eval e X.env) (EP3 X pins τ H Q) X.xe s
def PT3 (X:Cx) (e:Expr) (t:TT3):Prop:=∀(pins:List (Addr×Obj)) (s:Shared) (τ:St3) (G:Gp) (H:Hp) (Q:Bool->Gp->Prop),Inv3 X pins τ G H s->t τ G Q->wpAny (model X.prog X.w) X.A (isTrue e X.env (eval e X.env)) (TP3 X pins τ H Q) X.xe s
def PW3 (X:Cx) (e:Expr) (t:TT3):Prop:=∀(whole:Sem Value) (pins:List (Addr×Obj)) (s:Shared) (τ:St3) (G:Gp) (H:Hp) (Q:Bool->Gp->Prop),Inv3 X pins τ G H s->t τ G Q->wpAny (model X.prog X.w) X.A (isTrue e X.env whole) (TP3 X pins τ H Q) X.xe s
theorem PW3.pt {X:Cx} {e:Expr} {t:TT3} (h:PW3 X e t):PT3 X e t:=h _
def PA3 (X:Cx) (es:List Expr) (t:TA3):Prop:=∀(pos:Pos) (pins:List (Addr×Obj)) (s:Shared) (τ:St3) (G:Gp) (H:Hp) (Q:List T->Gp->Prop),Inv3 X pins τ G H s->t τ G Q->wpAny (model X.prog X.w) X.A (spliced (backTo pos (starEach es X.env))) (AP3 X pins τ H Q) X.xe s
def PS3 (X:Cx) (st:Stmt) (t:TS3):Prop:=∀(pins:List (Addr×Obj)) (s:Shared) (τ:St3) (G:Gp) (H:Hp) (D:Ends3),Inv3 X pins τ G H s->t D τ G->wpAny (model X.prog X.w) X.A (exec st X.env) (SP3 X pins H D) X.xe s
def PSs3 (X:Cx) (st:List Stmt) (t:TS3):Prop:=∀(pins:List (Addr×Obj)) (s:Shared) (τ:St3) (G:Gp) (H:Hp) (D:Ends3),Inv3 X pins τ G H s->t D τ G->wpAny (model X.prog X.w) X.A (execs st X.env) (SP3 X pins H D) X.xe s
section
variable {X:Cx} {pins:List (Addr×Obj)} {τ:St3} {G:Gp} {H H1:Hp} {s:Shared} {C:Prop}
theorem EP3.el {Q:VK3} {u:Value} (h:EP3 X pins τ H Q u s) (k:∀t G' H',Ext H H'->Inv3 X pins τ G' H' s->RU X.K H' t u->Q t G'->C):C:=let ⟨t,G',H',a,b,c,d⟩:=h;k t G' H' a b c d
theorem AP3.el {Q:List T->Gp->Prop} {u:List Value} (h:AP3 X pins τ H Q u s) (k:∀t G' H',Ext H H'->Inv3 X pins τ G' H' s->RUs X.K H' t u->Q t G'->C):C:=let ⟨t,G',H',a,b,c,d⟩:=h;k t G' H' a b c d
theorem TP3.el {Q:Bool->Gp->Prop} {u:Bool} (h:TP3 X pins τ H Q u s) (k:∀G' H',Ext H H'->Inv3 X pins τ G' H' s->Q u G'->C):C:=let ⟨G',H',a,b,c⟩:=h;k G' H' a b c
theorem Inv3.el (h:Inv3 X pins τ G H s) (k:∀ σ,Inv X pins σ H s->SRel X.K H σ τ->GRel X.K H G->C):C:=let ⟨σ,a,b,c⟩:=h;k σ a b c
theorem RU.el {K:PySem.W.Frag} {t:T} {u:Value} (h:RU K H t u) (k:∀v,Rep K H t v->RelV v u->C):C:=let ⟨v,a,b⟩:=h;k v a b
theorem RUs.el {K:PySem.W.Frag} {t:List T} {u:List Value} (h:RUs K H t u) (k:∀v,Reps K H t v->Vals v u->C):C:=let ⟨v,a,b⟩:=h;k v a b
end
section
variable {X:Cx} {pins:List (Addr×Obj)} {τ:St3} {G:Gp} {H H1:Hp} {s:Shared}
theorem EP3.ext {Q:VK3} {u:Value} (e:Ext H H1) (h:EP3 X pins τ H1 Q u s):EP3 X pins τ H Q u s:=let ⟨t,G',H',a,b⟩:=h;⟨t,G',H',e.trans a,b⟩
theorem TP3.ext {Q:Bool->Gp->Prop} {u:Bool} (e:Ext H H1) (h:TP3 X pins τ H1 Q u s):TP3 X pins τ H Q u s:=let ⟨G',H',a,b⟩:=h;⟨G',H',e.trans a,b⟩
theorem SP3.ext {D:Ends3} {f:Flow} (e:Ext H H1) (h:SP3 X pins H1 D f s):SP3 X pins H D f s:=by
 cases f with
 | next=>obtain⟨τ',G',H',a,b⟩:=h;exact⟨τ',G',H',e.trans a,b⟩
 | brk=>obtain⟨τ',G',H',a,b⟩:=h;exact⟨τ',G',H',e.trans a,b⟩
 | cont=>obtain⟨τ',G',H',a,b⟩:=h;exact⟨τ',G',H',e.trans a,b⟩
 | ret u=>obtain⟨t,τ',G',H',a,b⟩:=h;exact⟨t,τ',G',H',e.trans a,b⟩
theorem bin3 {a b:Expr} {ta tb:TE3} (ha:PE3 X a ta) (hb:PE3 X b tb) {R:T->T->Gp->Prop} (I:Inv3 X pins τ G H s) (h:ta τ G fun x G1=>tb τ G1 fun y G2=>R x y G2)
  {α:Type} {Q:α->Shared->Prop} {f:Value->Value->Sem α}
  (hf:∀v u s2 x y G2 H2,Ext H H2->Inv3 X pins τ G2 H2 s2->RU X.K H2 x v->RU X.K H2 y u->R x y G2->wpAny (model X.prog X.w) X.A (f v u) Q X.xe s2):
  wpAny (model X.prog X.w) X.A (eval a X.env) (fun v s₁=>wpAny (model X.prog X.w) X.A (eval b X.env) (fun u s₂=>wpAny (model X.prog X.w) X.A (f v u) Q X.xe s₂) X.xe s₁) X.xe s:=by
 refine thn (ha pins s τ G H _ I h) fun v s1 w_=>w_.el fun x G1 H1 e1 I1 r1 q1=> ?_
 refine thn (hb pins s1 τ G1 H1 _ I1 q1) fun u s2 w_=>w_.el fun y G2 H2 e2 I2 r2 q2=> ?_
 exact hf v u s2 x y G2 H2 (e1.trans e2) I2 (r1.mono e2) r2 q2
def up (K:PySem.W.Frag) (H:Hp) (Q:VK3):VK:=fun v H'=>∃t G',Ext H H'/\GRel K H' G'/\Rep K H' t v/\Q t G'
theorem jU4 {σ:L2.St} {Q:VK3} {u:Value} (hs:SRel X.K H σ τ) (h:EP X pins σ (up X.K H Q) u s):EP3 X pins τ H Q u s:=
 let ⟨v,H',I',r',t,G',e,g',rt,q⟩:=h
 ⟨t,G',H',e,⟨σ,I',hs.mono e,g'⟩,⟨v,rt,r'⟩,q⟩
end
section
variable {X:Cx} {pos:Pos}
def tVar (i:Nat):TE3:=fun τ G Q=>∃t,τ[i]? =some (some t)/\Q t G
def tC (t:T):TE3:=fun _ G Q=>Q t G
theorem jJb (i:Nat) {x:Str} (hN:X.N[i]? =some x:=by rfl) (hv:Vis X.env.scope x:=by first | exact Or.inl rfl | exact Or.inr (Or.inl rfl) | exact Or.inr (Or.inr rfl))
  (hd:(x == ("__debug__":Str))=false:=by decide) (hcd:(x == ("__classdict__":Str))=false:=by decide):PE3 X (.Name x pos) (tVar i):=by
 rintro pins s τ G H Q ⟨σ,I,hs,hg⟩ ⟨t,e,q⟩
 obtain⟨v,ev,rv⟩:=hs.2 i t e
 exact thn (pe_var hN hv hd hcd pins s σ H (up X.K H Q) I ⟨v,ev,t,G,.refl H,hg,rv,q⟩) fun u s' h=>jU4 hs h
theorem jJk {i j}:PE3 X (.Constant (.int i) j pos) (tC (.int i)):=fun pins s τ G H Q ⟨σ,I,hs,hg⟩ q=>
 thn (pe_int pins s σ H (up X.K H Q) I ⟨.int i,G,.refl H,hg,rfl,q⟩) fun u s' h=>jU4 hs h
theorem e_bl {b j}:PE3 X (.Constant (.bool b) j pos) (tC (.bl b)):=fun pins s τ G H Q ⟨σ,I,hs,hg⟩ q=>
 thn (pe_bl pins s σ H (up X.K H Q) I ⟨.bl b,G,.refl H,hg,rfl,q⟩) fun u s' h=>jU4 hs h
theorem jU6 {j}:PE3 X (.Constant .none j pos) (tC .non):=fun pins s τ G H Q ⟨σ,I,hs,hg⟩ q=>
 thn (pe_non pins s σ H (up X.K H Q) I ⟨.non,G,.refl H,hg,rfl,q⟩) fun u s' h=>jU4 hs h
theorem e_str {x j}:PE3 X (.Constant (.str x) j pos) (tC (.str x)):=fun pins s τ G H Q ⟨σ,I,hs,hg⟩ q=>
 thn (pe_str pins s σ H (up X.K H Q) I ⟨.str x,G,.refl H,hg,rfl,q⟩) fun u s' h=>jU4 hs h
end
abbrev R3:=T->T->Gp->VK3->Prop
def Op3 (X:Cx) (f:Value->Value->Sem Value) (r:R3):Prop:=
 ∀(pins:List (Addr×Obj)) (s:Shared) (τ:St3) (G:Gp) (H:Hp) (x y:T) (v u:Value) (Q:VK3),Inv3 X pins τ G H s->RU X.K H x v->RU X.K H y u->r x y G Q->wpAny (model X.prog X.w) X.A (f v u) (EP3 X pins τ H Q) X.xe s
def Un3 (X:Cx) (f:Value->Sem Value) (r:T->Gp->VK3->Prop):Prop:=
 ∀(pins:List (Addr×Obj)) (s:Shared) (τ:St3) (G:Gp) (H:Hp) (x:T) (v:Value) (Q:VK3),Inv3 X pins τ G H s->RU X.K H x v->r x G Q->wpAny (model X.prog X.w) X.A (f v) (EP3 X pins τ H Q) X.xe s
def Call3 (X:Cx) (f:Value) (r:List T->Gp->VK3->Prop):Prop:=
 ∀(pins:List (Addr×Obj)) (s:Shared) (τ:St3) (G:Gp) (H:Hp) (xs:List T) (us:List Value) (Q:VK3),Inv3 X pins τ G H s->RUs X.K H xs us->r xs G Q->wpAny (model X.prog X.w) X.A (call f us) (EP3 X pins τ H Q) X.xe s
def Mt3 (X:Cx) (id:String) (r:T->List T->Gp->VK3->Prop):Prop:=
 ∀(pins:List (Addr×Obj)) (s:Shared) (τ:St3) (G:Gp) (H:Hp) (x:T) (xs:List T) (v:Value) (us:List Value) (Q:VK3),Inv3 X pins τ G H s->RU X.K H x v->RUs X.K H xs us->r x xs G Q->
  wpAny (model X.prog X.w) X.A (call (.builtin id) (v::us)) (EP3 X pins τ H Q) X.xe s
def Ix3 (X:Cx) (r:R3):Prop:=
 ∀(value slice:Expr) (pins:List (Addr×Obj)) (s:Shared) (τ:St3) (G:Gp) (H:Hp) (x y:T) (v u:Value) (Q:VK3),Inv3 X pins τ G H s->RU X.K H x v->RU X.K H y u->r x y G Q->
  subscripted slice false v u=operate [v,u] (getItem v u)->wpAny (model X.prog X.w) X.A (subscriptTail value slice v u) (EP3 X pins τ H Q) X.xe s
def Set3 (X:Cx) (r:T->T->T->Gp->(Gp->Prop)->Prop):Prop:=
 ∀(pins:List (Addr×Obj)) (s:Shared) (τ:St3) (G:Gp) (H:Hp) (o i v:T) (ov iv u:Value) (Q:Gp->Prop),Inv3 X pins τ G H s->RU X.K H o ov->RU X.K H i iv->RU X.K H v u->r o i v G Q->
  wpAny (model X.prog X.w) X.A (setItem ov iv u) (fun _ s'=>∃G' H',Ext H H'/\Inv3 X pins τ G' H' s'/\Q G') X.xe s
def Tru3 (X:Cx) (r:T->Gp->(Bool->Gp->Prop)->Prop):Prop:=
 ∀(pins:List (Addr×Obj)) (s:Shared) (τ:St3) (G:Gp) (H:Hp) (x:T) (v:Value) (Q:Bool->Gp->Prop),Inv3 X pins τ G H s->RU X.K H x v->r x G Q->wpAny (model X.prog X.w) X.A (truthy v) (TP3 X pins τ H Q) X.xe s
section
variable {X:Cx}
theorem Op3.of {f:Value->Value->Sem Value} {r:R2} {r3:R3} (h:OpR X f r)
  (hr:∀H G x y a b Q,GRel X.K H G->Rep X.K H x a->Rep X.K H y b->r3 x y G Q->r a b H (up X.K H Q)):Op3 X f r3:=by
 rintro pins s τ G H x y v u Q ⟨σ,I,hs,hg⟩ ⟨a,ra,rv⟩ ⟨b,rb,ru⟩ q
 exact thn (h pins s σ H a b v u _ I rv ru (hr H G x y a b Q hg ra rb q)) fun u s' h=>jU4 hs h
theorem Un3.of {f:Value->Sem Value} {r:V->Hp->VK->Prop} {r3:T->Gp->VK3->Prop} (h:UnR X f r)
  (hr:∀H G x a Q,GRel X.K H G->Rep X.K H x a->r3 x G Q->r a H (up X.K H Q)):Un3 X f r3:=by
 rintro pins s τ G H x v Q ⟨σ,I,hs,hg⟩ ⟨a,ra,rv⟩ q
 exact thn (h pins s σ H a v _ I rv (hr H G x a Q hg ra q)) fun u s' h=>jU4 hs h
theorem Call3.of {f:Value} {r:List V->Hp->VK->Prop} {r3:List T->Gp->VK3->Prop} (h:kY2 X f r)
  (hr:∀H G xs as Q,GRel X.K H G->Reps X.K H xs as->r3 xs G Q->r as H (up X.K H Q)):Call3 X f r3:=by
 rintro pins s τ G H xs us Q ⟨σ,I,hs,hg⟩ ⟨as,ra,rv⟩ q
 exact thn (h pins s σ H as us _ I rv (hr H G xs as Q hg ra q)) fun u s' h=>jU4 hs h
theorem Mt3.of {id:String} {r:V->List V->Hp->VK->Prop} {r3:T->List T->Gp->VK3->Prop} (h:MtR X id r)
  (hr:∀H G x xs a as Q,GRel X.K H G->Rep X.K H x a->Reps X.K H xs as->r3 x xs G Q->r a as H (up X.K H Q)):Mt3 X id r3:=by
 rintro pins s τ G H x xs v us Q ⟨σ,I,hs,hg⟩ ⟨a,ra,rv⟩ ⟨as,ras,rvs⟩ q
 exact thn (h pins s σ H a as v us _ I rv rvs (hr H G x xs a as Q hg ra ras q)) fun u s' h=>jU4 hs h
theorem Ix3.of {r:R2} {r3:R3} (h:IxR X r)
  (hr:∀H G x y a b Q,GRel X.K H G->Rep X.K H x a->Rep X.K H y b->r3 x y G Q->r a b H (up X.K H Q)):Ix3 X r3:=by
 rintro value slice pins s τ G H x y v u Q ⟨σ,I,hs,hg⟩ ⟨a,ra,rv⟩ ⟨b,rb,ru⟩ q hh
 exact thn (h value slice pins s σ H a b v u _ I rv ru (hr H G x y a b Q hg ra rb q) hh) fun u s' h=>jU4 hs h
theorem Set3.of {t:TSet} {r3:T->T->T->Gp->(Gp->Prop)->Prop} (h:PSet X t)
  (hr:∀H G o i v a b c Q,GRel X.K H G->Rep X.K H o a->Rep X.K H i b->Rep X.K H v c->r3 o i v G Q->t a b c H (fun H'=>∃G',Ext H H'/\GRel X.K H' G'/\Q G')):Set3 X r3:=by
 rintro pins s τ G H o i v ov iv u Q ⟨σ,I,hs,hg⟩ ⟨a,ra,rv⟩ ⟨b,rb,ru⟩ ⟨c,rc,rw'⟩ q
 exact thn (h pins s σ H a b c ov iv u _ I rv ru rw' (hr H G o i v a b c Q hg ra rb rc q)) fun _ s' ⟨H',I',G',e,g',q'⟩=>⟨G',H',e,⟨σ,I',hs.mono e,g'⟩,q'⟩
theorem Tru3.of {r:V->Hp->(Bool->Hp->Prop)->Prop} {r3:T->Gp->(Bool->Gp->Prop)->Prop} (h:TruR X r)
  (hr:∀H G x a Q,GRel X.K H G->Rep X.K H x a->r3 x G Q->r a H (fun b H'=>H'=H/\Q b G)):Tru3 X r3:=by
 rintro pins s τ G H x v Q ⟨σ,I,hs,hg⟩ ⟨a,ra,rv⟩ q
 exact thn (h pins s σ H a v _ I rv (hr H G x a Q hg ra q)) fun b s' ⟨H',I',e,q'⟩=>by
  subst e;exact⟨G,H',.refl _,⟨σ,I',hs,hg⟩,q'⟩
theorem Op3.or {f:Value->Value->Sem Value} {r r':R3} (h:Op3 X f r) (h':Op3 X f r'):Op3 X f (fun x y G Q=>r x y G Q\/r' x y G Q):=by
 intro pins s τ G H x y v u Q I rx ry q
 rcases q with q | q
 ·exact h pins s τ G H x y v u Q I rx ry q
 ·exact h' pins s τ G H x y v u Q I rx ry q
def rI (C:Int->Int->Prop) (g:Int->Int->T):R3:=fun x y G Q=>∃i j,x= .int i/\y= .int j/\C i j/\Q (g i j) G
def rI0 (g:Int->Int->T):R3:=fun x y G Q=>∃i j,x= .int i/\y= .int j/\Q (g i j) G
theorem o_I {f:Value->Value->Sem Value} {C:Int->Int->Prop} {g:Int->Int->V} {g':Int->Int->T} (h:OpR X f (L2.rI C g)) (hg':∀K H i j,Rep K H (g' i j) (g i j)):Op3 X f (rI C g'):=
 Op3.of h fun H G x y a b Q hg ra rb ⟨i,j,ex,ey,c,q⟩=>by
  subst ex;subst ey
  cases (show a= .int i from ra);cases (show b= .int j from rb)
  exact⟨i,j,rfl,rfl,c,g' i j,G,.refl H,hg,hg' _ _ i j,q⟩
theorem o_I0 {f:Value->Value->Sem Value} {g:Int->Int->V} {g':Int->Int->T} (h:OpR X f (L2.rI0 g)) (hg':∀K H i j,Rep K H (g' i j) (g i j)):Op3 X f (rI0 g'):=
 Op3.of h fun H G x y a b Q hg ra rb ⟨i,j,ex,ey,q⟩=>by
  subst ex;subst ey
  cases (show a= .int i from ra);cases (show b= .int j from rb)
  exact⟨i,j,rfl,rfl,g' i j,G,.refl H,hg,hg' _ _ i j,q⟩
theorem o_add:Op3 X (binaryOp .Add) (rI0 fun i j=> .int (i+j)):=o_I0 op_add fun _ _ _ _=>rfl
theorem o_sub:Op3 X (binaryOp .Sub) (rI0 fun i j=> .int (i-j)):=o_I0 op_sub fun _ _ _ _=>rfl
theorem o_mul:Op3 X (binaryOp .Mult) (rI CMul fun i j=> .int (i*j)):=o_I op_mul fun _ _ _ _=>rfl
theorem qV5:Op3 X (binaryOp .FloorDiv) (rI CDiv fun i j=> .int (i / j)):=o_I qX5 fun _ _ _ _=>rfl
theorem jYl:Op3 X (binaryOp .Mod) (rI (fun _ j=>0<j) fun i j=> .int (i%j)):=o_I op_mod fun _ _ _ _=>rfl
theorem o_pow:Op3 X (binaryOp .Pow) (rI CPow fun i j=> .int (i^j.toNat)):=o_I op_pow fun _ _ _ _=>rfl
theorem o_lt:Op3 X (compareOp .Lt) (rI0 fun i j=> .bl (decide (i<j))):=o_I0 op_lt fun _ _ _ _=>rfl
theorem o_le:Op3 X (compareOp .LtE) (rI0 fun i j=> .bl (decide (i<=j))):=o_I0 op_le fun _ _ _ _=>rfl
theorem o_gt:Op3 X (compareOp .Gt) (rI0 fun i j=> .bl (decide (j<i))):=o_I0 op_gt fun _ _ _ _=>rfl
theorem o_ge:Op3 X (compareOp .GtE) (rI0 fun i j=> .bl (decide (j<=i))):=o_I0 op_ge fun _ _ _ _=>rfl
def jK6:T->Bool
 | .non=>true
 | _=>false
theorem Rep.non_iff {K:PySem.W.Frag} {H:Hp} {x:T} {a:V} (r:Rep K H x a):decide (a= .non)=jK6 x:=by
 cases x with
 | non=>cases (show a= .non from r);rfl
 | bl b=>cases (show a= .bl b from r);rfl
 | int b=>cases (show a= .int b from r);rfl
 | str b=>cases (show a= .str b from r);rfl
 | ref b=>cases (show a= .ref b from r);rfl
 | ty b=>cases (show a= .ty b from r);rfl
 | tup b=>obtain⟨_,_,e,_⟩:=(show ∃c vs,a= .ref c/\_ from r);subst e;rfl
 | scr b=>obtain⟨_,_,e,_⟩:=(show ∃c vs,a= .ref c/\_ from r);subst e;rfl
theorem qJr:Op3 X (compareOp .Is) (fun x y G Q=>y= .non/\Q (.bl (jK6 x)) G):=
 Op3.of op_isN fun H G x y a b Q hg ra rb ⟨ey,q⟩=>by
  subst ey;cases (show b= .non from rb)
  exact⟨rfl,.bl (jK6 x),G,.refl H,hg,by rw[ra.non_iff];rfl,q⟩
theorem qV4:Op3 X (compareOp .IsNot) (fun x y G Q=>y= .non/\Q (.bl (!jK6 x)) G):=
 Op3.of qX4 fun H G x y a b Q hg ra rb ⟨ey,q⟩=>by
  subst ey;cases (show b= .non from rb)
  exact⟨rfl,.bl (!jK6 x),G,.refl H,hg,by rw[ra.non_iff];rfl,q⟩
end
def tOp (r:R3) (ta tb:TE3):TE3:=fun τ G Q=>ta τ G fun x G1=>tb τ G1 fun y G2=>r x y G2 Q
def tUn (r:T->Gp->VK3->Prop) (ta:TE3):TE3:=fun τ G Q=>ta τ G fun x G1=>r x G1 Q
def jJ0 (t:TE3):TT3:=fun τ G Q=>t τ G fun x G1=>∃c,x= .bl c/\Q c G1
def tAnd (t u:TT3):TT3:=fun τ G Q=>t τ G fun c G1=>if c=true then u τ G1 Q else Q false G1
def tOr (t u:TT3):TT3:=fun τ G Q=>t τ G fun c G1=>if c=true then Q true G1 else u τ G1 Q
def tNot (t:TT3):TT3:=fun τ G Q=>t τ G fun c G1=>Q (!c) G1
def kX7 (ta tb:TE3):TE3:=fun τ G Q=>ta τ G fun x G1=>∃c,x= .bl c/\if c=true then tb τ G1 Q else Q (.bl false) G1
def tOrV (ta tb:TE3):TE3:=fun τ G Q=>ta τ G fun x G1=>∃c,x= .bl c/\if c=true then Q (.bl true) G1 else tb τ G1 Q
def tNotV (ta:TE3):TE3:=fun τ G Q=>ta τ G fun x G1=>∃c,x= .bl c/\Q (.bl (!c)) G1
def tIf (t:TT3) (ta tb:TE3):TE3:=fun τ G Q=>t τ G fun c G1=>if c=true then ta τ G1 Q else tb τ G1 Q
noncomputable def kZo (r r':R3) (ta tb tc:TE3):TE3:=fun τ G Q=>ta τ G fun x G1=>tb τ G1 fun y G2=>r x y G2 fun z G3=>∃k,z= .bl k/\if k=true then tc τ G3 (fun w G4=>r' y w G4 Q) else Q (.bl false) G3
def tNil:TA3:=fun _ G Q=>Q [] G
def jJc (ta:TE3) (tr:TA3):TA3:=fun τ G Q=>ta τ G fun x G1=>tr τ G1 fun xs G2=>Q (x::xs) G2
def tTup (t:TA3):TE3:=fun τ G Q=>t τ G fun xs G1=>xs.length<=sizeLine/\Q (.tup xs) G1
def tLst (t:TA3):TE3:=fun τ G Q=>t τ G fun xs G1=>xs.length<=sizeLine/\∀p,G1 p=none->Q (.ref p) (gup G1 p (.lst xs))
def tCB (r:List T->Gp->VK3->Prop) (t:TA3):TE3:=fun τ G Q=>t τ G fun xs G1=>r xs G1 Q
section
variable {X:Cx} {a b c:Expr} {ta tb tc:TE3} {tA tB:TT3} {pos:Pos} {rest es:List Expr} {t:TA3}
theorem e_op {op:Operator} {r:R3} (ho:Op3 X (binaryOp op) r) (ha:PE3 X a ta) (hb:PE3 X b tb):PE3 X (.BinOp a op b pos) (tOp r ta tb):=by
 intro pins s τ G H Q I h
 exact wpAny_BinOp (bin3 ha hb I h fun v u s2 x y G2 H2 e I2 rx ry q=>thn (ho pins s2 τ G2 H2 x y v u Q I2 rx ry q) fun _ _ z=>z.ext e)
theorem e_un {op:UnaryOp} {r:T->Gp->VK3->Prop} (ho:Un3 X (unaryOp op) r) (ha:PE3 X a ta):PE3 X (.UnaryOp op a pos) (tUn r ta):=by
 intro pins s τ G H Q I h
 exact UnaryOp_ (thn (ha pins s τ G H _ I h) fun v s1 w_=>w_.el fun x G1 H1 e I1 r1 q1=>thn (ho pins s1 τ G1 H1 x v Q I1 r1 q1) fun _ _ z=>z.ext e)
theorem jYm {op:CmpOp} {r:R3} (ho:Op3 X (compareOp op) r) (ha:PE3 X a ta) (hb:PE3 X b tb) (hm:behindInMarks op b=false):PE3 X (.Compare a [op] [b] pos) (tOp r ta tb):=by
 intro pins s τ G H Q I h
 exact wpAny_Compare1 (bin3 ha hb I h fun v u s2 x y G2 H2 e I2 rx ry q=>thn (ho pins s2 τ G2 H2 x y v u Q I2 rx ry q) fun _ _ z=>z.ext e) hm
theorem jKn {op:CmpOp} {r:R3} (ho:Op3 X (compareOp op) r) (ha:PE3 X a ta) (hb:PE3 X b tb) (hm:behindInMarks op b=false):PT3 X (.Compare a [op] [b] pos) (jJ0 (tOp r ta tb)):=by
 intro pins s τ G H Q I h
 refine wpAny_isTrue_Compare1 (bin3 ha hb I h fun v u s2 x y G2 H2 e I2 rx ry q=>thn (ho pins s2 τ G2 H2 x y v u _ I2 rx ry q) fun w' s3 w_=>w_.el fun z G3 H3 e3 I3 r3 ⟨k,ez,q3⟩=> ?_) hm
 subst ez
 obtain⟨v',rv',ru'⟩:=r3
 cases (show v'= .bl k from rv');cases ru'
 exact lV2 ⟨G3,H3,e.trans e3,I3,q3⟩
theorem kQj {e:Expr} {t:TE3} (h:PE3 X e t) (he:∀whole,isTrue e X.env whole=(do let v <-whole;standAt e.pos;holding [v] (truthy v)):=by intro _;rfl):PT3 X e (jJ0 t):=by
 intro pins s τ G H Q I hw
 refine isTrue_plain (thn (h pins s τ G H _ I hw) fun v s1 w_=>w_.el fun x G1 H1 e1 I1 r1 ⟨k,ez,q1⟩=> ?_) (he _)
 subst ez
 obtain⟨v',rv',ru'⟩:=r1
 cases (show v'= .bl k from rv');cases ru'
 exact lV2 ⟨G1,H1,e1,I1,q1⟩
def tTru (r:T->Gp->(Bool->Gp->Prop)->Prop) (t:TE3):TT3:=fun τ G Q=>t τ G fun x G1=>r x G1 Q
theorem t_tru {e:Expr} {t:TE3} {r:T->Gp->(Bool->Gp->Prop)->Prop} (hr:Tru3 X r) (h:PE3 X e t) (he:∀whole,isTrue e X.env whole=(do let v <-whole;standAt e.pos;holding [v] (truthy v)):=by intro _;rfl):PT3 X e (tTru r t):=by
 intro pins s τ G H Q I hw
 exact isTrue_plain (thn (h pins s τ G H _ I hw) fun v s1 w_=>w_.el fun x G1 H1 e1 I1 r1 q1=>thn (hr pins s1 τ G1 H1 x v Q I1 r1 q1) fun _ _ z=>z.ext e1) (he _)
theorem w_and1 (ha:PT3 X a tA):PW3 X (.BoolOp .And [a] pos) tA:=by
 intro wh pins s τ G H Q I h
 refine isTrue_and (thn (ha pins s τ G H Q I h) fun c s1 e=> ?_)
 cases c with
 | true=>exact isTrue_and_nil e
 | false=>exact e
theorem qQe (ha:PT3 X a tA):PW3 X (.BoolOp .Or [a] pos) tA:=by
 intro wh pins s τ G H Q I h
 refine isTrue_or (thn (ha pins s τ G H Q I h) fun c s1 e=> ?_)
 cases c with
 | false=>exact isTrue_or_nil e
 | true=>exact e
theorem w_and (ha:PT3 X a tA) (hb:PW3 X (.BoolOp .And (b::rest) pos) tB):PW3 X (.BoolOp .And (a::b::rest) pos) (tAnd tA tB):=by
 intro wh pins s τ G H Q I h
 refine isTrue_and (thn (ha pins s τ G H _ I h) fun c s1 w_=>w_.el fun G1 H1 e1 I1 q1=> ?_)
 cases c with
 | true=>exact thn (hb wh pins s1 τ G1 H1 Q I1 q1) fun _ _ z=>z.ext e1
 | false=>exact⟨G1,H1,e1,I1,q1⟩
theorem w_or (ha:PT3 X a tA) (hb:PW3 X (.BoolOp .Or (b::rest) pos) tB):PW3 X (.BoolOp .Or (a::b::rest) pos) (tOr tA tB):=by
 intro wh pins s τ G H Q I h
 refine isTrue_or (thn (ha pins s τ G H _ I h) fun c s1 w_=>w_.el fun G1 H1 e1 I1 q1=> ?_)
 cases c with
 | true=>exact⟨G1,H1,e1,I1,q1⟩
 | false=>exact thn (hb wh pins s1 τ G1 H1 Q I1 q1) fun _ _ z=>z.ext e1
theorem qQi (ha:PT3 X a tA):PT3 X (.UnaryOp .Not a pos) (tNot tA):=by
 intro pins s τ G H Q I h
 exact isTrue_not (thn (ha pins s τ G H (fun c G1=>Q (!c) G1) I h) fun c s1 w_=>w_.el fun G1 H1 e1 I1 q1=>⟨G1,H1,e1,I1,q1⟩)
theorem qZb {op} {t:TE3} (h:PE3 X a t):PE3 X (.BoolOp op [a] pos) t:=fun pins s τ G H Q I hw=>BoolOp_one (h pins s τ G H Q I hw)
theorem qVf (ha:PE3 X a ta) (hb:PE3 X (.BoolOp .And (b::rest) pos) tb):PE3 X (.BoolOp .And (a::b::rest) pos) (kX7 ta tb):=by
 intro pins s τ G H Q I h
 refine BoolOp_and (thn (ha pins s τ G H _ I h) fun v s1 w_=>w_.el fun x G1 H1 e1 I1 r1 ⟨k,ez,q1⟩=> ?_)
 subst ez
 obtain⟨v',rv',ru'⟩:=r1
 cases (show v'= .bl k from rv');cases ru'
 refine lV2 ?_
 cases k with
 | true=>exact thn (hb pins s1 τ G1 H1 Q I1 q1) fun _ _ z=>z.ext e1
 | false=>exact⟨.bl false,G1,H1,e1,I1,⟨.bl false,rfl,rfl⟩,q1⟩
theorem jX4 (hc:PT3 X c tA) (ha:PE3 X a ta) (hb:PE3 X b tb):PE3 X (.IfExp c a b pos) (tIf tA ta tb):=by
 intro pins s τ G H Q I h
 refine IfExp_ (thn (hc pins s τ G H _ I h) fun k s1 w_=>w_.el fun G1 H1 e1 I1 q1=> ?_)
 cases k with
 | true=>exact thn (ha pins s1 τ G1 H1 Q I1 q1) fun _ _ z=>z.ext e1
 | false=>exact thn (hb pins s1 τ G1 H1 Q I1 q1) fun _ _ z=>z.ext e1
theorem jJe:PA3 X [] tNil:=fun _ _ _ _ G H Q I h=>Calls.spliced_nil ⟨[],G,H,.refl H,I,⟨[],rfl,.nil⟩,h⟩
theorem jJa {e:Expr} {te:TE3} (ha:PE3 X e te) (hr:PA3 X es t) (hs:starEach (e::es) X.env=(false,eval e X.env)::starEach es X.env:=by rfl):PA3 X (e::es) (jJc te t):=by
 intro pos pins s τ G H Q I h
 rw[hs]
 show wpAny _ _ (spliced ((false,eval e X.env)::backTo pos (starEach es X.env))) _ _ s
 refine Calls.spliced_cons (thn (ha pins s τ G H _ I h) fun u s1 w_=>w_.el fun x G1 H1 e1 I1 r1 q1=> ?_)
 refine thn (hr pos pins s1 τ G1 H1 _ I1 q1) fun us s2 w_=>w_.el fun xs G2 H2 e2 I2 r_ q2=>r_.el fun vs rs rv=> ?_
 obtain⟨v,rr,rvv⟩:=r1.mono e2
 exact⟨x::xs,G2,H2,e1.trans e2,I2,⟨v::vs,⟨v,vs,rfl,rr,rs⟩,.cons rvv rv⟩,q2⟩
theorem jKj {x1} (h:PA3 X es t):PE3 X (.Tuple es x1 pos) (tTup t):=by
 intro pins s τ G H Q I hq
 refine wpAny_Tuple_spliced (thn (h pos pins s τ G H _ I hq) fun us s1 w_=>w_.el fun xs G1 H1 e1 i_ r_ ⟨z,q⟩=>i_.el fun σ I1 hs1 hg1=>r_.el fun vs rs rv=>⟨by rw[<-rv.length,<-rs.length];exact z,?_⟩)
 have hf:H1 s1.heap.objs.size=none:=I1.hok.fresh (lJh _)
 have e2:Ext H1 (upd H1 s1.heap.objs.size (.tup vs)):= .upd (.none hf)
 refine⟨.tup xs,G1,upd H1 s1.heap.objs.size (.tup vs),e1.trans e2,⟨σ,I1.laid (t':=s1.toks) (fun b u e=>lJs _ e) (lJh _) ?_,hs1.mono e2,hg1.tupNew hf⟩,⟨.ref s1.heap.objs.size,Rep.tupNew rs hf,rfl⟩,q⟩
 exact⟨by rw[<-rs.length];exact z,us,rv,⟨_,lJ8 _ rfl,rfl,_,rfl,rfl⟩⟩
theorem jQ5 (h:PA3 X es t):PE3 X (.List es pos) (tLst t):=by
 intro pins s τ G H Q I hq
 refine wpAny_List_spliced (thn (h pos pins s τ G H _ I hq) fun us s1 w_=>w_.el fun xs G1 H1 e1 i_ r_ ⟨z,q⟩=>i_.el fun σ I1 hs1 hg1=>r_.el fun vs rs rv=>⟨by rw[<-rv.length,<-rs.length];exact z,?_⟩)
 have hf:H1 s1.heap.objs.size=none:=I1.hok.fresh (lJh _)
 have e2:Ext H1 (upd H1 s1.heap.objs.size (.lst vs)):= .upd (.none hf)
 refine⟨.ref s1.heap.objs.size,gup G1 s1.heap.objs.size (.lst xs),upd H1 s1.heap.objs.size (.lst vs),e1.trans e2,⟨σ,I1.laid (t':=s1.toks) (fun b u e=>lJs _ e) (lJh _) ?_,hs1.mono e2,hg1.lstNew rs (.none hf)⟩,⟨.ref s1.heap.objs.size,rfl,rfl⟩,q _ (hg1.fresh hf)⟩
 exact⟨by rw[<-rs.length];exact z,us,0,rv,lJ8 _ rfl⟩
theorem e_ix {r:R3} (hr:Ix3 X r) (ha:PE3 X a ta) (hb:PE3 X b tb) (hs:qZm b):PE3 X (.Subscript a b pos) (tOp r ta tb):=by
 intro pins s τ G H Q I h
 exact Subscript_ (bin3 ha hb I h fun v u s2 x y G2 H2 e I2 rx ry q=>thn (hr a b pins s2 τ G2 H2 x y v u Q I2 rx ry q (hs _ _)) fun _ _ z=>z.ext e)
def rIx:R3:=fun x y G Q=>∃xs i t,seqT G x=some xs/\y= .int i/\atI xs i=some t/\Q t G
theorem jQz {o:Option GO} {xs:List T} (h:asL o=some xs):o=some (.lst xs):=by
 cases o with
 | none=>cases h
 | some g=>cases g with
  | lst ys=>cases h;rfl
  | dct _=>cases h
  | dck _=>cases h
  | fdc _=>cases h
  | ins _ _=>cases h
  | exc _=>cases h
theorem jQ9 {K:PySem.W.Frag} {H:Hp} {G:Gp} {x:T} {a:V} {xs:List T} (hg:GRel K H G) (r:Rep K H x a) (h:seqT G x=some xs):
  ∃p vs,a= .ref p/\(SqL K H p vs\/SqT K H p vs)/\Reps K H xs vs:=by
 cases x with
 | tup ys=>cases h;obtain⟨p,vs,e,h1,h2⟩:=(show ∃p vs,a= .ref p/\H p=some (.tup vs)/\Reps K H xs vs from r);exact⟨p,vs,e,.inr (.of h1),h2⟩
 | scr ys=>cases h;obtain⟨p,vs,e,h1,h2⟩:=(show ∃p vs,a= .ref p/\FrL K H p vs/\Reps K H xs vs from r);exact⟨p,vs,e,.inl h1.sq,h2⟩
 | ref p=>
  obtain⟨vs,h1,h2⟩:=hg.lst (jQz h)
  exact⟨p,vs,r,.inl (.of h1),h2⟩
 | non=>cases h
 | bl _=>cases h
 | int _=>cases h
 | str _=>cases h
 | ty _=>cases h
theorem ix_any:Ix3 X rIx:=
 Ix3.of (ix_list.or ix_tup) fun H G x y a b Q hg ra rb ⟨xs,i,t,hx,ey,ht,q⟩=>by
  subst ey;cases (show b= .int i from rb)
  obtain⟨p,vs,e,hq,r⟩:=jQ9 hg ra hx
  subst e
  obtain⟨v,hv,rv⟩:=r.atI ht
  rcases hq with hq | hq
  ·exact .inl ⟨p,vs,i,v,rfl,rfl,hq,hv,t,G,.refl H,hg,rv,q⟩
  ·exact .inr ⟨p,vs,i,v,rfl,rfl,hq,hv,t,G,.refl H,hg,rv,q⟩
theorem jJp {id:String} {r:List T->Gp->VK3->Prop} {x:Str} {p:Pos} {e:Expr} (hc:Call3 X (.builtin id) r) (hg:Gl X x) (hm:X.mg x=none) (hv:bootBuiltins x=some (.builtin id)) (ha:PA3 X (e::es) t) (hn:x≠"__name__":=by decide) (hdb:(x == ("__debug__":Str))=false:=by decide)
  (he:starEach (e::es) X.env=(false,eval e X.env)::starEach es X.env:=by rfl) (hpl:(backTo pos (starEach es X.env)).any (·.1)=false:=by rfl):PE3 X (.Call (.Name x p) (e::es) [] pos) (tCB r t):=by
 intro pins s τ G H Q I h
 obtain⟨σ,I0,hs0,hg0⟩:=_root_.id I
 refine lYp (jU5 I0 hg hm hv ?_ hn hdb)
 exact PyProof.Rows.callWith_builtin1 (thn (ha pos pins s τ G H _ I h) fun us s1 w_=>w_.el fun xs G1 H1 e1 I1 r1 q1=>thn (hc pins s1 τ G1 H1 xs us Q I1 r1 q1) fun _ _ z=>z.ext e1) he hpl
theorem jKz {T0:String} {r:List T->Gp->VK3->Prop} {x:Str} {p:Pos} {e:Expr} (hc:Call3 X (.type T0) r) (hg:Gl X x) (hm:X.mg x=none) (hv:bootBuiltins x=some (.type T0)) (ha:PA3 X (e::es) t) (hn:x≠"__name__":=by decide) (hdb:(x == ("__debug__":Str))=false:=by decide)
  (he:starEach (e::es) X.env=(false,eval e X.env)::starEach es X.env:=by rfl) (hpl:(backTo pos (starEach es X.env)).any (·.1)=false:=by rfl):PE3 X (.Call (.Name x p) (e::es) [] pos) (tCB r t):=by
 intro pins s τ G H Q I h
 obtain⟨σ,I0,hs0,hg0⟩:=_root_.id I
 refine lYp (jU5 I0 hg hm hv ?_ hn hdb)
 exact lVd (thn (ha pos pins s τ G H _ I h) fun us s1 w_=>w_.el fun xs G1 H1 e1 I1 r1 q1=>thn (hc pins s1 τ G1 H1 xs us Q I1 r1 q1) fun _ _ z=>z.ext e1) he hpl
theorem jYg {K:PySem.W.Frag} {H:Hp} {x:T} {vs:List V} (h:Reps K H [x] vs):∃v,vs=[v]/\Rep K H x v:=by
 obtain⟨v,ws,rfl,r,e⟩:=h;cases e;exact⟨v,rfl,r⟩
theorem kUz {K:PySem.W.Frag} {H:Hp} {x y:T} {vs:List V} (h:Reps K H [x,y] vs):∃v w,vs=[v,w]/\Rep K H x v/\Rep K H y w:=by
 obtain⟨v,ws,rfl,r,w,ws2,rfl,r2,e⟩:=h;cases e;exact⟨v,w,rfl,r,r2⟩
def rLen:List T->Gp->VK3->Prop:=fun xs G Q=>∃x ys,xs=[x]/\seqT G x=some ys/\Q (.int ys.length) G
theorem jQp:Call3 X (.builtin "len") rLen:=
 Call3.of kUd fun H G xs as Q hg ra ⟨x,ys,e,hx,q⟩=>by
  subst e
  obtain⟨v,rfl,rv⟩:=jYg ra
  obtain⟨p,vs,rfl,hq,r⟩:=jQ9 hg rv hx
  exact⟨p,vs,rfl,hq,.int ys.length,G,.refl H,hg,by rw[r.length];rfl,q⟩
def rAbs:List T->Gp->VK3->Prop:=fun xs G Q=>∃i,xs=[.int i]/\Q (.int (if i<0 then -i else i)) G
theorem c_abs:Call3 X (.builtin "abs") rAbs:=
 Call3.of qVl fun H G xs as Q hg ra ⟨i,e,q⟩=>by
  subst e
  obtain⟨v,rfl,rv⟩:=jYg ra
  cases (show v= .int i from rv)
  exact⟨i,rfl,.int _,G,.refl H,hg,rfl,q⟩
def rMax:List T->Gp->VK3->Prop:=fun xs G Q=>∃i j,xs=[.int i,.int j]/\Q (.int (if j>i then j else i)) G
theorem c_max (hc:X.calm=true):Call3 X (.builtin "max") rMax:=
 Call3.of (qKy hc) fun H G xs as Q hg ra ⟨i,j,e,q⟩=>by
  subst e
  obtain⟨v,w,rfl,rv,rw'⟩:=kUz ra
  cases (show v= .int i from rv);cases (show w= .int j from rw')
  exact⟨i,j,rfl,.int _,G,.refl H,hg,rfl,q⟩
def rIntOf:List T->Gp->VK3->Prop:=fun xs G Q=>∃k,xs=[.bl k]/\Q (.int (if k then 1 else 0)) G
def qX0:List T->Gp->VK3->Prop:=fun xs G Q=>∃i j,xs=[.int i,.int j]/\CDiv i j/\Q (.tup [.int (i / j),.int (i%j)]) G
def jZo:List T->Gp->VK3->Prop:=fun xs G Q=>∃x ys,xs=[x]/\seqT G x=some ys/\∀p,G p=none->Q (.ref p) (gup G p (.lst ys))
theorem c_list:Call3 X (.type "list") jZo:=
 Call3.of kUc fun H G xs as Q hg ra ⟨x,ys,e,hx,q⟩=>by
  subst e
  obtain⟨v,rfl,rv⟩:=jYg ra
  obtain⟨p,vs,rfl,hq,r⟩:=jQ9 hg rv hx
  exact⟨p,vs,rfl,hq,fun l hl=>⟨.ref l,_,.upd (.none hl),hg.lstNew r (.none hl),rfl,q l (hg.fresh hl)⟩⟩
def jKi:List T->Gp->VK3->Prop:=fun xs G Q=>∃x ys,xs=[x]/\seqT G x=some ys/\Q (.tup ys) G
theorem jUr:Call3 X (.type "tuple") jKi:=
 Call3.of kQb fun H G xs as Q hg ra ⟨x,ys,e,hx,q⟩=>by
  subst e
  obtain⟨v,rfl,rv⟩:=jYg ra
  obtain⟨p,vs,rfl,hq,r⟩:=jQ9 hg rv hx
  cases x with
  | tup zs=>
   cases hx
   obtain⟨p',vs',e',h1,h2⟩:=(show ∃p' vs',V.ref p= .ref p'/\H p'=some (.tup vs')/\Reps X.K H ys vs' from rv)
   cases e'
   exact⟨p,vs',rfl,.inr ⟨.of h1,.tup ys,G,.refl H,hg,⟨p,vs',rfl,h1,h2⟩,q⟩⟩
  | scr zs=>
   cases hx
   obtain⟨p',vs',e',h1,h2⟩:=(show ∃p' vs',V.ref p= .ref p'/\FrL X.K H p' vs'/\Reps X.K H ys vs' from rv)
   cases e'
   exact⟨p,vs',rfl,.inl ⟨h1.sq,fun l hl=>⟨.tup ys,G,.upd (.none hl),hg.tupNew hl,Rep.tupNew h2 hl,q⟩⟩⟩
  | ref p'=>
   cases (show V.ref p= .ref p' from rv)
   obtain⟨vs',h1,h2⟩:=hg.lst (jQz hx)
   exact⟨p,vs',rfl,.inl ⟨.of h1,fun l hl=>⟨.tup ys,G,.upd (.none hl),hg.tupNew hl,Rep.tupNew h2 hl,q⟩⟩⟩
  | non=>cases hx
  | bl _=>cases hx
  | int _=>cases hx
  | str _=>cases hx
  | ty _=>cases hx
noncomputable def rCat:R3:=fun x y G Q=>∃p q xs ys,x= .ref p/\y= .ref q/\G p=some (.lst xs)/\G q=some (.lst ys)/\xs.length+ys.length<=sizeLine/\∀l,G l=none->Q (.ref l) (gup G l (.lst (xs++ys)))
noncomputable def rRep:R3:=fun x y G Q=>∃p xs n,x= .ref p/\y= .int n/\G p=some (.lst xs)/\n.toNat * xs.length<=sizeLine/\n<2^62/\ -(2^62)<n/\∀l,G l=none->Q (.ref l) (gup G l (.lst (List.replicate n.toNat xs).flatten))
def tyT (G:Gp) (T0:String) (x:T):Prop:=match x with
 | .str _=>T0="str"
 | .int _=>T0="int"
 | .ref p=>(T0="list"/\∃xs,G p=some (.lst xs))\/(T0="dict"/\((∃kvs,G p=some (.dck kvs))\/∃kvs,G p=some (.dct kvs)))
 | _=>False
theorem tyT.of {K:PySem.W.Frag} {H:Hp} {G:Gp} {T0:String} {x:T} {a:V} (hg:GRel K H G) (r:Rep K H x a) (h:tyT G T0 x):tyV K T0 a H:=by
 cases x with
 | str z=>cases (show a= .str z from r);exact h
 | int z=>cases (show a= .int z from r);exact h
 | ref p=>
  cases (show a= .ref p from r)
  rcases h with ⟨e,xs,h⟩ | ⟨e,h⟩
  ·obtain⟨vs,h1,_⟩:=hg.lst h;exact .inl ⟨e,vs,.of h1⟩
  ·refine .inr (.inr (.inl ⟨e,?_⟩))
   rcases h with ⟨kvs,h⟩ | ⟨kvs,h⟩
   ·obtain⟨ws,h1,_⟩:=hg p _ h;exact .inl ⟨ws,h1⟩
   ·obtain⟨ws,h1,_⟩:=hg p _ h;exact .inr ⟨ws,h1⟩
 | non=>exact False.elim h
 | bl _=>exact False.elim h
 | ty _=>exact False.elim h
 | tup _=>exact False.elim h
 | scr _=>exact False.elim h
def tBM (T0:String) (r:T->List T->Gp->VK3->Prop) (to:TE3) (t:TA3):TE3:=fun τ G Q=>to τ G fun x G1=>tyT G1 T0 x/\t τ G1 fun xs G2=>r x xs G2 Q
theorem e_bm {T0 id:String} {r:T->List T->Gp->VK3->Prop} {o e:Expr} {name:Str} {apos cpos:Pos} {to:TE3} (pa:PlainAttrs T0) (slot:Slot T0 name id) (hty:typeOf (.builtin id)=pure (.type "method_descriptor")) (hm:Mt3 X id r) (ho:PE3 X o to) (ha:PA3 X (e::es) t)
  (hbase:attributeBase o name X.env (eval o X.env)=eval o X.env:=by rfl)
  (hfew:((backTo cpos (starEach (e::es) X.env)).all (fun x=> !x.1)&&(backToKw cpos (keywordEach [] X.env)).all (fun x=>x.1.isSome)
   &&decide ((e::es).length+([]:List Keyword).length+(if ([]:List Keyword).isEmpty then 0 else 1)<30))=true:=by rfl)
  (hline:(apos.endLine == cpos.line)=true:=by rfl) (hs:starEach (e::es) X.env=(false,eval e X.env)::starEach es X.env:=by rfl) (hplain:(backTo cpos (starEach es X.env)).any (·.1)=false:=by rfl):
  PE3 X (.Call (.Attribute o name apos) (e::es) [] cpos) (tBM T0 r to t):=by
 intro pins s τ G H Q I h
 refine wpAny_Call_method_late hbase hfew hline rfl (thn (ho pins s τ G H _ I h) fun v s1 w_=>w_.el fun x G1 H1 e1 I1 r1 ⟨ty,q1⟩=> ?_)
 obtain⟨σ,I0,hs0,hg0⟩:=_root_.id I1
 obtain⟨a0,ra0,rv0⟩:=_root_.id r1
 obtain⟨h1,h2⟩:=tyV_is I0 rv0 (tyT.of hg0 ra0 ty)
 refine⟨T0,id,pa,slot,hty,h1,h2,?_⟩
 have hA:=ha cpos pins s1 τ G1 H1 _ I1 q1
 rw[hs] at hA ⊢
 refine Calls.callWith_builtin (by show (false||(backTo cpos (starEach es X.env)).any (·.1))=false;rw[hplain]<;>rfl) (Calls.evalArgs_plain ?_)
 exact thn hA fun us s2 w_=>w_.el fun vs G2 H2 e2 I2 r2 q2=>thn (hm pins s2 τ G2 H2 x vs v us Q I2 (r1.mono e2) r2 q2) fun _ _ z=>(z.ext e2).ext e1
def jKq:T->List T->Gp->VK3->Prop:=fun x xs G Q=>∃p ys y,x= .ref p/\xs=[y]/\G p=some (.lst ys)/\ys.length<sizeLine/\Q .non (gup G p (.lst (ys++[y])))
def qQz:T->T->T->Gp->(Gp->Prop)->Prop:=fun o i v G Q=>∃p xs k j,o= .ref p/\i= .int k/\G p=some (.lst xs)/\ixN xs.length k=some j/\Q (gup G p (.lst (xs.set j v)))
theorem s_list:Set3 X qQz:=
 Set3.of kKf fun H G o i v a b c Q hg ra rb rc ⟨p,xs,k,j,eo,ei,hp,hj,q⟩=>by
  subst eo;subst ei
  cases (show a= .ref p from ra);cases (show b= .int k from rb)
  obtain⟨vs,h1,h2⟩:=hg.lst hp
  exact⟨p,vs,k,j,rfl,rfl,h1,by rw[<-h2.length];exact hj,_,.upd (.lst h1),hg.lstNew (h2.set rc j) (.lst h1),q⟩
end
section
variable {X:Cx}
theorem o_cat:Op3 X (binaryOp .Add) rCat:=
 Op3.of op_cat fun H G x y a b Q hg ra rb ⟨p,q,xs,ys,ex,ey,hp,hq,hz,h⟩=>by
  subst ex;subst ey
  cases (show a= .ref p from ra);cases (show b= .ref q from rb)
  obtain⟨vs,h1,h2⟩:=hg.lst hp
  obtain⟨ws,h3,h4⟩:=hg.lst hq
  exact⟨p,q,vs,ws,rfl,rfl,h1,h3,by rw[<-h2.length,<-h4.length];exact hz,fun l hl=>⟨.ref l,_,.upd (.none hl),hg.lstNew (h2.append h4) (.none hl),rfl,h l (hg.fresh hl)⟩⟩
theorem o_rep:Op3 X (binaryOp .Mult) rRep:=
 Op3.of op_rep fun H G x y a b Q hg ra rb ⟨p,xs,n,ex,ey,hp,hz,h1,h2,h⟩=>by
  subst ex;subst ey
  cases (show a= .ref p from ra);cases (show b= .int n from rb)
  obtain⟨vs,h3,h4⟩:=hg.lst hp
  refine⟨p,n,vs,rfl,rfl,h3,by omega,by omega,by rw[<-h4.length,Nat.mul_comm];exact hz,fun l hl=>⟨.ref l,_,.upd (.none hl),hg.lstNew (h4.rep _) (.none hl),rfl,h l (hg.fresh hl)⟩⟩
theorem jKp:Mt3 X "list.append" jKq:=
 Mt3.of qJs fun H G x xs a as Q hg ra ras ⟨p,ys,y,ex,exs,hp,hz,q⟩=>by
  subst ex;subst exs
  cases (show a= .ref p from ra)
  obtain⟨v,rfl,rv⟩:=jYg ras
  obtain⟨vs,h1,h2⟩:=hg.lst hp
  exact⟨p,vs,v,rfl,rfl,h1,by rw[<-h2.length];exact hz,.non,_,.upd (.lst h1),hg.lstNew (h2.append (.one rv)) (.lst h1),rfl,q⟩
end
def jKs:TS3:=fun D τ G=>D.nx τ G
def tSeq (t u:TS3):TS3:=fun D τ G=>t {D with nx:=u D} τ G
def jVr (te:TE3):TS3:=fun D τ G=>te τ G fun _ G1=>D.nx τ G1
def tRet (te:TE3):TS3:=fun D τ G=>te τ G D.rt
def tRetN:TS3:=fun D _ G=>D.rt .non G
def tIfS (c:TT3) (t u:TS3):TS3:=fun D τ G=>c τ G fun b G1=>if b=true then t D τ G1 else u D τ G1
section
variable {X:Cx} {st:Stmt} {rest:List Stmt} {t u:TS3} {e:Expr} {te:TE3} {pos:Pos}
theorem jKd:PSs3 X [] jKs:=fun _ _ τ G H _ I h=>lXp ⟨τ,G,H,.refl H,I,h⟩
theorem jJd (h1:PS3 X st t) (h2:PSs3 X rest u):PSs3 X (st::rest) (tSeq t u):=by
 intro pins s τ G H D I h
 refine wpAny_execs_cons (thn (h1 pins s τ G H {D with nx:=u D} I h) fun f s1 q=> ?_)
 cases f with
 | next=>
  obtain⟨τ',G',H',e',I',q⟩:=q
  exact thn (h2 pins s1 τ' G' H' D I' q) fun _ _ z=>z.ext e'
 | ret v=>exact q
 | brk=>exact q
 | cont=>exact q
theorem jJi (h1:PS3 X st t):PSs3 X [st] t:=by
 intro pins s τ G H D I h
 refine wpAny_execs_cons (thn (h1 pins s τ G H D I h) fun f s1 q=> ?_)
 cases f with
 | next=>exact lXp q
 | ret v=>exact q
 | brk=>exact q
 | cont=>exact q
theorem jUt (he:PE3 X e te) (hs:swapsWith e none pos.line X.env=pure false:=by rfl):PS3 X (.Expr e pos) (jVr te):=by
 intro pins s τ G H D I h
 obtain⟨σ,I0,hs0,hg0⟩:=id I
 exact wpAny_Expr_any (thn (he pins s τ G H _ I h) fun v s1 w_=>w_.el fun x G1 H1 e1 I1 r1 q1=>⟨τ,G1,H1,e1,I1,q1⟩) I0.quiet hs
theorem jJ6 (he:PE3 X e te):PS3 X (.Return (some e) pos) (tRet te):=by
 intro pins s τ G H D I h
 exact wpAny_Return_some (thn (he pins s τ G H _ I h) fun v s1 w_=>w_.el fun x G1 H1 e1 I1 r1 q1=>⟨x,τ,G1,H1,e1,I1,r1,q1⟩)
theorem s_if {c:Expr} {a b:List Stmt} {tc:TT3} (hc:PT3 X c tc) (ha:PSs3 X a t) (hb:PSs3 X b u):PS3 X (.If c a b pos) (tIfS tc t u):=by
 intro pins s τ G H D I h
 refine wpAny_If (thn (hc pins s τ G H _ I h) fun d s1 w_=>w_.el fun G1 H1 e1 I1 q1=> ?_)
 cases d with
 | true=>exact thn (ha pins s1 τ G1 H1 D I1 q1) fun _ _ z=>z.ext e1
 | false=>exact thn (hb pins s1 τ G1 H1 D I1 q1) fun _ _ z=>z.ext e1
end
abbrev TG3:=T->St3->Gp->(St3->Gp->Prop)->Prop
abbrev TGs3:=List T->St3->Gp->(St3->Gp->Prop)->Prop
def GP3 (X:Cx) (pins:List (Addr×Obj)) (H:Hp) (Q:St3->Gp->Prop) (s':Shared):Prop:=∃ τ' G' H',Ext H H'/\Inv3 X pins τ' G' H' s'/\Q τ' G'
def PG3 (X:Cx) (target:Expr) (t:TG3):Prop:=
 ∀(pins:List (Addr×Obj)) (s:Shared) (τ:St3) (G:Gp) (H:Hp) (v:T) (u:Value) (Q:St3->Gp->Prop),Inv3 X pins τ G H s->RU X.K H v u->t v τ G Q->
  wpAny (model X.prog X.w) X.A (assign target X.env u) (fun _ s'=>GP3 X pins H Q s') X.xe s
def PGs3 (X:Cx) (ts:List Expr) (t:TGs3):Prop:=
 ∀(pins:List (Addr×Obj)) (s:Shared) (τ:St3) (G:Gp) (H:Hp) (vs:List T) (us:List Value) (Q:St3->Gp->Prop),Inv3 X pins τ G H s->RUs X.K H vs us->t vs τ G Q->
  wpAny (model X.prog X.w) X.A (assignInOrder ((assignEach ts X.env).map (·.2)) us) (fun _ s'=>GP3 X pins H Q s') X.xe s
def jJg (i:Nat):TG3:=fun v τ G Q=>Q (τ.set i (some v)) G
def gNil:TGs3:=fun vs τ G Q=>vs=[]/\Q τ G
def jJ3 (t:TG3) (u:TGs3):TGs3:=fun vs τ G Q=>∃v r,vs=v::r/\t v τ G fun τ' G'=>u r τ' G' Q
def gTup (n:Nat) (t:TGs3):TG3:=fun v τ G Q=>∃xs,v= .tup xs/\xs.length=n/\t xs τ G Q
def gSub (to ti:TE3) (t:T->T->T->Gp->(Gp->Prop)->Prop):TG3:=fun v τ G Q=>to τ G fun o G1=>ti τ G1 fun i G2=>t o i v G2 fun G3=>Q τ G3
def tAsg (te:TE3) (g:TG3):TS3:=fun D τ G=>te τ G fun x G1=>g x τ G1 D.nx
section
variable {X:Cx} {pos:Pos}
theorem jJm {i:Nat} {x:Str} (hN:X.N.Nodup) (hi:X.N[i]? =some x:=by rfl) (hx:Loc X.env.scope x:=by first | exact Or.inl rfl | exact Or.inr rfl) (hf:X.fn x=true\/X.env.scope.names.lookup x=some .local:=by first | exact .inl rfl | exact .inr rfl):PG3 X (.Name x pos) (jJg i):=by
 rintro pins s τ G H v u Q ⟨σ,I,hs,hg⟩ ⟨a,ra,rv⟩ h
 exact wpAny_assign_Name (jU8 I hN hi hx rv (fun s' I'=>⟨_,G,H,.refl H,⟨_,I',hs.set i ra,hg⟩,h⟩) hf)
theorem jK1:PGs3 X [] gNil:=by
 rintro pins s τ G H vs us Q I ⟨as,r,rv⟩ ⟨e,h⟩
 subst e
 cases (show as=[] from r)
 cases rv
 exact assignInOrder_nil ⟨τ,G,H,.refl H,I,h⟩
theorem jJt {e:Expr} {es:List Expr} {t:TG3} {u:TGs3} (h1:PG3 X e t) (h2:PGs3 X es u)
  (hs:(assignEach (e::es) X.env).map (·.2)=assign e X.env::(assignEach es X.env).map (·.2):=by rfl):PGs3 X (e::es) (jJ3 t u):=by
 rintro pins s τ G H vs us Q I ⟨as,r,rv⟩ ⟨v,vr,e1,h⟩
 subst e1
 obtain⟨a,ar,rfl,ra,rar⟩:=r
 cases rv with
 | cons q qq=>
  rw[hs]
  refine assignInOrder_cons (thn (h1 pins s τ G H v _ _ I ⟨a,ra,q⟩ h) fun _ s1 ⟨τ1,G1,H1,e1,I1,q1⟩=> ?_)
  exact thn (h2 pins s1 τ1 G1 H1 vr _ Q I1 ⟨ar,Reps.mono e1 _ rar,qq⟩ q1) fun _ s2 ⟨τ2,G2,H2,e2,z⟩=>⟨τ2,G2,H2,e1.trans e2,z⟩
theorem jUw {es:List Expr} {k:Nat} {t:TGs3} {n:Nat} (hc:X.calm=true) (h:PGs3 X es t)
  (hn:(assignEach es X.env).length=n:=by rfl) (hst:(assignEach es X.env).findIdx? (·.1)=none:=by rfl):PG3 X (.Tuple es k pos) (gTup n t):=by
 rintro pins s τ G H v u Q ⟨σ,I,hs,hg⟩ ⟨a,ra,rv⟩ ⟨xs,ev,hl,hw⟩
 subst ev
 obtain⟨p,vs,e1,h1,r1⟩:=(show ∃p vs,a= .ref p/\H p=some (.tup vs)/\Reps X.K H xs vs from ra)
 subst e1
 cases rv
 obtain⟨its,rv,ht,hz⟩:=I.tuple (.of h1)
 refine assign_Tuple_tuple (I.ok.hd hc) ht (by simp[hn,<-hl,r1.length,rv.length]) hst fun h' hx=> ?_
 have I1:Inv X pins σ H {s with heap:=h'}:=I.kept (t':=s.toks) fun b o e=>hx b o (lJw (lJj e)) e
 exact h pins _ τ G H xs _ Q ⟨σ,I1,hs,hg⟩ ⟨vs,r1,by simpa using rv⟩ hw
theorem kK2 {o i:Expr} {to ti:TE3} {t:T->T->T->Gp->(Gp->Prop)->Prop} (ho:PE3 X o to) (hi:PE3 X i ti) (hs:Set3 X t)
  (ha:∀v,assign (.Subscript o i pos) X.env v=(do
   let ov <-holding [v] (eval o X.env)
   let iv <-holding [v,ov] (eval i X.env)
   standAt pos
   holding [v,ov,iv] (setItem ov iv v)
   release [v,ov,iv] []):=by intro _;rfl):PG3 X (.Subscript o i pos) (gSub to ti t):=by
 intro pins s τ G H v u Q I r h
 rw[ha]
 refine lJb (lK4 (thn (ho pins s τ G H _ I h) fun ov s1 w_=>w_.el fun x G1 H1 e1 I1 r1 q1=> ?_))
 refine lJb (lK4 (thn (hi pins s1 τ G1 H1 _ I1 q1) fun iv s2 w_=>w_.el fun y G2 H2 e2 I2 r2 q2=> ?_))
 refine lJb (wpAny_standAt (lJb (lK4 (thn (hs pins s2 τ G2 H2 x y v ov iv u _ I2 (r1.mono e2) r2 (r.mono (e1.trans e2)) q2) fun _ s3 ⟨G3,H3,e3,I3,q3⟩=> ?_))))
 exact wpAny_release ⟨τ,G3,H3,(e1.trans e2).trans e3,I3,q3⟩
theorem jYf {tg e:Expr} {te:TE3} {g:TG3} (he:PE3 X e te) (hg:PG3 X tg g) (hs:swapsWithSole [tg] e pos.line X.env=pure false:=by rfl) (hw:swappedStores [tg] e X.env=pure none:=by rfl)
  (h1:(assignEach [tg] X.env).map (·.2)=[assign tg X.env]:=by rfl):PS3 X (.Assign [tg] e pos) (tAsg te g):=by
 intro pins s τ G H D I h
 refine wpAny_Assign_stores (thn (he pins s τ G H _ I h) fun v s1 w_=>w_.el fun x G1 H1 e1 I1 r1 q1=> ?_) hs hw
 rw[h1]
 exact thn (hg pins s1 τ G1 H1 x v _ I1 r1 q1) fun _ s2 ⟨τ2,G2,H2,e2,q⟩=>⟨τ2,G2,H2,e1.trans e2,q⟩
theorem jJx {i:Nat} {x:Str} {e:Expr} {te:TE3} {pos':Pos} (hN:X.N.Nodup) (he:PE3 X e te) (hi:X.N[i]? =some x:=by rfl) (hx:Loc X.env.scope x:=by first | exact Or.inl rfl | exact Or.inr rfl)
  (hs:swapsWith e (some (.Name x pos')) pos.line X.env=pure false:=by rfl) (hf:X.fn x=true\/X.env.scope.names.lookup x=some .local:=by first | exact .inl rfl | exact .inr rfl):
  PS3 X (.Assign [.Name x pos'] e pos) (tAsg te (jJg i)):=by
 intro pins s τ G H D I h
 refine wpAny_Assign_Name (thn (he pins s τ G H _ I h) fun v s1 w_=>w_.el fun y G1 H1 e1 i_ r_ q1=>i_.el fun σ I1 hs1 hg1=>r_.el fun a ra rv=> ?_) hs
 exact jU8 I1 hN hi hx rv (fun s2 I2=>⟨_,G1,H1,e1,⟨_,I2,hs1.set i ra,hg1⟩,q1⟩) hf
def tPar (i j:Nat) (ta:TA3):TS3:=fun D τ G=>ta τ G fun vs G1=>∃v w,vs=[v,w]/\D.nx ((τ.set i (some v)).set j (some w)) G1
theorem s_par {i j:Nat} {x y:Str} {a b:Expr} {ta:TA3} {px py pt:Pos} {kt k2 pt2} (hc:X.calm=true) (hN:X.N.Nodup) (hij:i≠j) (ha:PA3 X [a,b] ta) (hi:X.N[i]? =some x:=by rfl) (hj:X.N[j]? =some y:=by rfl)
  (hx:X.env.scope.names.lookup x=some .local:=by rfl) (hy:X.env.scope.names.lookup y=some .local:=by rfl)
  (hw:swappedStores [.Tuple [.Name x px,.Name y py] kt pt] (.Tuple [a,b] k2 pt2) X.env=pure (some [x,y]):=by rfl)
  (hs:swapsWithSole [.Tuple [.Name x px,.Name y py] kt pt] (.Tuple [a,b] k2 pt2) pos.line X.env=pure false:=by rfl):
  PS3 X (.Assign [.Tuple [.Name x px,.Name y py] kt pt] (.Tuple [a,b] k2 pt2) pos) (tPar i j ta):=by
 intro pins s τ G H D I h
 rw[exec_Assign_arm]
 refine lJb (wpAny_standAt ?_)
 rw[hs]
 refine lJb (lJd ?_)
 rw[lJa (by decide)]
 refine lJb (Tuple_ (thn (ha _ pins s τ G H _ I h) fun us s1 w_=>w_.el fun vs G1 H1 e1 i_ r_ q1=>i_.el fun σ I1 hs1 hg1=>r_.el fun as ras rvs=> ?_))
 obtain⟨v,w,ev,q1⟩:=q1
 subst ev
 obtain⟨a1,a2,rfl,ra1,ra2⟩:=kUz ras
 obtain⟨u1,u2,rfl,rv,rw'⟩:=rvs.two
 refine lK8 ?_ (by show 2<=sizeLine;decide)
 have I2:Inv X pins σ H1 {s1 with heap:=s1.heap.push {cls:= .type "tuple",data:= .seq [u1,u2].toArray} }:=I1.kept (t':=s1.toks) fun b o e=>lJs _ e
 rw[hw]
 refine lJb (lJd ?_)
 show wpAny (model X.prog X.w) X.A (do rule "assign.swapped-stores"; let items <-unpackItems (.ref s1.heap.objs.size) 2 none;assignInOrder [fun v=>bindName X.env y v,fun v=>bindName X.env x v] items.reverse;pure Flow.next) _ _ _
 refine lJb (lK9 (lJb (unpackItems_tuple (items:= #[u1,u2]) (I1.ok.hd hc) (IsTup.new s1.heap _) fun h' hx'=> ?_)))
 have I3:=I2.kept (h':=h') (t':=s1.toks) fun b o e=>hx' b o (lJw (lJj e)) e
 show wpAny _ _ (assignInOrder [fun v=>bindName X.env y v,fun v=>bindName X.env x v] [u2,u1] >>= fun _=>pure Flow.next) _ _ _
 refine lJb (assignInOrder_cons (wpAny_bindName (jU8 I3 hN hj (.inl hy) rw' (fun s2 I4=> ?_) (.inr hy))))
 refine assignInOrder_cons (wpAny_bindName (jU8 I4 hN hi (.inl hx) rv (fun s3 I5=>assignInOrder_nil (lJd ?_)) (.inr hx)))
 rw[List.set_comm _ _ (Ne.symm hij)] at I5
 exact⟨_,G1,H1,e1,⟨_,I5,(hs1.set i ra1).set j ra2,hg1⟩,q1⟩
noncomputable def kQk (c:TT3) (tb:TS3):TS3:=fun D τ G=>∃W:Nat->St3->Gp->Prop,(∃m,W m τ G)/\∀m τ G,W m τ G->
 c τ G fun b G1=>if b=true then ∃N:St3->Gp->Prop,(∀ τ' G',N τ' G'->∃m',m'<m/\W m' τ' G')/\tb {D with nx:=N,ct:=N,bk:=D.nx} τ G1 else D.nx τ G1
theorem kZv {c:Expr} {body:List Stmt} {tc:TT3} {tb:TS3} (hp:PassesOwn (model X.prog X.w) X.A X.env X.xe) (hc:PT3 X c tc) (hb:PSs3 X body tb):PS3 X (.While c body [] pos) (kQk tc tb):=by
 intro pins s τ G H D I h
 obtain⟨W,⟨m0,w0⟩,turn⟩:=h
 refine wpAny_While (codeAny_whileLoop (fun n s'=>∃ τ' G' H',Ext H H'/\Inv3 X pins τ' G' H' s'/\W n τ' G') ?_ m0 ⟨τ,G,H,.refl H,I,w0⟩)
 rintro n s1 ⟨τ1,G1,H1,e1,I1,w1⟩
 refine lV4 hp (thn (hc pins s1 τ1 G1 H1 _ I1 (turn n τ1 G1 w1)) fun b s2 w_=>w_.el fun G2 H2 e2 I2 q2=> ?_)
 cases b with
 | true=>
  obtain⟨N,hN,q2⟩:=q2
  rw[lJc rfl]
  refine lV4 hp (thn (hb pins s2 τ1 G2 H2 _ I2 q2) fun f s3 q3=> ?_)
  cases f with
  | next=>
   obtain⟨τ3,G3,H3,e3,I3,n3⟩:=q3
   obtain⟨m',hm,w3⟩:=hN τ3 G3 n3
   exact⟨m',hm,τ3,G3,H3,(e1.trans e2).trans e3,I3,w3⟩
  | cont=>
   obtain⟨τ3,G3,H3,e3,I3,n3⟩:=q3
   obtain⟨m',hm,w3⟩:=hN τ3 G3 n3
   exact⟨m',hm,τ3,G3,H3,(e1.trans e2).trans e3,I3,w3⟩
  | brk=>exact SP3.ext (f:= .next) (e1.trans e2) q3
  | ret v=>exact SP3.ext (f:= .ret v) (e1.trans e2) q3
 | false=>
  rw[lJa lJv]
  exact lXp ⟨τ1,G2,H2,e1.trans e2,I2,q2⟩
end
def Items (K:PySem.W.Frag) (H0:Hp) (J:It) (xs:List T) (stay:Gp->Prop):Prop:=
 ∀i H G,Ext H0 H->GRel K H G->stay G->(i<xs.length->J.go i H)/\(xs.length<=i->J.stop i H)/\(i<xs.length->∀x H',J.yld i H x H'->Ext H H'/\GRel K H' G/\∃t,xs[i]? =some t/\Rep K H' t x)
abbrev TI3:=St3->Gp->(List T->(Gp->Prop)->Gp->Prop)->Prop
def PIE3 (X:Cx) (pins:List (Addr×Obj)) (τ:St3) (H:Hp) (tg:Expr) (R:List T->(Gp->Prop)->Gp->Prop) (itv:Value) (s2:Shared):Prop:=
 ∃(it:Addr) (fp:List Addr) (tn:Nat->Heap->Prop) (J:It) (xs:List T) (stay:Gp->Prop) (G':Gp) (H':Hp),itv= .ref it/\Ext H H'/\Inv3 X pins τ G' H' s2/\Turn X.prog X.w X.K tg J fp it tn/\tn 0 s2.heap/\(∀b∈fp,FpOk X pins H' b)/\
  Items X.K H' J xs stay/\R xs stay G'
def PI3 (X:Cx) (tg iter:Expr) (wi:TI3):Prop:=
 ∀(pins:List (Addr×Obj)) (s:Shared) (τ:St3) (G:Gp) (H:Hp) (R:List T->(Gp->Prop)->Gp->Prop),Inv3 X pins τ G H s->wi τ G R->
  wpAny (model X.prog X.w) X.A (eval iter X.env) (fun v s1=>wpAny (model X.prog X.w) X.A (pyIter v) (PIE3 X pins τ H tg R) X.xe s1) X.xe s
noncomputable def tFor (wi:TI3) (g:TG3) (tb:TS3):TS3:=fun D τ G=>wi τ G fun xs stay G1=>∃P:Nat->St3->Gp->Prop,P 0 τ G1/\(∀i τ G,i<=xs.length->P i τ G->stay G)/\
 (∀i x τ G,xs[i]? =some x->P i τ G->g x τ G fun τ2 G2=>tb {D with nx:=P (i+1),ct:=P (i+1),bk:=D.nx} τ2 G2)/\∀ τ G,P xs.length τ G->D.nx τ G
section
variable {X:Cx} {tg:Expr} {pos:Pos}
theorem jK4 {iter:Expr} {body:List Stmt} {wi:TI3} {g:TG3} {tb:TS3} (hp:PassesOwn (model X.prog X.w) X.A X.env X.xe) (hc:X.calm=true) (hi:PI3 X tg iter wi) (hg:PG3 X tg g) (hb:PSs3 X body tb)
  (hs:∀x,foldedSetIterable iter X.env x=pure x:=by intro _;rfl):PS3 X (.For tg iter body [] pos) (tFor wi g tb):=by
 intro pins s τ G H D I h
 refine wpAny_For (thn (hi pins s τ G H _ I h) fun v s1 h1=>thn h1 fun itv s2 h2=> ?_) hs
 obtain⟨it,fp,tn,J,xs,stay,G2,H2,e,eH,I2,T0,st2,f2,IT,P,p0,hstay,turn,fin⟩:=h2
 subst e
 have stat:∀ {H':Hp},(∀b∈fp,H' b=none)->∀b∈fp,FpOk X pins H' b:=fun hn b hb=>⟨hn b hb,(f2 b hb).2⟩
 refine codeAny_forLoop_any (fun n s'=>∃i τ' G' H',n=xs.length-i/\i<=xs.length/\Ext H2 H'/\Inv3 X pins τ' G' H' s'/\tn i s'.heap/\(∀b∈fp,H' b=none)/\P i τ' G') ?_ xs.length ⟨0,τ,G2,H2,rfl,lJu _,.refl _,I2,st2,fun b hb=>(f2 b hb).1,p0⟩
 rintro n s3 ⟨i,τ3,G3,H3,en,hi3,e3,⟨σ3,I3,hs3,hg3⟩,st3,fr3,p3⟩
 obtain⟨go,stop,yl⟩:=IT i H3 G3 e3 hg3 (hstay i τ3 G3 hi3 p3)
 by_cases hlt:i<xs.length
 ·refine lV4 hp (thn (T0.item X rfl rfl rfl hc i pins s3 σ3 H3 X.xe I3 (stat fr3) st3 (go hlt)) fun r s4 ⟨u,hr,h4⟩=> ?_)
  subst hr
  refine lV4 hp (thn h4 fun _ s5 ⟨x,H5,I5,r5,y5,st5,fr5⟩=> ?_)
  obtain⟨e5,g5,t,ht,rt⟩:=yl hlt x H5 y5
  have I5':=I5.pinned (stat fr5) (T0.obj _ _ st5)
  refine lV4 hp (thn (hg _ s5 τ3 G3 H5 t u _ ⟨σ3,I5',hs3.mono e5,g5⟩ ⟨x,rt,r5⟩ (turn i t τ3 G3 ht p3)) fun _ s6 ⟨τ6,G6,H6,e6,I6,q6⟩=> ?_)
  refine lV4 hp (thn (hb _ s6 τ6 G6 H6 _ I6 q6) fun f s7 q7=> ?_)
  have e36:Ext H2 H6:=(e3.trans e5).trans e6
  have again:∀ {τ7:St3} {G7:Gp} {H7:Hp},Ext H6 H7->Inv3 X (pins++jVp fp s5.heap) τ7 G7 H7 s7->P (i+1) τ7 G7->
    ∃m,m<n/\∃i τ' G' H',m=xs.length-i/\i<=xs.length/\Ext H2 H'/\Inv3 X pins τ' G' H' s7/\tn i s7.heap/\(∀b∈fp,H' b=none)/\P i τ' G':=fun {τ7 G7 H7} e7 ⟨σ7,I7,hs7,hg7⟩ p7=>by
   refine⟨xs.length-(i+1),by omega,i+1,τ7,G7,H7,rfl,hlt,e36.trans e7,⟨σ7,I7.unpinned,hs7,hg7⟩,T0.keep _ _ _ st5 fun b hb o e=>(I7.pin (b,o) (lJ5 _ (lJ5 _ (jVe hb e)))).1,fun b hb=> ?_,p7⟩
   obtain⟨o,e,d⟩:=T0.obj _ _ st5 b hb
   exact (I7.pin (b,o) (lJ5 _ (lJ5 _ (jVe hb e)))).2.1
  have un:∀ {τ7:St3} {G7:Gp} {H7:Hp},Inv3 X (pins++jVp fp s5.heap) τ7 G7 H7 s7->Inv3 X pins τ7 G7 H7 s7:=fun ⟨σ7,I7,a,b⟩=>⟨σ7,I7.unpinned,a,b⟩
  cases f with
  | next=>obtain⟨τ7,G7,H7,e7,I7,n7⟩:=q7;exact again e7 I7 n7
  | cont=>obtain⟨τ7,G7,H7,e7,I7,n7⟩:=q7;exact again e7 I7 n7
  | brk=>obtain⟨τ7,G7,H7,e7,I7,q7⟩:=q7;exact⟨τ7,G7,H7,(eH.trans e36).trans e7,un I7,q7⟩
  | ret v=>obtain⟨x7,τ7,G7,H7,e7,I7,r7,q7⟩:=q7;exact⟨x7,τ7,G7,H7,(eH.trans e36).trans e7,un I7,r7,q7⟩
 ·have ei:i=xs.length:=by omega
  refine lV4 hp (thn (T0.done X rfl rfl rfl hc i pins s3 σ3 H3 X.xe I3 (stat fr3) st3 (stop (by omega))) fun r s4 ⟨hr,I4⟩=> ?_)
  subst hr;subst ei
  exact lXp ⟨τ3,G3,H3,eH.trans e3,⟨σ3,I4,hs3,hg3⟩,fin τ3 G3 p3⟩
def iSeq (tl:TE3):TI3:=fun τ G R=>tl τ G fun x G1=>∃xs,seqT G1 x=some xs/\R xs (fun G'=>seqT G' x=some xs) G1
theorem jQn {l:Expr} {tl:TE3} (hl:PE3 X l tl):PI3 X tg l (iSeq tl):=by
 intro pins s τ G H R I h
 refine thn (hl pins s τ G H _ I h) fun v s1 w_=>w_.el fun x G1 H1 e1 i_ r_ ⟨xs,hx,q⟩=>i_.el fun σ I1 hs1 hg1=>r_.el fun a ra rv=> ?_
 obtain⟨p,vs,e,hq,r⟩:=jQ9 hg1 ra hx
 subst e
 cases rv
 have fpk:∀b∈[s1.heap.objs.size],FpOk X pins H1 b:=fun b hb=>by
  have e:b=s1.heap.objs.size:=by simpa using hb
  subst e
  exact I1.fpOk (lJh _) (I1.hok.fresh (lJh _))
 rcases hq with hq | hq
 ·obtain⟨its,rv,pl,hz⟩:=I1.list hq
  refine lYq pl.isList ?_
  refine⟨s1.heap.objs.size,[s1.heap.objs.size],_,_,xs,fun G'=>seqT G' x=some xs,G1,H1,rfl,e1,⟨σ,I1.kept (t':=s1.toks) fun b o e=>lJs _ e,hs1,hg1⟩,kZf p _,⟨_,lJ8 _ rfl,rfl,rfl⟩,fpk,?_,q⟩
  intro i H2 G2 e2 g2 st
  have ra2:=Rep.mono e2 _ ra
  have now:∃ws,SqL X.K H2 p ws/\Reps X.K H2 xs ws:=by
   cases x with
   | scr ys=>cases hx;obtain⟨p',ws,ep,h1,h2⟩:=(show ∃p' ws,V.ref p= .ref p'/\FrL X.K H2 p' ws/\Reps X.K H2 xs ws from ra2);cases ep;exact⟨ws,h1.sq,h2⟩
   | ref p'=>cases (show V.ref p= .ref p' from ra);obtain⟨ws,h1,h2⟩:=g2.lst (jQz st);exact⟨ws,.of h1,h2⟩
   | tup ys=>
    obtain⟨p',ws,ep,h1,h2⟩:=(show ∃p' ws,V.ref p= .ref p'/\H1 p'=some (.tup ws)/\Reps X.K H1 ys ws from ra)
    cases ep
    exfalso
    obtain⟨its',_,pl',_⟩:=I1.tuple (.of h1)
    obtain⟨o,n,ho,hc,_⟩:=pl
    obtain⟨o',ho',hc',_⟩:=pl'
    rw[ho] at ho';cases ho'
    rw[hc] at hc';exact absurd hc' (by decide)
   | non=>cases hx
   | bl _=>cases hx
   | int _=>cases hx
   | str _=>cases hx
   | ty _=>cases hx
  obtain⟨ws,h1,h2⟩:=now
  have hlen:=h2.length
  refine⟨fun hi=> ?_,fun hi=>⟨ws,h1,by omega⟩,fun _ y H' ⟨eH,hy⟩=> ?_⟩
  ·exact⟨ws,ws[i]'(by omega),h1,by simp[hlen▸hi]⟩
  ·subst eH
   obtain⟨t,ht,rt⟩:=h2.get' (hy ws h1)
   exact⟨.refl _,g2,t,ht,rt⟩
 ·obtain⟨its,rv,pl,hz⟩:=I1.tuple hq
  refine lXq (show s1.heap.IsTuple p its.toArray from pl) ?_
  refine⟨s1.heap.objs.size,[s1.heap.objs.size],_,_,xs,fun G'=>seqT G' x=some xs,G1,H1,rfl,e1,⟨σ,I1.kept (t':=s1.toks) fun b o e=>lJs _ e,hs1,hg1⟩,kX4 p _,⟨_,lJ8 _ rfl,rfl,rfl⟩,fpk,?_,q⟩
  intro i H2 G2 e2 g2 st
  have ra2:=Rep.mono e2 _ ra
  have now:∃ws,H2 p=some (.tup ws)/\Reps X.K H2 xs ws:=by
   cases x with
   | tup ys=>cases hx;obtain⟨p',ws,ep,h1,h2⟩:=(show ∃p' ws,V.ref p= .ref p'/\H2 p'=some (.tup ws)/\Reps X.K H2 xs ws from ra2);cases ep;exact⟨ws,h1,h2⟩
   | scr ys=>
    obtain⟨p',ws,ep,h1,h2⟩:=(show ∃p' ws,V.ref p= .ref p'/\FrL X.K H1 p' ws/\Reps X.K H1 ys ws from ra)
    cases ep
    exfalso
    obtain⟨its',_,pl',_⟩:=I1.list h1.sq
    obtain⟨o,n,ho,hc,_⟩:=pl'
    obtain⟨o',ho',hc',_⟩:=pl
    rw[ho] at ho';cases ho'
    rw[hc] at hc';exact absurd hc' (by decide)
   | ref p'=>
    cases (show V.ref p= .ref p' from ra)
    obtain⟨ws,h1,h2⟩:=hg1.lst (jQz hx)
    exfalso
    obtain⟨its',_,pl',_⟩:=I1.list (.of h1)
    obtain⟨o,n,ho,hc,_⟩:=pl'
    obtain⟨o',ho',hc',_⟩:=pl
    rw[ho] at ho';cases ho'
    rw[hc] at hc';exact absurd hc' (by decide)
   | non=>cases hx
   | bl _=>cases hx
   | int _=>cases hx
   | str _=>cases hx
   | ty _=>cases hx
  obtain⟨ws,h1,h2⟩:=now
  have hlen:=h2.length
  refine⟨fun hi=> ?_,fun hi=>⟨ws,.of h1,by omega⟩,fun _ y H' ⟨eH,hy⟩=> ?_⟩
  ·exact⟨ws,ws[i]'(by omega),.of h1,by simp[hlen▸hi]⟩
  ·subst eH
   obtain⟨t,ht,rt⟩:=h2.get' (hy ws (.of h1))
   exact⟨.refl _,g2,t,ht,rt⟩
def rngT (lo:Int) (n:Nat):List T:=(List.range n).map fun (k:Nat)=>T.int (lo+k)
def jQo (ta:TA3):TI3:=fun τ G R=>ta τ G fun vs G1=>∃j:Int,vs=[.int j]/\ -(2^62)<=j/\j<2^62/\R (rngT 0 j.toNat) (fun _=>True) G1
def qYy (ta:TA3):TI3:=fun τ G R=>ta τ G fun vs G1=>∃i j:Int,vs=[.int i,.int j]/\(-(2^62)<=i/\i<2^62/\ -(2^62)<=j/\j<2^62)/\R (rngT i (j-i).toNat) (fun _=>True) G1
theorem kQ4 {K:PySem.W.Frag} {H:Hp} (lo:Int) (n:Nat):Items K H (Itr lo n) (rngT lo n) fun _=>True:=by
 intro i H' G e g _
 have hl:(rngT lo n).length=n:=by simp[rngT]
 refine⟨fun h=>by rw[hl] at h;exact h,fun h=>by rw[hl] at h;exact h,fun hi x H2 ⟨eH,ex⟩=> ?_⟩
 rw[hl] at hi
 subst eH;subst ex
 exact⟨.refl _,g,.int (lo+i),by simp[rngT,hi],rfl⟩
theorem jKx {a:Expr} {ta:TA3} {p:Pos} (hg:Gl X "range") (hm:X.mg "range"=none) (ha:PA3 X [a] ta) (hs:starEach [a] X.env=[(false,eval a X.env)]:=by rfl):PI3 X tg (.Call (.Name "range" p) [a] [] pos) (jQo ta):=by
 intro pins s τ G H R I h
 obtain⟨σ,I0,hs0,hg0⟩:=id I
 refine Call_ (jU5 I0 hg hm boot_range (lVd (thn (ha pos pins s τ G H _ I h) fun us s1 w_=>w_.el fun xs G1 H1 e1 i_ r_ q1=>i_.el fun σ I1 hs1 hg1=>r_.el fun as ras rvs=> ?_) hs rfl))
 obtain⟨j,e,q1,q2,q⟩:=q1
 subst e
 obtain⟨v,rfl,rv⟩:=jYg ras
 cases (show v= .int j from rv)
 obtain⟨u,rfl,ru⟩:=rvs.one
 obtain⟨t,rfl⟩:=ru
 refine call_range_1 (thn (kXd (tg:=tg) (R:=fun J H'=>J=Itr 0 j.toNat/\H'=H1) I1 (by omega) (by omega) q1 q2 ⟨by simp,rfl⟩) fun itv s2 z=> ?_)
 obtain⟨it,fp,tn,J,H',ei,I2,T0,st,fk,eJ,eH⟩:=z
 subst eJ;subst eH
 exact⟨it,fp,tn,_,rngT 0 j.toNat,fun _=>True,G1,H',ei,e1,⟨σ,I2,hs1,hg1⟩,T0,st,fk,kQ4 0 j.toNat,q⟩
theorem qU3 {a b:Expr} {ta:TA3} {p:Pos} (hg:Gl X "range") (hm:X.mg "range"=none) (ha:PA3 X [a,b] ta) (hs:starEach [a,b] X.env=[(false,eval a X.env),(false,eval b X.env)]:=by rfl) (hs2:starEach [b] X.env=[(false,eval b X.env)]:=by rfl):
  PI3 X tg (.Call (.Name "range" p) [a,b] [] pos) (qYy ta):=by
 intro pins s τ G H R I h
 obtain⟨σ,I0,hs0,hg0⟩:=id I
 refine Call_ (jU5 I0 hg hm boot_range (lVd (thn (ha pos pins s τ G H _ I h) fun us s1 w_=>w_.el fun xs G1 H1 e1 i_ r_ q1=>i_.el fun σ I1 hs1 hg1=>r_.el fun as ras rvs=> ?_) (by rw[hs,hs2]) (by rw[hs2];rfl)))
 obtain⟨i,j,e,⟨q1,q2,q3,q4⟩,q⟩:=q1
 subst e
 obtain⟨v,w,rfl,rv,rw'⟩:=kUz ras
 cases (show v= .int i from rv);cases (show w= .int j from rw')
 obtain⟨u,u',rfl,ru,ru'⟩:=rvs.two
 obtain⟨t,rfl⟩:=ru
 obtain⟨t',rfl⟩:=ru'
 refine call_range_2 (thn (kXd (tg:=tg) (R:=fun J H'=>J=Itr i (j-i).toNat/\H'=H1) I1 q1 q2 q3 q4 ⟨rfl,rfl⟩) fun itv s2 z=> ?_)
 obtain⟨it,fp,tn,J,H',ei,I2,T0,st,fk,eJ,eH⟩:=z
 subst eJ;subst eH
 exact⟨it,fp,tn,_,rngT i (j-i).toNat,fun _=>True,G1,H',ei,e1,⟨σ,I2,hs1,hg1⟩,T0,st,fk,kQ4 i (j-i).toNat,q⟩
end
abbrev Sp3:=List T->Gp->VK3->Prop
def dn (K:PySem.W.Frag) (n:Nat) (sp:Sp3):Sp:=fun vs H Q _=>vs.length=n/\∃xs G,Reps K H xs vs/\GRel K H G/\sp xs G fun t G'=>∀v H',Ext H H'->GRel K H' G'->Rep K H' t v->Q v H'
def Fn3 (P:Program) (w:World) (K:PySem.W.Frag) (mg:Str->Option Value) (base:Heap) (k:Nat) (f:Addr) (fd:FuncData) (ps:List Str) (sp:Sp3):Prop:=FnOk P w K mg base CX0 k f fd ps (dn K ps.length sp)
def jJs (sp:Sp3) (t:TA3):TE3:=fun τ G Q=>t τ G fun xs G1=>sp xs G1 Q
def Mono (sp:Sp3):Prop:=∀xs G Q Q',(∀t G',Q t G'->Q' t G')->sp xs G Q->sp xs G Q'
def jK0 (N:List Str) (xs:List T):St3:=xs.map some++List.replicate (N.length-xs.length) none
theorem kQl {K:PySem.W.Frag} {H:Hp} {N:List Str} {xs:List T} {vs:List V} (r:Reps K H xs vs):SRel K H (start N vs) (jK0 N xs):=by
 have hl:=r.length
 refine⟨by simp[L2.start,jK0,hl],fun i t h=> ?_⟩
 unfold jK0 at h
 unfold L2.start
 by_cases hi:i<xs.length
 ·rw[lK1 (by simpa using hi),lKr] at h
  cases e:xs[i]? with
  | none=>rw[e] at h;cases h
  | some x=>
   rw[e] at h;cases h
   obtain⟨v,hv,rv⟩:=r.get e
   exact⟨v,by rw[lK1 (by simp;omega),lKr,hv];rfl,rv⟩
 ·rw[lK7 (by simpa using hi),List.getElem?_replicate] at h
  split at h<;>cases h
theorem fn3 {P:Program} {w:World} {K:PySem.W.Frag} {mg:Str->Option Value} {base:Heap} {x qual:Str} {st:Stmt} {f:Addr} {fd:FuncData} {N ps:List Str} {k:Nat} {sp:Sp3} (F:Fun K x qual st f fd) (S:FnScope N ps (jJq st))
  (hbody:∀(cdv:Value) (A:Around) (outer:List Env) (s:Shared) (H:Hp) (E:XK),Room k (A.deeper (envOfC qual (jJq st) s.heap.objs.size f cdv))->
   ∃t,PSs3 (cxOf CX0 P w K mg base N qual (jJq st) f cdv A outer s H E).nox (jK7 st) t/\∀xs G Q,sp xs G Q->t {nx:=fun _ G'=>Q .non G',rt:=Q} (jK0 N xs) G):Fn3 P w K mg base (k+1) f fd ps sp:=by
 refine Fun.ok (sp:=dn K ps.length sp) F S (fun vs H Q E h=>h.1) fun cdv A outer s H vs Q E hr hsp=> ?_
 obtain⟨t,ht,hq⟩:=hbody cdv A outer s H E hr
 obtain⟨hl,xs,G,rs,hg,hsp⟩:=hsp
 refine⟨fun D σ H1=>D.nx=(fun _ H'=>Q .non H')/\D.rt=Q/\σ=L2.start N vs/\H1=H,?_,rfl,rfl,rfl,rfl⟩
 rintro pins s1 σ1 H1 D I ⟨e1,e2,e3,e4⟩
 subst e3;subst e4
 have I3:Inv3 (cxOf CX0 P w K mg base N qual (jJq st) f cdv A outer s H1 E).nox pins (jK0 N xs) G H1 s1:=⟨_,I,kQl rs,hg⟩
 refine thn (ht pins s1 _ G H1 _ I3 (hq xs G _ hsp)) fun fl s2 z=> ?_
 cases fl with
 | next=>obtain⟨τ',G',H',e',⟨σ',I',a,b⟩,q⟩:=z;exact⟨σ',H',I',by rw[e1];exact q .non H' e' b rfl⟩
 | brk=>obtain⟨τ',G',H',e',_,q⟩:=z;exact q.elim
 | cont=>obtain⟨τ',G',H',e',_,q⟩:=z;exact q.elim
 | ret u=>obtain⟨x',τ',G',H',e',⟨σ',I',a,b⟩,⟨v,rv,ru⟩,q⟩:=z;exact⟨v,σ',H',I',ru,by rw[e2];exact q v H' e' b rv⟩
mutual
noncomputable def dep:T->Nat
 | .tup xs=>deps xs+1
 | _=>0
noncomputable def deps:List T->Nat
 | []=>0
 | x::xs=>max (dep x) (deps xs)
end
mutual
noncomputable def tree:T->Bool
 | .tup xs=>jQd xs
 | .ref _=>false
 | .scr _=>false
 | .ty _=>false
 | .non=>true
 | .bl _=>true
 | .int _=>true
 | .str _=>true
noncomputable def jQd:List T->Bool
 | []=>true
 | x::xs=>tree x&&jQd xs
end
mutual
noncomputable def eqT:T->T->Bool
 | .non,.non=>true
 | .bl a,.bl b=>a == b
 | .bl a,.int b=>(if a then 1 else 0) == b
 | .int a,.bl b=>a == (if b then 1 else 0)
 | .int a,.int b=>a == b
 | .str a,.str b=>a == b
 | .tup xs,.tup ys=>eqTs xs ys
 | _,_=>false
noncomputable def eqTs:List T->List T->Bool
 | [],[]=>true
 | x::xs,y::ys=>eqT x y&&eqTs xs ys
 | [],_::_=>false
 | _::_,[]=>false
end
mutual
theorem qVc {K:PySem.W.Frag} {H:Hp}:∀(x y:T) {a:V},tree x=true->tree y=true->Rep K H x a->Rep K H y a->eqT x y=true
 | .non,y,a,hx,hy,r,q=>by
  cases (show a= .non from r)
  cases y<;>first | rfl | (exact absurd (show false=true from hy) lJv) | (cases (show V.non=_ from q)) | (obtain⟨_,_,e,_⟩:=(show ∃c vs,V.non= .ref c/\_ from q);cases e)
 | .bl b,y,a,hx,hy,r,q=>by
  cases (show a= .bl b from r)
  cases y with
  | bl c=>cases (show V.bl b=V.bl c from q);simp[eqT]
  | tup ys=>obtain⟨_,_,e,_⟩:=(show ∃c vs,V.bl b= .ref c/\_ from q);cases e
  | non=>cases (show V.bl b= .non from q)
  | int c=>cases (show V.bl b= .int c from q)
  | str c=>cases (show V.bl b= .str c from q)
  | _=>exact absurd (show false=true from hy) lJv
 | .int b,y,a,hx,hy,r,q=>by
  cases (show a= .int b from r)
  cases y with
  | int c=>cases (show V.int b=V.int c from q);simp[eqT]
  | tup ys=>obtain⟨_,_,e,_⟩:=(show ∃c vs,V.int b= .ref c/\_ from q);cases e
  | non=>cases (show V.int b= .non from q)
  | bl c=>cases (show V.int b= .bl c from q)
  | str c=>cases (show V.int b= .str c from q)
  | _=>exact absurd (show false=true from hy) lJv
 | .str b,y,a,hx,hy,r,q=>by
  cases (show a= .str b from r)
  cases y with
  | str c=>cases (show V.str b=V.str c from q);simp[eqT]
  | tup ys=>obtain⟨_,_,e,_⟩:=(show ∃c vs,V.str b= .ref c/\_ from q);cases e
  | non=>cases (show V.str b= .non from q)
  | bl c=>cases (show V.str b= .bl c from q)
  | int c=>cases (show V.str b= .int c from q)
  | _=>exact absurd (show false=true from hy) lJv
 | .tup xs,y,a,hx,hy,r,q=>by
  obtain⟨p,vs,e,h1,h2⟩:=(show ∃p vs,a= .ref p/\H p=some (.tup vs)/\Reps K H xs vs from r)
  subst e
  cases y with
  | tup ys=>
   obtain⟨p',vs',e',h1',h2'⟩:=(show ∃p' vs',V.ref p= .ref p'/\H p'=some (.tup vs')/\Reps K H ys vs' from q)
   cases e'
   rw[h1] at h1';cases h1'
   exact kQ8 xs ys (show jQd xs=true from hx) (show jQd ys=true from hy) h2 h2'
  | non=>cases (show V.ref p= .non from q)
  | bl c=>cases (show V.ref p= .bl c from q)
  | int c=>cases (show V.ref p= .int c from q)
  | str c=>cases (show V.ref p= .str c from q)
  | _=>exact absurd (show false=true from hy) lJv
 | .ref _,_,_,hx,_,_,_=>absurd (show false=true from hx) lJv
 | .scr _,_,_,hx,_,_,_=>absurd (show false=true from hx) lJv
 | .ty _,_,_,hx,_,_,_=>absurd (show false=true from hx) lJv
theorem kQ8 {K:PySem.W.Frag} {H:Hp}:∀(xs ys:List T) {vs:List V},jQd xs=true->jQd ys=true->Reps K H xs vs->Reps K H ys vs->eqTs xs ys=true
 | [],ys,_,_,_,r,q=>by
  cases r
  cases ys with
  | nil=>rfl
  | cons y ys=>obtain⟨_,_,e,_⟩:=q;cases e
 | x::xs,ys,_,hx,hy,⟨v,ws,e,r1,r2⟩,q=>by
  subst e
  cases ys with
  | nil=>cases q
  | cons y ys=>
   obtain⟨v',ws',e',q1,q2⟩:=q
   cases e'
   have hx':tree x=true/\jQd xs=true:=by simpa[jQd] using hx
   have hy':tree y=true/\jQd ys=true:=by simpa[jQd] using hy
   show (eqT x y&&eqTs xs ys)=true
   rw[qVc x y hx'.1 hy'.1 r1 q1,kQ8 xs ys hx'.2 hy'.2 r2 q2]
   rfl
end
section
variable {X:Cx}
def rSub:R3:=rI0 fun i j=> .int (i-j)
def rMod:R3:=rI (fun _ j=>0<j) fun i j=> .int (i%j)
def qXz:R3:=rI CDiv fun i j=> .int (i / j)
def rPow:R3:=rI CPow fun i j=> .int (i^j.toNat)
def rLt:R3:=rI0 fun i j=> .bl (decide (i<j))
def rGt:R3:=rI0 fun i j=> .bl (decide (j<i))
def rGe:R3:=rI0 fun i j=> .bl (decide (j<=i))
def rIsN:R3:=fun x y G Q=>y= .non/\Q (.bl (jK6 x)) G
def kU8:R3:=fun x y G Q=>y= .non/\Q (.bl (!jK6 x)) G
def qQ1:R3:=fun x y G Q=>∃xs ys,x= .tup xs/\y= .tup ys/\xs≠[]/\xs.length+ys.length<=sizeLine/\Q (.tup (xs++ys)) G
theorem o_catT:Op3 X (binaryOp .Add) qQ1:=
 Op3.of qX6 fun H G x y a b Q hg ra rb ⟨xs,ys,ex,ey,hx,hz,q⟩=>by
  subst ex;subst ey
  obtain⟨p,vs,e1,h1,h2⟩:=(show ∃p vs,a= .ref p/\H p=some (.tup vs)/\Reps X.K H xs vs from ra)
  obtain⟨p',ws,e2,h3,h4⟩:=(show ∃p vs,b= .ref p/\H p=some (.tup vs)/\Reps X.K H ys vs from rb)
  subst e1;subst e2
  have l1:=h2.length
  have l2:=h4.length
  refine⟨p,p',vs,ws,rfl,rfl,.of h1,.of h3,fun z=>hx ?_,by omega,fun z=> ?_,fun z l hl=> ?_⟩
  ·rw[z] at l1;exact lVe.mp l1
  ·rw[z] at l2
   have:ys=[]:=lVe.mp l2
   subst this
   exact⟨.tup (xs++[]),G,.refl H,hg,by rw[lQ0];exact ra,q⟩
  ·exact⟨.tup (xs++ys),G,.upd (.none hl),hg.tupNew hl,Rep.tupNew (h2.append h4) hl,q⟩
def rAddI:R3:=rI0 fun i j=> .int (i+j)
def rAddA:R3:=fun x y G Q=>rAddI x y G Q\/rCat x y G Q\/qQ1 x y G Q
theorem o_addA:Op3 X (binaryOp .Add) rAddA:=o_add.or (o_cat.or o_catT)
def rMulI:R3:=rI CMul fun i j=> .int (i*j)
def rMulA:R3:=fun x y G Q=>rMulI x y G Q\/rRep x y G Q
theorem o_mulA:Op3 X (binaryOp .Mult) rMulA:=o_mul.or o_rep
def rNeg:T->Gp->VK3->Prop:=fun x G Q=>∃i,x= .int i/\Q (.int (-i)) G
theorem u_neg:Un3 X (unaryOp .USub) rNeg:=
 Un3.of un_neg fun H G x a Q hg ra ⟨i,e,q⟩=>by
  subst e;cases (show a= .int i from ra)
  exact⟨i,rfl,.int (-i),G,.refl H,hg,rfl,q⟩
theorem jJn (b:Expr) {op:CmpOp} (h:behindInMarks op b=false:=by first | exact nomark _ | with_unfolding_all rfl):behindInMarks op b=false:=h
variable {a b c:Expr} {ta tb tc:TE3} {pos:Pos}
theorem qXn {op op':CmpOp} {r r':R3} (ho:Op3 X (compareOp op) r) (ho':Op3 X (compareOp op') r') (ha:PE3 X a ta) (hb:PE3 X b tb) (hc:PE3 X c tc)
  (hm:lastMarks [op,op'] [b,c]=false:=by with_unfolding_all rfl):PT3 X (.Compare a [op,op'] [b,c] pos) (jJ0 (kZo r r' ta tb tc)):=by
 intro pins s τ G H Q I h
 refine isTrue_chain (thn (ha pins s τ G H _ I h) fun v s1 w_=>w_.el fun x G1 H1 e1 I1 r1 q1=>test_link (thn (hb pins s1 τ G1 H1 _ I1 q1) fun u s2 ⟨y,G2,H2,e2,I2,r2,q2⟩=>
  thn (ho pins s2 τ G2 H2 x y v u _ I2 (r1.mono e2) r2 q2) fun d s3 w_=>w_.el fun z G3 H3 e3 I3 r_ ⟨k,e,q3⟩=>r_.el fun v' rv' ru'=> ?_)) hm
 subst e
 cases (show v'= .bl k from rv');cases ru'
 refine lV2 ?_
 cases k with
 | false=>
  obtain⟨k',e',q'⟩:=q3
  cases e'
  exact ite_ff ⟨G3,H3,(e1.trans e2).trans e3,I3,q'⟩
 | true=>
  refine ite_tt (test_last (thn (hc pins s3 τ G3 H3 _ I3 q3) fun w' s4 w_=>w_.el fun z' G4 H4 e4 I4 r4 q4=>thn (ho' pins s4 τ G4 H4 y z' u w' _ I4 (r2.mono (e3.trans e4)) r4 q4) fun d' s5 w_=>w_.el fun z2 G5 H5 e5 I5 r_ ⟨k2,e2',q5⟩=>r_.el fun v2 rv2 ru2=> ?_))
  subst e2'
  cases (show v2= .bl k2 from rv2);cases ru2
  exact lV2 ⟨G5,H5,(((e1.trans e2).trans e3).trans e4).trans e5,I5,q5⟩
mutual
noncomputable def td:T->PyData
 | .tup xs=> .tuple (tds xs)
 | .int i=> .int i
 | .bl b=> .bool b
 | .str x=> .str x
 | .non=> .none
 | .ref _=> .none
 | .scr _=> .none
 | .ty _=> .none
noncomputable def tds:List T->List PyData
 | []=>[]
 | x::xs=>td x::tds xs
end
def eqOk (x:T):Bool:=tree x&&(td x).canLay0&&decide ((td x).depth<=50)
def kK6 (xs:List T):Bool:=jQd xs&&PyData.canLayAll0 (tds xs)&&decide ((PyData.list (tds xs)).depth<=50)
noncomputable def eqG (G:Gp) (x y:T):Option Bool:=match x,y with
 | .ref p,.ref q=>match G p,G q with
  | some (.lst xs),some (.lst ys)=>if kK6 xs=true/\kK6 ys=true then some (eqTs xs ys) else none
  | _,_=>none
 | _,_=>if eqOk x=true/\eqOk y=true then some (eqT x y) else none
def rEqA:R3:=fun x y G Q=>∃b,eqG G x y=some b/\Q (.bl b) G
def rNeA:R3:=fun x y G Q=>∃b,eqG G x y=some b/\Q (.bl (!b)) G
noncomputable def truT (G:Gp):T->Option Bool
 | .non=>some false
 | .bl b=>some b
 | .int i=>some (i != 0)
 | .tup xs=>some (!xs.isEmpty)
 | .ref p=>match G p with
  | some (.lst xs)=>some (!xs.isEmpty)
  | some (.dck kvs)=>some (!kvs.isEmpty)
  | _=>none
 | _=>none
def rTru:T->Gp->(Bool->Gp->Prop)->Prop:=fun x G Q=>∃b,truT G x=some b/\Q b G
theorem jYa {K:PySem.W.Frag} {H:Hp} {xs:List T} {vs:List V} (r:Reps K H xs vs):xs.isEmpty=vs.isEmpty:=by
 have:=r.length
 cases xs<;>cases vs<;>simp_all
theorem kZi:Tru3 X rTru:=
 Tru3.of tru_ok fun H G x a Q hg ra ⟨b,hb,q⟩=>by
  refine⟨b,?_,rfl,q⟩
  cases x with
  | non=>cases (show a= .non from ra);cases hb;rfl
  | bl k=>cases (show a= .bl k from ra);cases hb;rfl
  | int k=>cases (show a= .int k from ra);cases hb;rfl
  | tup xs=>
   obtain⟨p,vs,e1,h1,h2⟩:=(show ∃p vs,a= .ref p/\H p=some (.tup vs)/\Reps X.K H xs vs from ra)
   subst e1;cases hb
   exact .inr (.inl ⟨vs,.of h1,by rw[jYa h2]⟩)
  | ref p=>
   cases (show a= .ref p from ra)
   cases hG:G p with
   | none=>simp only[truT,hG] at hb;cases hb
   | some o=>
    simp only[truT,hG] at hb
    cases o with
    | lst xs=>cases hb;obtain⟨vs,h1,h2⟩:=hg.lst hG;exact .inl ⟨vs,.of h1,by rw[jYa h2]⟩
    | dct _=>cases hb
    | fdc _=>cases hb
    | ins _ _=>cases hb
    | exc _=>cases hb
    | dck kvs=>
     cases hb
     obtain⟨ws,h1,h2⟩:=hg p _ hG
     refine .inr (.inr ⟨ws,h1,?_⟩)
     cases h2<;>rfl
  | str _=>cases hb
  | scr _=>cases hb
  | ty _=>cases hb
end
section
variable {X:Cx} {pins:List (Addr×Obj)} {σ:L2.St} {H:Hp} {s:Shared} {h':Heap}
theorem jZd {t':Nat} {fp:List Addr} (I:Inv X pins σ H s) (k:∀b o,b∉fp->s.heap.get? b=some o->h'.get? b=some o) (hf:∀b∈fp,FpOk X pins H b):Inv X pins σ H {s with heap:=h',toks:=t'}:=by
 have nit:∀b u,H b=some u->b∉fp:=fun b u e z=>by rw[(hf b z).1] at e;cases e
 refine I.step (g':=s.gens) (d':=s.drawn) (ch:=fp) (fun b hb=>⟨(hf b hb).2.2.2.1,(hf b hb).2.1,(hf b hb).2.2.2.2.1,(hf b hb).2.2.2.2.2⟩) (fun b o _ _ hc e _=>k b o hc e) (fun b o _ _ hc e _=>⟨o.slots,k b o hc e⟩) (fun _ _ _ _ n=>n)
  (fun b o hc e=>⟨o,k b o hc e⟩) (fun _ _ e=>e) (fun _ _ _ e=>e) (fun b ps e=>⟨#[],by rw[e];simp⟩) (fun m hm=> ?_) (fun b u e=> ?_) I.bare
 ·obtain⟨o,es,ep,ho,r⟩:=hm
  exact⟨o,es,ep,k _ o (fun z=>(hf _ z).2.1 rfl) ho,r⟩
 ·refine (I.hok b u e).stay (fun c v hc q=>k c v ?_ q) (fun _ q=>q) fun _ _ q=>q
  rcases hc with z | z
  ·rw[z];exact nit b u e
  ·exact nit c _ z
theorem jUy {t':Nat} {fp:List Addr} {p:Addr} {vs:List V} {us:List Value} (I:Inv X pins σ H s) (k:∀b o,b∉fp->s.heap.get? b=some o->h'.get? b=some o) (hf:∀b∈fp,FpOk X pins H b)
  (hp:s.heap.objs.size<=p) (ht:TupD h' p us.toArray) (r:Vals vs us) (hz:vs.length<=sizeLine):Inv X pins σ (upd H p (.tup vs)) {s with heap:=h',toks:=t'}:=by
 have hn:H p=none:=I.hok.fresh hp
 have nit:∀b u,H b=some u->b∉fp:=fun b u e z=>by rw[(hf b z).1] at e;cases e
 have old:∀b o,s.heap.get? b=some o->b≠p:=fun b o e=>lJw (lKe (lJj e) hp)
 have tr:∀b u,H b=some u->b≠p:=fun b u e z=>by rw[z,hn] at e;cases e
 refine I.step (g':=s.gens) (d':=s.drawn) (ch:=fp) (fun b hb=>⟨(hf b hb).2.2.2.1,(hf b hb).2.1,(hf b hb).2.2.2.2.1,(hf b hb).2.2.2.2.2⟩) (fun b o _ _ hc e _=>k b o hc e) (fun b o _ _ hc e _=>⟨o.slots,k b o hc e⟩) (fun b o _ e n=>by rw[jJw (old b o e)];exact n)
  (fun b o hc e=>⟨o,k b o hc e⟩) (fun b _ e=>by rw[jJw (tr b _ e)];exact e) (fun b _ _ e=>by rw[jJw (tr b _ e)];exact e) (fun b ps e=>⟨#[],by rw[jJw (tr b _ e),e];simp⟩) (fun m hm=> ?_) (fun b u e=> ?_) I.bare
 ·obtain⟨o,es,ep,ho,r⟩:=hm
  exact⟨o,es,ep,k _ o (fun z=>(hf _ z).2.1 rfl) ho,r⟩
 ·by_cases hb:b=p
  ·subst hb
   rw[jKg] at e
   cases e
   exact⟨hz,us,r,ht⟩
  ·rw[jJw hb] at e
   refine (I.hok b u e).stay (fun c v hc q=>k c v ?_ q) (fun c q=>by rw[jJw (tr c _ q)];exact q) fun c _ q=>by rw[jJw (tr c _ q)];exact q
   rcases hc with z | z
   ·rw[z];exact nit b u e
   ·exact nit c _ z
end
noncomputable def Ite (K:PySem.W.Frag) (a:Addr):It:=
 ⟨fun i H=>∃xs x,SqL K H a xs/\xs[i]? =some x,fun i H x H'=>∃p y,H p=none/\x= .ref p/\(∀xs,SqL K H a xs->xs[i]? =some y)/\H'=upd H p (.tup [.int i,y]),fun i H=>∃xs,SqL K H a xs/\xs.length<=i⟩
theorem kZg {P:Program} {w:World} {K:PySem.W.Frag} {elts:List Expr} {k:Nat} {pos:Pos} (a e it:Addr) (hei:e≠it):
  Turn P w K (.Tuple elts k pos) (Ite K a) [e,it] e (fun i h=>(∃old,IsEnum h e it i old)/\h.IsListIter it a i) where
 mem:=by simp
 obj:=fun i h ⟨⟨old,h1⟩,h2⟩ b hb=>by
  have hb':b=e\/b=it:=by simpa using hb
  rcases hb' with z | z
  ·subst z;exact⟨_,h1,fun v z=>nomatch (show Data.fields _=Data.cell v from z)⟩
  ·subst z
   obtain⟨o,e2,c,d⟩:=h2
   exact⟨o,e2,fun v z=>by rw[d] at z;cases z⟩
 keep:=fun i h h' ⟨⟨old,h1⟩,h2⟩ kp=>⟨⟨old,kp e (by simp) _ h1⟩,h2.at fun o q=>kp it (by simp) o q⟩
 item:=by
  rintro X hP hw hK hc i pins s σ H E I hf ⟨⟨old,he⟩,hit⟩ hg
  subst hP hw hK
  obtain⟨xs,x,hq,hx⟩:=hg
  obtain⟨its,rv,p,hz⟩:=I.list hq
  obtain⟨u,hu,ru⟩:=rv.get hx
  refine wpAny_pyNext_enum_item he hit p.isList (x:=u) (by simpa using hu) hei fun h1 ho hit1 hT hsz hk=> ?_
  refine⟨_,rfl,wpAny_letOwnedTupleGo_enum ho fun h2 he2 hs2=> ?_⟩
  have hel:e<s.heap.objs.size:=lJj he
  have hp2:∀b o,b∉[e,it]->s.heap.get? b=some o->h2.get? b=some o:=fun b o hb q=>by
   have hb1:b≠e:=fun z=>hb (by simp[z])
   have hb2:b≠it:=fun z=>hb (by simp[z])
   exact (hs2.2 b hb1).trans (hk b o hb1 hb2 q)
  have hT2:h2.get? s.heap.objs.size=some {cls:= .type "tuple",data:= .seq #[.int i s.toks,u]}:=(hs2.2 _ (lK6 hel)).trans hT
  have I2:=jUy (t':=s.toks+1) (h':=h2) (p:=s.heap.objs.size) (vs:=[.int i,x]) (us:=[.int i s.toks,u]) I hp2 hf (lJh _) ⟨_,hT2,rfl,_,rfl,rfl⟩ (.cons ⟨_,rfl⟩ (.cons ru .nil)) (by show 2<=sizeLine;decide)
  refine⟨.ref s.heap.objs.size,_,I2,rfl,⟨_,x,I.hok.fresh (lJh _),rfl,fun ys hy=>by rw[I.list_inj hy hq];exact hx,rfl⟩,⟨⟨u,by simpa using he2⟩,hit1.at fun o q=>(hs2.2 it hei.symm).trans q⟩,fun b hb=> ?_⟩
  have hbs:∃o,s.heap.get? b=some o:=by
   have hb':b=e\/b=it:=by simpa using hb
   rcases hb' with z | z
   ·subst z;exact⟨_,he⟩
   ·subst z;obtain⟨o,q,_⟩:=hit;exact⟨o,q⟩
  obtain⟨o,q⟩:=hbs
  rw[jJw (lJw (lJj q))]
  exact (hf b hb).1
 done:=by
  rintro X hP hw hK hc i pins s σ H E I hf ⟨⟨old,he⟩,hit⟩ hg
  subst hP hw hK
  obtain⟨xs,hq,hx⟩:=hg
  obtain⟨its,rv,p,hz⟩:=I.list hq
  have hl:=rv.length
  exact wpAny_pyNext_enum_end (I.ok.hd hc) he hit p.isList (by simp;omega) fun h1 hx1=>⟨rfl,jZd (t':=s.toks) I (fun b o hb q=>hx1 b o (fun z=>hb (by simp[z])) q) hf⟩
 self:=fun _ _ _ _ _ ⟨⟨old,he⟩,_⟩ h=>lYr he h
def numT (xs:List T):List T:=(List.range xs.length).map fun (i:Nat)=>T.tup [.int i,xs.getD i .non]
theorem jVd {xs:List T} {i:Nat} {x:T} (h:xs[i]? =some x):(numT xs)[i]? =some (.tup [.int i,x]):=by
 have hi:i<xs.length:=by
  rcases lQn i xs.length with z | z
  ·exact z
  ·rw[lKi z] at h;cases h
 have hx:xs[i]=x:=(lJi.mp h).2
 simp[numT,hi,List.getD,hx]
theorem jJ8 {xs:List T}:(numT xs).length=xs.length:=by simp[numT]
def jKc (G:Gp):T->Option (List T)
 | .ref p=>asL (G p)
 | .scr xs=>some xs
 | _=>none
theorem jK8 {K:PySem.W.Frag} {H:Hp} {G:Gp} {x:T} {a:V} {xs:List T} (hg:GRel K H G) (r:Rep K H x a) (h:jKc G x=some xs):∃p vs,a= .ref p/\SqL K H p vs/\Reps K H xs vs:=by
 cases x with
 | scr ys=>cases h;obtain⟨p,vs,e,h1,h2⟩:=(show ∃p vs,a= .ref p/\FrL K H p vs/\Reps K H xs vs from r);exact⟨p,vs,e,h1.sq,h2⟩
 | ref p=>
  obtain⟨vs,h1,h2⟩:=hg.lst (jQz h)
  exact⟨p,vs,r,.of h1,h2⟩
 | tup _=>cases h
 | non=>cases h
 | bl _=>cases h
 | int _=>cases h
 | str _=>cases h
 | ty _=>cases h
def kKy (ta:TA3):TI3:=fun τ G R=>ta τ G fun vs G1=>∃x xs,vs=[x]/\jKc G1 x=some xs/\R (numT xs) (fun G'=>jKc G' x=some xs) G1
theorem kXm {X:Cx} {elts:List Expr} {k:Nat} {tpos pos p:Pos} {a:Expr} {ta:TA3} (hg:Gl X "enumerate") (hm:X.mg "enumerate"=none) (hv:bootBuiltins "enumerate"=some (.type "enumerate")) (ha:PA3 X [a] ta) (hs:starEach [a] X.env=[(false,eval a X.env)]:=by rfl):
  PI3 X (.Tuple elts k tpos) (.Call (.Name "enumerate" p) [a] [] pos) (kKy ta):=by
 intro pins s τ G H R I h
 obtain⟨σ0,I0,hs0,hg0⟩:=id I
 refine Call_ (jU5 I0 hg hm hv (lVd (thn (ha pos pins s τ G H _ I h) fun us s1 w_=>w_.el fun xs' G1 H1 e1 i_ r_ q1=>i_.el fun σ I1 hs1 hg1=>r_.el fun as ras rvs=> ?_) hs rfl))
 obtain⟨x,xs,e,hx,q⟩:=q1
 subst e
 obtain⟨v,rfl,rv⟩:=jYg ras
 obtain⟨u,rfl,ru⟩:=rvs.one
 obtain⟨pa,vs,rfl,hq,r⟩:=jK8 hg1 rv hx
 cases ru
 obtain⟨its,rvv,pl,hz⟩:=I1.list hq
 refine call_enumerate_list pl.isList fun h1 he hit hsz hk=> ?_
 have I2:Inv X pins σ H1 {s1 with heap:=h1}:=I1.kept (t':=s1.toks) hk
 refine lYr (Q:=PIE3 X pins τ H (.Tuple elts k tpos) R) he ?_
 have fr:∀b∈[s1.heap.objs.size+1,s1.heap.objs.size],FpOk X pins H1 b:=fun b hb=>by
  have hb':b=s1.heap.objs.size+1\/b=s1.heap.objs.size:=by simpa using hb
  have hle:s1.heap.objs.size<=b:=by omega
  exact I1.fpOk hle (I1.hok.fresh hle)
 refine⟨s1.heap.objs.size+1,[s1.heap.objs.size+1,s1.heap.objs.size],_,_,numT xs,fun G'=>jKc G' x=some xs,G1,H1,rfl,e1,⟨σ,I2,hs1,hg1⟩,kZg pa _ _ (Nat.succ_ne_self _),⟨⟨.none,he⟩,hit⟩,fr,?_,q⟩
 intro i H2 G2 e2 g2 st
 obtain⟨pb,ws,eb,h1,h2⟩:=jK8 g2 (Rep.mono e2 _ rv) st
 cases eb
 have hlen:=h2.length
 refine⟨fun hi=> ?_,fun hi=>⟨ws,h1,by rw[jJ8] at hi;omega⟩,fun hi y H' ⟨pp,z,hn,ey,hy,eH⟩=> ?_⟩
 ·rw[jJ8] at hi
  exact⟨ws,ws[i]'(by omega),h1,by simp[hlen▸hi]⟩
 ·subst ey;subst eH
  obtain⟨t,ht,rt⟩:=h2.get' (hy ws h1)
  exact⟨.upd (.none hn),g2.tupNew hn,_,jVd ht,Rep.tupNew ⟨_,_,rfl,rfl,_,_,rfl,rt,rfl⟩ hn⟩
noncomputable def clGo (env:Env):List (Str×NameKind)->List (Str×Addr)->Option (List (Str×Addr))
 | [],cs=>some cs
 | (n,k)::r,cs=>if (k == .free)=true then (match env.cells.lookup n with | some c=>clGo env r ((n,c)::cs) | none=>none) else clGo env r cs
theorem kJ4 {scope:Scope} {env:Env} {cl:List (Str×Addr)} (h:clGo env scope.names []=some cl):closureFor scope env=pure cl:=by
 unfold closureFor
 have go:∀(names:List (Str×NameKind)) (cs:List (Str×Addr)),clGo env names cs=some cl->
   (forIn names cs fun (x:Str×NameKind) (r:List (Str×Addr))=>(match x with | (nm,kd)=>if (kd == .free)=true then cellOf env nm >>= fun a=>pure (ForInStep.yield ((nm,a)::r)) else pure (ForInStep.yield r):Sem (ForInStep (List (Str×Addr)))))=pure cl:=by
  intro names
  induction names with
  | nil=>intro cs e;cases e;rfl
  | cons x r ih=>
   obtain⟨n,k⟩:=x
   intro cs e
   unfold clGo at e
   rw[List.forIn_cons]
   by_cases hk:(k == NameKind.free)=true
   ·rw[lJc hk] at e
    cases hc:env.cells.lookup n with
    | none=>rw[hc] at e;cases e
    | some c=>
     rw[hc] at e
     have hco:cellOf env n=pure c:=by unfold cellOf;rw[hc]
     simp only[hk,lKp,hco,pure_bind]
     exact ih _ e
   ·rw[lJa hk] at e
    simp only[hk,pure_bind,lKd,lKn]
    exact ih _ e
 have:=go scope.names [] h
 simpa using this
theorem jY5 {env:Env} {cl:List (Str×Addr)}:∀ {names:List (Str×NameKind)} {cs:List (Str×Addr)},clGo env names cs=some cl->(∀n c,cs.lookup n=some c->env.cells.lookup n=some c)->∀n c,cl.lookup n=some c->env.cells.lookup n=some c
 | [],cs,e,h=>by cases e;exact h
 | (n,k)::r,cs,e,h=>by
  unfold clGo at e
  by_cases hk:(k == NameKind.free)=true
  ·rw[lJc hk] at e
   cases hc:env.cells.lookup n with
   | none=>rw[hc] at e;cases e
   | some c=>
    rw[hc] at e
    refine jY5 e fun m d q=> ?_
    rw[lK2] at q
    by_cases hm:(m == n)=true
    ·rw[hm] at q;cases q;rw[eq_of_beq hm];exact hc
    ·simp only[hm] at q;exact h m d q
  ·rw[lJa hk] at e
   exact jY5 e h
theorem jZ6 {env:Env} {cl:List (Str×Addr)} {m:Str}:∀ {names:List (Str×NameKind)} {cs:List (Str×Addr)},clGo env names cs=some cl->(∃c,cs.lookup m=some c)->∃c,cl.lookup m=some c
 | [],cs,e,h=>by cases e;exact h
 | (n,k)::r,cs,e,h=>by
  unfold clGo at e
  by_cases hk:(k == NameKind.free)=true
  ·rw[lJc hk] at e
   cases hc:env.cells.lookup n with
   | none=>rw[hc] at e;cases e
   | some c=>
    rw[hc] at e
    refine jZ6 e ?_
    rw[lK2]
    by_cases hm:(m == n)=true
    ·rw[hm];exact⟨_,rfl⟩
    ·simp only[hm];exact h
  ·rw[lJa hk] at e
   exact jZ6 e h
theorem jY6 {env:Env} {cl:List (Str×Addr)} {m:Str}:∀ {names:List (Str×NameKind)} {cs:List (Str×Addr)},clGo env names cs=some cl->names.lookup m=some .free->∃c,cl.lookup m=some c
 | [],cs,e,h=>by simp at h
 | (n,k)::r,cs,e,h=>by
  unfold clGo at e
  rw[lK2] at h
  by_cases hm:(m == n)=true
  ·rw[hm] at h
   cases h
   rw[lJc (show (NameKind.free == NameKind.free)=true from rfl)] at e
   cases hc:env.cells.lookup n with
   | none=>rw[hc] at e;cases e
   | some c=>
    rw[hc] at e
    refine jZ6 e ?_
    rw[lK2,hm];exact⟨_,rfl⟩
  ·simp only[hm] at h
   by_cases hk:(k == NameKind.free)=true
   ·rw[lJc hk] at e
    cases hc:env.cells.lookup n with
    | none=>rw[hc] at e;cases e
    | some c=>rw[hc] at e;exact jY6 e h
   ·rw[lJa hk] at e
    exact jY6 e h
theorem jQv {env:Env} {x:Str}:∀ {names:List (Str×NameKind)},(∀y∈names,y.2≠ .cell)->
  ((names.map fun (n,k)=>if (k == NameKind.free&&env.scope.kind == .function&&env.kindOf n == some .cell) then (n,NameKind.cell) else (n,k)).lookup x=some .cell\/
    (names.map fun (n,k)=>if (k == NameKind.free&&env.scope.kind == .function&&env.kindOf n == some .cell) then (n,NameKind.cell) else (n,k)).lookup x=some .free)->names.lookup x=some .free
 | [],_,h=>by simp at h
 | (n,k)::r,hc,h=>by
  have ih:= @jQv env x r (fun y hy=>hc y (lJ4 _ hy))
  have hk:=hc (n,k) lJz
  rw[lJp] at h
  rw[lK2]
  by_cases hx:(x == n)=true
  ·rw[hx]
   by_cases hf:(k == NameKind.free&&env.scope.kind == .function&&env.kindOf n == some .cell)=true
   ·have:(k == NameKind.free)=true:=by
     rw[lKt,lKt] at hf;exact hf.1.1
    rw[eq_of_beq this]
   ·simp only[hf,lKd,lKn,lK2,hx] at h
    rcases h with h | h
    ·cases h;exact absurd rfl hk
    ·cases h;rfl
  ·simp only[hx]
   refine ih ?_
   by_cases hf:(k == NameKind.free&&env.scope.kind == .function&&env.kindOf n == some .cell)=true
   ·simpa only[hf,lKp,lK2,hx] using h
   ·simpa only[hf,lKd,lKn,lK2,hx] using h
theorem jUl {env:Env} {x:Str}:∀ {names:List (Str×NameKind)},
  (names.map fun (n,k)=>if (k == NameKind.free&&env.scope.kind == .function&&env.kindOf n == some .cell) then (n,NameKind.cell) else (n,k)).lookup x=some .local->names.lookup x=some .local
 | [],h=>by simp at h
 | (n,k)::r,h=>by
  have ih:= @jUl env x r
  rw[lJp] at h
  rw[lK2]
  by_cases hx:(x == n)=true
  ·rw[hx]
   by_cases hf:(k == NameKind.free&&env.scope.kind == .function&&env.kindOf n == some .cell)=true
   ·simp only[hf,lKp,lK2,hx] at h;cases h
   ·simp only[hf,lKd,lKn,lK2,hx] at h;exact h
  ·simp only[hx]
   refine ih ?_
   by_cases hf:(k == NameKind.free&&env.scope.kind == .function&&env.kindOf n == some .cell)=true
   ·simpa only[hf,lKp,lK2,hx] using h
   ·simpa only[hf,lKd,lKn,lK2,hx] using h
noncomputable def jUd (X:Cx) (scope:Scope) (cl:List (Str×Addr)) (C:Addr) (fp:List Addr) (s:Shared) (H:Hp):Cx:=
 {X with env:=compEnvC scope cl C X.env,s₀:=s,H₀:=H,outer:=X.stack,stack:=X.stack,ex:=fp,fn:=fun _=>false,pn:=[],xe:=fun _ _=>False}
structure CmpOk (X:Cx) (scope:Scope) (cl:List (Str×Addr)) (mask:List Bool):Prop where
 cl:clGo X.env scope.names []=some cl
 kind:scope.kind= .function
 nocell:(scope.names.all fun y=>y.2 != .cell)=true
 names:(scope.names.all fun y=>y.2 != .local||scope.names.lookup y.1 == some .local)=true
 vis:(scope.names.all fun y=>y.2 != .free||X.env.kindOf y.1 == some .cell||X.env.kindOf y.1 == some .free)=true
 len:mask.length=X.N.length
 mask:((X.N.zip mask).all fun p=>p.2||scope.names.lookup p.1 != some .local)=true
def msk {α:Type} (mask:List Bool) (τ:List (Option α)):List (Option α):=List.zipWith (fun b o=>if b=true then none else o) mask τ
theorem kVg {α:Type} {mask:List Bool} {τ:List (Option α)} {i:Nat} {t:α} (h:(msk mask τ)[i]? =some (some t)):mask[i]? =some false/\τ[i]? =some (some t):=by
 unfold msk at h
 rw[lXy] at h
 cases hm:mask[i]? with
 | none=>exact absurd (hm▸h) (by simp)
 | some b=>
  cases ht:τ[i]? with
  | none=>rw[hm,ht] at h;cases h
  | some o=>
   rw[hm,ht] at h
   cases b with
   | true=>simp at h
   | false=>simp at h;exact⟨rfl,by rw[h]⟩
theorem jX0 {α:Type} {mask:List Bool} {τ:List (Option α)} (h:mask.length=τ.length):(msk mask τ).length=τ.length:=by
 unfold msk;rw[List.length_zipWith,h,Nat.min_self]
theorem qJt {K:PySem.W.Frag} {H:Hp} {σ:L2.St} {τ:St3} {mask:List Bool} (h:SRel K H σ τ) (hl:mask.length=τ.length):SRel K H (msk mask σ) (msk mask τ):=by
 refine⟨by rw[jX0 hl,jX0 (hl.trans h.1.symm),h.1],fun i t q=> ?_⟩
 obtain⟨h1,h2⟩:=kVg q
 obtain⟨v,h3,h4⟩:=h.2 i t h2
 refine⟨v,?_,h4⟩
 unfold msk
 rw[lXy,h1,h3]
 simp
section
variable {X:Cx} {scope:Scope} {cl:List (Str×Addr)} {mask:List Bool}
theorem CmpOk.local (c:CmpOk X scope cl mask) {i:Nat} {x:Str} (h1:X.N[i]? =some x) (h2:mask[i]? =some false):scope.names.lookup x≠some .local:=by
 have h:=c.mask
 rw[lQf] at h
 have hz:(X.N.zip mask)[i]? =some (x,false):=by rw[lXd];exact⟨h1,h2⟩
 have:=h _ (lJo hz)
 simpa using this
theorem CmpOk.free (c:CmpOk X scope cl mask) {x:Str} (h:scope.names.lookup x=some .free):X.env.kindOf x=some .cell\/X.env.kindOf x=some .free:=by
 have hv:=c.vis
 rw[lQf] at hv
 have:=hv (x,.free) (lV8 h)
 simpa using this
theorem CmpOk.nc (c:CmpOk X scope cl mask):∀y∈scope.names,y.2≠ .cell:=by
 have hv:=c.nocell
 rw[lQf] at hv
 intro y hy
 simpa using hv y hy
theorem CmpOk.nm (c:CmpOk X scope cl mask):∀y∈scope.names,y.2= .local->scope.names.lookup y.1=some .local:=by
 have hv:=c.names
 rw[lQf] at hv
 intro y hy e
 have:=hv y hy
 rw[e] at this
 simpa using this
theorem qKw (c:CmpOk X scope cl mask) {pins:List (Addr×Obj)} {σ:L2.St} {H:Hp} {s:Shared} {fp:List Addr} {h4:Heap} {tk:Nat} (I:Inv X pins σ H s) (hf:∀b∈fp,FpOk X pins H b) (ho:∀b∈fp,∃o,s.heap.get? b=some o)
  (hns:h4.Ns s.heap.objs.size fun _=>none) (hk:∀b o,s.heap.get? b=some o->h4.get? b=some o):
  Inv (jUd X scope cl s.heap.objs.size fp s H) [] (msk mask σ) H {s with heap:=h4,toks:=tk}:=by
 have sub:=jY5 c.cl (by simp)
 have ok:(jUd X scope cl s.heap.objs.size fp s H).Ok:=by
  refine⟨I.ok.mod,c.kind,I.ok.glob,I.ok.blt,lJh _,fun x y d h1 h2=>I.ok.inj x y d (sub _ _ h1) (sub _ _ h2),fun x hx=>jY6 c.cl (jQv (env:=X.env) c.nc hx),fun x d hx=>absurd (show false=true from hx) lJv,I.ok.hd,I.ok.gd,I.ok.frames,.inl rfl,
   fun b hb=> ?_,I.bs,lKf I.ok.bsz I.sz,fun b o e hb=> ?_,fun b hb hz=> ?_,I.stack,I.stkFree⟩
  ·obtain⟨o,e⟩:=ho b hb
   exact⟨lJw (lJj e),fun x d hd=>(hf b hb).2.2.2.2.1 x d (sub _ _ hd)⟩
  ·rcases (hf b hb).2.2.2.1 with z | z
   ·exact I.ok.noex b o e z
   ·exact absurd (lKe (lJj e) I.ok.bsz) (Nat.not_lt.mpr z)
  ·rcases lJk.mp (I.stkSub b hz) with z | z
   ·exact (hf b hb).2.1 z
   ·exact (hf b hb).2.2.1 z
 refine⟨ok,rfl,I.bare,Un.kept hk,⟨_,hns,fun i x v h1 h2 h3=> ?_⟩,fun x d hd=> ?_,I.hok.fresh (lJh _),fun x d hd=>I.freeC x d (sub _ _ hd),fun p hp=>absurd (show p∈([]:List (Addr×Obj)) from hp) (by simp),I.hok.kept hk,?_⟩
 ·obtain⟨m1,m2⟩:=kVg h2
  have nl:=c.local h1 m1
  have fr:scope.names.lookup x=some .free:=by
   rcases h3 with z | z | z
   ·exact absurd (jUl (env:=X.env) z) nl
   ·exact jQv (env:=X.env) c.nc (.inl z)
   ·exact jQv (env:=X.env) c.nc (.inr z)
  have hkk:=c.free fr
  obtain⟨m,hn,hl⟩:=I.loc
  have vis:Vis X.env.scope x:=by rcases hkk with z | z;exact .inr (.inl z);exact .inr (.inr z)
  obtain⟨u,ru,lk⟩:=hl i x v h1 m2 vis
  refine⟨u,ru,?_⟩
  rcases lk with ⟨z,_⟩ | ⟨_,d,hd,cd⟩
  ·exfalso;rcases hkk with q | q<;>(rw[z] at q;cases q)
  ·obtain⟨d',hd'⟩:=jY6 c.cl fr
   have:d'=d:=by have:=sub _ _ hd';rw[hd] at this;exact (lJn this).symm
   subst this
   refine .inr ⟨?_,d',hd',cd.keeps hk⟩
   rcases h3 with z | z | z
   ·exact absurd (jUl (env:=X.env) z) nl
   ·exact .inl z
   ·exact .inr z
 ·obtain⟨v,hv⟩:=I.cell x d (sub _ _ hd)
  exact⟨v,hv.keeps hk⟩
 ·exact (jX0 (c.len.trans I.len.symm)).trans I.len
theorem qZi {pins:List (Addr×Obj)} {σ σ':L2.St} {H H':Hp} {s s':Shared} {fp:List Addr} {pl:List (Addr×Obj)} {C:Addr} (I:Inv X pins σ H s) (hf:∀b∈fp,FpOk X pins H b) (hC:s.heap.objs.size<=C)
  (J:Inv (jUd X scope cl C fp s H) pl σ' H' s') {h':Heap} (hb:Heap.SameBut C s'.heap h'):Inv X pins σ H' {s' with heap:=h'}:=by
 have ne:∀b o,s.heap.get? b=some o->b≠C:=fun b o e=>lJw (lKe (lJj e) hC)
 have u:=J.base
 have hfree:H' C=none:=J.free
 have u':Un (frs X.stack) fp H H' s.heap h':=⟨fun b o e n hb' hx=>(hb.2 b (ne b o e)).trans (u.keep b o e n hb' hx),fun b o e n hb' hx=>let ⟨sl,z⟩:=u.slot b o e n hb' hx;⟨sl,(hb.2 b (ne b o e)).trans z⟩,
  u.free,fun b o e hx=>let ⟨o',z⟩:=u.there b o e hx;⟨o',(hb.2 b (ne b o e)).trans z⟩,u.tups,u.frzs,u.tbls⟩
 have hok:HOk X.prog X.w H' h':=fun b ob e=>(J.hok b ob e).stay (fun c w' hc q=>(hb.2 c (by
  rintro rfl
  rcases hc with rfl | hc
  ·rw[hfree] at e;cases e
  ·rw[hfree] at hc;cases hc)).trans q) (fun _ q=>q) fun _ _ q=>q
 exact I.call' (s':={s' with heap:=h'}) J.os u' hok J.bare fun b hb=>⟨(hf b hb).2.2.2.1,(hf b hb).2.1,(hf b hb).2.2.2.2.1,(hf b hb).2.2.2.2.2⟩
end
abbrev qKu (ifs:List Expr) (env:Env):Sem Bool:=forIn ifs true fun c b=>if b=true then isTrue c env (eval c env) >>= fun d=>pure (ForInStep.yield d) else pure (ForInStep.yield b)
noncomputable def qVt (M:Model) (A:Around) (elt tg:Expr) (ifs:List Expr) (it acc:Value) (env:Env) (stop more:Shared->Prop):Option Value->Shared->Prop
 | none=>stop
 | some v=>fun z=>wpAny M A (letOwnedTupleGo tg it v) (fun _ z1=>wpAny M A (assign tg env v) (fun _ z2=>wpAny M A (qKu ifs env) (fun ok z3=>if ok=true then wpAny M A (eval elt env) (fun x z4=>wpAny M A (call (.builtin "list.append") [acc,x]) (fun _=>more) (fun _ _=>False) z4) (fun _ _=>False) z3 else more z3) (fun _ _=>False) z2) (fun _ _=>False) z1) (fun _ _=>False) z
theorem qKv {P:Program} {w:World} {A:Around} {R:Result->Shared->Prop} {s:Shared} {elt tg iter:Expr} {ifs:List Expr} {scope:Scope} {pos:Pos} {it acc:Value} {env:Env} (I:Nat->Shared->Prop)
  (turn:∀k z,I k z->wpAny (model P w) A (pyNext it) (qVt (model P w) A elt tg ifs it acc env (R (.ok .next)) fun z'=>∃m,m<k/\I m z') (fun _ _=>False) z) (n:Nat) (h:I n s):codeAny (model P w) A (.compLoop (.ListComp elt [⟨tg,iter,ifs,0⟩] scope pos) 0 it acc env) R s:=by
 refine codeAny_loop rfl I (fun k z hz=>(show wpAny _ A ((compTurn (.ListComp elt [⟨tg,iter,ifs,0⟩] scope pos) 0 it acc env).onRaise _) _ _ z from wpAny_noted ?_)) n h
 rw[compTurn_list]
 refine lJb (wpAny_standAt (lJb (lKz (turn k z hz) (fun r z1 h1=> ?_) fun _ _ e=>e.elim)))
 cases r with
 | none=>exact lJd h1
 | some v=>
  refine lJb (lKz h1 (fun _ z2 h2=>lJb (lKz h2 (fun _ z3 h3=>lJb (lKz h3 (fun ok z4 h4=> ?_) fun _ _ e=>e.elim)) fun _ _ e=>e.elim)) fun _ _ e=>e.elim)
  by_cases hok:ok=true
  ·subst hok
   exact lJb (lJb (lKz h4 (fun x z5 h5=>lJb (lKz h5 (fun _ z6 h6=>lJd (lJd ⟨rfl,h6⟩)) fun _ _ e=>e.elim)) fun _ _ e=>e.elim))
  ·obtain rfl:ok=false:=by simpa using hok
   exact lJd ⟨rfl,h4⟩
def PIf3 (X:Cx) (ifs:List Expr) (t:TT3):Prop:=∀(pins:List (Addr×Obj)) (s:Shared) (τ:St3) (G:Gp) (H:Hp) (Q:Bool->Gp->Prop),Inv3 X pins τ G H s->t τ G Q->
 wpAny (model X.prog X.w) X.A (forIn ifs true fun c r=>if r=true then do let ok <-isTrue c X.env (eval c X.env);pure (ForInStep.yield ok) else pure (ForInStep.yield r)) (TP3 X pins τ H Q) X.xe s
def jVl:TT3:=fun _ G Q=>Q true G
theorem jUu {X:Cx}:PIf3 X [] jVl:=fun _ _ _ G H _ I q=>wpAny_tests_nil ⟨G,H,.refl H,I,q⟩
theorem kJ0 {X:Cx} {c:Expr} {t:TT3} (h:PT3 X c t):PIf3 X [c] t:=fun pins s τ G H Q I q=>wpAny_tests_one (h pins s τ G H Q I q)
def kY1 (mask:List Bool) (g:TG3):Prop:=∀v τ G Q,g v τ G Q->g v τ G fun τ2 G2=>Q τ2 G2/\τ2.length=τ.length/\∀i:Nat,mask[i]? ≠some true->τ2[i]? =τ[i]?
def kX3 (mask:List Bool) (g:TGs3):Prop:=∀v τ G Q,g v τ G Q->g v τ G fun τ2 G2=>Q τ2 G2/\τ2.length=τ.length/\∀i:Nat,mask[i]? ≠some true->τ2[i]? =τ[i]?
theorem jJ9 {mask:List Bool} {i:Nat} (h:mask[i]? =some true:=by rfl):kY1 mask (jJg i):=fun v τ G Q q=>
 ⟨q,lXa ..,fun j hj=>lQp (by rintro rfl;exact hj h)⟩
theorem qKb {mask:List Bool}:kX3 mask gNil:=fun v τ G Q ⟨e,q⟩=>⟨e,q,rfl,fun _ _=>rfl⟩
theorem jX2 {mask:List Bool} {t:TG3} {u:TGs3} (h1:kY1 mask t) (mono:∀v τ G Q Q',(∀a b,Q a b->Q' a b)->t v τ G Q->t v τ G Q') (h2:kX3 mask u) (mono2:∀v τ G Q Q',(∀a b,Q a b->Q' a b)->u v τ G Q->u v τ G Q'):kX3 mask (jJ3 t u):=fun vs τ G Q ⟨v,r,e,q⟩=>by
 refine⟨v,r,e,mono _ _ _ _ _ (fun τ2 G2 ⟨z,l1,k1⟩=> ?_) (h1 _ _ _ _ q)⟩
 exact mono2 _ _ _ _ _ (fun τ3 G3 ⟨z3,l3,k3⟩=>⟨z3,l3.trans l1,fun i hi=>(k3 i hi).trans (k1 i hi)⟩) (h2 _ _ _ _ z)
theorem jUo {i:Nat}:∀v τ G (Q Q':St3->Gp->Prop),(∀a b,Q a b->Q' a b)->jJg i v τ G Q->jJg i v τ G Q':=fun _ _ _ _ _ h q=>h _ _ q
theorem kJ1:∀v τ G (Q Q':St3->Gp->Prop),(∀a b,Q a b->Q' a b)->gNil v τ G Q->gNil v τ G Q':=fun _ _ _ _ _ h q=>⟨q.1,h _ _ q.2⟩
theorem kVr {t:TG3} {u:TGs3} (m1:∀v τ G (Q Q':St3->Gp->Prop),(∀a b,Q a b->Q' a b)->t v τ G Q->t v τ G Q') (m2:∀v τ G (Q Q':St3->Gp->Prop),(∀a b,Q a b->Q' a b)->u v τ G Q->u v τ G Q'):
  ∀v τ G (Q Q':St3->Gp->Prop),(∀a b,Q a b->Q' a b)->jJ3 t u v τ G Q->jJ3 t u v τ G Q':=fun _ _ _ _ _ h ⟨v,r,e,q⟩=>⟨v,r,e,m1 _ _ _ _ _ (fun _ _ z=>m2 _ _ _ _ _ h z) q⟩
theorem qKa {mask:List Bool} {n:Nat} {u:TGs3} (h:kX3 mask u):kY1 mask (gTup n u):=fun v τ G Q ⟨xs,e,l,q⟩=>⟨xs,e,l,h _ _ _ _ q⟩
theorem qUk {mask:List Bool} {τ τ2:St3} (hl:mask.length=τ.length) (l:τ2.length=(msk mask τ).length) (h:∀i:Nat,mask[i]? ≠some true->τ2[i]? =(msk mask τ)[i]?):msk mask τ2=msk mask τ:=by
 have ll:=jX0 hl
 apply lVb
 intro i
 unfold msk at h ⊢
 rw[lXy,lXy]
 cases hm:mask[i]? with
 | none=>rfl
 | some b=>
  cases b with
  | true=>
   have h1:i<mask.length:=by
    rcases lQn i mask.length with z | z
    ·exact z
    ·rw[lKi z] at hm;cases hm
   have h2:i<τ2.length:=by omega
   have h3:i<τ.length:=by omega
   rw[lJm h2,lJm h3]
   simp
  | false=>
   have:=h i (by rw[hm];simp)
   rw[lXy,hm] at this
   rw[this]
   cases τ[i]? with
   | none=>rfl
   | some o=>simp
def kUq (mask:List Bool) (g:TG3) (tif:TT3) (te:TE3) (τ:St3) (xs:List T) (stay:Gp->Prop) (G:Gp) (Q:VK3):Prop:=
 ∀D,G D=none->∃P:Nat->List T->Gp->Prop,P 0 [] (gup G D (.lst []))/\(∀i acc G,i<=xs.length->P i acc G->stay G/\G D=some (.lst acc))/\
  (∀i x acc G,xs[i]? =some x->P i acc G->g x (msk mask τ) G fun τ2 G2=>tif τ2 G2 fun b G3=>if b=true then te τ2 G3 fun y G4=>G4 D=some (.lst acc)/\acc.length<sizeLine/\P (i+1) (acc++[y]) (gup G4 D (.lst (acc++[y]))) else P (i+1) acc G3)/\
  ∀acc G,P xs.length acc G->Q (.ref D) G
def jQj (mask:List Bool) (wi:TI3) (g:TG3) (tif:TT3) (te:TE3):TE3:=fun τ G Q=>wi τ G fun xs stay G1=>kUq mask g tif te τ xs stay G1 Q
section
variable {X:Cx} {scope:Scope} {cl:List (Str×Addr)} {mask:List Bool} {elt iter tg:Expr} {ifs:List Expr} {pos:Pos} {wi:TI3} {g:TG3} {tif:TT3} {te:TE3}
theorem kJ3 (hc:X.calm=true) (ok:CmpOk X scope cl mask)
  (hgk:kY1 mask g) (hg:∀C fp s H,PG3 (jUd X scope cl C fp s H) tg g) (hif:∀C fp s H,PIf3 (jUd X scope cl C fp s H) ifs tif) (he:∀C fp s H,PE3 (jUd X scope cl C fp s H) elt te)
  {pins:List (Addr×Obj)} {τ:St3} {H:Hp} {Q:VK3} {itv:Value} {s2:Shared} {E:Value->Shared->Prop} {RR:Value->Addr->Result->Shared->Prop}
  (h2:PIE3 X pins τ H tg (fun xs stay G=>kUq mask g tif te τ xs stay G Q) itv s2)
  (hRR:∀D C s' m,s'.heap.Ns C m->(∃G1 H1,Ext H H1/\H1 C=none/\Q (.ref D) G1/\∀h',Heap.SameBut C s'.heap h'->Inv3 X pins τ G1 H1 {s' with heap:=h'})->(∃oC,s'.heap.get? C=some oC/\C≠X.env.locals/\C∉X.fs/\∀v,oC.data≠ .cell v)->(∀x c,X.env.cells.lookup x=some c->c≠C)->(∀p∈X.pn++pins,p.1≠C)->X.s₀.heap.objs.size<=C->RR (.ref D) C (.ok .next) s'):
  wpAny (model X.prog X.w) X.A (newList []) (fun acc s₃=>wpAny (model X.prog X.w) X.A (newFunctionEnv scope X.env.globals cl [] X.env.qual none .none (some X.env)) (fun cenv s₄=>
   codeAny (model X.prog X.w) X.A (.compStart (.ListComp elt [⟨tg,iter,ifs,0⟩] scope pos) 0 itv acc {cenv with scope:=relabel scope X.env}) (RR acc cenv.locals) s₄) E s₃) E s2:=by
 obtain⟨it,fp,tn,J,xs,stay,G2,H2,e,eH,⟨σ,I2,hs2,hg2⟩,T0,st2,f2,IT,hq⟩:=h2
 subst e
 refine lK8 (wpAny_newFunctionEnv ok.nc (by intro y hy;simp at hy) (fun h4 hns hsb=> ?_) ok.kind)
 dsimp only at hns hsb ⊢
 have hD:H2 s2.heap.objs.size=none:=I2.hok.fresh (lJh _)
 generalize hs3:({s2 with heap:=s2.heap.push {cls:= .type "list",dict:=none,data:= .seq ([]:List Value).toArray} }:Shared)=s3
 have eh3:s2.heap.push {cls:= .type "list",dict:=none,data:= .seq ([]:List Value).toArray}=s3.heap:=by rw[<-hs3]
 have I3:Inv X pins σ (upd H2 s2.heap.objs.size (.lst [])) s3:=by
  rw[<-hs3]
  exact I2.laid (t':=s2.toks) (fun b u e=>lJs _ e) (lJh _) ⟨lJu _,[],0,.nil,lJ8 _ rfl⟩
 rw[eh3] at hns hsb ⊢
 generalize hDd:s2.heap.objs.size=D at *
 have e3:Ext H2 (upd H2 D (.lst [])):= .upd (.none hD)
 have hg3:GRel X.K (upd H2 D (.lst [])) (gup G2 D (.lst [])):=hg2.lstNew (show Reps X.K H2 [] [] from rfl) (.none hD)
 have obj2:∀b∈fp,∃o,s2.heap.get? b=some o:=fun b hb=>let ⟨o,e,_⟩:=T0.obj 0 _ st2 b hb;⟨o,e⟩
 have fD:∀b∈fp,b≠D:=fun b hb=>by obtain⟨o,e⟩:=obj2 b hb;rw[<-hDd];exact lJw (lJj e)
 have f3:∀b∈fp,FpOk X pins (upd H2 D (.lst [])) b:=fun b hb=>⟨by rw[jJw (fD b hb)];exact (f2 b hb).1,(f2 b hb).2⟩
 have k3:∀b o,s2.heap.get? b=some o->s3.heap.get? b=some o:=fun b o e=>by rw[<-eh3];exact lJs _ e
 have obj3:∀b∈fp,∃o,s3.heap.get? b=some o:=fun b hb=>let ⟨o,e⟩:=obj2 b hb;⟨o,k3 b o e⟩
 have k4:∀b o,s3.heap.get? b=some o->h4.get? b=some o:=fun b o e=>hsb.extBut b o (lJw (lJj e)) (lJs _ e)
 have Ic:Inv (jUd X scope cl s3.heap.objs.size fp s3 (upd H2 D (.lst []))) [] (msk mask σ) (upd H2 D (.lst [])) {s3 with heap:=h4,toks:=s3.toks+([]:List (Str×Value)).length}:=qKw ok I3 f3 obj3 hns k4
 have st4:tn 0 h4:=T0.keep _ _ _ st2 fun b _ o e=>k4 b o (k3 b o e)
 have hl3:mask.length=τ.length:=ok.len.trans (I3.len.symm.trans hs2.1)
 obtain⟨P,p0,hst,turn,fin⟩:=hq D (hg2.fresh hD)
 have fpc:∀ {H':Hp} {pl:List (Addr×Obj)},(∀b∈fp,H' b=none)->(∀p∈pl,p.1∉fp)->∀b∈fp,FpOk (jUd X scope cl s3.heap.objs.size fp s3 (upd H2 D (.lst []))) pl H' b:=fun {H' pl} hn hp b hb=>by
  obtain⟨o,e⟩:=obj3 b hb
  refine⟨hn b hb,lJw (lJj e),?_,.inl hb,fun x d hd=>(f3 b hb).2.2.2.2.1 x d (jY5 ok.cl (by simp) _ _ hd),fun p hpp z=> ?_⟩
  ·intro z
   rcases lJk.mp (I3.stkSub b z) with q | q
   ·exact (f3 b hb).2.1 q
   ·exact (f3 b hb).2.2.1 q
  ·have hpp':p∈pl:=by simpa[jUd] using hpp
   exact hp p hpp' (z▸hb)
 have loop:∀s4:Shared,s4={s3 with heap:=h4,toks:=s3.toks+([]:List (Str×Value)).length}->
   codeAny (model X.prog X.w) X.A (.compLoop (.ListComp elt [⟨tg,iter,ifs,0⟩] scope pos) 0 (.ref it) (.ref D) (compEnvC scope cl s3.heap.objs.size X.env)) (RR (.ref D) s3.heap.objs.size) s4:=by
  rintro s4 rfl
  refine qKv (fun n s'=>∃i acc G' H',n=xs.length-i/\i<=xs.length/\Ext H2 H'/\Inv3 (jUd X scope cl s3.heap.objs.size fp s3 (upd H2 D (.lst []))) [] (msk mask τ) G' H' s'/\tn i s'.heap/\(∀b∈fp,H' b=none)/\P i acc G') ?_ xs.length
   ⟨0,[],_,_,rfl,lJu _,e3,⟨_,Ic,qJt (hs2.mono e3) hl3,hg3⟩,st4,fun b hb=>(f3 b hb).1,p0⟩
  rintro n s5 ⟨i,acc,G5,H5,en,hi5,e5,⟨σ5,I5,hs5,hg5⟩,st5,fr5,p5⟩
  obtain⟨hstay,hacc⟩:=hst i acc G5 hi5 p5
  obtain⟨go,stop,yl⟩:=IT i H5 G5 e5 hg5 hstay
  by_cases hlt:i<xs.length
  ·refine thn (T0.item (jUd X scope cl s3.heap.objs.size fp s3 (upd H2 D (.lst []))) rfl rfl rfl hc i [] s5 σ5 H5 (fun _ _=>False) I5 (fpc fr5 (by simp)) st5 (go hlt)) fun r s6 ⟨u,hr,h6⟩=> ?_
   subst hr
   refine thn h6 fun _ s7 ⟨x,H7,I7,r7,y7,st7,fr7⟩=> ?_
   obtain⟨e7,g7,t,ht,rt⟩:=yl hlt x H7 y7
   have I7':=I7.pinned (fpc fr7 (by simp)) (T0.obj _ _ st7)
   refine thn (hg _ _ _ _ ([]++jVp fp s7.heap) s7 (msk mask τ) G5 H7 t u _ ⟨σ5,I7',hs5.mono e7,g7⟩ ⟨x,rt,r7⟩ (hgk _ _ _ _ (turn i t acc G5 ht p5))) fun _ s8 ⟨τ8,G8,H8,e8,I8,q8,ql8,qk8⟩=> ?_
   refine thn (hif _ _ _ _ ([]++jVp fp s7.heap) s8 τ8 G8 H8 _ I8 q8) fun b s9 ⟨G9,H9,e9,I9,q9⟩=> ?_
   have back:∀ {Ga:Gp} {Ha:Hp} {sa:Shared} {acc':List T},Ext H7 Ha->Inv3 (jUd X scope cl s3.heap.objs.size fp s3 (upd H2 D (.lst []))) ([]++jVp fp s7.heap) τ8 Ga Ha sa->P (i+1) acc' Ga->
     ∃m,m<n/\∃i acc G' H',m=xs.length-i/\i<=xs.length/\Ext H2 H'/\Inv3 (jUd X scope cl s3.heap.objs.size fp s3 (upd H2 D (.lst []))) [] (msk mask τ) G' H' sa/\tn i sa.heap/\(∀b∈fp,H' b=none)/\P i acc G':=by
    rintro Ga Ha sa acc' ea ⟨σa,Ia,hsa,hga⟩ pa
    have e2a:Ext H5 Ha:=e7.trans ea
    have hla:mask.length=τ8.length:=by rw[ql8,jX0 hl3];exact hl3
    have hsm:=qJt (mask:=mask) hsa hla
    rw[qUk hl3 ql8 qk8] at hsm
    refine⟨xs.length-(i+1),by omega,i+1,acc',Ga,Ha,rfl,hlt,e5.trans e2a,⟨msk mask σa,(Ia.weak (jX0 (hla.trans hsa.1.symm)) fun j v hv=>(kVg hv).2).pins_of (fun p hp=>absurd hp (by simp)),hsm,hga⟩,?_,fun b hb=> ?_,pa⟩
    ·exact T0.keep _ _ _ st7 fun b hb o e=>(Ia.pin (b,o) (lJ5 _ (lJ5 _ (jVe hb e)))).1
    ·obtain⟨o,e,d⟩:=T0.obj _ _ st7 b hb
     exact (Ia.pin (b,o) (lJ5 _ (lJ5 _ (jVe hb e)))).2.1
   cases b with
   | false=>
    rw[lJa lJv] at q9 ⊢
    exact back (e8.trans e9) I9 q9
   | true=>
    rw[lJc rfl] at q9 ⊢
    refine thn (he _ _ _ _ ([]++jVp fp s7.heap) s9 τ8 G9 H9 _ I9 q9) fun y s10 w_=>w_.el fun ty G10 H10 e10 I10 r10 ⟨hD10,hz10,q10⟩=> ?_
    obtain⟨vy,rvy,ruy⟩:=r10
    refine thn (jKp ([]++jVp fp s7.heap) s10 τ8 G10 H10 (.ref D) [ty] (.ref D) [y] (fun _ G'=>P (i+1) (acc++[ty]) G') I10 ⟨.ref D,rfl,rfl⟩ ⟨[vy],.one rvy,.cons ruy .nil⟩ ⟨D,acc,ty,rfl,rfl,hD10,hz10,q10⟩) fun _ s11 w_=>w_.el fun _ G11 H11 e11 I11 _ q11=> ?_
    exact back (((e8.trans e9).trans e10).trans e11) I11 q11
  ·have ei:i=xs.length:=by omega
   refine thn (T0.done (jUd X scope cl s3.heap.objs.size fp s3 (upd H2 D (.lst []))) rfl rfl rfl hc i [] s5 σ5 H5 (fun _ _=>False) I5 (fpc fr5 (by simp)) st5 (stop (by omega))) fun r s6 ⟨hr,I6⟩=> ?_
   subst hr;subst ei
   obtain⟨m,hn,_⟩:=I6.loc
   obtain⟨oC,es,ep,hoC,hdC,_⟩:=id hn
   refine hRR D s3.heap.objs.size s6 m hn ⟨G5,H5,eH.trans e5,I6.free,fin acc G5 p5,fun h' hb=>⟨σ,qZi I3 f3 (lJh _) I6 hb,hs2.mono e5,hg5⟩⟩
    ⟨oC,hoC,lK6 I3.lt,I3.nofs (lJh _),fun v z=>by rw[hdC] at z;cases z⟩ (fun x d hd=> ?_) (fun p hp=> ?_) I3.sz
   ·obtain⟨v,q⟩:=I3.cell x d hd
    exact lJw q.lt
   ·exact lJw (lJj (I3.pin p hp).1)
 exact codeAny_compStart_list (loop _ (by rw[<-hs3])) (T0.self _ 0 _ _ _ st4 (loop _ (by rw[<-hs3])))
theorem jQy (hc:X.calm=true) (ok:CmpOk X scope cl mask) (hi:PI3 X tg iter wi) (hgk:kY1 mask g) (hg:∀C fp s H,PG3 (jUd X scope cl C fp s H) tg g) (hif:∀C fp s H,PIf3 (jUd X scope cl C fp s H) ifs tif) (he:∀C fp s H,PE3 (jUd X scope cl C fp s H) elt te)
  (hs:∀x,foldedSetIterable iter X.env x=pure x:=by intro _;rfl):PE3 X (.ListComp elt [⟨tg,iter,ifs,0⟩] scope pos) (jQj mask wi g tif te):=by
 intro pins s τ G H Q I h
 rw[eval_ListComp]
 refine wpAny_comprehension_free (use:=none) rfl hs (kJ4 ok.cl) ok.kind ok.nm (thn (hi pins s τ G H _ I h) fun xv s1 h1=>thn h1 fun itv s2 h2=> ?_)
 refine kJ3 (RR:=fun acc C=>compPost (model X.prog X.w) X.A X.xe none (EP3 X pins τ H Q) acc C) hc ok hgk hg hif he h2 ?_
 rintro D C s' m hn ⟨G1,H1,e1,_,q1,hI⟩ _ _ _ _
 exact⟨m,hn,fun h' hb=>⟨.ref D,G1,H1,e1,hI h' hb,⟨.ref D,rfl,rfl⟩,q1⟩⟩
theorem kXa {i:Nat} {y:Str} {py spos:Pos} (hc:X.calm=true) (hN:X.N.Nodup) (ok:CmpOk X scope cl mask) (hi:PI3 X tg iter wi) (hgk:kY1 mask g) (hg:∀C fp s H,PG3 (jUd X scope cl C fp s H) tg g) (hif:∀C fp s H,PIf3 (jUd X scope cl C fp s H) ifs tif) (he:∀C fp s H,PE3 (jUd X scope cl C fp s H) elt te)
  (hy:X.N[i]? =some y:=by rfl) (hx:X.env.scope.names.lookup y=some .local:=by rfl)
  (hsw:swapsWith (.ListComp elt [⟨tg,iter,ifs,0⟩] scope pos) (some (.Name y py)) spos.line X.env=pure true:=by rfl)
  (hs:∀x,foldedSetIterable iter X.env x=pure x:=by intro _;rfl):PS3 X (.Assign [.Name y py] (.ListComp elt [⟨tg,iter,ifs,0⟩] scope pos) spos) (tAsg (jQj mask wi g tif te) (jJg i)):=by
 intro pins s τ G H D I h
 rw[exec_Assign_Name_used _ _ _ _ hsw];refine lJb (wpAny_standAt (lJb ?_))
 show wpAny _ X.A (do let _ <-comprehension (.ListComp elt [⟨tg,iter,ifs,0⟩] scope pos) scope X.env _ (newList []) false (eval iter X.env) (some (assign (.Name y py) X.env))) _ _ s
 refine lJb (lKz (wpAny_comprehension_free (use:=some (assign (.Name y py) X.env)) (Q:=fun _ s'=>SP3 X pins H D .next s') rfl hs (kJ4 ok.cl) ok.kind ok.nm
  (thn (hi pins s τ G H _ I h) fun xv s1 h1=>thn h1 fun itv s2 h2=> ?_)) (fun _ s' hq=>lJd (lJd hq)) fun _ _ e=>e)
 refine kJ3 (RR:=fun acc C=>compPost (model X.prog X.w) X.A X.xe (some (assign (.Name y py) X.env)) (fun _ s'=>SP3 X pins H D .next s') acc C) hc ok hgk hg hif he h2 ?_
 rintro Dd C s' m hn ⟨G1,H1,e1,hH1C,q1,hI⟩ ⟨oC,hoC,c1,c2,c3⟩ c4 c5 c6
 show wpAny _ X.A (assign (.Name y py) X.env (.ref Dd)) _ _ _
 obtain⟨σ1,I1,hs1,hg1⟩:=hI s'.heap (.refl ..)
 have I1':Inv X (pins++[(C,oC)]) σ1 H1 s':=I1.pins_of fun p hp=>(lJx.mp hp).elim (fun z=>I1.pin p (lJ5 _ z)) fun z=>by
  obtain rfl:p=(C,oC):=by simpa using z
  exact⟨hoC,hH1C,c1,c2,c3⟩
 refine wpAny_assign_Name (jU8 I1' hN hy (.inl hx) (v:= .ref Dd) rfl (fun s2 I2=> ?_) (.inr hx))
 have hC2:s2.heap.get? C=some oC:=(I2.pin (C,oC) (lJ5 _ (lJ5 _ (by simp)))).1
 obtain⟨oC',es,ep,hoC',r⟩:=hn
 have eo:oC'=oC:=by rw[hoC] at hoC';exact (lJn hoC').symm
 subst eo
 refine⟨m,⟨oC',es,ep,hC2,r⟩,fun h' hb=>⟨_,G1,H1,e1,⟨_,?_,hs1.set i (show Rep X.K H1 (.ref Dd) (.ref Dd) from rfl),hg1⟩,q1⟩⟩
 exact I2.unpinned.turned (t':=s2.toks) (fun b o hb' e=>(hb.2 b hb').trans e) hH1C c1 (.inr c6) c4 c5
end
end L3
namespace HT
open PySem PyProof.Rows
def lexLe:(xs ys:List Int)->Bool
 | [],_=>true
 | _::_,[]=>false
 | x::xs,y::ys=>if x=y then lexLe xs ys else decide (x<=y)
theorem lexLe_cons (x y:Int) (xs ys:List Int):lexLe (x::xs) (y::ys)=if x=y then lexLe xs ys else decide (x<=y):=rfl
theorem lexLe_nil (ys:List Int):lexLe [] ys=true:=by cases ys<;>rfl
theorem kJi (x:Int) (xs:List Int):lexLe (x::xs) []=false:=rfl
theorem qQy (A:Around) (s:Shared) (a:Int) (t:Tok) (c:Int) (u:Tok) (prog:Program) (w:World) (E:Value->Shared->Prop) (Q:Value->Shared->Prop) (h:Q (.bool (decide (a<=c))) s):
  wpAny (model prog w) A (richCompare .LtE (.int a t) (.int c u)) Q E s:=
 (PyProof.Rows.le_int h:wpAny (model prog w) A (compareOp .LtE (.int a t) (.int c u)) Q E s)
section
open PySem.SeqAt
open PySem.AutoSeq1 (wpAny_loadPart')
open PySem.MeetsSeq PySem.MeetsSeq2 PySem.MeetsSeq3
theorem kJ9 (l b:Addr) (items items2:Array Value) (n n2:Nat) (dd dd2:Option Addr) (sl sl2:Array (Option Value)) (ns ms:List Int) (hi:IntsAre items.toList ns) (hj:IntsAre items2.toList ms):
  Meets (Builtin.«tuple.__le__» ⟨[.ref l,.ref b],[]⟩)
   (fun _ R s=>s.heap.get? l=some {cls:= .type "tuple",dict:=dd,data:= .seq items n,slots:=sl}/\s.heap.get? b=some {cls:= .type "tuple",dict:=dd2,data:= .seq items2 n2,slots:=sl2}/\
    R (.ok (.ret (.bool (lexLe ns ms)))) s):=
 .of_wp fun prog w A R s h=>by
  obtain⟨hp,g,d,tk,os⟩:=s;obtain⟨hl,hb,h⟩:=h
  have f2:=AutoSeq1.sub_tuple_tuple
  have z1:items.size=ns.length:=by rw[<-hi.length];simp
  have z2:items2.size=ms.length:=by rw[<-hj.length];simp
  wp_walk using wpAny_loadPart' hl,wpAny_loadPart' hb,wpAny_forIn_list _ (fun rest b s'=>b.1=none/\s'=⟨hp,g,d,tk,os⟩/\∃(vs ws:List Value) (ns' ms':List Int),rest=vs.zip ws/\
   IntsAre vs ns'/\IntsAre ws ms'/\ns'.length+items2.size=ms'.length+items.size/\R (.ok (.ret (.bool (lexLe ns' ms')))) ⟨hp,g,d,tk,os⟩) _
  case turn=>
   rintro⟨y,x⟩ rest b s' ⟨hb',rfl,vs,ws,ns',ms',hz,hvi,hwi,hlen,hR⟩
   cases hvi with
   | nil=>rw[List.zip_nil_left] at hz;cases hz
   | cons a t hvi'=>
    cases hwi with
    | nil=>rw[List.zip_nil_right] at hz;cases hz
    | cons c u hwi'=>
     rw[lVs] at hz
     injection hz with hyx hrest
     injection hyx with hy hx
     subst hy hx
     rw[lexLe_cons] at hR
     simp only[lKm] at hlen
     obtain⟨e,he,hiff⟩:=qVd A.in1 ⟨hp,g,d,tk,os⟩ a t c u
     refine lJb (he prog w _ _ ?_)
     cases e with
     | true=>
      rw[lJc (hiff.mp rfl)] at hR
      wp_walk
      exact⟨rfl,rfl,_,_,_,_,hrest,hvi',hwi',by omega,hR⟩
     | false=>
      rw[lJa (fun q=>absurd (hiff.mpr q) lJv)] at hR
      have hri:=qQy A.in1 ⟨hp,g,d,tk,os⟩ a t c u prog w
      wp_walk using hri
      exact⟨_,rfl,by simpa using hR⟩
  case fin=>
   rintro⟨b1,b2⟩ s' ⟨hb',rfl,vs,ws,ns',ms',hz,hvi,hwi,hlen,hR⟩
   simp only at hb'
   subst hb'
   have hv:lexLe ns' ms'=decide (items.size<=items2.size):=by
    cases hvi with
    | nil=>
     simp only[lQd] at hlen
     rw[lexLe_nil]
     exact (lJ3 (by omega)).symm
    | cons a t hv=>
     cases hwi with
     | nil=>
      simp only[lQd,lKm] at hlen
      rw[kJi]
      exact (lJt (by omega)).symm
     | cons c u hw=>
      rw[lVs] at hz
      cases hz
   rw[hv] at hR
   wp_walk
   exact⟨_,rfl,by simpa[Builtin.Tuple.tupleCompareSizes] using hR⟩
  case h=>
   exact⟨rfl,rfl,items.toList,items2.toList,ns,ms,rfl,hi,hj,by omega,h⟩
end
theorem le_tupInts {prog:Program} {w:World} {A:Around} {E:Value->Shared->Prop} {s:Shared} {l b:Addr} {items items2:Array Value} {ns ms:List Int} {Q:Value->Shared->Prop} (hl:IsTup s.heap l items) (hb:IsTup s.heap b items2) (hi:IntsAre items.toList ns) (hj:IntsAre items2.toList ms)
  (hu:A.units<cLine) (h:Q (.bool (lexLe ns ms)) s):wpAny (model prog w) A (compareOp .LtE (.ref l) (.ref b)) Q E s:=by
 obtain⟨⟨cls,dd,data,sl⟩,ho,hc,n,hd⟩:=id hl
 obtain⟨⟨cls2,dd2,data2,sl2⟩,ho2,hc2,n2,hd2⟩:=id hb
 simp only at hc hd hc2 hd2
 subst hc hd hc2 hd2
 exact richCompare_meets_room (op:= .LtE) ⟨_,ho,rfl⟩ ⟨_,ho2,rfl⟩ PySem.F.slot_tuple_le PySem.F.entry_tuple_le (PySem.F.args_tuple_le_2 _ _) (kJ9 l b items items2 n n2 dd dd2 sl sl2 ns ms hi hj)
  ⟨ho,ho2,show Value.bool (lexLe ns ms)≠Value.notImplemented/\Q (.bool (lexLe ns ms)) s from⟨(fun x=>nomatch x),h⟩⟩ hu
end HT
namespace L3
open PySem PySem.Spec PyProof.Rows L2
section
variable {X:Cx}
theorem jUa {K:PySem.W.Frag} {H:Hp}:∀ {ns:List Int} {vs:List V},Reps K H (ns.map T.int) vs->vs=ns.map V.int
 | [],_,h=>h
 | n::ns,_,⟨v,ws,e,r,rs⟩=>by
  subst e;cases (show v= .int n from r)
  rw[jUa rs];rfl
def rLeT:R3:=fun x y G Q=>∃ns ms,x= .tup (ns.map T.int)/\y= .tup (ms.map T.int)/\Q (.bl (HT.lexLe ns ms)) G
theorem o_leT (hu:X.A.units<cLine):Op3 X (compareOp .LtE) rLeT:=by
 rintro pins s τ G H x y v u Q ⟨σ,I,hs,hg⟩ ⟨a,ra,rv⟩ ⟨b,rb,ru⟩ ⟨ns,ms,ex,ey,q⟩
 subst ex;subst ey
 obtain⟨p,vs,e1,h1,h2⟩:=(show ∃p vs,a= .ref p/\H p=some (.tup vs)/\Reps X.K H (ns.map T.int) vs from ra)
 obtain⟨p',ws,e2,h3,h4⟩:=(show ∃p vs,b= .ref p/\H p=some (.tup vs)/\Reps X.K H (ms.map T.int) vs from rb)
 subst e1;subst e2
 cases rv;cases ru
 rw[jUa h2] at h1
 rw[jUa h4] at h3
 obtain⟨its,r1,p1,_⟩:=I.tuple (.of h1)
 obtain⟨its2,r2,p2,_⟩:=I.tuple (.of h3)
 exact HT.le_tupInts p1 p2 (show IntsAre its.toArray.toList ns from kJz r1) (show IntsAre its2.toArray.toList ms from kJz r2) hu ⟨.bl _,G,H,.refl H,⟨σ,I,hs,hg⟩,⟨.bl _,rfl,rfl⟩,q⟩
def rLeI:R3:=rI0 fun i j=> .bl (decide (i<=j))
def rLeA:R3:=fun x y G Q=>rLeI x y G Q\/rLeT x y G Q
theorem o_leA (hu:X.A.units+20<cLine):Op3 X (compareOp .LtE) rLeA:=o_le.or (o_leT (by omega))
theorem qKj {G:Gp} {x y:T} {b:Bool} (h:eqG G x y=some b):
  (∃p q xs ys,x= .ref p/\y= .ref q/\G p=some (.lst xs)/\G q=some (.lst ys)/\kK6 xs=true/\kK6 ys=true/\b=eqTs xs ys)\/(eqOk x=true/\eqOk y=true/\b=eqT x y):=by
 by_cases hr:∃p q,x= .ref p/\y= .ref q
 ·obtain⟨p,q,ex,ey⟩:=hr
  subst ex;subst ey
  refine .inl ?_
  simp only[eqG] at h
  split at h
  ·rename_i xs ys h1 h2
   split at h
   ·rename_i hc
    cases h
    exact⟨p,q,xs,ys,rfl,rfl,h1,h2,hc.1,hc.2,rfl⟩
   ·cases h
  ·cases h
 ·refine .inr ?_
  have e:eqG G x y=if eqOk x=true/\eqOk y=true then some (eqT x y) else none:=by
   cases x with
   | ref p=>cases y with
    | ref q=>exact absurd ⟨p,q,rfl,rfl⟩ hr
    | _=>rfl
   | _=>rfl
  rw[e] at h
  split at h
  ·rename_i hc
   cases h
   exact⟨hc.1,hc.2,rfl⟩
  ·cases h
mutual
theorem kKi {X:Cx} {pins:List (Addr×Obj)} {σ:L2.St} {H:Hp} {s:Shared} (I:Inv X pins σ H s):∀(x:T) {a:V} {u:Value},tree x=true->Rep X.K H x a->RelV a u->∃as,Reads s.heap u (td x) as
 | .non,a,u,_,r,q=>by cases (show a= .non from r);cases q;exact⟨_,.none⟩
 | .bl b,a,u,_,r,q=>by cases (show a= .bl b from r);cases q;exact⟨_,.bool b⟩
 | .int b,a,u,_,r,q=>by cases (show a= .int b from r);obtain⟨t,rfl⟩:=q;exact⟨_,.int b t⟩
 | .str b,a,u,_,r,q=>by cases (show a= .str b from r);obtain⟨t,rfl⟩:=q;exact⟨_,.str b t⟩
 | .tup xs,a,u,ht,r,q=>by
  obtain⟨p,vs,e1,h1,h2⟩:=(show ∃p vs,a= .ref p/\H p=some (.tup vs)/\Reps X.K H xs vs from r)
  subst e1;cases q
  obtain⟨its,rv,⟨o,ho,hc,n,hd⟩,_⟩:=I.tuple (.of h1)
  obtain⟨as,ra⟩:=jXa I xs (show jQd xs=true from ht) h2 rv
  exact⟨_,.tuple ho hc hd (by simpa using ra)⟩
 | .ref _,_,_,ht,_,_=>absurd (show false=true from ht) lJv
 | .scr _,_,_,ht,_,_=>absurd (show false=true from ht) lJv
 | .ty _,_,_,ht,_,_=>absurd (show false=true from ht) lJv
theorem jXa {X:Cx} {pins:List (Addr×Obj)} {σ:L2.St} {H:Hp} {s:Shared} (I:Inv X pins σ H s):∀(xs:List T) {vs:List V} {us:List Value},jQd xs=true->Reps X.K H xs vs->Vals vs us->∃as,ReadsAll s.heap us (tds xs) as
 | [],_,_,_,r,q=>by cases r;cases q;exact⟨_,.nil⟩
 | x::xs,_,_,ht,⟨v,ws,e,r1,r2⟩,q=>by
  subst e
  cases q with
  | cons q1 q2=>
   have hx:tree x=true/\jQd xs=true:=by simpa[jQd] using ht
   obtain⟨as,ra⟩:=kKi I x hx.1 r1 q1
   obtain⟨bs,rb⟩:=jXa I xs hx.2 r2 q2
   exact⟨_,.cons ra rb⟩
end
mutual
theorem qY8:∀(x y:T),tree x=true->tree y=true->PyData.eqv (td x) (td y)=eqT x y
 | .non,y,_,hy=>by cases y<;>first | rfl | exact absurd (show false=true from hy) lJv
 | .bl b,y,_,hy=>by cases y<;>first | rfl | exact absurd (show false=true from hy) lJv
 | .int b,y,_,hy=>by cases y<;>first | rfl | exact absurd (show false=true from hy) lJv
 | .str b,y,_,hy=>by cases y<;>first | rfl | exact absurd (show false=true from hy) lJv
 | .tup xs,y,hx,hy=>by
  cases y with
  | tup ys=>exact qKh xs ys (show jQd xs=true from hx) (show jQd ys=true from hy)
  | _=>first | rfl | exact absurd (show false=true from hy) lJv
 | .ref _,_,ht,_=>absurd (show false=true from ht) lJv
 | .scr _,_,ht,_=>absurd (show false=true from ht) lJv
 | .ty _,_,ht,_=>absurd (show false=true from ht) lJv
theorem qKh:∀(xs ys:List T),jQd xs=true->jQd ys=true->PyData.eqvAll (tds xs) (tds ys)=eqTs xs ys
 | [],[],_,_=>rfl
 | [],_::_,_,_=>rfl
 | _::_,[],_,_=>rfl
 | x::xs,y::ys,hx,hy=>by
  have hx':tree x=true/\jQd xs=true:=by simpa[jQd] using hx
  have hy':tree y=true/\jQd ys=true:=by simpa[jQd] using hy
  show (PyData.eqv (td x) (td y)&&PyData.eqvAll (tds xs) (tds ys))=(eqT x y&&eqTs xs ys)
  rw[qY8 x y hx'.1 hy'.1,qKh xs ys hx'.2 hy'.2]
end
theorem kXt {pins:List (Addr×Obj)} {σ:L2.St} {H:Hp} {s:Shared} {G:Gp} {x y:T} {a b:V} {u v:Value} {k:Bool} (I:Inv X pins σ H s) (hg:GRel X.K H G) (ra:Rep X.K H x a) (rb:Rep X.K H y b) (ru:RelV a u) (rv:RelV b v) (h:eqG G x y=some k):
  ∃da db as bs,Reads s.heap u da as/\Reads s.heap v db bs/\da.canLay0=true/\db.canLay0=true/\da.depth<=50/\PyData.eqv da db=k:=by
 rcases qKj h with ⟨p,q,xs,ys,ex,ey,hp,hq,ox,oy,e⟩ | ⟨ox,oy,e⟩
 ·subst ex;subst ey
  cases (show a= .ref p from ra);cases (show b= .ref q from rb)
  cases ru;cases rv
  obtain⟨vs,h1,h2⟩:=hg.lst hp
  obtain⟨ws,h3,h4⟩:=hg.lst hq
  obtain⟨its,r1,⟨o,n,ho,hc,_,hd⟩,_⟩:=I.list (.of h1)
  obtain⟨its',r2,⟨o',n',ho',hc',_,hd'⟩,_⟩:=I.list (.of h3)
  simp only[kK6,lKt,lKw] at ox oy
  obtain⟨as,r3⟩:=jXa I xs ox.1.1 h2 r1
  obtain⟨bs,r4⟩:=jXa I ys oy.1.1 h4 r2
  exact⟨.list (tds xs),.list (tds ys),_,_,.list ho hc hd (by simpa using r3),.list ho' hc' hd' (by simpa using r4),ox.1.2,oy.1.2,ox.2,by rw[e];exact qKh xs ys ox.1.1 oy.1.1⟩
 ·simp only[eqOk,lKt,lKw] at ox oy
  obtain⟨as,r3⟩:=kKi I x ox.1.1 ra ru
  obtain⟨bs,r4⟩:=kKi I y oy.1.1 rb rv
  exact⟨td x,td y,_,_,r3,r4,ox.1.2,oy.1.2,ox.2,by rw[e];exact qY8 x y ox.1.1 oy.1.1⟩
theorem jXi (hu:X.A.units+64<cLine):Op3 X (compareOp .Eq) rEqA:=by
 rintro pins s τ G H x y v u Q ⟨σ,I,hs,hg⟩ ⟨a,ra,rv⟩ ⟨b,rb,ru⟩ ⟨k,hk,q⟩
 obtain⟨da,db,as,bs,r1,r2,c1,c2,d,e⟩:=kXt I hg ra rb rv ru hk
 exact SeqAt.compareEq_reads r1 r2 c1 c2 (by omega) ⟨.bl k,G,H,.refl H,⟨σ,I,hs,hg⟩,⟨.bl k,rfl,by rw[e];rfl⟩,q⟩
theorem kQy (hu:X.A.units+64<cLine):Op3 X (compareOp .NotEq) rNeA:=by
 rintro pins s τ G H x y v u Q ⟨σ,I,hs,hg⟩ ⟨a,ra,rv⟩ ⟨b,rb,ru⟩ ⟨k,hk,q⟩
 obtain⟨da,db,as,bs,r1,r2,c1,c2,d,e⟩:=kXt I hg ra rb rv ru hk
 exact SeqAt.compareNe_reads r1 r2 c1 c2 (by omega) ⟨.bl (!k),G,H,.refl H,⟨σ,I,hs,hg⟩,⟨.bl (!k),rfl,by rw[e];rfl⟩,q⟩
end
section
variable {X:Cx}
def jXo:T->Bool
 | .non=>true
 | .bl _=>true
 | .int _=>true
 | .str _=>true
 | _=>false
theorem jY2 {K:PySem.W.Frag} {H:Hp} {x:T} {a:V} (r:Rep K H x a) (f:jXo x=true):kJj a=true:=by
 cases x with
 | non=>cases (show a= .non from r);rfl
 | bl _=>cases (show a= .bl _ from r);rfl
 | int _=>cases (show a= .int _ from r);rfl
 | str _=>cases (show a= .str _ from r);rfl
 | _=>exact absurd (show false=true from f) lJv
theorem qKg {K:PySem.W.Frag} {H:Hp} {x y:T} {a b:V} (r:Rep K H x a) (q:Rep K H y b) (f:jXo x=true) (g:jXo y=true):eqV a b=eqT x y:=by
 cases x with
 | non=>cases (show a= .non from r);cases y with
  | non=>cases (show b= .non from q);rfl
  | bl _=>cases (show b= .bl _ from q);rfl
  | int _=>cases (show b= .int _ from q);rfl
  | str _=>cases (show b= .str _ from q);rfl
  | _=>exact absurd (show false=true from g) lJv
 | bl _=>cases (show a= .bl _ from r);cases y with
  | non=>cases (show b= .non from q);rfl
  | bl _=>cases (show b= .bl _ from q);rfl
  | int _=>cases (show b= .int _ from q);rfl
  | str _=>cases (show b= .str _ from q);rfl
  | _=>exact absurd (show false=true from g) lJv
 | int _=>cases (show a= .int _ from r);cases y with
  | non=>cases (show b= .non from q);rfl
  | bl _=>cases (show b= .bl _ from q);rfl
  | int _=>cases (show b= .int _ from q);rfl
  | str _=>cases (show b= .str _ from q);rfl
  | _=>exact absurd (show false=true from g) lJv
 | str _=>cases (show a= .str _ from r);cases y with
  | non=>cases (show b= .non from q);rfl
  | bl _=>cases (show b= .bl _ from q);rfl
  | int _=>cases (show b= .int _ from q);rfl
  | str _=>cases (show b= .str _ from q);rfl
  | _=>exact absurd (show false=true from g) lJv
 | _=>exact absurd (show false=true from f) lJv
def inT (x:T) (xs:List T):Bool:=xs.any fun y=>eqT y x
theorem kK3 {K:PySem.W.Frag} {H:Hp} {x:T} {a:V} (r:Rep K H x a) (f:jXo x=true):∀ {xs:List T} {vs:List V},Reps K H xs vs->xs.all jXo=true->vs.all kJj=true/\inV a vs=inT x xs
 | [],_,h,_=>by cases h;exact⟨rfl,rfl⟩
 | y::ys,_,⟨v,ws,e,r1,r2⟩,g=>by
  subst e
  rw[lQ2,lKt] at g
  obtain⟨h1,h2⟩:=kK3 r f r2 g.2
  refine⟨by rw[lQ2,jY2 r1 g.1,h1];rfl,?_⟩
  unfold inV inT at h2 ⊢
  rw[lQr,lQr,qKg r1 r g.1 f,h2]
def rInF (neg:Bool):R3:=fun x y G Q=>∃xs,seqT G y=some xs/\jXo x=true/\xs.all jXo=true/\Q (.bl (if neg then !inT x xs else inT x xs)) G
theorem qYu {neg:Bool} {op:CmpOp} (h:OpR X (compareOp op) (L2.rIn X.K neg)):Op3 X (compareOp op) (rInF neg):=
 Op3.of h fun H G x y a b Q hg ra rb ⟨xs,hx,fx,fs,q⟩=>by
  obtain⟨p,vs,e,hq,r⟩:=jQ9 hg rb hx
  obtain⟨h1,h2⟩:=kK3 ra fx r fs
  exact⟨p,vs,e,hq,jY2 ra fx,h1,.bl _,G,.refl H,hg,by rw[h2];rfl,q⟩
theorem o_notInF:Op3 X (compareOp .NotIn) (rInF true):=qYu kQu
def jUv:T->Option Key
 | .int i=>some (.inl i)
 | .str x=>some (.inr x)
 | _=>none
def allK {K:Type} (f:T->Option K):List T->Option (List K)
 | []=>some []
 | x::xs=>match f x,allK f xs with
  | some k,some ks=>some (k::ks)
  | _,_=>none
def key1:T->Option K1
 | .tup ts=>(allK jUv ts).map .inr
 | x=>(jUv x).map .inl
def key2:T->Option K2
 | .tup ts=>(allK key1 ts).map .inr
 | x=>(jUv x).map .inl
def jQh:List T->Option TKey:=allK key2
theorem jXl {K:PySem.W.Frag} {H:Hp} {x:T} {a:V} {k:Key} (h:jUv x=some k) (r:Rep K H x a):a=kV k:=by
 cases x with
 | int i=>cases h;exact r
 | str i=>cases h;exact r
 | non=>cases h
 | bl _=>cases h
 | tup _=>cases h
 | scr _=>cases h
 | ref _=>cases h
 | ty _=>cases h
theorem jY8 {K:PySem.W.Frag} {H:Hp} {κ:Type} {f:T->Option κ} {R:κ->V->Prop} (hf:∀x k a,f x=some k->Rep K H x a->R k a):∀ {xs:List T} {vs:List V} {ks:List κ},allK f xs=some ks->Reps K H xs vs->Paired R ks vs
 | [],_,_,h,r=>by cases h;cases (show _=[] from r);exact .nil
 | x::xs,_,ks,h,⟨v,ws,e,r1,r2⟩=>by
  subst e
  unfold allK at h
  cases e1:f x with
  | none=>rw[e1] at h;cases h
  | some k=>
   cases e2:allK f xs with
   | none=>rw[e1,e2] at h;cases h
   | some ks'=>
    rw[e1,e2] at h;cases h
    exact .cons (hf _ _ _ e1 r1) (jY8 hf e2 r2)
theorem qUx {K:PySem.W.Frag} {H:Hp} (x:T) (k:K1) (a:V) (h:key1 x=some k) (r:Rep K H x a):Rk1 H k a:=by
 cases x with
 | tup ts=>
  obtain⟨ks,h1,rfl⟩:=lQe.mp (show (allK jUv ts).map Sum.inr=some k from h)
  obtain⟨p,vs,e,h3,h4⟩:=(show ∃p vs,a= .ref p/\H p=some (.tup vs)/\Reps K H ts vs from r)
  exact⟨p,vs,e,h3,jY8 (fun x k a h r=>jXl h r) h1 h4⟩
 | int i=>cases h;exact r
 | str i=>cases h;exact r
 | non=>cases h
 | bl _=>cases h
 | scr _=>cases h
 | ref _=>cases h
 | ty _=>cases h
theorem qUv {K:PySem.W.Frag} {H:Hp} (x:T) (k:K2) (a:V) (h:key2 x=some k) (r:Rep K H x a):Rk2 H k a:=by
 cases x with
 | tup ts=>
  obtain⟨ks,h1,rfl⟩:=lQe.mp (show (allK key1 ts).map Sum.inr=some k from h)
  obtain⟨p,vs,e,h3,h4⟩:=(show ∃p vs,a= .ref p/\H p=some (.tup vs)/\Reps K H ts vs from r)
  exact⟨p,vs,e,h3,jY8 qUx h1 h4⟩
 | int i=>cases h;exact r
 | str i=>cases h;exact r
 | non=>cases h
 | bl _=>cases h
 | scr _=>cases h
 | ref _=>cases h
 | ty _=>cases h
theorem jVh {K:PySem.W.Frag} {H:Hp} {xs:List T} {vs:List V} {ks:TKey} {p:Addr} (h:jQh xs=some ks) (e:H p=some (.tup vs)) (r:Reps K H xs vs):TKeyAt H ks p:=⟨vs,e,jY8 qUv h r⟩
def valT {κ:Type} [DecidableEq κ] (kvs:List (κ×T)) (k:κ):Option T:=(kvs.find? fun kv=>decide (kv.1=k)).map (·.2)
noncomputable def putT {κ:Type} [DecidableEq κ] (kvs:List (κ×T)) (k:κ) (v:T):List (κ×T):=
 if (kvs.any fun kv=>decide (kv.1=k))=true then kvs.map (fun kv=>if kv.1=k then (kv.1,v) else kv) else kvs++[(k,v)]
theorem PKV.val {κ:Type} [DecidableEq κ] {K:PySem.W.Frag} {H:Hp} {kvs:List (κ×T)} {ws:List (κ×V)} (r:PKV K H kvs ws) (k:κ):(∀t,valT kvs k=some t->∃v,valV ws k=some v/\Rep K H t v)/\(valT kvs k).isSome=(valV ws k).isSome:=by
 unfold PKV at r
 induction r with
 | nil=>exact⟨fun t h=>by simp[valT] at h,rfl⟩
 | @cons p q ps qs h t ih=>
  by_cases e:p.1=k
  ·have e':q.1=k:=h.1.symm.trans e
   have b:valT (p::ps) k=some p.2:=by simp[valT,lQs,e]
   rw[b,jYr e']
   exact⟨fun t ht=>by cases ht;exact⟨q.2,rfl,h.2⟩,rfl⟩
  ·have e':¬ q.1=k:=fun z=>e (h.1.trans z)
   have b:valT (p::ps) k=valT ps k:=by simp[valT,lQs,e]
   rw[b,jYs e']
   exact ih
theorem PKV.any {κ:Type} [DecidableEq κ] {K:PySem.W.Frag} {H:Hp} {kvs:List (κ×T)} {ws:List (κ×V)} (r:PKV K H kvs ws) (k:κ):(kvs.any fun kv=>decide (kv.1=k))=ws.any fun kv=>decide (kv.1=k):=by
 unfold PKV at r
 induction r with
 | nil=>rfl
 | cons h t ih=>rw[lQr,lQr,ih,h.1]
theorem PKV.put {κ:Type} [DecidableEq κ] {K:PySem.W.Frag} {H:Hp} {kvs:List (κ×T)} {ws:List (κ×V)} (r:PKV K H kvs ws) (k:κ) {t:T} {v:V} (rt:Rep K H t v):PKV K H (putT kvs k t) (putK ws k v):=by
 unfold putT putK
 rw[r.any k]
 by_cases e:(ws.any fun kv=>decide (kv.1=k))=true
 ·rw[lJc e,lJc e]
  unfold PKV at r ⊢
  clear e
  induction r with
  | nil=>exact .nil
  | @cons p q ps qs h t' ih=>
   rw[lJp,lJp]
   refine .cons ?_ ih
   obtain⟨h1,h2⟩:=h
   by_cases e:p.1=k
   ·rw[lJc e,lJc (h1.symm.trans e)];exact⟨h1,rt⟩
   ·rw[lJa e,lJa (fun z=>e (h1.trans z))];exact⟨h1,h2⟩
 ·rw[lJa e,lJa e];exact Paired.snoc r ⟨rfl,rt⟩
theorem PKV.length {κ:Type} {K:PySem.W.Frag} {H:Hp} {kvs:List (κ×T)} {ws:List (κ×V)} (r:PKV K H kvs ws):kvs.length=ws.length:=lV6 r
noncomputable def dAt (G:Gp) (x y:T):Option (Option T):=match x with
 | .ref p=>match G p with
  | some (.dct kvs)=>match y with
   | .tup ys=>match jQh ys with
    | some ks=>some (valT kvs ks)
    | none=>none
   | _=>none
  | some (.dck kvs)=>match jUv y with
   | some k=>some (valT kvs k)
   | none=>none
  | some (.fdc kvs)=>match y with
   | .tup ys=>match jQh ys with
    | some ks=>some (valT kvs ks)
    | none=>none
   | _=>none
  | _=>none
 | _=>none
theorem qKt {K:PySem.W.Frag} {H:Hp} {G:Gp} {x y:T} {a b:V} {o:Option T} (hg:GRel K H G) (ra:Rep K H x a) (rb:Rep K H y b) (h:dAt G x y=some o):
  ∃p ov,a= .ref p/\DGet H p b ov/\o.isSome=ov.isSome/\∀t,o=some t->∃v,ov=some v/\Rep K H t v:=by
 unfold dAt at h
 split at h
 ·rename_i p
  cases (show a= .ref p from ra)
  split at h
  ·rename_i kvs hG
   split at h
   ·rename_i ys
    split at h
    ·rename_i ks hk
     cases h
     obtain⟨ws,h1,h2⟩:=hg p _ hG
     obtain⟨q,vs,e,h3,h4⟩:=(show ∃q vs,b= .ref q/\H q=some (.tup vs)/\Reps K H ys vs from rb)
     subst e
     exact⟨p,_,rfl,DGet.t h1 (jVh hk h3 h4),(h2.val ks).2,(h2.val ks).1⟩
    ·cases h
   ·cases h
  ·rename_i kvs hG
   split at h
   ·rename_i k hk
    cases h
    obtain⟨ws,h1,h2⟩:=hg p _ hG
    rw[jXl hk rb]
    exact⟨p,_,rfl,DGet.k h1,(h2.val k).2,(h2.val k).1⟩
   ·cases h
  ·rename_i kvs hG
   split at h
   ·rename_i ys
    split at h
    ·rename_i ks hk
     cases h
     obtain⟨ob,ws,h1,h2⟩:=(show ∃ob ws,H p=some (.frz ob (.dT ws))/\PKV K H kvs ws from hg p _ hG)
     obtain⟨q,vs,e,h3,h4⟩:=(show ∃q vs,b= .ref q/\H q=some (.tup vs)/\Reps K H ys vs from rb)
     subst e
     exact⟨p,_,rfl,.inr ⟨ws,ks,q,.inr ⟨ob,h1⟩,rfl,jVh hk h3 h4,rfl⟩,(h2.val ks).2,(h2.val ks).1⟩
    ·cases h
   ·cases h
  ·cases h
 ·cases h
def rDGet:R3:=fun x y G Q=>∃t,dAt G x y=some (some t)/\Q t G
theorem qYm (hu:X.A.units+20<cLine):Ix3 X rDGet:=by
 rintro value slice pins s τ G H x y v u Q ⟨σ,I,hs,hg⟩ ⟨a,ra,rv⟩ ⟨b,rb,ru⟩ ⟨t,hd,q⟩ hsl
 obtain⟨p,ov,e,g,_,hh⟩:=qKt hg ra rb hd
 obtain⟨w,ew,rw'⟩:=hh t rfl
 subst e;subst ew
 cases rv
 have hT:s.TypeIs (.ref p) "dict":=kVv I g
 unfold subscriptTail
 refine lJb ?_
 rw[getitemInPython_of_ne hT.not_modules]
 refine lJb (wpAny_specialOf hT PySem.F.slot_dict_getitem.lookup ?_)
 have fin:wpAny (model X.prog X.w) X.A (subscripted slice false (.ref p) u) (fun r s₃=>wpAny (model X.prog X.w) X.A (letTemporaryGo value (.ref p) r >>= fun _=>pure r) (EP3 X pins τ H Q) X.xe s₃) X.xe s:=by
  rw[hsl]
  exact wpAny_operating (qKs hu I g ru fun w' s' I' r'=>lJb (wpAny_letTemporaryGo (lJd ⟨t,G,H,.refl H,⟨σ,I',hs,hg⟩,⟨w,rw',r'⟩,q⟩)))
 first
  | exact lJd (lJb fin)
  | exact lJb (lJd (lJb fin))
  | exact lJb fin
theorem Ix3.or {r r':R3} (h:Ix3 X r) (h':Ix3 X r'):Ix3 X (fun x y G Q=>r x y G Q\/r' x y G Q):=by
 intro value slice pins s τ G H x y v u Q I rx ry q hs
 rcases q with q | q
 ·exact h value slice pins s τ G H x y v u Q I rx ry q hs
 ·exact h' value slice pins s τ G H x y v u Q I rx ry q hs
def rIxA:R3:=fun x y G Q=>rIx x y G Q\/rDGet x y G Q
theorem qYn (hu:X.A.units+20<cLine):Ix3 X rIxA:=ix_any.or (qYm hu)
def kZ8:R3:=fun x y G Q=>∃o,dAt G y x=some o/\Q (.bl (!o.isSome)) G
theorem qUd (hu:X.A.units+20<cLine):Op3 X (compareOp .NotIn) kZ8:=by
 rintro pins s τ G H x y v u Q ⟨σ,I,hs,hg⟩ ⟨a,ra,rv⟩ ⟨b,rb,ru⟩ ⟨o,hd,q⟩
 obtain⟨p,ov,e,g,e2,_⟩:=qKt hg rb ra hd
 subst e;cases ru
 exact qZf hu I g rv fun s' I'=>⟨.bl _,G,H,.refl H,⟨σ,I',hs,hg⟩,⟨.bl _,rfl,by rw[<-e2];rfl⟩,q⟩
def kZ7:R3:=fun x y G Q=>rInF true x y G Q\/kZ8 x y G Q
theorem qYb (hu:X.A.units+20<cLine):Op3 X (compareOp .NotIn) kZ7:=o_notInF.or (qUd hu)
def kUp:TE3:=fun _ G Q=>(∀p,G p=none->Q (.ref p) (gup G p (.dct [])))\/∀p,G p=none->Q (.ref p) (gup G p (.dck []))
theorem e_dct {pos:Pos}:PE3 X (.Dict [] [] pos) kUp:=by
 rintro pins s τ G H Q ⟨σ,I,hs,hg⟩ h
 rcases h with h | h
 ·exact thn (qQ5 pins s σ H (up X.K H Q) I fun p hp=>⟨.ref p,_,.upd (.none hp),hg.upd (.none hp) (go:= .dct []) ⟨[],jKg,.nil⟩,rfl,h p (hg.fresh hp)⟩) fun u s' z=>jU4 hs z
 ·exact thn (qQ6 pins s σ H (up X.K H Q) I fun p hp=>⟨.ref p,_,.upd (.none hp),hg.upd (.none hp) (go:= .dck []) ⟨[],jKg,.nil⟩,rfl,h p (hg.fresh hp)⟩) fun u s' z=>jU4 hs z
noncomputable def qVw:T->T->T->Gp->(Gp->Prop)->Prop:=fun o i v G Q=>∃p ys ks kvs,o= .ref p/\i= .tup ys/\jQh ys=some ks/\G p=some (.dct kvs)/\kvs.length<sizeLine/\Q (gup G p (.dct (putT kvs ks v)))
def qVx:T->T->T->Gp->(Gp->Prop)->Prop:=fun o i v G Q=>∃p k kvs,o= .ref p/\jUv i=some k/\G p=some (.dck kvs)/\kvs.length<sizeLine/\Q (gup G p (.dck (putT kvs k v)))
theorem qXv (hu:X.A.units+20<cLine):Set3 X qVw:=by
 rintro pins s τ G H o i v ov iv u Q ⟨σ,I,hs,hg⟩ ⟨a,ra,rv⟩ ⟨b,rb,ru⟩ ⟨c,rc,rw'⟩ ⟨p,ys,ks,kvs,eo,ei,hk,hG,hz,q⟩
 subst eo;subst ei
 cases (show a= .ref p from ra);cases rv
 obtain⟨ws,h1,h2⟩:=hg p _ hG
 obtain⟨b',vs,e,h3,h4⟩:=(show ∃q vs,b= .ref q/\H q=some (.tup vs)/\Reps X.K H ys vs from rb)
 subst e
 have h3:=jVh hk h3 h4
 have e:Ext H (upd H p (.dT (putK ws ks c))):= .upd (.dT h1)
 exact kUa hu I (DPut.t h1 h3 (by rw[<-h2.length];exact hz)) ru rw' fun s' I'=>⟨_,_,e,⟨σ,I',hs.mono e,hg.upd (.dT h1) (go:= .dct (putT kvs ks v)) ⟨_,jKg,(h2.put ks rc).mono e⟩⟩,q⟩
theorem qXw (hu:X.A.units+20<cLine):Set3 X qVx:=by
 rintro pins s τ G H o i v ov iv u Q ⟨σ,I,hs,hg⟩ ⟨a,ra,rv⟩ ⟨b,rb,ru⟩ ⟨c,rc,rw'⟩ ⟨p,k,kvs,eo,hk,hG,hz,q⟩
 subst eo
 cases (show a= .ref p from ra);cases rv
 obtain⟨ws,h1,h2⟩:=hg p _ hG
 have eb:=jXl hk rb
 subst eb
 have e:Ext H (upd H p (.dK (putK ws k c))):= .upd (.dK h1)
 exact kUa hu I (DPut.k h1 (by rw[<-h2.length];exact hz)) ru rw' fun s' I'=>⟨_,_,e,⟨σ,I',hs.mono e,hg.upd (.dK h1) (go:= .dck (putT kvs k v)) ⟨_,jKg,(h2.put k rc).mono e⟩⟩,q⟩
theorem Set3.or {r r':T->T->T->Gp->(Gp->Prop)->Prop} (h:Set3 X r) (h':Set3 X r'):Set3 X (fun o i v G Q=>r o i v G Q\/r' o i v G Q):=by
 intro pins s τ G H o i v ov iv u Q I ro ri rv q
 rcases q with q | q
 ·exact h pins s τ G H o i v ov iv u Q I ro ri rv q
 ·exact h' pins s τ G H o i v ov iv u Q I ro ri rv q
def rSetA:T->T->T->Gp->(Gp->Prop)->Prop:=fun o i v G Q=>qQz o i v G Q\/qVw o i v G Q\/qVx o i v G Q
theorem s_any (hu:X.A.units+20<cLine):Set3 X rSetA:=s_list.or ((qXv hu).or (qXw hu))
end
noncomputable def kJd (G:Gp):T->Option String
 | .non=>some "NoneType"
 | .bl _=>some "bool"
 | .int _=>some "int"
 | .str _=>some "str"
 | .tup _=>some "tuple"
 | .scr _=>some "list"
 | .ref p=>match G p with
  | some (.lst _)=>some "list"
  | some (.dct _)=>some "dict"
  | some (.dck _)=>some "dict"
  | some (.fdc _)=>none
  | some (.ins _ _)=>none
  | some (.exc _)=>none
  | none=>none
 | .ty _=>none
def subT (t n:String):Option Bool:=
 if n="bool"\/n="int"\/n="str"\/n="list"\/n="tuple" then some (t == n||(t == "bool"&&n == "int")) else none
theorem qUt (K:PySem.W.Frag) {n:String} {b:Bool} (h:subT "bool" n=some b):PySem.W.kitOne K (.type "bool") (.type n)=some b:=by
 unfold subT at h
 split at h
 ·rename_i hn
  rcases hn with rfl | rfl | rfl | rfl | rfl<;>(cases h;kernel_rfl)
 ·cases h
theorem qUs (K:PySem.W.Frag) {n:String} {b:Bool} (h:subT "NoneType" n=some b):PySem.W.kitOne K (.type "NoneType") (.type n)=some b:=by
 unfold subT at h
 split at h
 ·rename_i hn
  rcases hn with rfl | rfl | rfl | rfl | rfl<;>(cases h;kernel_rfl)
 ·cases h
theorem qYk (K:PySem.W.Frag) {n:String} {b:Bool} (h:subT "int" n=some b):PySem.W.kitOne K (.type "int") (.type n)=some b:=by
 unfold subT at h
 split at h
 ·rename_i hn
  rcases hn with rfl | rfl | rfl | rfl | rfl<;>(cases h;kernel_rfl)
 ·cases h
theorem qYj (K:PySem.W.Frag) {n:String} {b:Bool} (h:subT "str" n=some b):PySem.W.kitOne K (.type "str") (.type n)=some b:=by
 unfold subT at h
 split at h
 ·rename_i hn
  rcases hn with rfl | rfl | rfl | rfl | rfl<;>(cases h;kernel_rfl)
 ·cases h
theorem qJx (K:PySem.W.Frag) {n:String} {b:Bool} (h:subT "tuple" n=some b):PySem.W.kitOne K (.type "tuple") (.type n)=some b:=by
 unfold subT at h
 split at h
 ·rename_i hn
  rcases hn with rfl | rfl | rfl | rfl | rfl<;>(cases h;kernel_rfl)
 ·cases h
theorem kXi (K:PySem.W.Frag) {n:String} {b:Bool} (h:subT "list" n=some b):PySem.W.kitOne K (.type "list") (.type n)=some b:=by
 unfold subT at h
 split at h
 ·rename_i hn
  rcases hn with rfl | rfl | rfl | rfl | rfl<;>(cases h;kernel_rfl)
 ·cases h
theorem kXj (K:PySem.W.Frag) {n:String} {b:Bool} (h:subT "dict" n=some b):PySem.W.kitOne K (.type "dict") (.type n)=some b:=by
 unfold subT at h
 split at h
 ·rename_i hn
  rcases hn with rfl | rfl | rfl | rfl | rfl<;>(cases h;kernel_rfl)
 ·cases h
section
variable {X:Cx}
theorem e_ty {x:Str} {n:String} {pos:Pos} (hg:Gl X x) (hm:X.mg x=none) (hv:bootBuiltins x=some (.type n)) (hn:x≠"__name__":=by decide) (hd:(x == ("__debug__":Str))=false:=by decide):PE3 X (.Name x pos) (tC (.ty n)):=
 fun pins s τ G H Q ⟨σ,I,hs,hg'⟩ q=>thn (qX2 (v:= .ty n) hg hm hv rfl hn hd pins s σ H (up X.K H Q) I ⟨.ty n,G,.refl H,hg',rfl,q⟩) fun u s' h=>jU4 hs h
def kitT (t:String):List T->Option Bool
 | []=>some false
 | .ty n::r=>match subT t n with
  | some true=>some true
  | some false=>kitT t r
  | none=>none
 | _::_=>none
def isiC:Option String->T->Option Bool
 | some t,.ty n=>subT t n
 | some t,.tup cs=>kitT t cs
 | _,_=>none
def isiT (G:Gp) (x c:T):Option Bool:=isiC (kJd G x) c
def rIsi:List T->Gp->VK3->Prop:=fun xs G Q=>∃x c b,xs=[x,c]/\isiT G x c=some b/\Q (.bl b) G
theorem qJy {K:PySem.W.Frag} {H:Hp} {t:String} (ok:∀n b,subT t n=some b->PySem.W.kitOne K (.type t) (.type n)=some b):∀ {cs:List T} {vs:List V} {us:List Value} {b:Bool},Reps K H cs vs->Vals vs us->kitT t cs=some b->PySem.W.kitAny K (.type t) us=some b
 | [],_,_,_,r,q,h=>by cases r;cases q;exact h
 | c::cs,_,_,b,⟨v,ws,e,r1,r2⟩,q,h=>by
  subst e
  cases q with
  | cons q1 q2=>
   cases c with
   | ty n=>
    cases (show v= .ty n from r1)
    cases q1
    unfold kitT at h
    unfold PySem.W.kitAny
    cases e:subT t n with
    | none=>rw[e] at h;cases h
    | some k=>
     rw[e] at h
     rw[ok n k e]
     cases k with
     | true=>exact h
     | false=>exact qJy ok r2 q2 h
   | _=>cases h
theorem jQm {pins:List (Addr×Obj)} {τ:St3} {G:Gp} {H:Hp} {s:Shared} {σ:L2.St} {c:T} {cv:V} {u cu:Value} {t:String} {b:Bool} {Q:VK3} {Hh:Heap->Prop} (I:Inv X pins σ H s) (hs:SRel X.K H σ τ) (hg:GRel X.K H G)
  (Z:PySem.W.KitX X.K u (.type t) Hh) (p:Hh s.heap) (hx:u≠ .builtin "__main__.__loader__#opaque") (ok:∀n b,subT t n=some b->PySem.W.kitOne X.K (.type t) (.type n)=some b)
  (rc:Rep X.K H c cv) (ru:RelV cv cu) (h:isiC (some t) c=some b) (q:Q (.bl b) G):
  wpAny (model X.prog X.w) X.A (call (.builtin "isinstance") [u,cu]) (EP3 X pins τ H Q) X.xe s:=by
 have fin:∀tk,EP3 X pins τ H Q (.bool b) {s with toks:=tk}:=fun tk=>⟨.bl b,G,H,.refl H,⟨σ,I.tok tk,hs,hg⟩,⟨.bl b,rfl,rfl⟩,q⟩
 cases c with
 | ty n=>
  cases (show cv= .ty n from rc);cases ru
  exact PySem.W.kia_one Z I.kIn p (ok n b h) hx fin
 | tup cs=>
  obtain⟨pp,vs,e,h1,h2⟩:=(show ∃p vs,cv= .ref p/\H p=some (.tup vs)/\Reps X.K H cs vs from rc)
  subst e;cases ru
  obtain⟨its,rv,⟨⟨cls,dd,data,sl⟩,ho,hc,n,hd⟩,_⟩:=I.tuple (.of h1)
  simp only at hc hd
  subst hc hd
  exact PySem.W.kia_tup Z I.kIn p ho (qJy ok h2 rv h) hx fin
 | _=>cases h
theorem kJk:Call3 X (.builtin "isinstance") rIsi:=by
 rintro pins s τ G H xs us Q ⟨σ,I,hs,hg⟩ ⟨as,ras,rvs⟩ ⟨x,c,b,e,h,q⟩
 subst e
 obtain⟨a,cv,rfl,ra,rc⟩:=kUz ras
 obtain⟨u,cu,rfl,ru,rcu⟩:=rvs.two
 unfold isiT at h
 cases x with
 | non=>cases (show a= .non from ra);cases ru;exact jQm I hs hg PySem.W.kitx_none True.intro (fun z=>nomatch z) (fun n b=>qUs _) rc rcu h q
 | bl k=>cases (show a= .bl k from ra);cases ru;exact jQm I hs hg PySem.W.kitx_bool True.intro (fun z=>nomatch z) (fun n b=>qUt _) rc rcu h q
 | int k=>cases (show a= .int k from ra);obtain⟨t,rfl⟩:=ru;exact jQm I hs hg PySem.W.kitx_int True.intro (fun z=>nomatch z) (fun n b=>qYk _) rc rcu h q
 | str k=>cases (show a= .str k from ra);obtain⟨t,rfl⟩:=ru;exact jQm I hs hg PySem.W.kitx_str True.intro (fun z=>nomatch z) (fun n b=>qYj _) rc rcu h q
 | tup ys=>
  obtain⟨p,vs,e,h1,h2⟩:=(show ∃p vs,a= .ref p/\H p=some (.tup vs)/\Reps X.K H ys vs from ra)
  subst e;cases ru
  obtain⟨its,rv,⟨o,ho,hc,_⟩,_⟩:=I.tuple (.of h1)
  exact jQm I hs hg PySem.W.kitx_tuple ⟨o,ho,hc⟩ (fun z=>nomatch z) (fun n b=>qJx _) rc rcu h q
 | scr ys=>
  obtain⟨p,vs,e,h1,h2⟩:=(show ∃p vs,a= .ref p/\FrL X.K H p vs/\Reps X.K H ys vs from ra)
  subst e;cases ru
  obtain⟨its,rv,⟨o,n,ho,hc,_⟩,_⟩:=I.list h1.sq
  exact jQm I hs hg PySem.W.kitx_list ⟨o,ho,hc⟩ (fun z=>nomatch z) (fun n b=>kXi _) rc rcu h q
 | ref p=>
  cases (show a= .ref p from ra);cases ru
  cases hG:G p with
  | none=>simp only[kJd,hG] at h;cases h
  | some g=>
   cases g with
   | lst ys=>
    simp only[kJd,hG] at h
    obtain⟨vs,h1,h2⟩:=hg.lst hG
    obtain⟨its,rv,⟨o,n,ho,hc,_⟩,_⟩:=I.list (.of h1)
    exact jQm I hs hg PySem.W.kitx_list ⟨o,ho,hc⟩ (fun z=>nomatch z) (fun n b=>kXi _) rc rcu h q
   | fdc kvs=>simp only[kJd,hG] at h;cases h
   | ins _ _=>simp only[kJd,hG] at h;cases h
   | exc _=>simp only[kJd,hG] at h;cases h
   | dct kvs=>
    simp only[kJd,hG] at h
    obtain⟨ws,h1,_⟩:=hg p _ hG
    obtain⟨_,_,xs,_,o,es,ep,h3,h4,_⟩:=(show ObjOk X.prog X.w H s.heap p (.dT ws) from I.hok p _ h1)
    exact jQm I hs hg PySem.W.kitx_dict ⟨o,h3,h4.1⟩ (fun z=>nomatch z) (fun n b=>kXj _) rc rcu h q
   | dck kvs=>
    simp only[kJd,hG] at h
    obtain⟨ws,h1,_⟩:=hg p _ hG
    obtain⟨_,_,vs,_,pp⟩:=(show ObjOk X.prog X.w H s.heap p (.dK ws) from I.hok p _ h1)
    obtain⟨o,es,ep,h3,h4,_⟩:=pp
    exact jQm I hs hg PySem.W.kitx_dict ⟨o,h3,h4.1⟩ (fun z=>nomatch z) (fun n b=>kXj _) rc rcu h q
 | ty _=>cases h
abbrev TO3:=St3->Gp->(Option Int->Gp->Prop)->Prop
def PO3 (X:Cx) (e:Option Expr) (t:TO3):Prop:=
 ∀(pins:List (Addr×Obj)) (s:Shared) (τ:St3) (G:Gp) (H:Hp) (Q:Option Int->Gp->Prop),Inv3 X pins τ G H s->t τ G Q->
  wpAny (model X.prog X.w) X.A (evalPart e X.env) (fun u s'=>∃o G' H',Ext H H'/\Inv3 X pins τ G' H' s'/\IsPart u o/\Q o G') X.xe s
def jQ0:TO3:=fun _ G Q=>Q none G
def jYe (t:TE3):TO3:=fun τ G Q=>t τ G fun x G1=>∃i,x= .int i/\Q (some i) G1
theorem kJr:PO3 X none jQ0:=by
 intro pins s τ G H Q I h
 rw[evalPart_none]
 exact lJd ⟨none,G,H,.refl H,I,.none,h⟩
theorem jX7 {e:Expr} {te:TE3} (h:PE3 X e te):PO3 X (some e) (jYe te):=by
 intro pins s τ G H Q I hw
 rw[evalPart_some]
 refine thn (h pins s τ G H _ I hw) fun u s1 w_=>w_.el fun x G1 H1 e1 I1 r_ ⟨i,ex,q⟩=>r_.el fun v rv ru=> ?_
 subst ex
 cases (show v= .int i from rv)
 obtain⟨t,rfl⟩:=ru
 exact⟨some i,G1,H1,e1,I1,.int i t,q⟩
def Sl3 (X:Cx) (r:T->Option Int->Option Int->Gp->VK3->Prop):Prop:=
 ∀(pins:List (Addr×Obj)) (s:Shared) (τ:St3) (G:Gp) (H:Hp) (x:T) (v vl vu:Value) (lo hi:Option Int) (sl:Addr) (Q:VK3),Inv3 X pins τ G H s->RU X.K H x v->s.heap.IsSliceOf sl vl vu .none->IsPart vl lo->IsPart vu hi->r x lo hi G Q->
  ∃T id,typeLookup (.type T) "__getitem__"=pure (some (.builtin id))/\s.TypeIs v T/\wpAny (model X.prog X.w) X.A (getItem v (.ref sl)) (EP3 X pins τ H Q) X.xe s
def tSl (r:T->Option Int->Option Int->Gp->VK3->Prop) (te:TE3) (tl th:TO3):TE3:=fun τ G Q=>te τ G fun x G1=>tl τ G1 fun l G2=>th τ G2 fun u G3=>r x l u G3 Q
theorem jV4 {r:T->Option Int->Option Int->Gp->VK3->Prop} {e:Expr} {te:TE3} {lo hi:Option Expr} {tl th:TO3} {pos p2:Pos} (hr:Sl3 X r) (he:PE3 X e te) (hl:PO3 X lo tl) (hu:PO3 X hi th):PE3 X (.Subscript e (.Slice lo hi none p2) pos) (tSl r te tl th):=by
 intro pins s τ G H Q I h
 refine Subscript_ (thn (he pins s τ G H _ I h) fun v s1 w_=>w_.el fun x G1 H1 e1 I1 r1 q1=> ?_)
 refine wpAny_Slice (thn (hl pins s1 τ G1 H1 _ I1 q1) fun vl s2 ⟨l,G2,H2,e2,I2,pl,q2⟩=>thn (hu pins s2 τ G2 H2 _ I2 q2) fun vu s3 ⟨u,G3,H3,e3,⟨σ,I3,hs3,hg3⟩,pu,q3⟩=> ?_)
 rw[evalPart_none]
 refine lJd ?_
 have I4:Inv X pins σ H3 {s3 with heap:=s3.heap.push {cls:= .type "slice",data:= .fields #[vl,vu,.none]} }:=I3.kept (t':=s3.toks) fun b ob q=>lJs _ q
 obtain⟨T0,id,hT,ht,hg⟩:=hr pins {s3 with heap:=s3.heap.push {cls:= .type "slice",data:= .fields #[vl,vu,.none]} } τ G3 H3 x v vl vu l u s3.heap.objs.size Q ⟨σ,I4,hs3,hg3⟩ ((r1.mono e2).mono e3) (Heap.IsSliceOf.new ..) pl pu q3
 show wpAny (model X.prog X.w) X.A (subscriptTail e (.Slice lo hi none p2) v (.ref s3.heap.objs.size)) (EP3 X pins τ H Q) X.xe {s3 with heap:=s3.heap.push {cls:= .type "slice",data:= .fields #[vl,vu,.none]} }
 exact thn (tail_any (ops:=[.ref s3.heap.objs.size,v]) ht hT hg (by with_unfolding_all rfl)) fun _ _ z=>z.ext ((e1.trans e2).trans e3)
def cutT (xs:List T) (lo hi:Option Int):List T:=(xs.drop (HT.sIx xs.length 0 lo)).take (HT.sIx xs.length xs.length hi-HT.sIx xs.length 0 lo)
noncomputable def rSlA:T->Option Int->Option Int->Gp->VK3->Prop:=fun x lo hi G Q=>
 (∃xs,jKc G x=some xs/\∀p,G p=none->Q (.ref p) (gup G p (.lst (cutT xs lo hi))))\/∃xs,x= .tup xs/\Q (.tup (cutT xs lo hi)) G
end
end L3
namespace HT
open PySem PyProof.Rows
theorem getItem_tuple_whole {prog:Program} {w:World} {A:Around} {E:Value->Shared->Prop} {s:Shared} {t sl:Addr} {items:Array Value} {vl vu:Value} {lo hi:Option Int} {Q:Value->Shared->Prop} (ht:IsTup s.heap t items) (hs:s.heap.IsSliceOf sl vl vu .none) (pl:IsPart vl lo) (pu:IsPart vu hi)
  (hw:sIx items.size 0 lo=0/\sIx items.size items.size hi=items.size) (h:Q (.ref t) s):wpAny (model prog w) A (getItem (.ref t) (.ref sl)) Q E s:=by
 obtain⟨os,hos,hcs,hds⟩:=id hs
 have hTs:s.TypeIs (.ref sl) "slice":=⟨os,hos,hcs⟩
 unfold getItem
 try with_reducible refine lK4 ?_
 first | refine lJb (lJd ?_) | skip
 refine lJb (wpAny_sequenceKey ht.typeIs (by decide) ?_)
 refine lJb (lVn (name:=Str.ofString "__getitem__") ht.typeIs lV9
  (lQm lV9 ht.typeIs entry_tuple_getitem ?_ (args_tuple_getitem _ _)))
 show wpAny _ _ (Builtin.Tuple.tupleItemsOf (.ref t) >>= _) _ _ s
 refine lJb (tupleItemsOf_ ht ?_)
 refine lJb (lXo hTs ?_)
 rw[lJc (by decide)]
 refine lJb (jUs hs pl pu ?_)
 have hyes:(((sIx items.size 0 lo:Nat):Int) == 0&&(1:Int) == 1&&(sIx items.size items.size hi-sIx items.size 0 lo) == items.size)=true:=by
  rw[hw.1,hw.2];simp
 show wpAny _ _ (if (((sIx items.size 0 lo:Nat):Int) == 0&&(1:Int) == 1&&(sIx items.size items.size hi-sIx items.size 0 lo) == items.size)=true then _ else _) _ _ s
 rw[lJc hyes]
 refine lJb ?_
 unfold Builtin.Tuple.tupleIsExact
 refine lJb (lXo ht.typeIs (lJd ?_))
 rw[lJc (by decide)]
 exact lJb (lK9 (lJd ⟨_,rfl,lJd h⟩))
end HT
namespace L3
open PySem PySem.Spec PyProof.Rows L2
section
variable {X:Cx}
theorem Reps.cut {K:PySem.W.Frag} {H:Hp} {xs:List T} {vs:List V} (r:Reps K H xs vs) (lo hi:Option Int):Reps K H (cutT xs lo hi) (cutV vs lo hi):=by
 unfold cutT cutV
 rw[<-r.length]
 exact (r.drop _).take _
theorem kYt {xs:List T} {lo hi:Option Int} (h:HT.sIx xs.length 0 lo=0/\HT.sIx xs.length xs.length hi=xs.length):cutT xs lo hi=xs:=by
 unfold cutT
 rw[h.1,h.2]
 simp
theorem sl_any:Sl3 X rSlA:=by
 rintro pins s τ G H x v vl vu lo hi sl Q ⟨σ,I,hs,hg⟩ ⟨a,ra,rv⟩ hsl pl pu h
 rcases h with ⟨xs,hx,q⟩ | ⟨xs,ex,q⟩
 ·obtain⟨p,vs,e,hq,r⟩:=jK8 hg ra hx
  subst e
  obtain⟨T0,id,h1,h2,h3⟩:=qXu pins s σ H (.ref p) v vl vu lo hi sl (up X.K H Q) I rv hsl pl pu ⟨p,vs,rfl,hq,fun l hl=>⟨.ref l,_,.upd (.none hl),hg.lstNew (r.cut lo hi) (.none hl),rfl,q l (hg.fresh hl)⟩⟩
  exact⟨T0,id,h1,h2,thn h3 fun _ _ z=>jU4 hs z⟩
 ·subst ex
  obtain⟨p,vs,e,h1,h2⟩:=(show ∃p vs,a= .ref p/\H p=some (.tup vs)/\Reps X.K H xs vs from ra)
  subst e
  by_cases hw:HT.sIx xs.length 0 lo=0/\HT.sIx xs.length xs.length hi=xs.length
  ·cases rv
   obtain⟨its,rv',ht,hz⟩:=I.tuple (.of h1)
   have hlen:its.toArray.size=xs.length:=by rw[lJy,<-rv'.length,h2.length]
   refine⟨"tuple",_,lV9.lookup,ht.typeIs,HT.getItem_tuple_whole ht hsl pl pu (by rw[hlen];exact hw) ?_⟩
   rw[kYt hw] at q
   exact⟨.tup xs,G,H,.refl H,⟨σ,I,hs,hg⟩,⟨.ref p,ra,rfl⟩,q⟩
  ·obtain⟨T0,id,h3,h4,h5⟩:=sl_tup pins s σ H (.ref p) v vl vu lo hi sl (up X.K H Q) I rv hsl pl pu ⟨p,vs,rfl,.of h1,by rw[<-h2.length];exact hw,fun l hl=>⟨.tup (cutT xs lo hi),G,.upd (.none hl),hg.tupNew hl,Rep.tupNew (h2.cut lo hi) hl,q⟩⟩
   exact⟨T0,id,h3,h4,thn h5 fun _ _ z=>jU4 hs z⟩
end
section
variable {X:Cx}
def insT (xs:List T) (k:Nat) (y:T):List T:=xs.take k++y::xs.drop k
noncomputable def kKr:T->List T->Gp->VK3->Prop:=fun x as G Q=>∃p xs k y,x= .ref p/\as=[.int k,y]/\G p=some (.lst xs)/\0<=k/\k<=xs.length/\xs.length<sizeLine/\Q .non (gup G p (.lst (insT xs k.toNat y)))
theorem qUn:Mt3 X "list.insert" kKr:=by
 rintro pins s τ G H x as v us Q ⟨σ,I,hs,hg⟩ ⟨a,ra,rv⟩ ⟨bs,rbs,rus⟩ ⟨p,xs,k,y,ex,ea,hp,k0,k1,hz,q⟩
 subst ex;subst ea
 cases (show a= .ref p from ra);cases rv
 obtain⟨b1,b2,rfl,r1,r2⟩:=kUz rbs
 cases (show b1= .int k from r1)
 obtain⟨u1,u2,rfl,ru1,ru2⟩:=rus.two
 obtain⟨t,rfl⟩:=ru1
 obtain⟨vs,h1,h2⟩:=hg.lst hp
 obtain⟨z,its,n,r,hl,e⟩:=I.lstM h1
 have hlen:=h2.length
 have hfit:¬ (!Builtin.List.listFitsIndex k)=true:=by
  have h63:=kJv
  rw[fitsIndex_both (by omega) (by omega)]
  exact lJv
 refine call_meets F.slot_list_insert ⟨_,e,rfl⟩ F.entry_list_insert (F.args_list_insert_3 _ _ _) (AutoSeq1.list_insert_list_int_val_1 p its.toArray n k t u2 hfit (by rw[lJy];omega)) ⟨e,?_⟩
 have e2:Ext H (upd H p (.lst (vs.take k.toNat++b2::vs.drop k.toNat))):= .upd (.lst h1)
 refine⟨.non,_,_,e2,⟨σ,I.lset (its':=its.take k.toNat++u2::its.drop k.toNat) h1 e ?_ ((r.take _).append (.cons ru2 (r.drop _))) ?_,hs.mono e2,hg.lstNew (xs:=insT xs k.toNat y) ((h2.take _).append ⟨b2,_,rfl,r2,h2.drop _⟩) (.lst h1)⟩,⟨.non,rfl,rfl⟩,q⟩
 ·have hk:¬ k<0:=by omega
  have hm:min k.toNat its.toArray.size=k.toNat:=by rw[lJy];omega
  simp only[hk,lKd,hm]
  apply Array.ext'
  simp[Array.toList_extract]
  rw[lQg (Nat.le_of_eq (by simp))]
 ·simp only[lKb,lKm,lQc,lVq]
  omega
def kZ9:T->List T->Gp->VK3->Prop:=fun x as G Q=>∃p xs y,x= .ref p/\as=[y]/\G p=some (.lst xs)/\jXo y=true/\xs.all jXo=true/\Q (.int (xs.countP fun z=>eqT z y)) G
theorem kUb {K:PySem.W.Frag} {H:Hp} {y:T} {b:V} (ry:Rep K H y b) (fy:jXo y=true):∀ {xs:List T} {vs:List V} {us:List Value},Reps K H xs vs->Vals vs us->xs.all jXo=true->us.countP (eqU b)=xs.countP fun z=>eqT z y
 | [],_,_,r,q,_=>by cases r;cases q;rfl
 | x::xs,_,_,⟨v,ws,e,r1,r2⟩,q,f=>by
  subst e
  cases q with
  | cons q1 q2=>
   rw[lQ2,lKt] at f
   rw[List.countP_cons,List.countP_cons,kUb ry fy r2 q2 f.2,qKi q1 (jY2 r1 f.1),qKg r1 ry f.1 fy]
theorem qYf:Mt3 X "list.count" kZ9:=by
 rintro pins s τ G H x as v us Q ⟨σ,I,hs,hg⟩ ⟨a,ra,rv⟩ ⟨bs,rbs,rus⟩ ⟨p,xs,y,ex,ea,hp,fy,fs,q⟩
 subst ex;subst ea
 cases (show a= .ref p from ra);cases rv
 obtain⟨b,rfl,rb⟩:=jYg rbs
 obtain⟨u,rfl,ru⟩:=rus.one
 obtain⟨vs,h1,h2⟩:=hg.lst hp
 obtain⟨z,its,n,r,hl,e⟩:=I.lstM h1
 have fl:=(kK3 rb fy h2 fs).1
 refine call_meets F.slot_list_count ⟨_,e,rfl⟩ F.entry_list_count (F.args_list_count_2 _ _) (SeqAt.list_countAt p its.toArray n none #[] u (eqU b)) ⟨e,fun w hw=>jYz ru (jY2 rb fy) r fl w (by simpa using hw),?_⟩
 refine⟨.int _,G,H,.refl H,⟨σ,I.tok _,hs,hg⟩,⟨.int _,rfl,s.toks,?_⟩,q⟩
 rw[<-kUb rb fy h2 r fs]
def kV0:List T->Option Bool
 | []=>some true
 | .bl b::r=>match kV0 r with
  | some c=>some (b&&c)
  | none=>none
 | _::_=>none
def rAll:List T->Gp->VK3->Prop:=fun as G Q=>∃p xs b,as=[.ref p]/\G p=some (.lst xs)/\kV0 xs=some b/\Q (.bl b) G
theorem kUj:∀ {xs:List T} {b:Bool},kV0 xs=some b->∃bs:List Bool,xs=bs.map T.bl/\b=bs.all (fun x=>x)
 | [],b,h=>by cases h;exact⟨[],rfl,rfl⟩
 | .bl c::r,b,h=>by
  unfold kV0 at h
  cases e:kV0 r with
  | none=>rw[e] at h;cases h
  | some d=>
   rw[e] at h;cases h
   obtain⟨bs,h1,h2⟩:=kUj e
   exact⟨c::bs,by rw[h1];rfl,by rw[h2];rfl⟩
 | .non::_,_,h=>by cases h
 | .int _::_,_,h=>by cases h
 | .str _::_,_,h=>by cases h
 | .tup _::_,_,h=>by cases h
 | .scr _::_,_,h=>by cases h
 | .ref _::_,_,h=>by cases h
 | .ty _::_,_,h=>by cases h
theorem kXc {K:PySem.W.Frag} {H:Hp}:∀ {bs:List Bool} {vs:List V} {us:List Value},Reps K H (bs.map T.bl) vs->Vals vs us->us=bs.map Value.bool
 | [],_,_,h,q=>by cases h;cases q;rfl
 | n::ns,_,_,⟨v,ws,e,r,rs⟩,q=>by
  subst e;cases (show v= .bl n from r)
  cases q with
  | cons q1 q2=>cases q1;rw[kXc rs q2];rfl
theorem kUi:∀(bs:List Bool),bs.all (fun x=>x)=(List.range bs.length).all fun i=>bs.getD i true
 | []=>rfl
 | b::bs=>by
  rw[lQ2,kUi bs,lKm,List.range_succ_eq_map,lQ2,List.all_map]
  simp[Function.comp_def,List.getD]
theorem c_all (hc:X.calm=true):Call3 X (.builtin "all") rAll:=by
 rintro pins s τ G H as us Q ⟨σ,I,hs,hg⟩ ⟨bs',rbs,rus⟩ ⟨p,xs,b,e,hp,hb,q⟩
 subst e
 obtain⟨a,rfl,ra⟩:=jYg rbs
 cases (show a= .ref p from ra)
 obtain⟨u,rfl,ru⟩:=rus.one
 cases ru
 obtain⟨vs,h1,h2⟩:=hg.lst hp
 obtain⟨bs,ex,eb⟩:=kUj hb
 subst ex
 obtain⟨its,rv,pl,hz⟩:=I.list (.of h1)
 have eit:=kXc h2 rv
 subst eit
 refine call_all_walk (lYq pl.isList ?_)
 have hne:p≠s.heap.objs.size:=by obtain⟨o,n,ho,_⟩:=pl;exact lJw (lJj ho)
 refine⟨s.heap.objs.size,[s.heap.objs.size,p],[s.heap.objs.size],(bs.map Value.bool).toArray.size,_,_,fun i=>bs.getD i true,rfl,Walks.list (A:=X.A.in1) (show X.A.in1.handled=none from I.ok.hd hc) s.heap.objs.size p hne (bs.map Value.bool).toArray,⟨⟨_,lJ8 _ rfl,rfl,rfl⟩,pl.isList.push _⟩,?_,?_⟩
 ·intro i v s' Q' E' hP hQ
  have hP':(bs.map Value.bool)[i]? =some v:=by simpa using hP
  rw[lKr] at hP'
  cases e:bs[i]? with
  | none=>rw[e] at hP';cases hP'
  | some c=>
   rw[e] at hP';cases hP'
   have:bs.getD i true=c:=by simp[List.getD,e]
   have hQ':Q' (bs.getD i true) s':=hQ
   rw[this] at hQ'
   exact lV2 hQ'
 ·intro h' tk hk
  have hk2:∀b o,s.heap.get? b=some o->h'.get? b=some o:=fun b o e=>hk b o (by simpa using lJw (lJj e)) (lJs _ e)
  refine⟨.bl b,G,H,.refl H,⟨σ,I.kept hk2,hs,hg⟩,⟨.bl b,rfl,?_⟩,q⟩
  rw[eb,kUi]
  simp
  rfl
end
structure Cal (P:Program) (w:World) (K:PySem.W.Frag) (mg:Str->Option Value) (base:Heap) (k:Nat) (x:Str) (ps:List Str) (sp:Sp3):Prop where
 ex:∃f fd,Fn3 P w K mg base k f fd ps sp/\mg x=some (.ref f)/\PySem.W.keepIn K (.ref f)=true/\Binds K fd ps []
 mono:Mono sp
 len:∀xs G Q,sp xs G Q->xs.length=ps.length
theorem jJy {X:Cx} {k:Nat} {ps:List Str} {sp:Sp3} {x:Str} {p pos:Pos} {e:Expr} {es:List Expr} {t:TA3} (C:Cal X.prog X.w X.K X.mg X.base k x ps sp) (hr:Room k X.A) (ha:PA3 X (e::es) t) (hg:Gl X x:=by rfl)
  (hdb:(x == ("__debug__":Str))=false:=by decide) (he:starEach (e::es) X.env=(false,eval e X.env)::starEach es X.env:=by rfl) (hpl:(backTo pos (starEach es X.env)).any (·.1)=false:=by rfl):
  PE3 X (.Call (.Name x p) (e::es) [] pos) (jJs sp t):=by
 intro pins s τ G H Q I h
 obtain⟨f,fd,F,hm,hk,hb⟩:=C.ex
 obtain⟨σ0,I0,hs0,hg0⟩:=id I
 refine lYp (kKw I0 hg hm ?_ hdb)
 refine PySem.W.callWith_K (h₀:=X.base) I0.ok.mod.kin hk (thn (ha pos pins s τ G H _ I h) fun us s1 w_=>w_.el fun xs G1 H1 e1 i_ r_ q=>i_.el fun σ I1 hs1 hg1=>r_.el fun as ras rvs=>⟨I1.kIn,?_⟩) he hpl
 refine thn (run_fn (dvs:=[]) (ds:=[]) (E:=E0) (Q:=up X.K H1 Q) F hr hb .nil pass0 I1 rvs ?_) fun u s' z=>(jU4 hs1 z).ext e1
 rw[lQ0]
 exact⟨by rw[<-ras.length];exact C.len _ _ _ q,xs,G1,ras,hg1,C.mono _ _ _ _ (fun t G' hq v H' e g r=>⟨t,G',e,g,r,hq⟩) q⟩
def jZp:=jZo
theorem qKz {X:Cx}:Call3 X (.type "list") jZp:=c_list
end L3
namespace L3
open PySem PySem.Spec PyProof.Rows
inductive Res where
 | val (t:T) | newL (xs:List T)
def fin3:Res->Gp->VK3->Prop
 | .val t,G,Q=>Q t G
 | .newL xs,G,Q=>∀p,G p=none->Q (.ref p) (gup G p (.lst xs))
theorem Op3.imp {X:L2.Cx} {f:Value->Value->Sem Value} {r r':R3} (h:Op3 X f r) (i:∀x y G Q,r' x y G Q->r x y G Q):Op3 X f r':=fun pins s τ G H x y v u Q I rx ry q=>h pins s τ G H x y v u Q I rx ry (i x y G Q q)
theorem Ix3.imp {X:L2.Cx} {r r':R3} (h:Ix3 X r) (i:∀x y G Q,r' x y G Q->r x y G Q):Ix3 X r':=fun a b pins s τ G H x y v u Q I rx ry q hs=>h a b pins s τ G H x y v u Q I rx ry (i x y G Q q) hs
theorem Set3.imp {X:L2.Cx} {r r':T->T->T->Gp->(Gp->Prop)->Prop} (h:Set3 X r) (i:∀o j v G Q,r' o j v G Q->r o j v G Q):Set3 X r':=fun pins s τ G H o j v a b c Q I ro rj rv q=>h pins s τ G H o j v a b c Q I ro rj rv (i o j v G Q q)
theorem Sl3.imp {X:L2.Cx} {r r':T->Option Int->Option Int->Gp->VK3->Prop} (h:Sl3 X r) (i:∀x l u G Q,r' x l u G Q->r x l u G Q):Sl3 X r':=fun pins s τ G H x v vl vu lo hi sl Q I rx hs pl pu q=>h pins s τ G H x v vl vu lo hi sl Q I rx hs pl pu (i x lo hi G Q q)
noncomputable def addR (G:Gp):T->T->Option Res
 | .int i,.int j=>some (.val (.int (i+j)))
 | .ref p,.ref q=>match G p,G q with
  | some (.lst xs),some (.lst ys)=>if xs.length+ys.length<=sizeLine then some (.newL (xs++ys)) else none
  | _,_=>none
 | .tup xs,.tup ys=>if xs.length≠0/\xs.length+ys.length<=sizeLine then some (.val (.tup (xs++ys))) else none
 | _,_=>none
def jKe:R3:=fun x y G Q=>∃r,addR G x y=some r/\fin3 r G Q
theorem add_F {x y:T} {G:Gp} {Q:VK3} (h:jKe x y G Q):rAddA x y G Q:=by
 obtain⟨r,hr,q⟩:=h
 unfold addR at hr
 split at hr
 ·cases hr;exact .inl ⟨_,_,rfl,rfl,q⟩
 ·rename_i p q'
  split at hr
  ·rename_i xs ys h1 h2
   split at hr
   ·rename_i hz;cases hr;exact .inr (.inl ⟨p,q',xs,ys,rfl,rfl,h1,h2,hz,q⟩)
   ·cases hr
  ·cases hr
 ·rename_i xs ys
  split at hr
  ·rename_i hz;cases hr;exact .inr (.inr ⟨xs,ys,rfl,rfl,fun z=>hz.1 (by rw[z];rfl),hz.2,q⟩)
  ·cases hr
 ·cases hr
theorem o_addF {X:L2.Cx}:Op3 X (binaryOp .Add) jKe:=o_addA.imp fun _ _ _ _=>add_F
noncomputable def mulR (G:Gp):T->T->Option Res
 | .int i,.int j=>some (.val (.int (i*j)))
 | .ref p,.int n=>match G p with
  | some (.lst xs)=>if n.toNat * xs.length<=sizeLine/\n<2^62/\ -(2^62)<n then some (.newL (List.replicate n.toNat xs).flatten) else none
  | _=>none
 | _,_=>none
def mulC:T->T->Prop
 | .int i,.int j=>L2.CMul i j
 | _,_=>True
def jZn:R3:=fun x y G Q=>∃r,mulR G x y=some r/\mulC x y/\fin3 r G Q
theorem mul_F {x y:T} {G:Gp} {Q:VK3} (h:jZn x y G Q):rMulA x y G Q:=by
 obtain⟨r,hr,c,q⟩:=h
 unfold mulR at hr
 split at hr
 ·cases hr;exact .inl ⟨_,_,rfl,rfl,c,q⟩
 ·rename_i p n
  split at hr
  ·rename_i xs h1
   split at hr
   ·rename_i hz;cases hr;exact .inr ⟨p,xs,n,rfl,rfl,h1,hz.1,hz.2.1,hz.2.2,q⟩
   ·cases hr
  ·cases hr
 ·cases hr
theorem jX8 {X:L2.Cx}:Op3 X (binaryOp .Mult) jZn:=o_mulA.imp fun _ _ _ _=>mul_F
def ixR (G:Gp) (x y:T):Option T:=match seqT G x with
 | some xs=>match y with
  | .int i=>L2.atI xs i
  | _=>none
 | none=>match dAt G x y with
  | some o=>o
  | none=>none
def rIxF:R3:=fun x y G Q=>∃t,ixR G x y=some t/\Q t G
theorem ix_F' {x y:T} {G:Gp} {Q:VK3} (h:rIxF x y G Q):rIxA x y G Q:=by
 obtain⟨t,ht,q⟩:=h
 unfold ixR at ht
 split at ht
 ·rename_i xs hx
  split at ht
  ·rename_i i;exact .inl ⟨xs,i,t,hx,rfl,ht,q⟩
  ·cases ht
 ·split at ht
  ·rename_i o ho;subst ht;exact .inr ⟨t,ho,q⟩
  ·cases ht
theorem ix_F {X:L2.Cx} (hu:X.A.units+20<cLine):Ix3 X rIxF:=(qYn hu).imp fun _ _ _ _=>ix_F'
noncomputable def setR (G:Gp) (o i v:T):Option Gp:=match o with
 | .ref p=>match G p with
  | some (.lst xs)=>match i with
   | .int k=>match L2.ixN xs.length k with
    | some j=>some (gup G p (.lst (xs.set j v)))
    | none=>none
   | _=>none
  | some (.dct kvs)=>match i with
   | .tup ys=>match jQh ys with
    | some ks=>if kvs.length<sizeLine then some (gup G p (.dct (putT kvs ks v))) else none
    | none=>none
   | _=>none
  | some (.dck kvs)=>match jUv i with
   | some k=>if kvs.length<sizeLine then some (gup G p (.dck (putT kvs k v))) else none
   | none=>none
  | some (.fdc _)=>none
  | some (.ins _ _)=>none
  | some (.exc _)=>none
  | none=>none
 | _=>none
def jXe:T->T->T->Gp->(Gp->Prop)->Prop:=fun o i v G Q=>∃G',setR G o i v=some G'/\Q G'
theorem set_F' {o i v:T} {G:Gp} {Q:Gp->Prop} (h:jXe o i v G Q):rSetA o i v G Q:=by
 obtain⟨G',hr,q⟩:=h
 unfold setR at hr
 split at hr
 ·rename_i p
  split at hr
  ·rename_i xs h1
   split at hr
   ·rename_i k
    split at hr
    ·rename_i j hj;cases hr;exact .inl ⟨p,xs,k,j,rfl,rfl,h1,hj,q⟩
    ·cases hr
   ·cases hr
  ·rename_i kvs h1
   split at hr
   ·rename_i ys
    split at hr
    ·rename_i ks hk
     split at hr
     ·rename_i hz;cases hr;exact .inr (.inl ⟨p,ys,ks,kvs,rfl,rfl,hk,h1,hz,q⟩)
     ·cases hr
    ·cases hr
   ·cases hr
  ·rename_i kvs h1
   split at hr
   ·rename_i k hk
    split at hr
    ·rename_i hz;cases hr;exact .inr (.inr ⟨p,k,kvs,rfl,hk,h1,hz,q⟩)
    ·cases hr
   ·cases hr
  ·cases hr
  ·cases hr
  ·cases hr
  ·cases hr
 ·cases hr
theorem s_F {X:L2.Cx} (hu:X.A.units+20<cLine):Set3 X jXe:=(s_any hu).imp fun _ _ _ _ _=>set_F'
noncomputable def rLeF:R3:=fun x y G Q=>∃b,(match x,y with
 | .int i,.int j=>some (decide (i<=j))
 | .tup [.int a,.int b],.tup [.int c,.int d]=>some (HT.lexLe [a,b] [c,d])
 | _,_=>none)=some b/\Q (.bl b) G
theorem le_F' {x y:T} {G:Gp} {Q:VK3} (h:rLeF x y G Q):rLeA x y G Q:=by
 obtain⟨b,hb,q⟩:=h
 split at hb
 ·cases hb;exact .inl ⟨_,_,rfl,rfl,q⟩
 ·cases hb;exact .inr ⟨_,_,rfl,rfl,q⟩
 ·cases hb
theorem qUc {X:L2.Cx} (hu:X.A.units+20<cLine):Op3 X (compareOp .LtE) rLeF:=(o_leA hu).imp fun _ _ _ _=>le_F'
noncomputable def inR (G:Gp) (x y:T):Option Bool:=match seqT G y with
 | some xs=>if jXo x=true/\xs.all jXo=true then some (inT x xs) else none
 | none=>match dAt G y x with
  | some o=>some o.isSome
  | none=>none
def jVc:R3:=fun x y G Q=>∃b,inR G x y=some b/\Q (.bl (!b)) G
theorem qUf {x y:T} {G:Gp} {Q:VK3} (h:jVc x y G Q):kZ7 x y G Q:=by
 obtain⟨b,hb,q⟩:=h
 unfold inR at hb
 split at hb
 ·rename_i xs hx
  split at hb
  ·rename_i hc;cases hb;exact .inl ⟨xs,hx,hc.1,hc.2,q⟩
  ·cases hb
 ·split at hb
  ·rename_i o ho;cases hb;exact .inr ⟨o,ho,q⟩
  ·cases hb
theorem kQx {X:L2.Cx} (hu:X.A.units+20<cLine):Op3 X (compareOp .NotIn) jVc:=(qYb hu).imp fun _ _ _ _=>qUf
noncomputable def slR (G:Gp) (x:T) (lo hi:Option Int):Option Res:=match x with
 | .tup xs=>some (.val (.tup (cutT xs lo hi)))
 | .scr xs=>some (.newL (cutT xs lo hi))
 | .ref p=>match G p with
  | some (.lst xs)=>some (.newL (cutT xs lo hi))
  | _=>none
 | _=>none
def rSlF:T->Option Int->Option Int->Gp->VK3->Prop:=fun x lo hi G Q=>∃r,slR G x lo hi=some r/\fin3 r G Q
theorem sl_F' {x:T} {lo hi:Option Int} {G:Gp} {Q:VK3} (h:rSlF x lo hi G Q):rSlA x lo hi G Q:=by
 obtain⟨r,hr,q⟩:=h
 unfold slR at hr
 split at hr
 ·cases hr;exact .inr ⟨_,rfl,q⟩
 ·cases hr;exact .inl ⟨_,rfl,q⟩
 ·split at hr
  ·rename_i xs h1;cases hr;exact .inl ⟨xs,by simp only[jKc,h1,asL],q⟩
  ·cases hr
 ·cases hr
theorem sl_F {X:L2.Cx}:Sl3 X rSlF:=sl_any.imp fun _ _ _ _ _=>sl_F'
end L3
namespace L2
open PySem PySem.Spec PyProof.Rows
section
variable {X:Cx} {tg:Expr}
end
end L2
namespace L3
open PySem PySem.Spec PyProof.Rows L2
def Off (cs:List Addr) (g g':Heap):Prop:=∀c,c∉cs->∀o,g.get? c=some o->g'.get? c=some o
theorem Off.then {cs:List Addr} {g g' g'':Heap} (p:Off cs g g') (q:Off cs g' g''):Off cs g g'':=fun c n o e=>q c n o (p c n o e)
theorem Off.ext {cs:List Addr} {c:Addr} {g g':Heap} (h:Heap.ExtBut c g g') (m:c∈cs):Off cs g g':=fun b n o e=>h b o (fun q=>n (q▸m)) e
theorem Off.one {cs:List Addr} {c:Addr} {g g':Heap} (h:Heap.SameBut c g g') (m:c∈cs):Off cs g g':= .ext h.extBut m
theorem Off.new (cs:List Addr) (g:Heap) (o:Obj):Off cs g (g.push o):=fun _ _ _ e=>lJs _ e
theorem Off.at {cs:List Addr} {g g':Heap} (p:Off cs g g') {c:Addr} {o:Obj} (n:c∉cs) (e:g.get? c=some o):g'.get? c=some o:=p c n o e
def jX6 (cs:List Addr) (S:Heap->Prop):Prop:=∀g g',Off cs g g'->S g->S g'
def Draw (P:Program) (w:World) (A:Around) (i:Addr) (r:Option Value) (S S':Heap->Prop):Prop:=
 ∀(s:Shared) (Q E:Value->Shared->Prop),S s.heap->
  (∀x g,r=some x->S' g->Heap.SameBut i s.heap g->Q x {s with heap:=g})->
  (∀g e o,r=none->Heap.ExtBut i s.heap g->g.get? e=some o->o.cls= .type "StopIteration"->E (.ref e) {s with heap:=g})->
  wpAny (model P w) A (Builtin.SmallTypes.nextOf (.ref i)) Q E s
def OnTup (i t:Addr) (k:Nat) (xs:Array Value) (h:Heap):Prop:=h.IsTupleIter i t k/\h.IsTuple t xs
theorem OnTup.still {cs:List Addr} {i t:Addr} {k:Nat} {xs:Array Value} (hi:i∉cs) (ht:t∉cs):jX6 cs (OnTup i t k xs):=
 fun _ _ p ⟨⟨o,e,c⟩,⟨q,e',c'⟩⟩=>⟨⟨o,p.at hi e,c⟩,⟨q,p.at ht e',c'⟩⟩
theorem jQi {P:Program} {w:World} {A:Around} {i t:Addr} {k:Nat} {xs:Array Value} (hh:A.handled=none) (ne:t≠i):Draw P w A i xs[k]? (OnTup i t k xs) (OnTup i t (k+1) xs):=by
 rintro s Q E ⟨⟨o,ho,hc,hd⟩,q,hq,hqc,n,hn⟩ item stop
 have ty:s.TypeIs (.ref i) "tuple_iterator":=⟨o,ho,hc⟩
 refine lJb (lVn (name:=Str.ofString "__next__") ty F.slot_tuple_iterator_next (lQm F.slot_tuple_iterator_next ty F.entry_tuple_iterator_next ?_ (F.args_tuple_iterator_next_1 _)))
 refine (show wpAny _ _ (field (.ref i) 0 >>= _) _ _ s from lJb (lQz ho hd (x:= .ref t) rfl ?_))
 refine (show wpAny _ _ (if (Value.ref t == Value.none)=true then _ else field (.ref i) 1 >>= _) _ _ s from ?_)
 rw[lJa (by exact lJv)]
 refine lJb (lQz ho hd (x:= .int k 0) rfl (show wpAny _ _ (seqItems? (.ref t) >>= _) _ _ s from lJb (lVm hq hn ?_)))
 cases hx:xs[k]? with
 | some x=>
  simp only[hx,lXu]
  have up:OnTup i t (k+1) xs (s.heap.update i (Obj.mapFields (·.setIfInBounds 1 (rawInt ((k:Int)+1))))):=by
   refine⟨⟨_,lXv _ ho (Obj.isFreed_of_fields (Obj.data_mapFields hd _)),(Obj.cls_mapFields ..).trans hc,?_⟩,q,(lXz ..).extBut t q ne hq,hqc,n,hn⟩
   rw[Obj.data_mapFields hd];simp[rawInt]
  exact lJb (wpAny_setField ho hd (by simp) (lJd ⟨x,rfl,lJd (item x _ hx up (lXz ..))⟩))
 | none=>
  simp only[hx,lXu]
  refine lJb (lK9 (lJb (wpAny_setField ho hd (by simp) (show wpAny _ _ (newExc (.type "StopIteration") [] >>= _) _ _ _ from lJb ?_))))
  simp only[newExc,newTuple,raiseNew]
  refine lJb (lK8 (lJb (m:=firstArgMember _ _) (wpAny_of_eq (a:=Value.none) (by first | rfl | (simp only[firstArgMember];rfl)) (lK8 ?_ (by size_fits)))) (by size_fits))
  refine lJb (wpAny_handled ?_);rw[show A.in1.handled=none from hh]
  exact lJb (lJd (wpAny_throw (stop _ _ _ hx (((lXz ..).extBut.push _).push _) (lJ8 _ rfl) rfl)))
structure ZipAt (z TI TO i j:Addr):Prop where
 nd:[z,TI,TO,i,j].Nodup
theorem qQd {P:Program} {w:World} {A:Around} {z TI TO i j:Addr} {r1 r2:Option Value} {S S' U U':Heap->Prop} {a b:Value} {s:Shared} {Q E:Value->Shared->Prop}
  (D1:Draw P w A i r1 S S') (D2:Draw P w A j r2 U U') (nd:ZipAt z TI TO i j) (s1:jX6 [z,TO,j] S) (s1':jX6 [z,TO,j] S') (s2:jX6 [z,TO,i] U) (s2':jX6 [z,TO,i] U')
  (hz:IsZip s.heap z TI TO .none) (hTI:IsPair s.heap TI (.ref i) (.ref j)) (hTO:IsPair s.heap TO a b) (h1:S s.heap) (h2:U s.heap)
  (item:∀x y g,r1=some x->r2=some y->IsZip g z TI TO (rawInt s.heap.objs.size)->IsPair g TO x y->S' g->U' g->IsPair g s.heap.objs.size x y->Off [z,TO,i,j] s.heap g->Q (.ref s.heap.objs.size) {s with heap:=g})
  (stop:∀g e o,(r1=none\/r2=none)->Off [z,TO,i,j] s.heap g->g.get? e=some o->o.cls= .type "StopIteration"->E (.ref e) {s with heap:=g}):
  wpAny (model P w) A (Builtin.«zip.__next__» ⟨[.ref z],[]⟩) (fun f s'=>∃v,f= .done (.ret v)/\Q v s') E s:=by
 have ap:=nd.nd
 simp only[lK0,lJk,lJr,lJ0,not_or] at ap
 obtain⟨⟨zTI,zTO,zi,zj⟩,⟨TITO,TIi,TIj⟩,⟨TOi,TOj⟩,ij,_⟩:=ap
 refine (show wpAny _ _ (field (.ref z) 2 >>= _) _ _ _ from lJb (lQz hz rfl (x:= .bool false) rfl (show wpAny _ _ (field (.ref z) 3 >>= _) _ _ _ from lJb (lQz hz rfl (x:= .ref TI) rfl (lJb (lVm hTI rfl ?_))))))
 refine (show wpAny _ _ (Builtin.SmallTypes.ownedTupleIsFree (.ref z) >>= _) _ _ _ from lJb ?_)
 unfold Builtin.SmallTypes.ownedTupleIsFree;refine lJb (lQz hz rfl (x:= .none) rfl (lJd ?_))
 rw[lJc rfl]
 refine lJb (lK9 (lJb (lQz hz rfl (x:= .ref TO) rfl (lJb (lVo hz (by simp) fun g1 hz1 b1=>lJb ?_)))))
 replace hz1:IsZip g1 z TI TO .ellipsis:=hz1
 have o1:Off [z,TO,i,j] s.heap g1:= .one b1 (by simp)
 simp only[List.forIn_cons,List.forIn_nil,List.zipIdx_cons,List.zipIdx_nil]
 refine lJb (lJb (wpAny_onRaise (show wpAny _ _ (Builtin.SmallTypes.nextOf (.ref i) >>= _) _ _ _ from lJb (D1 _ _ _ (s1 _ _ (.one b1 (by simp)) h1) (fun x g2 ex S2 b2=>lJd ?_) fun g2 e o en b2 he hc=> ?_))))
 ·have o2:Off [z,TO,i,j] s.heap g2:=o1.then (.one b2 (by simp))
  have hz2:IsZip g2 z TI TO .ellipsis:=b2.extBut _ _ zi hz1
  have hp2:IsPair g2 TO a b:=b2.extBut _ _ TOi (b1.extBut _ _ (Ne.symm zTO) hTO)
  refine lJb (lVm hp2 rfl (lJb (wpAny_updateSeq_pair hp2 fun g3 hp3 b3=>lJb (wpAny_letGo (lJd ?_)))))
  replace hp3:IsPair g3 TO x b:=hp3
  have o3:Off [z,TO,i,j] s.heap g3:=o2.then (.one b3 (by simp))
  have hz3:IsZip g3 z TI TO .ellipsis:=b3.extBut _ _ zTO hz2
  have U3:U g3:=s2 _ _ (((Off.one b1 (by simp)).then (.one b2 (by simp))).then (.one b3 (by simp))) h2
  refine lJb (lJb (wpAny_onRaise (show wpAny _ _ (Builtin.SmallTypes.nextOf (.ref j) >>= _) _ _ _ from lJb (D2 _ _ _ U3 (fun y g4 ey U4 b4=>lJd ?_) fun g4 e o en b4 he hc=> ?_))))
  ·have hp4:IsPair g4 TO x b:=b4.extBut _ _ TOj hp3
   refine lJb (lVm hp4 rfl (lJb (wpAny_updateSeq_pair hp4 fun g5 hp5 b5=>lJb (wpAny_letGo (lJd (lJd ?_))))))
   replace hp5:IsPair g5 TO x y:=hp5
   have o5:Off [z,TO,i,j] s.heap g5:=(o3.then (.one b4 (by simp))).then (.one b5 (by simp))
   have hz5:IsZip g5 z TI TO .ellipsis:=b5.extBut _ _ zTO (b4.extBut _ _ zj hz3)
   have S5:S' g5:=s1' _ _ (((Off.one b3 (by simp)).then (.one b4 (by simp))).then (.one b5 (by simp))) S2
   have U5:U' g5:=s2' _ _ (.one b5 (by simp)) U4
   have n5:g5.objs.size=s.heap.objs.size:=by rw[b5.1,b4.1,b3.1,b2.1,b1.1]
   refine lJb (lVm hp5 rfl (lJb (wpAny_newTuple ?_)))
   refine (show wpAny _ _ (Builtin.SmallTypes.ownedTupleHandOut (.ref z) (.ref g5.objs.size) >>= _) _ _ _ from lJb ?_)
   unfold Builtin.SmallTypes.ownedTupleHandOut;refine lJb (lVo (show IsZip (g5.push {cls:= .type "tuple",data:= .seq #[x,y]}) z TI TO .ellipsis from lJs _ hz5) (by simp) fun g6 hz6 b6=> ?_)
   refine lVo hz6 (by simp) fun g7 hz7 b7=>lJd ⟨_,rfl,?_⟩
   have o7:Off [z] g5 g7:=((Off.new _ _ _).then (.one b6 (by simp))).then (.one b7 (by simp))
   have zl:z<g5.objs.size:=lJj hz5
   have new:IsPair g7 g5.objs.size x y:=b7.extBut _ _ (lK6 zl) (b6.extBut _ _ (lK6 zl) (lJ8 _ rfl))
   replace hz7:IsZip g7 z TI TO (rawInt g5.objs.size):=hz7
   show Q (.ref g5.objs.size) _
   rw[n5] at hz7 new ⊢
   have w1:∀ {cs:List Addr},z∈cs->Off cs g5 g7:=fun m c n=>o7 c (by simp only[lJ1];exact fun q=>n (q▸m))
   exact item x y g7 ex ey hz7 (o7.at (by simpa using Ne.symm zTO) hp5) (s1' _ _ (w1 (by simp)) S5) (s2' _ _ (w1 (by simp)) U5) new (o5.then (w1 (by simp)))
  ·have hz4:IsZip g4 z TI TO .ellipsis:=b4 _ _ zj hz3
   have ez:e≠z:=fun q=>by subst q;rw[hz4] at he;cases he;simp at hc
   exact lVo hz4 (by simp) fun g5 _ b5=>stop g5 e o (.inr en) ((o3.then (.ext b4 (by simp))).then (.one b5 (by simp))) (b5.extBut _ _ ez he) hc
 ·have hz2:IsZip g2 z TI TO .ellipsis:=b2 _ _ zi hz1
  have ez:e≠z:=fun q=>by subst q;rw[hz2] at he;cases he;simp at hc
  exact lVo hz2 (by simp) fun g3 _ b3=>stop g3 e o (.inl en) ((o1.then (.ext b2 (by simp))).then (.one b3 (by simp))) (b3.extBut _ _ ez he) hc
theorem jYp {P:Program} {w:World} {A:Around} {z TI TO i j:Addr} {r1 r2:Option Value} {S S' U U':Heap->Prop} {a b:Value} {s:Shared} {Q:Option Value->Shared->Prop} {E:Value->Shared->Prop}
  (D1:Draw P w A.in1 i r1 S S') (D2:Draw P w A.in1 j r2 U U') (nd:ZipAt z TI TO i j) (s1:jX6 [z,TO,j] S) (s1':jX6 [z,TO,j] S') (s2:jX6 [z,TO,i] U) (s2':jX6 [z,TO,i] U')
  (hz:IsZip s.heap z TI TO .none) (hTI:IsPair s.heap TI (.ref i) (.ref j)) (hTO:IsPair s.heap TO a b) (h1:S s.heap) (h2:U s.heap)
  (item:∀x y g,r1=some x->r2=some y->IsZip g z TI TO (rawInt s.heap.objs.size)->IsPair g TO x y->S' g->U' g->IsPair g s.heap.objs.size x y->Off [z,TO,i,j] s.heap g->Q (some (.ref s.heap.objs.size)) {s with heap:=g})
  (stop:∀g,(r1=none\/r2=none)->Off [z,TO,i,j] s.heap g->Q none {s with heap:=g}):wpAny (model P w) A (pyNext (.ref z)) Q E s:=by
 have ty:s.TypeIs (.ref z) "zip":=⟨_,hz,rfl⟩
 refine lJb (wpAny_attempt (lVn (name:=Str.ofString "__next__") ty F.slot_zip_next (lQm F.slot_zip_next ty F.entry_zip_next ?_ (F.args_zip_next_1 _))))
 refine qQd D1 D2 nd s1 s1' s2 s2' hz hTI hTO h1 h2 (fun x y g q1 q2 q3 q4 q5 q6 q7 q8=>lJd (item x y g q1 q2 q3 q4 q5 q6 q7 q8)) fun g e o en f he hc=> ?_
 exact lJb (lYb (T:="StopIteration") (b:=true) ⟨o,he,hc⟩ isSubtype_stop (lJd (stop g en f)))
def itOf (t:Addr):Obj:={cls:= .type "tuple_iterator",data:= .fields #[.ref t,.int 0 0]}
def jQa (xs:Array Value):Obj:={cls:= .type "tuple",data:= .seq xs}
noncomputable def zips (g:Heap) (t u:Addr):Heap:=
 let g2:=(g.push (itOf t)).push (itOf u)
 let g3:=g2.push (jQa #[.ref g.objs.size,.ref (g.push (itOf t)).objs.size])
 let g4:=g3.push (jQa #[.none,.none])
 g4.push {cls:= .type "zip",data:= .fields #[.none,.bool false,.bool false,.ref g2.objs.size,.ref g3.objs.size]}
theorem qXj (t u:Addr) (xs ys:Array Value):
  Meets (Builtin.«zip.__new__» ⟨[.type "zip",.ref t,.ref u],[]⟩) fun _ R s=>s.heap.IsTuple t xs/\s.heap.IsTuple u ys/\R (.ok (.ret (.ref (((((s.heap.push (itOf t)).push (itOf u)).push (jQa #[.ref s.heap.objs.size,.ref (s.heap.push (itOf t)).objs.size])).push (jQa #[.none,.none])).objs.size)))) {s with heap:=zips s.heap t u}:=by
 refine .of_wp fun P w A R s ⟨ht,hu,h⟩=> ?_
 obtain⟨g,a1,a2,a3,a4⟩:=s
 have sb:=sub_zip
 have m1:Heap.IsTuple (Shared.heap ⟨g,a1,a2,a3,a4⟩) t xs:=ht
 have m2:Heap.IsTuple (Shared.heap ⟨g.push {cls:= .type "tuple_iterator",data:= .fields #[.ref t,.int 0 0]},a1,a2,a3,a4⟩) u ys:=hu.push _
 wp_walk using wpAny_pyIter_tuple m1,wpAny_pyIter_tuple m2
 exact⟨_,rfl,h⟩
theorem qQc {P:Program} {w:World} {A:Around} {s:Shared} {t u:Addr} {xs ys:Array Value} {Q E:Value->Shared->Prop} (ht:s.heap.IsTuple t xs) (hu:s.heap.IsTuple u ys)
  (h:∀g n,n=s.heap.objs.size->IsZip g (n+4) (n+2) (n+3) .none->IsPair g (n+2) (.ref n) (.ref (n+1))->IsPair g (n+3) .none .none->OnTup n t 0 xs g->OnTup (n+1) u 0 ys g->
   (∀c o,s.heap.get? c=some o->g.get? c=some o)->Q (.ref (n+4)) {s with heap:=g}):wpAny (model P w) A (call (.type "zip") [.ref t,.ref u]) Q E s:=by
 refine callType_new F.called_zip (by decide) (F.typeCall_zip_2 _ _) (F.newCall_zip_2 _ _) (fun obj=>F.args_object_init_3 obj _ _) F.entry_zip_new (qXj t u xs ys) ⟨ht,hu,?_⟩
 have hn:∀(g:Heap) (o:Obj),(g.push o).objs.size=g.objs.size+1:=fun _ _=>lXe ..
 have up:∀ {g:Heap} {o q:Obj} {c:Addr},g.get? c=some q->(g.push o).get? c=some q:=fun e=>lJs _ e
 have at':∀(g:Heap) (o:Obj),o.isFreed=false->(g.push o).get? g.objs.size=some o:=fun g o h=>lJ8 _ h
 have kp:∀c o,s.heap.get? c=some o->(zips s.heap t u).get? c=some o:=fun c o e=>up (up (up (up (up e))))
 obtain⟨q,hq,hr⟩:=ht
 obtain⟨q',hq',hr'⟩:=hu
 have c0:(zips s.heap t u).get? s.heap.objs.size=some (itOf t):=up (up (up (up (at' _ _ rfl))))
 have c1:(zips s.heap t u).get? (s.heap.push (itOf t)).objs.size=some (itOf u):=up (up (up (at' _ _ rfl)))
 have c2:=up (g:=((s.heap.push (itOf t)).push (itOf u)).push (jQa #[.ref s.heap.objs.size,.ref (s.heap.push (itOf t)).objs.size])) (o:=jQa #[.none,.none]) (at' ((s.heap.push (itOf t)).push (itOf u)) (jQa #[.ref s.heap.objs.size,.ref (s.heap.push (itOf t)).objs.size]) rfl)
 have c2':(zips s.heap t u).get? ((s.heap.push (itOf t)).push (itOf u)).objs.size=some (jQa #[.ref s.heap.objs.size,.ref (s.heap.push (itOf t)).objs.size]):=up c2
 have c3:(zips s.heap t u).get? (((s.heap.push (itOf t)).push (itOf u)).push (jQa #[.ref s.heap.objs.size,.ref (s.heap.push (itOf t)).objs.size])).objs.size=some (jQa #[.none,.none]):=up (at' _ _ rfl)
 have c4:(zips s.heap t u).get? ((((s.heap.push (itOf t)).push (itOf u)).push (jQa #[.ref s.heap.objs.size,.ref (s.heap.push (itOf t)).objs.size])).push (jQa #[.none,.none])).objs.size=some {cls:= .type "zip",data:= .fields #[.none,.bool false,.bool false,.ref ((s.heap.push (itOf t)).push (itOf u)).objs.size,.ref (((s.heap.push (itOf t)).push (itOf u)).push (jQa #[.ref s.heap.objs.size,.ref (s.heap.push (itOf t)).objs.size])).objs.size]}:=at' _ _ rfl
 show _/\_
 simp only[hn] at c1 c2' c3 c4 ⊢
 exact⟨⟨_,c4,rfl⟩,h _ _ rfl c4 c2' c3 ⟨⟨_,c0,rfl,rfl⟩,q,kp _ _ hq,hr⟩ ⟨⟨_,c1,rfl,rfl⟩,q',kp _ _ hq',hr'⟩ kp⟩
noncomputable def Itz (K:PySem.W.Frag) (a1 a2:Addr):It:=
 ⟨fun i H=>∃xs ys x y,SqT K H a1 xs/\SqT K H a2 ys/\xs[i]? =some x/\ys[i]? =some y,
  fun i H v H'=>∃p x y,H p=none/\v= .ref p/\(∀xs,SqT K H a1 xs->xs[i]? =some x)/\(∀ys,SqT K H a2 ys->ys[i]? =some y)/\H'=upd H p (.tup [x,y]),
  fun i H=>∃xs ys,SqT K H a1 xs/\SqT K H a2 ys/\(xs.length<=i\/ys.length<=i)⟩
theorem kV4 {z TI TO i1 i2 a1 a2:Addr} (D:ZipApart z TI TO i1 i2 a1 a2):ZipAt z TI TO i1 i2:=
 ⟨by simp[D.TIz.symm,D.TOz.symm,D.i1z.symm,D.i2z.symm,D.TITO,D.TIi1,D.TIi2,D.TOi1,D.TOi2,D.i12]⟩
theorem jUz {z TI TO i1 i2 a1 a2:Addr} {k:Nat} {xs:Array Value} (D:ZipApart z TI TO i1 i2 a1 a2):jX6 [z,TO,i2] (OnTup i1 a1 k xs):=
 OnTup.still (by simp[D.i1z,D.TOi1.symm,D.i12]) (by simp[D.l1z,D.l1TO,D.l1i2])
theorem kKb {z TI TO i1 i2 a1 a2:Addr} {k:Nat} {xs:Array Value} (D:ZipApart z TI TO i1 i2 a1 a2):jX6 [z,TO,i1] (OnTup i2 a2 k xs):=
 OnTup.still (by simp[D.i2z,D.TOi2.symm,D.i12.symm]) (by simp[D.l2z,D.l2TO,D.l2i1])
theorem qQh {P:Program} {w:World} {K:PySem.W.Frag} {elts:List Expr} {k:Nat} {pos:Pos} (z TI TO i1 i2 a1 a2:Addr) (D:ZipApart z TI TO i1 i2 a1 a2):
  Turn P w K (.Tuple elts k pos) (Itz K a1 a2) [z,TI,TO,i1,i2] z (fun i h=>IsZip h z TI TO .none/\IsPair h TI (.ref i1) (.ref i2)/\(∃a b,IsPair h TO a b)/\h.IsTupleIter i1 a1 i/\h.IsTupleIter i2 a2 i) where
 mem:=by simp
 obj:=fun i h ⟨hz,hTI,⟨a,b,hTO⟩,h1,h2⟩ c hc=>by
  simp only[lJk,lJr,lJ0] at hc
  rcases hc with rfl | rfl | rfl | rfl | rfl
  ·exact⟨_,hz,fun v z=>nomatch (show Data.fields _=Data.cell v from z)⟩
  ·exact⟨_,hTI,fun v z=>nomatch (show Data.seq _ _=Data.cell v from z)⟩
  ·exact⟨_,hTO,fun v z=>nomatch (show Data.seq _ _=Data.cell v from z)⟩
  ·obtain⟨o,e,c,d⟩:=h1;exact⟨o,e,fun v z=>by rw[d] at z;cases z⟩
  ·obtain⟨o,e,c,d⟩:=h2;exact⟨o,e,fun v z=>by rw[d] at z;cases z⟩
 keep:=fun i h h' ⟨hz,hTI,⟨a,b,hTO⟩,h1,h2⟩ kp=>⟨kp z (by simp) _ hz,kp TI (by simp) _ hTI,⟨a,b,kp TO (by simp) _ hTO⟩,h1.at fun o q=>kp i1 (by simp) o q,h2.at fun o q=>kp i2 (by simp) o q⟩
 item:=by
  rintro X hP hw hK hc i pins s σ H E I hf ⟨hz,hTI,⟨a,b,hTO⟩,h1,h2⟩ hg
  subst hP hw hK
  obtain⟨xs,ys,x,y,hq1,hq2,hx,hy⟩:=hg
  obtain⟨its1,rv1,p1,hz1⟩:=I.tuple hq1
  obtain⟨its2,rv2,p2,hz2⟩:=I.tuple hq2
  obtain⟨u1,hu1,ru1⟩:=rv1.get hx
  obtain⟨u2,hu2,ru2⟩:=rv2.get hy
  refine jYp (r1:=its1.toArray[i]?) (r2:=its2.toArray[i]?) (jQi (I.ok.hd hc) D.l1i1) (jQi (I.ok.hd hc) D.l2i2) (kV4 D) (jUz D) (jUz D) (kKb D) (kKb D) hz hTI hTO ⟨h1,p1⟩ ⟨h2,p2⟩ (fun x' y' g1 ex ey ho gTO g3 g4 hT hk=> ?_) (fun g en _=> ?_)
  rotate_left
  ·rcases en with e | e
   ·rw[show its1.toArray[i]? =some u1 by simpa using hu1] at e;cases e
   ·rw[show its2.toArray[i]? =some u2 by simpa using hu2] at e;cases e
  obtain rfl:u1=x':=by simpa[hu1] using ex
  obtain rfl:u2=y':=by simpa[hu2] using ey
  refine⟨_,rfl,lYy ho fun g2 gz hs2=> ?_⟩
  have hzl:z<s.heap.objs.size:=lJj hz
  have hp2:∀b o,b∉[z,TI,TO,i1,i2]->s.heap.get? b=some o->g2.get? b=some o:=fun b o hb q=>by
   simp only[lJk,lJr,lJ0,not_or] at hb
   exact (hs2.2 b hb.1).trans (hk b (by simp only[lJk,lJr,lJ0,not_or];exact⟨hb.1,hb.2.2.1,hb.2.2.2.1,hb.2.2.2.2⟩) o q)
  have hT2:g2.get? s.heap.objs.size=some {cls:= .type "tuple",data:= .seq #[u1,u2]}:=(hs2.2 _ (lK6 hzl)).trans hT
  have I2:=jUy (t':=s.toks) (h':=g2) (p:=s.heap.objs.size) (vs:=[x,y]) (us:=[u1,u2]) I hp2 hf (lJh _) ⟨_,hT2,rfl,_,rfl,rfl⟩ (.cons ru1 (.cons ru2 .nil)) (by show 2<=sizeLine;decide)
  refine⟨.ref s.heap.objs.size,_,I2,rfl,⟨_,x,y,I.hok.fresh (lJh _),rfl,fun zs hz=>by rw[I.tuple_inj hz hq1];exact hx,fun zs hz=>by rw[I.tuple_inj hz hq2];exact hy,rfl⟩,
   ⟨gz,(hs2.2 _ D.TIz).trans (hk _ (by simp[D.TIz,D.TITO,D.TIi1,D.TIi2]) _ hTI),⟨_,_,(hs2.2 _ D.TOz).trans gTO⟩,g3.1.at fun o q=>(hs2.2 _ D.i1z).trans q,g4.1.at fun o q=>(hs2.2 _ D.i2z).trans q⟩,fun b hb=> ?_⟩
  have hbs:∃o,s.heap.get? b=some o:=by
   have hbq:=hb
   simp only[lJk,lJr,lJ0] at hbq
   rcases hbq with rfl | rfl | rfl | rfl | rfl
   ·exact⟨_,hz⟩
   ·exact⟨_,hTI⟩
   ·exact⟨_,hTO⟩
   ·obtain⟨o,q,_⟩:=h1;exact⟨o,q⟩
   ·obtain⟨o,q,_⟩:=h2;exact⟨o,q⟩
  obtain⟨o,q⟩:=hbs
  rw[jJw (lJw (lJj q))]
  exact (hf b hb).1
 done:=by
  rintro X hP hw hK hc i pins s σ H E I hf ⟨hz,hTI,⟨a,b,hTO⟩,h1,h2⟩ hg
  subst hP hw hK
  obtain⟨xs,ys,hq1,hq2,hx⟩:=hg
  obtain⟨its1,rv1,p1,hz1⟩:=I.tuple hq1
  obtain⟨its2,rv2,p2,hz2⟩:=I.tuple hq2
  have hl1:=rv1.length
  have hl2:=rv2.length
  refine jYp (r1:=its1.toArray[i]?) (r2:=its2.toArray[i]?) (jQi (I.ok.hd hc) D.l1i1) (jQi (I.ok.hd hc) D.l2i2) (kV4 D) (jUz D) (jUz D) (kKb D) (kKb D) hz hTI hTO ⟨h1,p1⟩ ⟨h2,p2⟩ (fun x' y' g1 ex ey _ _ _ _ _ _=> ?_) (fun g1 _ hk=>⟨rfl,jZd (t':=s.toks) (fp:=[z,TI,TO,i1,i2]) I (fun b o hb q=> ?_) hf⟩)
  ·have q1:i<its1.length:=by simpa using (lXf.mp ex).1
   have q2:i<its2.length:=by simpa using (lXf.mp ey).1
   omega
  ·exact hk b (fun m=>hb (by simp only[lJk,lJr,lJ0] at m ⊢; rcases m with h | h | h | h<;>simp[h])) o q
 self:=fun _ _ _ _ _ ⟨hz,_⟩ h=>lXr hz h
theorem kY5 {n a b:Nat} (ha:a<n) (hb:b<n):ZipApart (n+4) (n+2) (n+3) n (n+1) a b:=by
 constructor<;>(show @Ne Nat _ _;omega)
def zipT (xs ys:List T):List T:=(xs.zip ys).map fun p=>T.tup [p.1,p.2]
end L3
namespace L3
open PySem
theorem atN {α:Type} {xs:List α} {n:Nat}:L2.atI xs (n:Int)=xs[n]? :=by
 unfold L2.atI L2.ixN
 by_cases h:n<xs.length
 ·simp[h]
 ·simp[h]
theorem at0 {α:Type} {x:α} {xs:List α}:L2.atI (x::xs) 0=some x:=(atN (n:=0)).trans rfl
theorem at1 {α:Type} {x y:α} {xs:List α}:L2.atI (x::y::xs) 1=some y:=(atN (n:=1)).trans rfl
theorem at2 {α:Type} {x y z:α} {xs:List α}:L2.atI (x::y::z::xs) 2=some z:=(atN (n:=2)).trans rfl
theorem atZ {α:Type} {xs:List α} {i:Int} (h:0<=i):L2.atI xs i=xs[i.toNat]? :=by
 obtain⟨n,rfl⟩:=lQh h
 simpa using atN
theorem qK4 {α:Type} {xs:List α} {y:α}:L2.atI (xs++[y]) (-1)=some y:=by
 unfold L2.atI L2.ixN
 have:¬ (0:Int)<= -1:=by decide
 simp only[this,lKd]
 rw[lJc (by simp;omega)]
 have e:(-1+((xs++[y]).length:Int)).toNat=xs.length:=by simp;omega
 rw[e];simp
theorem qJ1 {n k:Nat} (h:k<n):L2.ixN n (k:Int)=some k:=by simp[L2.ixN,h]
theorem ix0 {n:Nat}:L2.ixN (n+1) 0=some 0:=qJ1 (k:=0) (by omega)
theorem ix1 {n:Nat}:L2.ixN (n+2) 1=some 1:=qJ1 (k:=1) (by omega)
theorem ix2 {n:Nat}:L2.ixN (n+3) 2=some 2:=qJ1 (k:=2) (by omega)
theorem ix30:L2.ixN 3 0=some 0:=ix0
theorem ix31:L2.ixN 3 1=some 1:=ix1
theorem ix32:L2.ixN 3 2=some 2:=ix2
theorem ixZ {n:Nat} {k:Int} (h0:0<=k) (h:k<n):L2.ixN n k=some k.toNat:=by simp[L2.ixN,h0,h]
theorem qVn {G:Gp} {i j:Int}:addR G (.int i) (.int j)=some (.val (.int (i+j))):=rfl
theorem jZc {G:Gp} {p q:Addr} {xs ys:List T} (h1:G p=some (.lst xs)) (h2:G q=some (.lst ys)) (hz:xs.length+ys.length<=sizeLine):addR G (.ref p) (.ref q)=some (.newL (xs++ys)):=by simp only[addR,h1,h2,hz,lKp]
theorem qUh {G:Gp} {i j:Int}:mulR G (.int i) (.int j)=some (.val (.int (i*j))):=rfl
theorem qUj {i j:Int}:mulC (.int i) (.int j)=L2.CMul i j:=rfl
theorem qUi {p:Addr} {j:Int}:mulC (.ref p) (.int j)=True:=rfl
theorem qY7 {t:T} {G:Gp} {Q:VK3}:fin3 (.val t) G Q=Q t G:=rfl
theorem jZz {xs:List T} {G:Gp} {Q:VK3}:fin3 (.newL xs) G Q=∀p,G p=none->Q (.ref p) (gup G p (.lst xs)):=rfl
theorem qYo {G:Gp} {xs:List T} {i:Int}:ixR G (.tup xs) (.int i)=L2.atI xs i:=rfl
theorem qYp {G:Gp} {xs:List T} {i:Int}:ixR G (.scr xs) (.int i)=L2.atI xs i:=rfl
theorem jKf {G:Gp} {p:Addr} {xs:List T} {i:Int} (h:G p=some (.lst xs)):ixR G (.ref p) (.int i)=L2.atI xs i:=by simp only[ixR,seqT,h,asL]
theorem kKg {G:Gp} {p:Addr} {xs:List T} {k:Int} {j:Nat} {v:T} (h:G p=some (.lst xs)) (hj:L2.ixN xs.length k=some j):setR G (.ref p) (.int k) v=some (gup G p (.lst (xs.set j v))):=by simp only[setR,h,hj]
theorem qQr {G:Gp} {xs:List T}:seqT G (.tup xs)=some xs:=rfl
theorem jJl {G:Gp} {p:Addr} {xs:List T} (h:G p=some (.lst xs)):seqT G (.ref p)=some xs:=by simp only[seqT,h,asL]
theorem qVv {G:Gp} {p:Addr} {xs:List T} {k:Int} {v:T} (h:G p=some (.lst xs)):setR G (.ref p) (.int k) v=(L2.ixN xs.length k).map fun j=>gup G p (.lst (xs.set j v)):=by
 cases e:L2.ixN xs.length k with
 | none=>simp only[setR,h,e,Option.map_none]
 | some j=>simp only[setR,h,e,lVf]
theorem qQo {G:Gp} {p:Addr} {xs:List T} {k:Int} {v:T}:setR (gup G p (.lst xs)) (.ref p) (.int k) v=(L2.ixN xs.length k).map fun j=>gup G p (.lst (xs.set j v)):=by
 rw[qVv jJh];simp only[qJ9]
theorem qYq {G:Gp} {p:Addr} {xs:List T} {i:Int}:ixR (gup G p (.lst xs)) (.ref p) (.int i)=L2.atI xs i:=jKf jJh
theorem jYy {G:Gp} {p:Addr} {xs:List T}:seqT (gup G p (.lst xs)) (.ref p)=some xs:=jJl jJh
def qZq (g:TG3) (tb:TS3) (D:Ends3) (τ:St3) (xs:List T) (stay:Gp->Prop) (G:Gp):Prop:=∃P:Nat->St3->Gp->Prop,P 0 τ G/\(∀i τ G,i<=xs.length->P i τ G->stay G)/\
 (∀i x τ G,xs[i]? =some x->P i τ G->g x τ G fun τ2 G2=>tb {D with nx:=P (i+1),ct:=P (i+1),bk:=D.nx} τ2 G2)/\∀ τ G,P xs.length τ G->D.nx τ G
theorem jJz {wi:TI3} {g:TG3} {tb:TS3} {D:Ends3} {τ:St3} {G:Gp}:tFor wi g tb D τ G=wi τ G fun xs stay G1=>qZq g tb D τ xs stay G1:=rfl
def jYd (mask:List Bool) (g:TG3) (tif:TT3) (te:TE3) (τ:St3) (xs:List T) (stay:Gp->Prop) (G:Gp) (Q:VK3):Prop:=kUq mask g tif te τ xs stay G Q
theorem qQj {mask:List Bool} {wi:TI3} {g:TG3} {tif:TT3} {te:TE3} {τ:St3} {G:Gp} {Q:VK3}:jQj mask wi g tif te τ G Q=wi τ G fun xs stay G1=>jYd mask g tif te τ xs stay G1 Q:=rfl
def Sub (G G':Gp):Prop:=∀c o,G c=some o->G' c=some o
theorem Sub.refl (G:Gp):Sub G G:=fun _ _ h=>h
theorem Sub.trans {G G1 G2:Gp} (h:Sub G G1) (h':Sub G1 G2):Sub G G2:=fun c o e=>h' c o (h c o e)
theorem Sub.new {p:Addr} {G:Gp} {o:GO} (hp:G p=none):Sub G (gup G p o):=fun c u e=>by rw[jJu];exact e;rintro rfl;rw[hp] at e;cases e
theorem Sub.over {p:Addr} {G G':Gp} {o:GO} (h:Sub G G') (hp:G p=none):Sub G (gup G' p o):=fun c u e=>by rw[jJu];exact h c u e;rintro rfl;rw[hp] at e;cases e
theorem Sub.none {G G':Gp} {p:Addr} (h:Sub G G') (hp:G' p=none):G p=none:=by
 cases e:G p with
 | none=>rfl
 | some o=>rw[h p o e] at hp;cases hp
theorem jVi {G:Gp} {a p:Addr} {o:GO} (h:gup G a o p=none):p≠a/\G p=none:=by
 by_cases e:p=a
 ·subst e;rw[jJh] at h;cases h
 ·rw[jJu e] at h;exact⟨e,h⟩
theorem jJj {G:Gp} {a p:Addr} {o:GO} (h:G a=some o) (hp:G p=none):a≠p:=by rintro rfl;rw[h] at hp;cases hp
theorem Sub.seq {G G':Gp} {x:T} {xs:List T} (h:Sub G G') (e:seqT G x=some xs):seqT G' x=some xs:=by
 cases x with
 | ref p=>have:=jQz e;simp only[seqT,h p _ this,asL]
 | tup _=>exact e
 | scr _=>exact e
 | non=>exact e
 | bl _=>exact e
 | int _=>exact e
 | str _=>exact e
 | ty _=>exact e
theorem jKb {α β:Type} {enc:α->β} {es:List α} {i:Nat} {x:β} (h:(es.map enc)[i]? =some x):∃e,es[i]? =some e/\x=enc e:=by
 rw[lKr] at h
 cases e1:es[i]? with
 | none=>rw[e1] at h;cases h
 | some e=>rw[e1] at h;exact⟨e,rfl,(lJn h).symm⟩
theorem jUq {α:Type} {mask:List Bool} {g:TG3} {tif:TT3} {te:TE3} {τ:St3} {es:List α} {enc:α->T} {stay:Gp->Prop} {G:Gp} {Q:VK3} (f:α->Option T) (hz:es.length<=sizeLine) (hst:∀G',Sub G G'->stay G')
  (h:∀(i:Nat) e,es[i]? =some e->∀G' (K:T->Gp->Prop) (K0:Gp->Prop),Sub G G'->(∀y G4,f e=some y->Sub G' G4->K y G4)->(f e=none->∀G4,Sub G' G4->K0 G4)->g (enc e) (msk mask τ) G' fun τ2 G2=>tif τ2 G2 fun b G3=>if b=true then te τ2 G3 K else K0 G3)
  (hq:∀D G',G D=none->G' D=some (.lst (es.filterMap f))->Sub G G'->Q (.ref D) G'):jYd mask g tif te τ (es.map enc) stay G Q:=by
 intro D hD
 refine⟨fun i acc G'=>acc=(es.take i).filterMap f/\G' D=some (.lst acc)/\Sub G G',⟨by simp,jJh,.new hD⟩,?_,?_,?_⟩
 ·rintro i acc G' hi ⟨ea,eg,hs⟩
  exact⟨hst G' hs,eg⟩
 ·rintro i x acc G' hx0 ⟨ea,eg,hs⟩
  obtain⟨e,hx,rfl⟩:=jKb hx0
  have hi:i<es.length:=(lJi.mp hx).1
  have tk:es.take (i+1)=es.take i++[e]:=by rw[lQt,hx];rfl
  have hlen:acc.length<sizeLine:=by
   have h1:acc.length<=(es.take i).length:=by rw[ea];exact lYt _ _
   rw[lQc] at h1;omega
  refine h i e hx G' _ _ hs (fun y G4 hy h4=>⟨h4 D _ eg,hlen,?_,jJh,(hs.trans h4).over hD⟩) fun hn G4 h4=>⟨?_,h4 D _ eg,hs.trans h4⟩
  ·rw[tk,lQu,<-ea];simp[hy]
  ·rw[tk,lQu,<-ea];simp[hn]
 ·rintro acc G' ⟨ea,eg,hs⟩
  rw[lJg,lVg] at ea
  rw[ea] at eg
  exact hq D G' hD eg hs
theorem jK9 {α:Type} {mask:List Bool} {g:TG3} {tif:TT3} {te:TE3} {τ:St3} {es:List α} {enc:α->T} {stay:Gp->Prop} {G:Gp} {Q:VK3} (f:α->T) (hz:es.length<=sizeLine) (hst:∀G',Sub G G'->stay G')
  (h:∀(i:Nat) e,es[i]? =some e->∀G' (K:T->Gp->Prop) (K0:Gp->Prop),Sub G G'->(∀G4,Sub G' G4->K (f e) G4)->g (enc e) (msk mask τ) G' fun τ2 G2=>tif τ2 G2 fun b G3=>if b=true then te τ2 G3 K else K0 G3)
  (hq:∀D G',G D=none->G' D=some (.lst (es.map f))->Sub G G'->Q (.ref D) G'):jYd mask g tif te τ (es.map enc) stay G Q:=by
 refine jUq (fun e=>some (f e)) hz hst (fun i e he G' K K0 hs hk _=>h i e he G' K K0 hs fun G4 h4=>hk _ G4 rfl h4) fun D G' hD h1 h2=>hq D G' hD ?_ h2
 rw[h1];congr 2;induction es with
 | nil=>rfl
 | cons a as ih=>simp
theorem jK2 {G:Gp} {p:Addr} {xs:List T} (h:G p=some (.lst xs)):tyT G "list" (.ref p)=True:=by simp[tyT,h]
theorem kZc {G:Gp} {p:Addr} {xs:List T}:tyT (gup G p (.lst xs)) "list" (.ref p)=True:=jK2 jJh
theorem jX5 {α:Type} {mask:List Bool} {g:TG3} {tif:TT3} {te:TE3} {τ:St3} {es:List α} {enc:α->T} {stay:Gp->Prop} {G:Gp} {Q:VK3} (f:α->List T) (hz:es.length<=sizeLine) (hst:∀G',Sub G G'->stay G')
  (h:∀(i:Nat) e,es[i]? =some e->∀G' (K:T->Gp->Prop) (K0:Gp->Prop),Sub G G'->(∀p G4,G' p=none->G4 p=some (.lst (f e))->Sub G' G4->K (.ref p) G4)->g (enc e) (msk mask τ) G' fun τ2 G2=>tif τ2 G2 fun b G3=>if b=true then te τ2 G3 K else K0 G3)
  (hq:∀D rs G',G D=none->G' D=some (.lst (rs.map T.ref))->Sub G G'->rs.length=es.length->(D::rs).Nodup->(∀(i:Nat) (r:Addr) (e:α),rs[i]? =some r->es[i]? =some e->G r=none/\G' r=some (.lst (f e)))->Q (.ref D) G'):jYd mask g tif te τ (es.map enc) stay G Q:=by
 intro D hD
 refine⟨fun i acc G'=>∃rs:List Addr,acc=rs.map T.ref/\rs.length=i/\G' D=some (.lst acc)/\Sub G G'/\(D::rs).Nodup/\(∀(i:Nat) (r:Addr) (e:α),rs[i]? =some r->es[i]? =some e->G r=none/\G' r=some (.lst (f e))),⟨[],rfl,rfl,jJh,.new hD,by simp,by simp⟩,?_,?_,?_⟩
 ·rintro i acc G' hi ⟨rs,ea,hl,eg,hs,hn,hr⟩
  exact⟨hst G' hs,eg⟩
 ·rintro i x acc G' hx0 ⟨rs,ea,hl,eg,hs,hn,hr⟩
  obtain⟨e,hx,rfl⟩:=jKb hx0
  have hi:i<es.length:=(lJi.mp hx).1
  have hlen:acc.length<sizeLine:=by rw[ea,lJg];omega
  refine h i e hx G' _ _ hs fun p G4 hp h4 s4=>⟨s4 D _ eg,hlen,rs++[p],by simp[ea],by simp[hl],jJh,(hs.trans s4).over hD,?_,?_⟩
  ·have hDp:D≠p:=jJj eg hp
   have hpr:p∉rs:=by
    intro hm
    obtain⟨j,hj⟩:∃j:Nat,_:=lJ6 hm
    have hjl:j<rs.length:=(lJi.mp hj).1
    have:=(hr j p es[j] hj (lJm (by omega))).2
    rw[hp] at this;cases this
   rw[lK0] at hn
   simp only[lK0,lJx,lJ1,not_or,lX0,lJr,not_false_eq_true,lXx,and_true]
   exact⟨⟨hn.1,hDp⟩,hn.2,trivial,fun a ha b hb=>by subst hb;rintro rfl;exact hpr ha⟩
  ·intro j r e' hj he'
   have hjl:j<rs.length+1:=by have:=(lJi.mp hj).1;simpa using this
   by_cases hjr:j<rs.length
   ·rw[lK1 hjr] at hj
    obtain⟨q1,q2⟩:=hr j r e' hj he'
    have:r≠D:=by rintro rfl;exact (lK0.mp hn).1 (lJo hj)
    exact⟨q1,by rw[jJu this];exact s4 _ _ q2⟩
   ·have hj2:j=rs.length:=by omega
    subst hj2
    rw[lK7 (lJh _)] at hj
    simp at hj
    subst hj
    rw[hl,hx] at he';cases he'
    exact⟨hs.none hp,by rw[jJu (jJj eg hp).symm];exact h4⟩
 ·rintro acc G' ⟨rs,ea,hl,eg,hs,hn,hr⟩
  rw[ea] at eg
  exact hq D rs G' hD eg hs (by simpa using hl) hn hr
end L3
namespace L3
open PySem PySem.Spec PyProof.Rows L2
section
variable {X:Cx}
def rAddE:R3:=fun x y G Q=>∃ys,x= .tup []/\y= .tup ys/\Q (.tup ys) G
theorem o_addE:Op3 X (binaryOp .Add) rAddE:=by
 rintro pins s τ G H x y v u Q ⟨σ,I,hs,hg⟩ ⟨a,ra,rv⟩ ⟨b,rb,ru⟩ ⟨ys,ex,ey,q⟩
 subst ex;subst ey
 obtain⟨pa,vs,rfl,h1,r1⟩:=(show ∃p vs,a= .ref p/\H p=some (.tup vs)/\Reps X.K H [] vs from ra)
 obtain⟨pb,ws,rfl,h2,r2⟩:=(show ∃p vs,b= .ref p/\H p=some (.tup vs)/\Reps X.K H ys vs from rb)
 cases rv;cases ru
 obtain⟨its,q1,p1,_⟩:=I.tuple (.of h1)
 obtain⟨its2,q2,p2,_⟩:=I.tuple (.of h2)
 have e0:its.toArray.isEmpty=true:=by
  have e1:=r1.length
  have e2:=q1.length
  have:its=[]:=List.eq_nil_of_length_eq_zero (by simp at e1;omega)
  rw[this];rfl
 obtain⟨⟨cls,dd,data,sl⟩,ho,hc,n,hd⟩:=id p1
 obtain⟨⟨cls2,dd2,data2,sl2⟩,ho2,hc2,n2,hd2⟩:=id p2
 simp only at hc hd hc2 hd2
 subst hc hd hc2 hd2
 exact concat_meets ⟨_,ho,rfl⟩ ⟨_,ho2,rfl⟩ noFill_tuple_add seq_tuple_add PySem.F.slot_tuple_add PySem.F.entry_tuple_add (lYs _ _) (tuple_addW0 pa pb its.toArray its2.toArray n n2 dd dd2 sl sl2 e0)
  ⟨ho,ho2,.tup ys,G,H,.refl H,⟨σ,I,hs,hg⟩,⟨.ref pb,⟨pb,ws,rfl,h2,r2⟩,rfl⟩,q⟩
def kKs:R3:=fun x y G Q=>jKe x y G Q\/rAddE x y G Q
theorem kJu:Op3 X (binaryOp .Add) kKs:=o_addF.or o_addE
end
theorem qKq {P:Program} {w:World} {A:Around} (hh:A.handled=none) (it t:Addr) (ne:t≠it) (xs:Array Value):Draws P w A it [it,t] xs.size (fun i v=>xs[i]? =some v) (fun i h=>OnTup it t i xs h) where
 live:=fun _ _ ⟨⟨o,ho,_⟩,_⟩=>⟨o,ho⟩
 frame:=fun _ _ _ ⟨⟨o,ho,r⟩,⟨q,hq,r'⟩⟩ k=>⟨⟨o,k it (by simp) o ho,r⟩,⟨q,k t (by simp) q hq,r'⟩⟩
 item:=fun i s Q E hi st hQ=>jQi hh ne s Q E st (fun x g e s' b=>hQ x g s.toks e s' b) fun _ _ _ e=>by rw[lKu hi] at e;cases e
 done:=fun s Q E st hE=>jQi hh ne s Q E st (fun x _ e=>by rw[lQ3 (lJh _)] at e;cases e) fun g e o _ b he hc=>hE g e b ⟨o,he,hc⟩
def kXx (i:Addr):Obj:={cls:= .type "enumerate",data:= .fields #[.none,.bool false,.ref i,rawInt 0,.none,.none]}
theorem qVe (t:Addr) (xs:Array Value):
  Meets (Builtin.«enumerate.__new__» ⟨[.type "enumerate",.ref t],[]⟩) fun _ R s=>s.heap.IsTuple t xs/\R (.ok (.ret (.ref (s.heap.push (itOf t)).objs.size))) {s with heap:=(s.heap.push (itOf t)).push (kXx s.heap.objs.size)}:=by
 refine .of_wp fun P w A R s ⟨ht,h⟩=> ?_
 obtain⟨g,a1,a2,a3,a4⟩:=s
 have sb:=sub_enumerate
 have m1:Heap.IsTuple (Shared.heap ⟨g,a1,a2,a3,a4⟩) t xs:=ht
 obtain⟨⟨c,dct,dt,sl⟩,hl,hc,n,hd⟩:=id ht
 replace hc:c= .type "tuple":=hc
 replace hd:dt= .seq xs n:=hd
 subst hc hd
 wp_walk using AutoSeq1.wpAny_loadPart' hl
 refine wpAny_stack_any (fun stk=>lJd ?_)
 split
 ·rename_i k _ _ _ _ _
  cases (k == Value.type "enumerate")<;>(wp_walk using AutoSeq1.wpAny_loadPart' hl,wpAny_pyIter_tuple m1;exact⟨_,rfl,h⟩)
 ·wp_walk using AutoSeq1.wpAny_loadPart' hl,wpAny_pyIter_tuple m1;exact⟨_,rfl,h⟩
theorem qKl {P:Program} {w:World} {A:Around} {s:Shared} {t:Addr} {xs:Array Value} {Q E:Value->Shared->Prop} (ht:s.heap.IsTuple t xs)
  (h:∀g n,n=s.heap.objs.size->IsEnum g (n+1) n 0 .none->OnTup n t 0 xs g->(∀c o,s.heap.get? c=some o->g.get? c=some o)->Q (.ref (n+1)) {s with heap:=g}):wpAny (model P w) A (call (.type "enumerate") [.ref t]) Q E s:=by
 refine callType_new F.called_enumerate (by decide) (F.typeCall_enumerate_1 _) (F.newCall_enumerate_1 _) (fun obj=>F.args_object_init_2 obj _) F.entry_enumerate_new (qVe t xs) ⟨ht,?_⟩
 have hn:∀(g:Heap) (o:Obj),(g.push o).objs.size=g.objs.size+1:=fun _ _=>lXe ..
 have up:∀ {g:Heap} {o q:Obj} {c:Addr},g.get? c=some q->(g.push o).get? c=some q:=fun e=>lJs _ e
 obtain⟨q,hq,hr⟩:=ht
 have c0:((s.heap.push (itOf t)).push (kXx s.heap.objs.size)).get? s.heap.objs.size=some (itOf t):=up (lJ8 _ rfl)
 have c1:((s.heap.push (itOf t)).push (kXx s.heap.objs.size)).get? (s.heap.push (itOf t)).objs.size=some (kXx s.heap.objs.size):=lJ8 _ rfl
 show _/\_
 simp only[hn] at c1 ⊢
 exact⟨⟨_,c1,rfl⟩,h _ _ rfl c1 ⟨⟨_,c0,rfl,rfl⟩,q,up (up hq),hr⟩ fun c o e=>up (up e)⟩
theorem jUf {P:Program} {w:World} {A:Around} {s:Shared} {e it t:Addr} {i:Int} {k:Nat} {old:Value} {xs:Array Value} {Q:Option Value->Shared->Prop} {E:Value->Shared->Prop} (hh:A.handled=none) (ne:t≠it) (he:IsEnum s.heap e it i old) (st:OnTup it t k xs s.heap) (hk:xs.size<=k)
  (hQ:∀g,Heap.ExtBut it s.heap g->Q none {s with heap:=g}):wpAny (model P w) A (pyNext (.ref e)) Q E s:=by
 have ty:s.TypeIs (.ref e) "enumerate":=⟨_,he,rfl⟩
 refine lJb (wpAny_attempt (lVn (name:=Str.ofString "__next__") ty F.slot_enumerate_next (lQm F.slot_enumerate_next ty F.entry_enumerate_next ?_ (F.args_enumerate_next_1 _))))
 refine (show wpAny _ _ (field (.ref e) 2 >>= _) _ _ _ from lJb (lQz he rfl (x:= .ref it) rfl (lJb ?_)))
 refine jQi (A:=A.in1) hh ne s _ _ st (fun x _ e=>by rw[lQ3 hk] at e;cases e) fun g x o _ b hx hc=> ?_
 exact lJb (lYb (T:="StopIteration") (b:=true) ⟨o,hx,hc⟩ isSubtype_stop (lJd (hQ g b)))
noncomputable def Itn (K:PySem.W.Frag) (a:Addr):It:=
 ⟨fun i H=>∃xs x,SqT K H a xs/\xs[i]? =some x,fun i H x H'=>∃p y,H p=none/\x= .ref p/\(∀xs,SqT K H a xs->xs[i]? =some y)/\H'=upd H p (.tup [.int i,y]),fun i H=>∃xs,SqT K H a xs/\xs.length<=i⟩
theorem kXw {h:Heap} {a e it:Addr} {i:Int} {old:Value} {k:Nat} {xs:Array Value} (he:IsEnum h e it i old) (hi:h.IsTupleIter it a k) (ht:h.IsTuple a xs):a≠it/\e∉[it,a]:=by
 obtain⟨o,ho,hc,_⟩:=hi
 obtain⟨q,hq,hqc,_⟩:=ht
 refine⟨fun z=> ?_,fun m=> ?_⟩
 ·subst z;rw[ho] at hq;cases hq;rw[hc] at hqc;simp at hqc
 ·simp only[lJk,lJr,lJ0] at m
  rcases m with rfl | rfl
  ·rw[he] at ho;cases ho;simp at hc
  ·rw[he] at hq;cases hq;simp at hqc
theorem kX6 {P:Program} {w:World} {K:PySem.W.Frag} {elts:List Expr} {k:Nat} {pos:Pos} (a e it:Addr) (hei:e≠it):
  Turn P w K (.Tuple elts k pos) (Itn K a) [e,it] e (fun i h=>(∃old,IsEnum h e it i old)/\h.IsTupleIter it a i) where
 mem:=lJz ..
 obj:=fun i h ⟨⟨old,h1⟩,h2⟩ b hb=>by
  simp only[lJr,lJk,lJ0] at hb
  rcases hb with rfl | rfl
  ·exact⟨_,h1,fun v z=>nomatch (show Data.fields _=Data.cell v from z)⟩
  ·obtain⟨o,e2,c,d⟩:=h2
   exact⟨o,e2,fun v z=>by rw[d] at z;cases z⟩
 keep:=fun i h h' ⟨⟨old,h1⟩,h2⟩ kp=>⟨⟨old,kp e (by simp) _ h1⟩,h2.at fun o q=>kp it (by simp) o q⟩
 item:=by
  rintro X hP hw hK hc i pins s σ H E I hf ⟨⟨old,he⟩,hit⟩ ⟨xs,x,hq,hx⟩
  subst hP hw hK
  obtain⟨its,rv,p,hz⟩:=I.tuple hq
  obtain⟨u,hu,ru⟩:=rv.get hx
  have p':s.heap.IsTuple a its.toArray:=p
  obtain⟨nei,hef⟩:=kXw he hit p'
  have hlt:i<its.toArray.size:=by simpa using (lJi.mp hu).1
  refine wpAny_pyNext_enum_itemD (qKq (A:=X.A.in1) (I.ok.hd hc) it a nei its.toArray) he ⟨hit,p'⟩ hlt hei hef fun x' h1 tk hx' ho hit1 hT hsz hk=> ?_
  obtain rfl:u=x':=by simpa[hu] using hx'
  refine⟨_,rfl,wpAny_letOwnedTupleGo_enum ho fun h2 he2 hs2=> ?_⟩
  have hel:e<s.heap.objs.size:=lJj he
  have hp2:∀b o,b∉[e,it]->s.heap.get? b=some o->h2.get? b=some o:=fun b o hb q=>by
   simp only[lJk,lJr,lJ0,not_or] at hb
   exact (hs2.2 b hb.1).trans (hk b o hb.1 hb.2 q)
  have hT2:h2.get? s.heap.objs.size=some {cls:= .type "tuple",data:= .seq #[.int i tk,u]}:=(hs2.2 _ (lK6 hel)).trans hT
  have I2:=jUy (t':=tk+1) (h':=h2) (p:=s.heap.objs.size) (vs:=[.int i,x]) (us:=[.int i tk,u]) I hp2 hf (lJh _) ⟨_,hT2,rfl,_,rfl,rfl⟩ (.cons ⟨_,rfl⟩ (.cons ru .nil)) (by show 2<=sizeLine;decide)
  refine⟨.ref s.heap.objs.size,_,I2,rfl,⟨_,x,I.hok.fresh (lJh _),rfl,fun ys hy=>by rw[I.tuple_inj hy hq];exact hx,rfl⟩,⟨⟨u,by simpa using he2⟩,hit1.1.at fun o q=>(hs2.2 it hei.symm).trans q⟩,fun b hb=> ?_⟩
  have hbs:∃o,s.heap.get? b=some o:=by
   have hb':=hb
   simp only[lJr,lJk,lJ0] at hb'
   rcases hb' with rfl | rfl
   ·exact⟨_,he⟩
   ·obtain⟨o,q,_⟩:=hit;exact⟨o,q⟩
  obtain⟨o,q⟩:=hbs
  rw[jJw (lJw (lJj q))]
  exact (hf b hb).1
 done:=by
  rintro X hP hw hK hc i pins s σ H E I hf ⟨⟨old,he⟩,hit⟩ ⟨xs,hq,hx⟩
  subst hP hw hK
  obtain⟨its,rv,p,hz⟩:=I.tuple hq
  have p':s.heap.IsTuple a its.toArray:=p
  obtain⟨nei,hef⟩:=kXw he hit p'
  have hl:=rv.length
  refine jUf (I.ok.hd hc) nei he ⟨hit,p'⟩ (by simp;omega) fun h1 hx1=>⟨rfl,jZd (t':=s.toks) I (fun b o hb q=>hx1 b o (fun z=>hb (by simp[z])) q) hf⟩
 self:=fun _ _ _ _ _ ⟨⟨old,he⟩,_⟩ h=>lYr he h
def iEnT (ta:TA3):TI3:=fun τ G R=>ta τ G fun vs G1=>∃xs,vs=[.tup xs]/\R (numT xs) (fun _=>True) G1
theorem qYw {X:Cx} {elts:List Expr} {k:Nat} {tpos pos p:Pos} {a:Expr} {ta:TA3} (hg:Gl X "enumerate") (hm:X.mg "enumerate"=none) (hv:bootBuiltins "enumerate"=some (.type "enumerate")) (ha:PA3 X [a] ta) (hs:starEach [a] X.env=[(false,eval a X.env)]:=by rfl):
  PI3 X (.Tuple elts k tpos) (.Call (.Name "enumerate" p) [a] [] pos) (iEnT ta):=by
 intro pins s τ G H R I h
 obtain⟨σ0,I0,_,_⟩:=id I
 refine Call_ (jU5 I0 hg hm hv (lVd (thn (ha pos pins s τ G H _ I h) fun us s1 w_=>w_.el fun xs' G1 H1 e1 i_ r_ q1=>i_.el fun σ I1 hs1 hg1=>r_.el fun as ras rvs=> ?_) hs rfl))
 obtain⟨xs,e,q⟩:=q1
 subst e
 obtain⟨v,rfl,rv⟩:=jYg ras
 obtain⟨u,rfl,ru⟩:=rvs.one
 obtain⟨pa,vs,rfl,hq,r⟩:=(show ∃p vs,v= .ref p/\H1 p=some (.tup vs)/\Reps X.K H1 xs vs from rv)
 cases ru
 obtain⟨its,rvv,pl,hz⟩:=I1.tuple (.of hq)
 refine qKl (show s1.heap.IsTuple pa its.toArray from pl) fun h1 n hn he hit hk=> ?_
 subst hn
 have I2:Inv X pins σ H1 {s1 with heap:=h1}:=I1.kept (t':=s1.toks) hk
 refine lYr (Q:=PIE3 X pins τ H (.Tuple elts k tpos) R) he ?_
 have fr:∀b∈[s1.heap.objs.size+1,s1.heap.objs.size],FpOk X pins H1 b:=fun b hb=>by
  simp only[lJr,lJk,lJ0] at hb
  have hle:s1.heap.objs.size<=b:=by omega
  exact I1.fpOk hle (I1.hok.fresh hle)
 refine⟨s1.heap.objs.size+1,[s1.heap.objs.size+1,s1.heap.objs.size],_,_,numT xs,fun _=>True,G1,H1,rfl,e1,⟨σ,I2,hs1,hg1⟩,kX6 pa _ _ (Nat.succ_ne_self _),⟨⟨.none,he⟩,hit.1⟩,fr,?_,q⟩
 intro i H2 G2 e2 g2 _
 obtain⟨pb,ws,eb,h1',h2⟩:=(show ∃p vs,V.ref pa= .ref p/\H2 p=some (.tup vs)/\Reps X.K H2 xs vs from Rep.mono e2 _ rv)
 cases eb
 have hlen:=h2.length
 refine⟨fun hi=> ?_,fun hi=>⟨ws,.of h1',by rw[jJ8] at hi;omega⟩,fun hi y H' ⟨pp,z,hn,ey,hy,eH⟩=> ?_⟩
 ·rw[jJ8] at hi
  exact⟨ws,ws[i]'(by omega),.of h1',by simp[hlen▸hi]⟩
 ·subst ey;subst eH
  obtain⟨t,ht,rt⟩:=h2.get' (hy ws (.of h1'))
  exact⟨.upd (.none hn),g2.tupNew hn,_,jVd ht,Rep.tupNew ⟨_,_,rfl,rfl,_,_,rfl,rt,rfl⟩ hn⟩
section
variable {X:Cx}
noncomputable def kZn (tk tv:TE3):TE3:=fun τ G Q=>∀p,G p=none->tk τ (gup G p (.dck [])) fun x G1=>tv τ G1 fun y G2=>∃k,jUv x=some k/\G2 p=some (.dck [])/\Q (.ref p) (gup G2 p (.dck [(k,y)]))
theorem qZc {pos:Pos} {k v:Expr} {tk tv:TE3} (hk:PE3 X k tk) (hv:PE3 X v tv):PE3 X (.Dict [some k] [v] pos) (kZn tk tv):=by
 rintro pins s τ G H Q ⟨σ,I,hs,hg⟩ h
 have hn:=I.hok.fresh (lJh s.heap.objs.size)
 have I1:=I.laid (a:=s.heap.objs.size) (o:= .dK []) (h':=s.heap.push {cls:= .type "dict",data:= .dict #[]}) (t':=s.toks) (fun _ _ q=>lJs _ q) (lJh _) (kXz s.heap I.big)
 have I3:Inv3 X pins τ (gup G s.heap.objs.size (.dck [])) (upd H s.heap.objs.size (.dK [])) {s with heap:=s.heap.push {cls:= .type "dict",data:= .dict #[]},toks:=s.toks}:=
  ⟨σ,I1,hs.mono (.upd (.none hn)),hg.upd (.none hn) (go:= .dck []) ⟨[],jKg,.nil⟩⟩
 refine wpAny_Dict_walk (knd:=jKl X.prog X.w) rfl rfl (by simp) (by simp) (pairTrees_cons_walk (thn (hk pins _ τ _ _ _ I3 (h _ (hg.fresh hn))) fun u s1 w_=>w_.el fun x G1 H1 e1 J1 ru q1=>thn (hv pins s1 τ G1 H1 _ J1 q1) fun u2 s2 w_=>w_.el fun y G2 H2 e2 i_ ru2 ⟨key,hkey,hd,q2⟩=>i_.el fun σ2 J2 hs2 hg2=>pairTrees_nil_walk ?_))
 obtain⟨ws,hH2,pk⟩:=(show ∃ws,H2 s.heap.objs.size=some (.dK ws)/\PKV X.K H2 [] ws from hg2 _ _ hd)
 cases pk
 obtain⟨a,ra,rva⟩:=ru.mono e2
 obtain⟨c,rc,rvc⟩:=ru2
 obtain rfl:=jXl hkey ra
 obtain⟨rs,cr,rk⟩:=kJ6 (P:=X.prog) (w:=X.w) (kvs:=[(key,c)]) (ws:=[(u,u2)]) (.cons ⟨rva,rvc⟩ .nil)
 obtain⟨z,hdd,vs0,r0,dd⟩:=dk_of J2.hok hH2
 cases r0
 refine⟨rs,cr,dd,fun h' dd' hsb=> ?_⟩
 have he:∃q,h'.get? s.heap.objs.size=some q:=let ⟨q,_,_,hq,_⟩:=dd';⟨q,hq⟩
 have JJ:=kVw (t':=s2.toks+[(u,u2)].length) J2 (by rw[hH2];exact True.intro) hsb he (qXe (kvs:=[(key,c)]) (by rw[lKs];exact Nat.succ_le_of_lt (lXg _)) hdd (rk.merge .nil) dd')
 have ext:Ext H2 (upd H2 s.heap.objs.size (.dK [(key,c)])):= .upd (.dK hH2)
 exact⟨.ref s.heap.objs.size,_,_,(((Ext.upd (.none hn)).trans e1).trans e2).trans ext,⟨σ2,JJ,hs2.mono ext,hg2.upd (.dK hH2) (go:= .dck [(key,y)]) ⟨_,jKg,PKV.put (kvs:=[]) .nil key (Rep.mono ext _ rc)⟩⟩,⟨.ref _,rfl,rfl⟩,q2⟩
end
section
variable {X:Cx}
end
end L3
namespace L3
open PySem PySem.Spec PyProof.Rows L2 MeetsSeq
section
variable {X:Cx}
end
end L3
namespace L3
open PySem PySem.Spec PyProof.Rows L2
section
variable {X:Cx}
end
section
variable {X:Cx}
end
section
variable {P:Program} {w:World} {A:Around} {E:Value->Shared->Prop} {s:Shared} {d:Addr}
theorem jX9 {o:Obj} {es:Array DictEntry} {ep:Nat} {Q:Value->Shared->Prop} (hd:(d == sysModules)=false) (ho:s.heap.get? d=some o) (hc:o.ExactDict) (hx:o.data= .dict es ep) (hz:es.size<=sizeLine)
  (h:Q (.int es.size (s.toks+1)) {s with toks:=s.toks+1+1}):wpAny (model P w) A (call (.builtin "len") [.ref d]) Q E s:=by
 have hsl:=lKs
 have ty:s.TypeIs (.ref d) "dict":=⟨o,ho,hc.1⟩
 refine Calls.call_function_entry kind_len plain_len entry_len (args_len1 _) ?_;unfold Builtin.«len»; refine lJb (m:=oneArg "len" _) (lJd ?_)
 have M:MeetsIn P w (Builtin.«dict.__len__» ⟨[.ref d],[]⟩) (fun _ R z=>(∃o es ep,z.heap.get? d=some o/\o.data= .dict es ep/\R (.ok (.ret (.int es.size z.toks))) {z with toks:=z.toks+1})):=
  .of_wp fun A R z ⟨o,es,ep,ho,hx,h⟩=>by
   refine (show wpAny _ _ (dictSize d >>= _) _ _ z from ?_)
   unfold dictSize;refine lJb (lJb (wpAny_dictEntries ho hx (lJd ?_)))
   refine (show wpAny _ _ (Builtin.Dict.pendingCount d >>= _) _ _ z from lJb (wpAny_pendingCount_other hd (wpAny_ret_mkInt ?_)))
   rw[lXh];exact h
 refine lJb (m:=callSpecial? (.ref d) (Str.ofString "__len__")) (lVn (name:=Str.ofString "__len__") ty F.slot_dict_len (call_meetsIn F.slot_dict_len ty F.entry_dict_len (F.args_dict_len_1 _) M ⟨o,es,ep,ho,hx,?_⟩))
 refine (show wpAny _ _ _ _ _ {s with toks:=s.toks+1} from lJb (lK4 (lJd (lJb (wpAny_letGo ?_)))))
 refine (show wpAny _ _ (if ((es.size:Nat):Int)<0 then _ else _) _ _ _ from ?_);rw[lJa (by omega)]
 refine (show wpAny _ _ (if ((es.size:Nat):Int)>=2^63 then _ else _) _ _ _ from ?_);rw[lJa (by omega)]
 exact (lJb (wpAny_mkInt (lJd ⟨_,rfl,h⟩)))
end
section
variable {X:Cx}
noncomputable def lenG (G:Gp):T->Option Nat
 | .ref p=>match G p with
  | some (.lst xs)=>some xs.length
  | some (.dct kvs)=>some kvs.length
  | some (.dck kvs)=>some kvs.length
  | some (.fdc _)=>none
  | some (.ins _ _)=>none
  | some (.exc _)=>none
  | none=>none
 | .tup xs=>some xs.length
 | .scr xs=>some xs.length
 | _=>none
def qQ0:List T->Gp->VK3->Prop:=fun xs G Q=>∃x n,xs=[x]/\lenG G x=some n/\Q (.int (n:Nat)) G
theorem qXg:Call3 X (.builtin "len") qQ0:=by
 rintro pins s τ G H xs us Q I rs ⟨x,n,ex,hx,q⟩
 by_cases hd:∃p,x= .ref p/\((∃kvs,G p=some (.dct kvs))\/∃kvs,G p=some (.dck kvs))
 ·subst ex
  obtain⟨p,rfl,hk⟩:=hd
  obtain⟨σ,I,hs,hg⟩:=I
  obtain⟨as,ras,rvs⟩:=rs
  obtain⟨v,rfl,rv⟩:=jYg ras
  obtain⟨u,rfl,ru⟩:=rvs.one
  cases (show v= .ref p from rv);cases ru
  rcases hk with ⟨kvs,hG⟩ | ⟨kvs,hG⟩
  ·simp only[lenG,hG] at hx;cases hx
   obtain⟨ws,h1,h2⟩:=hg p _ hG
   obtain⟨z,y,xs,r,o,es,ep,e1,e2,e3,e4,e5⟩:=(show ObjOk X.prog X.w H s.heap p (.dT ws) from I.hok p _ h1)
   have l1:es.size=kvs.length:=by
    have a1:=lKg List.length e4
    have a2:=lV6 r
    have a3:=h2.length
    simp at a1;omega
   refine jX9 y e1 e2 e3 (by have:=h2.length;omega) ?_
   rw[l1]
   exact⟨.int (kvs.length:Nat),G,H,.refl H,⟨σ,I.tok _,hs,hg⟩,⟨.int _,rfl,_,rfl⟩,q⟩
  ·simp only[lenG,hG] at hx;cases hx
   obtain⟨ws,h1,h2⟩:=hg p _ hG
   obtain⟨z,y,vs,rel,o,es,ep,e1,e2,e3,e4,e5,e6⟩:=(show ObjOk X.prog X.w H s.heap p (.dK ws) from I.hok p _ h1)
   have l1:es.size=kvs.length:=by
    have a1:=e5.length
    have a2:=rel.length
    have a3:=h2.length
    simp at a1;omega
   refine jX9 y e1 e2 e3 (by have:=h2.length;omega) ?_
   rw[l1]
   exact⟨.int (kvs.length:Nat),G,H,.refl H,⟨σ,I.tok _,hs,hg⟩,⟨.int _,rfl,_,rfl⟩,q⟩
 ·refine jQp pins s τ G H xs us Q I rs ?_
  cases x with
  | ref p=>
   cases hG:G p with
   | none=>simp only[lenG,hG] at hx;cases hx
   | some g=>
    cases g with
    | lst ys=>simp only[lenG,hG] at hx;cases hx;exact⟨_,ys,ex,by simp only[seqT,hG,asL],q⟩
    | dct kvs=>exact absurd ⟨p,rfl,.inl ⟨kvs,hG⟩⟩ hd
    | fdc kvs=>simp only[lenG,hG] at hx;cases hx
    | ins _ _=>simp only[lenG,hG] at hx;cases hx
    | exc _=>simp only[lenG,hG] at hx;cases hx
    | dck kvs=>exact absurd ⟨p,rfl,.inr ⟨kvs,hG⟩⟩ hd
  | tup ys=>cases hx;exact⟨_,ys,ex,rfl,q⟩
  | scr ys=>cases hx;exact⟨_,ys,ex,rfl,q⟩
  | non=>cases hx
  | bl _=>cases hx
  | int _=>cases hx
  | str _=>cases hx
  | ty _=>cases hx
end
noncomputable def Itl (K:PySem.W.Frag) (a1 a2:Addr):It:=
 ⟨fun i H=>∃xs ys x y,SqL K H a1 xs/\SqL K H a2 ys/\xs[i]? =some x/\ys[i]? =some y,
  fun i H v H'=>∃p x y,H p=none/\v= .ref p/\(∀xs,SqL K H a1 xs->xs[i]? =some x)/\(∀ys,SqL K H a2 ys->ys[i]? =some y)/\H'=upd H p (.tup [x,y]),
  fun i H=>∃xs ys,SqL K H a1 xs/\SqL K H a2 ys/\(xs.length<=i\/ys.length<=i)⟩
theorem kZe {P:Program} {w:World} {K:PySem.W.Frag} {elts:List Expr} {k:Nat} {pos:Pos} (z TI TO i1 i2 a1 a2:Addr) (D:ZipApart z TI TO i1 i2 a1 a2):
  Turn P w K (.Tuple elts k pos) (Itl K a1 a2) [z,TI,TO,i1,i2] z (fun i h=>IsZip h z TI TO .none/\IsPair h TI (.ref i1) (.ref i2)/\(∃a b,IsPair h TO a b)/\h.IsListIter i1 a1 i/\h.IsListIter i2 a2 i) where
 mem:=by simp
 obj:=fun i h ⟨hz,hTI,⟨a,b,hTO⟩,h1,h2⟩ c hc=>by
  simp only[lJk,lJr,lJ0] at hc
  rcases hc with rfl | rfl | rfl | rfl | rfl
  ·exact⟨_,hz,fun v z=>nomatch (show Data.fields _=Data.cell v from z)⟩
  ·exact⟨_,hTI,fun v z=>nomatch (show Data.seq _ _=Data.cell v from z)⟩
  ·exact⟨_,hTO,fun v z=>nomatch (show Data.seq _ _=Data.cell v from z)⟩
  ·obtain⟨o,e,c,d⟩:=h1;exact⟨o,e,fun v z=>by rw[d] at z;cases z⟩
  ·obtain⟨o,e,c,d⟩:=h2;exact⟨o,e,fun v z=>by rw[d] at z;cases z⟩
 keep:=fun i h h' ⟨hz,hTI,⟨a,b,hTO⟩,h1,h2⟩ kp=>⟨kp z (by simp) _ hz,kp TI (by simp) _ hTI,⟨a,b,kp TO (by simp) _ hTO⟩,h1.at fun o q=>kp i1 (by simp) o q,h2.at fun o q=>kp i2 (by simp) o q⟩
 item:=by
  rintro X hP hw hK hc i pins s σ H E I hf ⟨hz,hTI,⟨a,b,hTO⟩,h1,h2⟩ hg
  subst hP hw hK
  obtain⟨xs,ys,x,y,hq1,hq2,hx,hy⟩:=hg
  obtain⟨its1,rv1,p1,hz1⟩:=I.list hq1
  obtain⟨its2,rv2,p2,hz2⟩:=I.list hq2
  obtain⟨u1,hu1,ru1⟩:=rv1.get hx
  obtain⟨u2,hu2,ru2⟩:=rv2.get hy
  refine wpAny_pyNext_zip_item D hz hTI hTO h1 h2 p1.isList p2.isList (x:=u1) (y:=u2) (by simpa using hu1) (by simpa using hu2) fun g1 ho gTO g3 g4 hT hsz hk=> ?_
  refine⟨_,rfl,lYy ho fun g2 gz hs2=> ?_⟩
  have hzl:z<s.heap.objs.size:=lJj hz
  have hp2:∀b o,b∉[z,TI,TO,i1,i2]->s.heap.get? b=some o->g2.get? b=some o:=fun b o hb q=>by
   simp only[lJk,lJr,lJ0,not_or] at hb
   exact (hs2.2 b hb.1).trans (hk b o hb.1 hb.2.2.1 hb.2.2.2.1 hb.2.2.2.2 q)
  have hT2:g2.get? s.heap.objs.size=some {cls:= .type "tuple",data:= .seq #[u1,u2]}:=(hs2.2 _ (lK6 hzl)).trans hT
  have I2:=jUy (t':=s.toks) (h':=g2) (p:=s.heap.objs.size) (vs:=[x,y]) (us:=[u1,u2]) I hp2 hf (lJh _) ⟨_,hT2,rfl,_,rfl,rfl⟩ (.cons ru1 (.cons ru2 .nil)) (by show 2<=sizeLine;decide)
  refine⟨.ref s.heap.objs.size,_,I2,rfl,⟨_,x,y,I.hok.fresh (lJh _),rfl,fun zs hz=>by rw[I.list_inj hz hq1];exact hx,fun zs hz=>by rw[I.list_inj hz hq2];exact hy,rfl⟩,
   ⟨gz,(hs2.2 _ D.TIz).trans (hk _ _ D.TIz D.TITO D.TIi1 D.TIi2 hTI),⟨_,_,(hs2.2 _ D.TOz).trans gTO⟩,g3.at fun o q=>(hs2.2 _ D.i1z).trans q,g4.at fun o q=>(hs2.2 _ D.i2z).trans q⟩,fun b hb=> ?_⟩
  have hbs:∃o,s.heap.get? b=some o:=by
   have hbq:=hb
   simp only[lJk,lJr,lJ0] at hbq
   rcases hbq with rfl | rfl | rfl | rfl | rfl
   ·exact⟨_,hz⟩
   ·exact⟨_,hTI⟩
   ·exact⟨_,hTO⟩
   ·obtain⟨o,q,_⟩:=h1;exact⟨o,q⟩
   ·obtain⟨o,q,_⟩:=h2;exact⟨o,q⟩
  obtain⟨o,q⟩:=hbs
  rw[jJw (lJw (lJj q))]
  exact (hf b hb).1
 done:=by
  rintro X hP hw hK hc i pins s σ H E I hf ⟨hz,hTI,⟨a,b,hTO⟩,h1,h2⟩ hg
  subst hP hw hK
  obtain⟨xs,ys,hq1,hq2,hx⟩:=hg
  obtain⟨its1,rv1,p1,hz1⟩:=I.list hq1
  obtain⟨its2,rv2,p2,hz2⟩:=I.list hq2
  have hl1:=rv1.length
  have hl2:=rv2.length
  refine wpAny_pyNext_zip_end (I.ok.hd hc) D hz hTI hTO h1 h2 p1.isList p2.isList ?_ fun g1 hk=>⟨rfl,jZd (t':=s.toks) (fp:=[z,TI,TO,i1,i2]) I (fun b o hb q=> ?_) hf⟩
  ·rcases hx with hx | hx
   ·exact .inl (by simp;omega)
   ·exact .inr (by simp;omega)
  ·simp only[lJk,lJr,lJ0,not_or] at hb
   exact hk b o hb.1 hb.2.2.1 hb.2.2.2.1 hb.2.2.2.2 q
 self:=fun _ _ _ _ _ ⟨hz,_⟩ h=>lXr hz h
section
variable {X:Cx}
end
section
variable {X:Cx}
end
section
variable {X:Cx}
end
section
variable {X:Cx} {pos:Pos}
end
theorem szle {n:Nat} (h:Nat.ble n 16777216=true):n<=sizeLine:=by rw[PySem.sizeLine_eq];exact Nat.le_of_ble_eq_true h
end L3
namespace L3
theorem xe1 {A0:Type} {σ:Type} {f:A0->σ} {p:A0->Prop} {τ:σ} {C:σ->Prop} (h:∃a0,τ=f a0/\p a0) (k:∀a0,p a0->C (f a0)):C τ:=by
 obtain⟨a0,e,h⟩:=h;rw[e];exact k _ h
theorem xe2 {A0 A1:Type} {σ:Type} {f:A0->A1->σ} {p:A0->A1->Prop} {τ:σ} {C:σ->Prop} (h:∃a0 a1,τ=f a0 a1/\p a0 a1) (k:∀a0 a1,p a0 a1->C (f a0 a1)):C τ:=by
 obtain⟨a0,a1,e,h⟩:=h;rw[e];exact k _ _ h
theorem xi2 {A0 A1:Type} {σ:Type} {f:A0->A1->σ} {p:A0->A1->Prop} {τ:σ} (a0:A0) (a1:A1) (e:τ=f a0 a1) (h:p a0 a1):∃a0 a1,τ=f a0 a1/\p a0 a1:=⟨a0,a1,e,h⟩
theorem xe3 {A0 A1 A2:Type} {σ:Type} {f:A0->A1->A2->σ} {p:A0->A1->A2->Prop} {τ:σ} {C:σ->Prop} (h:∃a0 a1 a2,τ=f a0 a1 a2/\p a0 a1 a2) (k:∀a0 a1 a2,p a0 a1 a2->C (f a0 a1 a2)):C τ:=by
 obtain⟨a0,a1,a2,e,h⟩:=h;rw[e];exact k _ _ _ h
theorem xi3 {A0 A1 A2:Type} {σ:Type} {f:A0->A1->A2->σ} {p:A0->A1->A2->Prop} {τ:σ} (a0:A0) (a1:A1) (a2:A2) (e:τ=f a0 a1 a2) (h:p a0 a1 a2):∃a0 a1 a2,τ=f a0 a1 a2/\p a0 a1 a2:=⟨a0,a1,a2,e,h⟩
theorem xe4 {A0 A1 A2 A3:Type} {σ:Type} {f:A0->A1->A2->A3->σ} {p:A0->A1->A2->A3->Prop} {τ:σ} {C:σ->Prop} (h:∃a0 a1 a2 a3,τ=f a0 a1 a2 a3/\p a0 a1 a2 a3) (k:∀a0 a1 a2 a3,p a0 a1 a2 a3->C (f a0 a1 a2 a3)):C τ:=by
 obtain⟨a0,a1,a2,a3,e,h⟩:=h;rw[e];exact k _ _ _ _ h
theorem xi4 {A0 A1 A2 A3:Type} {σ:Type} {f:A0->A1->A2->A3->σ} {p:A0->A1->A2->A3->Prop} {τ:σ} (a0:A0) (a1:A1) (a2:A2) (a3:A3) (e:τ=f a0 a1 a2 a3) (h:p a0 a1 a2 a3):∃a0 a1 a2 a3,τ=f a0 a1 a2 a3/\p a0 a1 a2 a3:=⟨a0,a1,a2,a3,e,h⟩
theorem xe5 {A0 A1 A2 A3 A4:Type} {σ:Type} {f:A0->A1->A2->A3->A4->σ} {p:A0->A1->A2->A3->A4->Prop} {τ:σ} {C:σ->Prop} (h:∃a0 a1 a2 a3 a4,τ=f a0 a1 a2 a3 a4/\p a0 a1 a2 a3 a4) (k:∀a0 a1 a2 a3 a4,p a0 a1 a2 a3 a4->C (f a0 a1 a2 a3 a4)):C τ:=by
 obtain⟨a0,a1,a2,a3,a4,e,h⟩:=h;rw[e];exact k _ _ _ _ _ h
theorem xe6 {A0 A1 A2 A3 A4 A5:Type} {σ:Type} {f:A0->A1->A2->A3->A4->A5->σ} {p:A0->A1->A2->A3->A4->A5->Prop} {τ:σ} {C:σ->Prop} (h:∃a0 a1 a2 a3 a4 a5,τ=f a0 a1 a2 a3 a4 a5/\p a0 a1 a2 a3 a4 a5) (k:∀a0 a1 a2 a3 a4 a5,p a0 a1 a2 a3 a4 a5->C (f a0 a1 a2 a3 a4 a5)):C τ:=by
 obtain⟨a0,a1,a2,a3,a4,a5,e,h⟩:=h;rw[e];exact k _ _ _ _ _ _ h
theorem xi6 {A0 A1 A2 A3 A4 A5:Type} {σ:Type} {f:A0->A1->A2->A3->A4->A5->σ} {p:A0->A1->A2->A3->A4->A5->Prop} {τ:σ} (a0:A0) (a1:A1) (a2:A2) (a3:A3) (a4:A4) (a5:A5) (e:τ=f a0 a1 a2 a3 a4 a5) (h:p a0 a1 a2 a3 a4 a5):∃a0 a1 a2 a3 a4 a5,τ=f a0 a1 a2 a3 a4 a5/\p a0 a1 a2 a3 a4 a5:=⟨a0,a1,a2,a3,a4,a5,e,h⟩
theorem xe7 {A0 A1 A2 A3 A4 A5 A6:Type} {σ:Type} {f:A0->A1->A2->A3->A4->A5->A6->σ} {p:A0->A1->A2->A3->A4->A5->A6->Prop} {τ:σ} {C:σ->Prop} (h:∃a0 a1 a2 a3 a4 a5 a6,τ=f a0 a1 a2 a3 a4 a5 a6/\p a0 a1 a2 a3 a4 a5 a6) (k:∀a0 a1 a2 a3 a4 a5 a6,p a0 a1 a2 a3 a4 a5 a6->C (f a0 a1 a2 a3 a4 a5 a6)):C τ:=by
 obtain⟨a0,a1,a2,a3,a4,a5,a6,e,h⟩:=h;rw[e];exact k _ _ _ _ _ _ _ h
theorem xe8 {A0 A1 A2 A3 A4 A5 A6 A7:Type} {σ:Type} {f:A0->A1->A2->A3->A4->A5->A6->A7->σ} {p:A0->A1->A2->A3->A4->A5->A6->A7->Prop} {τ:σ} {C:σ->Prop} (h:∃a0 a1 a2 a3 a4 a5 a6 a7,τ=f a0 a1 a2 a3 a4 a5 a6 a7/\p a0 a1 a2 a3 a4 a5 a6 a7) (k:∀a0 a1 a2 a3 a4 a5 a6 a7,p a0 a1 a2 a3 a4 a5 a6 a7->C (f a0 a1 a2 a3 a4 a5 a6 a7)):C τ:=by
 obtain⟨a0,a1,a2,a3,a4,a5,a6,a7,e,h⟩:=h;rw[e];exact k _ _ _ _ _ _ _ _ h
theorem xe10 {A0 A1 A2 A3 A4 A5 A6 A7 A8 A9:Type} {σ:Type} {f:A0->A1->A2->A3->A4->A5->A6->A7->A8->A9->σ} {p:A0->A1->A2->A3->A4->A5->A6->A7->A8->A9->Prop} {τ:σ} {C:σ->Prop} (h:∃a0 a1 a2 a3 a4 a5 a6 a7 a8 a9,τ=f a0 a1 a2 a3 a4 a5 a6 a7 a8 a9/\p a0 a1 a2 a3 a4 a5 a6 a7 a8 a9) (k:∀a0 a1 a2 a3 a4 a5 a6 a7 a8 a9,p a0 a1 a2 a3 a4 a5 a6 a7 a8 a9->C (f a0 a1 a2 a3 a4 a5 a6 a7 a8 a9)):C τ:=by
 obtain⟨a0,a1,a2,a3,a4,a5,a6,a7,a8,a9,e,h⟩:=h;rw[e];exact k _ _ _ _ _ _ _ _ _ _ h
theorem xi10 {A0 A1 A2 A3 A4 A5 A6 A7 A8 A9:Type} {σ:Type} {f:A0->A1->A2->A3->A4->A5->A6->A7->A8->A9->σ} {p:A0->A1->A2->A3->A4->A5->A6->A7->A8->A9->Prop} {τ:σ} (a0:A0) (a1:A1) (a2:A2) (a3:A3) (a4:A4) (a5:A5) (a6:A6) (a7:A7) (a8:A8) (a9:A9) (e:τ=f a0 a1 a2 a3 a4 a5 a6 a7 a8 a9) (h:p a0 a1 a2 a3 a4 a5 a6 a7 a8 a9):∃a0 a1 a2 a3 a4 a5 a6 a7 a8 a9,τ=f a0 a1 a2 a3 a4 a5 a6 a7 a8 a9/\p a0 a1 a2 a3 a4 a5 a6 a7 a8 a9:=⟨a0,a1,a2,a3,a4,a5,a6,a7,a8,a9,e,h⟩
theorem ae2 {a0 a1 C:Prop} (h:a0/\a1) (k:a0->a1->C):C:=k h.1 h.2
theorem ae3 {a0 a1 a2 C:Prop} (h:a0/\a1/\a2) (k:a0->a1->a2->C):C:=k h.1 h.2.1 h.2.2
theorem ae4 {a0 a1 a2 a3 C:Prop} (h:a0/\a1/\a2/\a3) (k:a0->a1->a2->a3->C):C:=k h.1 h.2.1 h.2.2.1 h.2.2.2
theorem ae5 {a0 a1 a2 a3 a4 C:Prop} (h:a0/\a1/\a2/\a3/\a4) (k:a0->a1->a2->a3->a4->C):C:=k h.1 h.2.1 h.2.2.1 h.2.2.2.1 h.2.2.2.2
theorem ae6 {a0 a1 a2 a3 a4 a5 C:Prop} (h:a0/\a1/\a2/\a3/\a4/\a5) (k:a0->a1->a2->a3->a4->a5->C):C:=k h.1 h.2.1 h.2.2.1 h.2.2.2.1 h.2.2.2.2.1 h.2.2.2.2.2
theorem ae7 {a0 a1 a2 a3 a4 a5 a6 C:Prop} (h:a0/\a1/\a2/\a3/\a4/\a5/\a6) (k:a0->a1->a2->a3->a4->a5->a6->C):C:=k h.1 h.2.1 h.2.2.1 h.2.2.2.1 h.2.2.2.2.1 h.2.2.2.2.2.1 h.2.2.2.2.2.2
theorem ae8 {a0 a1 a2 a3 a4 a5 a6 a7 C:Prop} (h:a0/\a1/\a2/\a3/\a4/\a5/\a6/\a7) (k:a0->a1->a2->a3->a4->a5->a6->a7->C):C:=k h.1 h.2.1 h.2.2.1 h.2.2.2.1 h.2.2.2.2.1 h.2.2.2.2.2.1 h.2.2.2.2.2.2.1 h.2.2.2.2.2.2.2
theorem ae9 {a0 a1 a2 a3 a4 a5 a6 a7 a8 C:Prop} (h:a0/\a1/\a2/\a3/\a4/\a5/\a6/\a7/\a8) (k:a0->a1->a2->a3->a4->a5->a6->a7->a8->C):C:=k h.1 h.2.1 h.2.2.1 h.2.2.2.1 h.2.2.2.2.1 h.2.2.2.2.2.1 h.2.2.2.2.2.2.1 h.2.2.2.2.2.2.2.1 h.2.2.2.2.2.2.2.2
theorem ae10 {a0 a1 a2 a3 a4 a5 a6 a7 a8 a9 C:Prop} (h:a0/\a1/\a2/\a3/\a4/\a5/\a6/\a7/\a8/\a9) (k:a0->a1->a2->a3->a4->a5->a6->a7->a8->a9->C):C:=k h.1 h.2.1 h.2.2.1 h.2.2.2.1 h.2.2.2.2.1 h.2.2.2.2.2.1 h.2.2.2.2.2.2.1 h.2.2.2.2.2.2.2.1 h.2.2.2.2.2.2.2.2.1 h.2.2.2.2.2.2.2.2.2
end L3
namespace L3
open PySem PySem.Spec PyProof.Rows L2
section
variable {X:Cx}
end
def OnLst (i l:Addr) (k:Nat) (xs:Array Value) (h:Heap):Prop:=h.IsListIter i l k/\h.IsList l xs
theorem OnLst.still {cs:List Addr} {i t:Addr} {k:Nat} {xs:Array Value} (hi:i∉cs) (ht:t∉cs):jX6 cs (OnLst i t k xs):=
 fun _ _ p ⟨⟨o,e,c⟩,⟨q,e',c'⟩⟩=>⟨⟨o,p.at hi e,c⟩,⟨q,p.at ht e',c'⟩⟩
theorem kXf {P:Program} {w:World} {A:Around} {i t:Addr} {k:Nat} {xs:Array Value} (hh:A.handled=none) (ne:t≠i):Draw P w A i xs[k]? (OnLst i t k xs) (OnLst i t (k+1) xs):=by
 rintro s Q E ⟨h1,h2⟩ item stop
 cases hx:xs[k]? with
 | some x=>exact wpAny_nextOf_list_item h1 h2 hx fun h' a b=>item x h' hx ⟨a,h2.extBut b.extBut ne⟩ b
 | none=>exact wpAny_nextOf_list_end hh h1 h2 hx fun h' e a ⟨o,b,c⟩=>stop h' e o hx a b c
theorem jYv {z TI TO i1 i2 a1 a2:Addr} {k:Nat} {xs:Array Value} (D:ZipApart z TI TO i1 i2 a1 a2):jX6 [z,TO,i1] (OnLst i2 a2 k xs):=
 OnLst.still (by simp[D.i2z,D.TOi2.symm,D.i12.symm]) (by simp[D.l2z,D.l2TO,D.l2i1])
def itL (t:Addr):Obj:={cls:= .type "list_iterator",data:= .fields #[.ref t,.int 0 0]}
noncomputable def kUl (g:Heap) (t u:Addr):Heap:=
 let g2:=(g.push (itOf t)).push (itL u)
 let g3:=g2.push (jQa #[.ref g.objs.size,.ref (g.push (itOf t)).objs.size])
 let g4:=g3.push (jQa #[.none,.none])
 g4.push {cls:= .type "zip",data:= .fields #[.none,.bool false,.bool false,.ref g2.objs.size,.ref g3.objs.size]}
theorem qQb (t u:Addr) (xs ys:Array Value):
  Meets (Builtin.«zip.__new__» ⟨[.type "zip",.ref t,.ref u],[]⟩) fun _ R s=>s.heap.IsTuple t xs/\s.heap.IsList u ys/\R (.ok (.ret (.ref (((((s.heap.push (itOf t)).push (itL u)).push (jQa #[.ref s.heap.objs.size,.ref (s.heap.push (itOf t)).objs.size])).push (jQa #[.none,.none])).objs.size)))) {s with heap:=kUl s.heap t u}:=by
 refine .of_wp fun P w A R s ⟨ht,hu,h⟩=> ?_
 obtain⟨g,a1,a2,a3,a4⟩:=s
 have sb:=sub_zip
 have m1:Heap.IsTuple (Shared.heap ⟨g,a1,a2,a3,a4⟩) t xs:=ht
 have m2:Heap.IsList (Shared.heap ⟨g.push {cls:= .type "tuple_iterator",data:= .fields #[.ref t,.int 0 0]},a1,a2,a3,a4⟩) u ys:=hu.push _
 wp_walk using wpAny_pyIter_tuple m1,wpAny_pyIter_list m2
 exact⟨_,rfl,h⟩
theorem kY3 {P:Program} {w:World} {A:Around} {s:Shared} {t u:Addr} {xs ys:Array Value} {Q E:Value->Shared->Prop} (ht:s.heap.IsTuple t xs) (hu:s.heap.IsList u ys)
  (h:∀g n,n=s.heap.objs.size->IsZip g (n+4) (n+2) (n+3) .none->IsPair g (n+2) (.ref n) (.ref (n+1))->IsPair g (n+3) .none .none->OnTup n t 0 xs g->OnLst (n+1) u 0 ys g->
   (∀c o,s.heap.get? c=some o->g.get? c=some o)->Q (.ref (n+4)) {s with heap:=g}):wpAny (model P w) A (call (.type "zip") [.ref t,.ref u]) Q E s:=by
 refine callType_new F.called_zip (by decide) (F.typeCall_zip_2 _ _) (F.newCall_zip_2 _ _) (fun obj=>F.args_object_init_3 obj _ _) F.entry_zip_new (qQb t u xs ys) ⟨ht,hu,?_⟩
 have hn:∀(g:Heap) (o:Obj),(g.push o).objs.size=g.objs.size+1:=fun _ _=>lXe ..
 have up:∀ {g:Heap} {o q:Obj} {c:Addr},g.get? c=some q->(g.push o).get? c=some q:=fun e=>lJs _ e
 have at':∀(g:Heap) (o:Obj),o.isFreed=false->(g.push o).get? g.objs.size=some o:=fun g o h=>lJ8 _ h
 have kp:∀c o,s.heap.get? c=some o->(kUl s.heap t u).get? c=some o:=fun c o e=>up (up (up (up (up e))))
 obtain⟨q,hq,hr⟩:=ht
 obtain⟨q',hq',hr'⟩:=hu
 have c0:(kUl s.heap t u).get? s.heap.objs.size=some (itOf t):=up (up (up (up (at' _ _ rfl))))
 have c1:(kUl s.heap t u).get? (s.heap.push (itOf t)).objs.size=some (itL u):=up (up (up (at' _ _ rfl)))
 have c2:=up (g:=((s.heap.push (itOf t)).push (itL u)).push (jQa #[.ref s.heap.objs.size,.ref (s.heap.push (itOf t)).objs.size])) (o:=jQa #[.none,.none]) (at' ((s.heap.push (itOf t)).push (itL u)) (jQa #[.ref s.heap.objs.size,.ref (s.heap.push (itOf t)).objs.size]) rfl)
 have c2':(kUl s.heap t u).get? ((s.heap.push (itOf t)).push (itL u)).objs.size=some (jQa #[.ref s.heap.objs.size,.ref (s.heap.push (itOf t)).objs.size]):=up c2
 have c3:(kUl s.heap t u).get? (((s.heap.push (itOf t)).push (itL u)).push (jQa #[.ref s.heap.objs.size,.ref (s.heap.push (itOf t)).objs.size])).objs.size=some (jQa #[.none,.none]):=up (at' _ _ rfl)
 have c4:(kUl s.heap t u).get? ((((s.heap.push (itOf t)).push (itL u)).push (jQa #[.ref s.heap.objs.size,.ref (s.heap.push (itOf t)).objs.size])).push (jQa #[.none,.none])).objs.size=some {cls:= .type "zip",data:= .fields #[.none,.bool false,.bool false,.ref ((s.heap.push (itOf t)).push (itL u)).objs.size,.ref (((s.heap.push (itOf t)).push (itL u)).push (jQa #[.ref s.heap.objs.size,.ref (s.heap.push (itOf t)).objs.size])).objs.size]}:=at' _ _ rfl
 show _/\_
 simp only[hn] at c1 c2' c3 c4 ⊢
 exact⟨⟨_,c4,rfl⟩,h _ _ rfl c4 c2' c3 ⟨⟨_,c0,rfl,rfl⟩,q,kp _ _ hq,hr⟩ ⟨⟨_,c1,rfl,rfl⟩,q',kp _ _ hq',hr'⟩ kp⟩
noncomputable def Itm (K:PySem.W.Frag) (a1 a2:Addr):It:=
 ⟨fun i H=>∃xs ys x y,SqT K H a1 xs/\SqL K H a2 ys/\xs[i]? =some x/\ys[i]? =some y,
  fun i H v H'=>∃p x y,H p=none/\v= .ref p/\(∀xs,SqT K H a1 xs->xs[i]? =some x)/\(∀ys,SqL K H a2 ys->ys[i]? =some y)/\H'=upd H p (.tup [x,y]),
  fun i H=>∃xs ys,SqT K H a1 xs/\SqL K H a2 ys/\(xs.length<=i\/ys.length<=i)⟩
theorem kZd {P:Program} {w:World} {K:PySem.W.Frag} {elts:List Expr} {k:Nat} {pos:Pos} (z TI TO i1 i2 a1 a2:Addr) (D:ZipApart z TI TO i1 i2 a1 a2):
  Turn P w K (.Tuple elts k pos) (Itm K a1 a2) [z,TI,TO,i1,i2] z (fun i h=>IsZip h z TI TO .none/\IsPair h TI (.ref i1) (.ref i2)/\(∃a b,IsPair h TO a b)/\h.IsTupleIter i1 a1 i/\h.IsListIter i2 a2 i) where
 mem:=by simp
 obj:=fun i h ⟨hz,hTI,⟨a,b,hTO⟩,h1,h2⟩ c hc=>by
  simp only[lJk,lJr,lJ0] at hc
  rcases hc with rfl | rfl | rfl | rfl | rfl
  ·exact⟨_,hz,fun v z=>nomatch (show Data.fields _=Data.cell v from z)⟩
  ·exact⟨_,hTI,fun v z=>nomatch (show Data.seq _ _=Data.cell v from z)⟩
  ·exact⟨_,hTO,fun v z=>nomatch (show Data.seq _ _=Data.cell v from z)⟩
  ·obtain⟨o,e,c,d⟩:=h1;exact⟨o,e,fun v z=>by rw[d] at z;cases z⟩
  ·obtain⟨o,e,c,d⟩:=h2;exact⟨o,e,fun v z=>by rw[d] at z;cases z⟩
 keep:=fun i h h' ⟨hz,hTI,⟨a,b,hTO⟩,h1,h2⟩ kp=>⟨kp z (by simp) _ hz,kp TI (by simp) _ hTI,⟨a,b,kp TO (by simp) _ hTO⟩,h1.at fun o q=>kp i1 (by simp) o q,h2.at fun o q=>kp i2 (by simp) o q⟩
 item:=by
  rintro X hP hw hK hc i pins s σ H E I hf ⟨hz,hTI,⟨a,b,hTO⟩,h1,h2⟩ hg
  subst hP hw hK
  obtain⟨xs,ys,x,y,hq1,hq2,hx,hy⟩:=hg
  obtain⟨its1,rv1,p1,hz1⟩:=I.tuple hq1
  obtain⟨its2,rv2,p2,hz2⟩:=I.list hq2
  obtain⟨u1,hu1,ru1⟩:=rv1.get hx
  obtain⟨u2,hu2,ru2⟩:=rv2.get hy
  refine jYp (r1:=its1.toArray[i]?) (r2:=its2.toArray[i]?) (jQi (I.ok.hd hc) D.l1i1) (kXf (I.ok.hd hc) D.l2i2) (kV4 D) (jUz D) (jUz D) (jYv D) (jYv D) hz hTI hTO ⟨h1,p1⟩ ⟨h2,p2.isList⟩ (fun x' y' g1 ex ey ho gTO g3 g4 hT hk=> ?_) (fun g en _=> ?_)
  rotate_left
  ·rcases en with e | e
   ·rw[show its1.toArray[i]? =some u1 by simpa using hu1] at e;cases e
   ·rw[show its2.toArray[i]? =some u2 by simpa using hu2] at e;cases e
  obtain rfl:u1=x':=by simpa[hu1] using ex
  obtain rfl:u2=y':=by simpa[hu2] using ey
  refine⟨_,rfl,lYy ho fun g2 gz hs2=> ?_⟩
  have hzl:z<s.heap.objs.size:=lJj hz
  have hp2:∀b o,b∉[z,TI,TO,i1,i2]->s.heap.get? b=some o->g2.get? b=some o:=fun b o hb q=>by
   simp only[lJk,lJr,lJ0,not_or] at hb
   exact (hs2.2 b hb.1).trans (hk b (by simp only[lJk,lJr,lJ0,not_or];exact⟨hb.1,hb.2.2.1,hb.2.2.2.1,hb.2.2.2.2⟩) o q)
  have hT2:g2.get? s.heap.objs.size=some {cls:= .type "tuple",data:= .seq #[u1,u2]}:=(hs2.2 _ (lK6 hzl)).trans hT
  have I2:=jUy (t':=s.toks) (h':=g2) (p:=s.heap.objs.size) (vs:=[x,y]) (us:=[u1,u2]) I hp2 hf (lJh _) ⟨_,hT2,rfl,_,rfl,rfl⟩ (.cons ru1 (.cons ru2 .nil)) (by show 2<=sizeLine;decide)
  refine⟨.ref s.heap.objs.size,_,I2,rfl,⟨_,x,y,I.hok.fresh (lJh _),rfl,fun zs hz=>by rw[I.tuple_inj hz hq1];exact hx,fun zs hz=>by rw[I.list_inj hz hq2];exact hy,rfl⟩,
   ⟨gz,(hs2.2 _ D.TIz).trans (hk _ (by simp[D.TIz,D.TITO,D.TIi1,D.TIi2]) _ hTI),⟨_,_,(hs2.2 _ D.TOz).trans gTO⟩,g3.1.at fun o q=>(hs2.2 _ D.i1z).trans q,g4.1.at fun o q=>(hs2.2 _ D.i2z).trans q⟩,fun b hb=> ?_⟩
  have hbs:∃o,s.heap.get? b=some o:=by
   have hbq:=hb
   simp only[lJk,lJr,lJ0] at hbq
   rcases hbq with rfl | rfl | rfl | rfl | rfl
   ·exact⟨_,hz⟩
   ·exact⟨_,hTI⟩
   ·exact⟨_,hTO⟩
   ·obtain⟨o,q,_⟩:=h1;exact⟨o,q⟩
   ·obtain⟨o,q,_⟩:=h2;exact⟨o,q⟩
  obtain⟨o,q⟩:=hbs
  rw[jJw (lJw (lJj q))]
  exact (hf b hb).1
 done:=by
  rintro X hP hw hK hc i pins s σ H E I hf ⟨hz,hTI,⟨a,b,hTO⟩,h1,h2⟩ hg
  subst hP hw hK
  obtain⟨xs,ys,hq1,hq2,hx⟩:=hg
  obtain⟨its1,rv1,p1,hz1⟩:=I.tuple hq1
  obtain⟨its2,rv2,p2,hz2⟩:=I.list hq2
  have hl1:=rv1.length
  have hl2:=rv2.length
  refine jYp (r1:=its1.toArray[i]?) (r2:=its2.toArray[i]?) (jQi (I.ok.hd hc) D.l1i1) (kXf (I.ok.hd hc) D.l2i2) (kV4 D) (jUz D) (jUz D) (jYv D) (jYv D) hz hTI hTO ⟨h1,p1⟩ ⟨h2,p2.isList⟩ (fun x' y' g1 ex ey _ _ _ _ _ _=> ?_) (fun g1 _ hk=>⟨rfl,jZd (t':=s.toks) (fp:=[z,TI,TO,i1,i2]) I (fun b o hb q=> ?_) hf⟩)
  ·have q1:i<its1.length:=by simpa using (lXf.mp ex).1
   have q2:i<its2.length:=by simpa using (lXf.mp ey).1
   omega
  ·exact hk b (fun m=>hb (by simp only[lJk,lJr,lJ0] at m ⊢; rcases m with h | h | h | h<;>simp[h])) o q
 self:=fun _ _ _ _ _ ⟨hz,_⟩ h=>lXr hz h
theorem kY4 {X:Cx} {elts:List Expr} {k:Nat} {tpos:Pos} {pins:List (Addr×Obj)} {s1:Shared} {τ:St3} {σ:L2.St} {G1:Gp} {H H1:Hp} {R:List T->(Gp->Prop)->Gp->Prop} {x y:T} {xs ys:List T} {v w:V} {u u':Value} (St:Gp->Prop) (hSt:∀G',St G'->jKc G' x=some xs/\jKc G' y=some ys)
  (e1:Ext H H1) (I1:Inv X pins σ H1 s1) (hs1:SRel X.K H1 σ τ) (hg1:GRel X.K H1 G1) (rv:Rep X.K H1 x v) (rw':Rep X.K H1 y w) (ru:RelV v u) (ru':RelV w u') (hx:jKc G1 x=some xs) (hy:jKc G1 y=some ys) (q:R (zipT xs ys) St G1):
  wpAny (model X.prog X.w) X.A (call (.type "zip") [u,u']) (fun v s1=>wpAny (model X.prog X.w) X.A (pyIter v) (PIE3 X pins τ H (.Tuple elts k tpos) R) X.xe s1) X.xe s1:=by
 obtain⟨pa,vs,rfl,hq1,r1⟩:=jK8 hg1 rv hx
 obtain⟨pb,ws,rfl,hq2,r2⟩:=jK8 hg1 rw' hy
 cases ru;cases ru'
 obtain⟨its1,rv1,p1,hz1⟩:=I1.list hq1
 obtain⟨its2,rv2,p2,hz2⟩:=I1.list hq2
 have hal:pa<s1.heap.objs.size:=by obtain⟨o,ho,_⟩:=p1.isList;exact lJj ho
 have hbl:pb<s1.heap.objs.size:=by obtain⟨o,ho,_⟩:=p2.isList;exact lJj ho
 refine call_zip_2 p1.isList p2.isList fun h1 hz hTI hTO hi1 hi2 hsz hk=> ?_
 have I2:Inv X pins σ H1 {s1 with heap:=h1}:=I1.kept (t':=s1.toks) hk
 refine lXr hz ?_
 have fr:∀c∈[s1.heap.objs.size+4,s1.heap.objs.size+2,s1.heap.objs.size+3,s1.heap.objs.size,s1.heap.objs.size+1],FpOk X pins H1 c:=fun c hc=>by
  simp only[lJk,lJr,lJ0] at hc
  have hle:s1.heap.objs.size<=c:=by omega
  exact I1.fpOk hle (I1.hok.fresh hle)
 have D:ZipApart (s1.heap.objs.size+4) (s1.heap.objs.size+2) (s1.heap.objs.size+3) s1.heap.objs.size (s1.heap.objs.size+1) pa pb:=kY5 hal hbl
 refine⟨s1.heap.objs.size+4,_,_,_,zipT xs ys,St,G1,H1,rfl,e1,⟨σ,I2,hs1,hg1⟩,kZe _ _ _ _ _ pa pb D,⟨hz,hTI,⟨_,_,hTO⟩,hi1,hi2⟩,fr,?_,q⟩
 intro i H2 G2 e2 g2 st0
 have st:=hSt G2 st0
 obtain⟨pa',vs',ea,ha',ra'⟩:=jK8 g2 (Rep.mono e2 _ rv) st.1
 obtain⟨pb',ws',eb,hbq,rb'⟩:=jK8 g2 (Rep.mono e2 _ rw') st.2
 cases ea;cases eb
 have hl1:=ra'.length
 have hl2:=rb'.length
 have hzl:(zipT xs ys).length=min xs.length ys.length:=by simp[zipT]
 refine⟨fun hi=> ?_,fun hi=>⟨vs',ws',ha',hbq,by omega⟩,fun hi y H' ⟨pp,x1,x2,hn,ey,hy1,hy2,eH⟩=> ?_⟩
 ·exact⟨vs',ws',vs'[i]'(by omega),ws'[i]'(by omega),ha',hbq,lJm _,lJm _⟩
 ·subst ey;subst eH
  obtain⟨t1,ht1,rt1⟩:=ra'.get' (hy1 vs' ha')
  obtain⟨t2,ht2,rt2⟩:=rb'.get' (hy2 ws' hbq)
  have hzi:(zipT xs ys)[i]? =some (.tup [t1,t2]):=by
   unfold zipT
   rw[lKr,show (xs.zip ys)[i]? =some (t1,t2) from lXd.mpr ⟨ht1,ht2⟩];rfl
  exact⟨.upd (.none hn),g2.tupNew hn,_,hzi,Rep.tupNew ⟨_,_,rfl,rt1,_,_,rfl,rt2,rfl⟩ hn⟩
theorem qXl {X:Cx} {elts:List Expr} {k:Nat} {tpos:Pos} {pins:List (Addr×Obj)} {s1:Shared} {τ:St3} {σ:L2.St} {G1:Gp} {H H1:Hp} {R:List T->(Gp->Prop)->Gp->Prop} {y:T} {xs ys:List T} {v w:V} {u u':Value} (St:Gp->Prop) (hSt:∀G',St G'->jKc G' y=some ys)
  (e1:Ext H H1) (I1:Inv X pins σ H1 s1) (hs1:SRel X.K H1 σ τ) (hg1:GRel X.K H1 G1) (rv:Rep X.K H1 (.tup xs) v) (rw':Rep X.K H1 y w) (ru:RelV v u) (ru':RelV w u') (hy:jKc G1 y=some ys) (q:R (zipT xs ys) St G1):
  wpAny (model X.prog X.w) X.A (call (.type "zip") [u,u']) (fun v s1=>wpAny (model X.prog X.w) X.A (pyIter v) (PIE3 X pins τ H (.Tuple elts k tpos) R) X.xe s1) X.xe s1:=by
 obtain⟨pa,vs,rfl,hq1,r1⟩:=(show ∃p vs,v= .ref p/\H1 p=some (.tup vs)/\Reps X.K H1 xs vs from rv)
 obtain⟨pb,ws,rfl,hq2,r2⟩:=jK8 hg1 rw' hy
 cases ru;cases ru'
 obtain⟨its1,rv1,p1,hz1⟩:=I1.tuple (.of hq1)
 obtain⟨its2,rv2,p2,hz2⟩:=I1.list hq2
 have hal:pa<s1.heap.objs.size:=by obtain⟨o,ho,_⟩:=p1;exact lJj ho
 have hbl:pb<s1.heap.objs.size:=by obtain⟨o,ho,_⟩:=p2.isList;exact lJj ho
 refine kY3 (show s1.heap.IsTuple pa its1.toArray from p1) p2.isList fun h1 n hn hz hTI hTO hi1 hi2 hk=> ?_
 subst hn
 have I2:Inv X pins σ H1 {s1 with heap:=h1}:=I1.kept (t':=s1.toks) hk
 refine lXr hz ?_
 have fr:∀c∈[s1.heap.objs.size+4,s1.heap.objs.size+2,s1.heap.objs.size+3,s1.heap.objs.size,s1.heap.objs.size+1],FpOk X pins H1 c:=fun c hc=>by
  simp only[lJk,lJr,lJ0] at hc
  have hle:s1.heap.objs.size<=c:=by omega
  exact I1.fpOk hle (I1.hok.fresh hle)
 have D:ZipApart (s1.heap.objs.size+4) (s1.heap.objs.size+2) (s1.heap.objs.size+3) s1.heap.objs.size (s1.heap.objs.size+1) pa pb:=kY5 hal hbl
 refine⟨s1.heap.objs.size+4,_,_,_,zipT xs ys,St,G1,H1,rfl,e1,⟨σ,I2,hs1,hg1⟩,kZd _ _ _ _ _ pa pb D,⟨hz,hTI,⟨_,_,hTO⟩,hi1.1,hi2.1⟩,fr,?_,q⟩
 intro i H2 G2 e2 g2 st
 obtain⟨pa',vs',ea,ha',ra'⟩:=(show ∃p vs,V.ref pa= .ref p/\H2 p=some (.tup vs)/\Reps X.K H2 xs vs from Rep.mono e2 _ rv)
 obtain⟨pb',ws',eb,hbq,rb'⟩:=jK8 g2 (Rep.mono e2 _ rw') (hSt G2 st)
 cases ea;cases eb
 have hl1:=ra'.length
 have hl2:=rb'.length
 have hzl:(zipT xs ys).length=min xs.length ys.length:=by simp[zipT]
 refine⟨fun hi=> ?_,fun hi=>⟨vs',ws',.of ha',hbq,by omega⟩,fun hi y H' ⟨pp,x1,x2,hn,ey,hy1,hy2,eH⟩=> ?_⟩
 ·exact⟨vs',ws',vs'[i]'(by omega),ws'[i]'(by omega),(.of ha'),hbq,lJm _,lJm _⟩
 ·subst ey;subst eH
  obtain⟨t1,ht1,rt1⟩:=ra'.get' (hy1 vs' (.of ha'))
  obtain⟨t2,ht2,rt2⟩:=rb'.get' (hy2 ws' hbq)
  have hzi:(zipT xs ys)[i]? =some (.tup [t1,t2]):=by
   unfold zipT
   rw[lKr,show (xs.zip ys)[i]? =some (t1,t2) from lXd.mpr ⟨ht1,ht2⟩];rfl
  exact⟨.upd (.none hn),g2.tupNew hn,_,hzi,Rep.tupNew ⟨_,_,rfl,rt1,_,_,rfl,rt2,rfl⟩ hn⟩
noncomputable def qYx (ta:TA3):TI3:=fun τ G R=>ta τ G fun vs G1=>∃x y xs ys,vs=[x,y]/\jKc G1 y=some ys/\(x= .tup xs\/jKc G1 x=some xs)/\R (zipT xs ys) (fun G'=>jKc G' y=some ys/\(x= .tup xs\/jKc G' x=some xs)) G1
theorem i_zipA {X:Cx} {elts:List Expr} {k:Nat} {tpos pos p:Pos} {a b:Expr} {ta:TA3} (hg:Gl X "zip") (hm:X.mg "zip"=none) (hv:bootBuiltins "zip"=some (.type "zip")) (ha:PA3 X [a,b] ta) (hs:starEach [a,b] X.env=[(false,eval a X.env),(false,eval b X.env)]:=by rfl) (hs2:starEach [b] X.env=[(false,eval b X.env)]:=by rfl):
  PI3 X (.Tuple elts k tpos) (.Call (.Name "zip" p) [a,b] [] pos) (qYx ta):=by
 intro pins s τ G H R I h
 obtain⟨σ0,I0,hs0,hg0⟩:=id I
 refine Call_ (jU5 I0 hg hm hv (lVd (thn (ha pos pins s τ G H _ I h) fun us s1 w_=>w_.el fun xs' G1 H1 e1 i_ r_ q1=>i_.el fun σ I1 hs1 hg1=>r_.el fun as ras rvs=> ?_) (by rw[hs,hs2]) (by rw[hs2];rfl)))
 obtain⟨x,y,xs,ys,e,hy,hx,q⟩:=q1
 subst e
 obtain⟨v,w,rfl,rv,rw'⟩:=kUz ras
 obtain⟨u,u',rfl,ru,ru'⟩:=rvs.two
 rcases hx with rfl | hx
 ·exact qXl _ (fun G' h=>h.1) e1 I1 hs1 hg1 rv rw' ru ru' hy q
 ·by_cases ht:∃zs,x= .tup zs
  ·obtain⟨zs,rfl⟩:=ht
   cases hx
  ·exact kY4 _ (fun G' h=>⟨h.2.resolve_left fun z=>ht ⟨_,z⟩,h.1⟩) e1 I1 hs1 hg1 rv rw' ru ru' hx hy q
theorem qXk {X:Cx} {elts:List Expr} {k:Nat} {tpos:Pos} {pins:List (Addr×Obj)} {s1:Shared} {τ:St3} {σ:L2.St} {G1:Gp} {H H1:Hp} {R:List T->(Gp->Prop)->Gp->Prop} {xs ys:List T} {v w:V} {u u':Value} (St:Gp->Prop)
  (e1:Ext H H1) (I1:Inv X pins σ H1 s1) (hs1:SRel X.K H1 σ τ) (hg1:GRel X.K H1 G1) (rv:Rep X.K H1 (.tup xs) v) (rw':Rep X.K H1 (.tup ys) w) (ru:RelV v u) (ru':RelV w u') (q:R (zipT xs ys) St G1):
  wpAny (model X.prog X.w) X.A (call (.type "zip") [u,u']) (fun v s1=>wpAny (model X.prog X.w) X.A (pyIter v) (PIE3 X pins τ H (.Tuple elts k tpos) R) X.xe s1) X.xe s1:=by
 obtain⟨pa,vs,rfl,hq1,r1⟩:=(show ∃p vs,v= .ref p/\H1 p=some (.tup vs)/\Reps X.K H1 xs vs from rv)
 obtain⟨pb,ws,rfl,hq2,r2⟩:=(show ∃p vs,w= .ref p/\H1 p=some (.tup vs)/\Reps X.K H1 ys vs from rw')
 cases ru;cases ru'
 obtain⟨its1,rv1,p1,hz1⟩:=I1.tuple (.of hq1)
 obtain⟨its2,rv2,p2,hz2⟩:=I1.tuple (.of hq2)
 have hal:pa<s1.heap.objs.size:=by obtain⟨o,ho,_⟩:=p1;exact lJj ho
 have hbl:pb<s1.heap.objs.size:=by obtain⟨o,ho,_⟩:=p2;exact lJj ho
 refine qQc (show s1.heap.IsTuple pa its1.toArray from p1) (show s1.heap.IsTuple pb its2.toArray from p2) fun h1 n hn hz hTI hTO hi1 hi2 hk=> ?_
 subst hn
 have I2:Inv X pins σ H1 {s1 with heap:=h1}:=I1.kept (t':=s1.toks) hk
 refine lXr hz ?_
 have fr:∀c∈[s1.heap.objs.size+4,s1.heap.objs.size+2,s1.heap.objs.size+3,s1.heap.objs.size,s1.heap.objs.size+1],FpOk X pins H1 c:=fun c hc=>by
  simp only[lJk,lJr,lJ0] at hc
  have hle:s1.heap.objs.size<=c:=by omega
  exact I1.fpOk hle (I1.hok.fresh hle)
 have D:ZipApart (s1.heap.objs.size+4) (s1.heap.objs.size+2) (s1.heap.objs.size+3) s1.heap.objs.size (s1.heap.objs.size+1) pa pb:=kY5 hal hbl
 refine⟨s1.heap.objs.size+4,_,_,_,zipT xs ys,St,G1,H1,rfl,e1,⟨σ,I2,hs1,hg1⟩,qQh _ _ _ _ _ pa pb D,⟨hz,hTI,⟨_,_,hTO⟩,hi1.1,hi2.1⟩,fr,?_,q⟩
 intro i H2 G2 e2 g2 _
 obtain⟨pa',vs',ea,ha',ra'⟩:=(show ∃p vs,V.ref pa= .ref p/\H2 p=some (.tup vs)/\Reps X.K H2 xs vs from Rep.mono e2 _ rv)
 obtain⟨pb',ws',eb,hbq,rb'⟩:=(show ∃p vs,V.ref pb= .ref p/\H2 p=some (.tup vs)/\Reps X.K H2 ys vs from Rep.mono e2 _ rw')
 cases ea;cases eb
 have hl1:=ra'.length
 have hl2:=rb'.length
 have hzl:(zipT xs ys).length=min xs.length ys.length:=by simp[zipT]
 refine⟨fun hi=> ?_,fun hi=>⟨vs',ws',.of ha',.of hbq,by omega⟩,fun hi y H' ⟨pp,x1,x2,hn,ey,hy1,hy2,eH⟩=> ?_⟩
 ·exact⟨vs',ws',vs'[i]'(by omega),ws'[i]'(by omega),.of ha',.of hbq,lJm _,lJm _⟩
 ·subst ey;subst eH
  obtain⟨t1,ht1,rt1⟩:=ra'.get' (hy1 vs' (.of ha'))
  obtain⟨t2,ht2,rt2⟩:=rb'.get' (hy2 ws' (.of hbq))
  have hzi:(zipT xs ys)[i]? =some (.tup [t1,t2]):=by
   unfold zipT
   rw[lKr,show (xs.zip ys)[i]? =some (t1,t2) from lXd.mpr ⟨ht1,ht2⟩];rfl
  exact⟨.upd (.none hn),g2.tupNew hn,_,hzi,Rep.tupNew ⟨_,_,rfl,rt1,_,_,rfl,rt2,rfl⟩ hn⟩
noncomputable def qU4 (ta:TA3):TI3:=fun τ G R=>ta τ G fun vs G1=>∃x y xs ys,vs=[x,y]/\((x= .tup xs/\y= .tup ys/\R (zipT xs ys) (fun _=>True) G1)\/(jKc G1 x=some xs/\jKc G1 y=some ys/\R (zipT xs ys) (fun G'=>jKc G' x=some xs/\jKc G' y=some ys) G1))
theorem i_zipB {X:Cx} {elts:List Expr} {k:Nat} {tpos pos p:Pos} {a b:Expr} {ta:TA3} (hg:Gl X "zip") (hm:X.mg "zip"=none) (hv:bootBuiltins "zip"=some (.type "zip")) (ha:PA3 X [a,b] ta) (hs:starEach [a,b] X.env=[(false,eval a X.env),(false,eval b X.env)]:=by rfl) (hs2:starEach [b] X.env=[(false,eval b X.env)]:=by rfl):
  PI3 X (.Tuple elts k tpos) (.Call (.Name "zip" p) [a,b] [] pos) (qU4 ta):=by
 intro pins s τ G H R I h
 obtain⟨σ0,I0,hs0,hg0⟩:=id I
 refine Call_ (jU5 I0 hg hm hv (lVd (thn (ha pos pins s τ G H _ I h) fun us s1 w_=>w_.el fun xs' G1 H1 e1 i_ r_ q1=>i_.el fun σ I1 hs1 hg1=>r_.el fun as ras rvs=> ?_) (by rw[hs,hs2]) (by rw[hs2];rfl)))
 obtain⟨x,y,xs,ys,e,hx⟩:=q1
 subst e
 obtain⟨v,w,rfl,rv,rw'⟩:=kUz ras
 obtain⟨u,u',rfl,ru,ru'⟩:=rvs.two
 rcases hx with ⟨rfl,rfl,q⟩ | ⟨hx,hy,q⟩
 ·exact qXk _ e1 I1 hs1 hg1 rv rw' ru ru' q
 ·exact kY4 _ (fun G' h=>h) e1 I1 hs1 hg1 rv rw' ru ru' hx hy q
section
variable {X:Cx}
end
section
variable {X:Cx}
end
section
variable {X:Cx}
end
section
variable {X:Cx}
end
section
variable {P:Program} {w:World} {A:Around} {E:Value->Shared->Prop} {s:Shared} {d it:Addr} {o:Obj} {es:Array DictEntry} {ep i:Nat}
end
section
variable {X:Cx}
end
section
variable {A:Around} {E:Value->Shared->Prop} {s:Shared} {M:Model}
end
section
variable {X:Cx} {scope:Scope} {cl:List (Str×Addr)} {mask:List Bool}
end
section
variable {X:Cx} {scope:Scope} {cl:List (Str×Addr)} {mask:List Bool} {elt iter tg:Expr} {ifs:List Expr} {pos:Pos} {wi:TI3} {g:TG3} {tif:TT3} {te:TE3}
end
def CN (K:PySem.W.Frag) (cn:Str) (C:Addr):Prop:=PySem.W.nsIn K mainGlobals cn=some (some (.ref C))
theorem CN.one {K:PySem.W.Frag} {cn:Str} {C D:Addr} (h:CN K cn C) (h':CN K cn D):C=D:=by
 unfold CN at h h';rw[h] at h';cases h';rfl
section
variable {X:Cx} {cn f m:Str} {pos pos' apos p:Pos} {e o value:Expr} {es:List Expr} {ta tv:TE3} {t:TA3} {k:Nat} {ps:List Str} {sp:Sp3}
end
end L3
namespace L3
open PySem PySem.Spec PyProof.Rows L2 PySem.W
structure Lies (P:Program) (w:World) (outer:List Env) (H:Hp) (s:Shared) (a C:Addr) (B:Heap) (a0:Value) (H':Hp) (s':Shared):Prop where
 os:s'.os=s.os
 bare:AllBare s'.gens
 fly:Heap.FlyingW B outer a (.ref C) a0 s'.heap
 hok:HOk P w H' B
 keep:∀b o,s.heap.get? b=some o->H b=none->b∉frs outer->B.get? b=some o
 there:∀b o,s.heap.get? b=some o->b∉frs outer->∃o',B.get? b=some o'
 slot:∀b o,s.heap.get? b=some o->b∈frs outer->∃sl,s'.heap.get? b=some {o with slots:=sl}
 free:∀b o,s.heap.get? b=some o->H b=none->H' b=none
 tups:∀b xs,H b=some (.tup xs)->H' b=some (.tup xs)
 frzs:∀b o u,H b=some (.frz o u)->H' b=some (.frz o u)
 tbls:∀b ps,H b=some (.tbl ps)->∃more,H' b=some (.tbl (ps++more))
section
variable {P:Program} {w:World} {outer:List Env} {H H':Hp} {s s':Shared} {a C:Addr} {B:Heap} {a0:Value}
theorem Lies.un (l:Lies P w outer H s a C B a0 H' s'):Un (frs outer) [] H H' s.heap s'.heap where
 keep:=fun b o h n f _=>l.fly.1 b o (l.keep b o h n f)
 slot:=fun b o h _ f _=>l.slot b o h f
 free:=fun b o h n _=>l.free b o h n
 there:=fun b o h _=>by
  by_cases f:b∈frs outer
  ·obtain⟨sl,e⟩:=l.slot b o h f
   exact⟨_,e⟩
  ·obtain⟨o',e⟩:=l.there b o h f
   exact⟨o',l.fly.1 b o' e⟩
 tups:=l.tups
 frzs:=l.frzs
 tbls:=l.tbls
theorem qJk {P:Program} {w:World} {H:Hp} {h:Heap} {a:Addr} {o:HO} (x:ObjOk P w H h a o):∃u,h.get? a=some u:=by
 induction o with
 | lst xs=>obtain⟨z,its,n,r,e⟩:=x;exact⟨_,e⟩
 | tup xs=>obtain⟨z,its,r,ob,e,c⟩:=x;exact⟨_,e⟩
 | dK kvs=>obtain⟨z,y,vs,r,ob,es,ep,e,c⟩:=x;exact⟨_,e⟩
 | dT kvs=>obtain⟨z,y,xs,r,ob,es,ep,e,c⟩:=x;exact⟨_,e⟩
 | set S n=>obtain⟨ob,es,ep,t,e,c⟩:=x;exact⟨_,e⟩
 | ins C dx fs=>obtain⟨d,z,ne,e,_⟩:=x;exact⟨_,e⟩
 | own y=>exact x
 | xd fs=>obtain⟨mA,⟨od,es,ep,e,c⟩,r⟩:=x;exact⟨_,e⟩
 | rng lo hi=>obtain⟨t,u,v,e⟩:=x;exact⟨_,e⟩
 | frz ob u ih=>obtain⟨e,q⟩:=x;exact⟨_,e⟩
 | tbl ps=>exact⟨_,x⟩
 | met f y=>exact⟨_,x⟩
 | ext φ=>obtain⟨p,e,st⟩:=x;exact e
theorem Lies.na (l:Lies P w outer H s a C B a0 H' s'):H' a=none:=by
 cases e:H' a with
 | none=>rfl
 | some o=>
  obtain⟨u,hu⟩:=qJk (l.hok a o e)
  rw[l.fly.2.1] at hu;cases hu
end
section
variable {X:Cx} {pins:List (Addr×Obj)} {σ:L2.St} {H H':Hp} {s s':Shared} {a C:Addr} {B:Heap} {a0:Value} {E:Value->Shared->Prop}
theorem qY5 {l:List Env}:∀env∈l,∀b,env.frame=some b->b∈frs l:=fun env he b hb=>lQq.mpr ⟨env,he,hb⟩
theorem qUo (I:Inv X pins σ H s) (hs:X.stack=X.env::X.outer) (hf:X.env.frame=some X.env.locals) (hex:X.ex=[]) {args:List Value} (hm:Heap.MadeExcOf s.heap s'.heap a (.ref C) args) (ho:s'.os=s.os) (hg:s'.gens=s.gens) {Q:Unit->Shared->Prop}
  (k:∀B a0 h',Lies X.prog X.w X.outer X.H₀ X.s₀ a C B a0 H {s' with heap:=h'}->Q () {s' with heap:=h'}):wpAny (model X.prog X.w) X.A (leaving X.env (.ref a)) Q E s':=by
 have hst:=I.stack
 have hfr:X.A.frames=some (X.env::X.outer):=by rw[I.ok.frames,hs]
 rw[hs] at hst
 have sub:∀b,b∈frs (X.env::X.outer)↔b=X.env.locals\/b∈frs X.outer:=fun b=>by
  unfold frs;rw[lQa,hf];exact lJk
 have inB:∀b o,s.heap.get? b=some o->b≠X.env.locals->b∉frs X.outer->(hideAll s.heap (frs (X.env::X.outer))).get? b=some o:=fun b o h n f=>
  hideAll_get _ h fun z=>((sub b).mp z).elim n f
 have nex:∀b,b∉X.ex:=fun b=>by rw[hex];exact lJr
 have old:∀b o,X.s₀.heap.get? b=some o->b≠X.env.locals:=fun b o h z=>by
  rw[z] at h;exact absurd (lJj h) (Nat.not_lt.mpr I.ok.above)
 refine wpAny_leaves_madeW hfr hf (fun b o h=>of_hideAll _ h) (funFrames_hide hst fun env he b hb=>qY5 env he b hb) hm fun h' t fl tp nt up=> ?_
 refine k (hideAll s.heap (frs (X.env::X.outer))) (.ref t) h' ⟨ho.trans I.os,by rw[show ({s' with heap:=h'}:Shared).gens=s.gens from hg];exact I.bare,fl,?_,?_,?_,?_,fun b o h n=>I.base.free b o h n (nex b),I.base.tups,I.base.frzs,I.base.tbls⟩
 ·intro b o e
  refine (I.hok b o e).stay (fun c u hc h=>hideAll_get _ h fun z=> ?_) (fun _ q=>q) fun _ _ q=>q
  have hn:=I.stkFree c (by rw[hs];exact z)
  rcases hc with rfl | hc
  ·rw[e] at hn;cases hn
  ·rw[hc] at hn;cases hn
 ·intro b o h n f
  exact inB b o (I.base.keep b o h n f (nex b)) (old b o h) f
 ·intro b o h f
  obtain⟨o',h'⟩:=I.base.there b o h (nex b)
  exact⟨o',inB b o' h' (old b o h) f⟩
 ·intro b o h f
  obtain⟨sl,e1⟩:=I.base.slot b o h (I.ok.frf b f) f (nex b)
  obtain⟨_,o',ho',hd⟩:=I.funs.mem f
  rw[e1] at ho'
  cases ho'
  obtain⟨sl',e2⟩:=(Heap.UpToSlots.of_keeps hm.keeps).trans up b _ e1 hd
  exact⟨sl',e2⟩
theorem qYh (I:Inv X pins σ H s) (hs:X.stack=X.env::X.outer) (hf:X.env.frame=some X.env.locals) (hex:X.ex=[]) (l:Lies X.prog X.w X.stack H s a C B a0 H' s') {Q:Unit->Shared->Prop}
  (k:∀h',Lies X.prog X.w X.outer X.H₀ X.s₀ a C B a0 H' {s' with heap:=h'}->Q () {s' with heap:=h'}):wpAny (model X.prog X.w) X.A (leaving X.env (.ref a)) Q E s':=by
 have hfr:X.A.frames=some (X.env::X.outer):=by rw[I.ok.frames,hs]
 have sub:∀b,b∈frs X.stack↔b=X.env.locals\/b∈frs X.outer:=fun b=>by
  rw[hs];unfold frs;rw[lQa,hf];exact lJk
 have nex:∀b,b∉X.ex:=fun b=>by rw[hex];exact lJr
 have old:∀b o,X.s₀.heap.get? b=some o->b≠X.env.locals:=fun b o h z=>by
  rw[z] at h;exact absurd (lJj h) (Nat.not_lt.mpr I.ok.above)
 have nst:∀b o,X.s₀.heap.get? b=some o->b∉frs X.outer->b∉frs X.stack:=fun b o h f z=>((sub b).mp z).elim (old b o h) f
 refine wpAny_leaves_onW hfr hf (by rw[<-hs];exact l.fly) fun h' fl up=>k h' ⟨l.os.trans I.os,l.bare,fl,l.hok,?_,?_,?_,?_,?_,?_,?_⟩
 ·intro b o h n f
  exact l.keep b o (I.base.keep b o h n f (nex b)) (I.base.free b o h n (nex b)) (nst b o h f)
 ·intro b o h f
  obtain⟨o',e⟩:=I.base.there b o h (nex b)
  exact l.there b o' e (nst b o h f)
 ·intro b o h f
  obtain⟨sl,e1⟩:=I.base.slot b o h (I.ok.frf b f) f (nex b)
  obtain⟨sl',e2⟩:=l.slot b _ e1 ((sub b).mpr (.inr f))
  obtain⟨_,o',ho',hd⟩:=I.funs.mem f
  rw[e1] at ho'
  cases ho'
  obtain⟨sl3,e3⟩:=up b _ e2 hd
  exact⟨sl3,e3⟩
 ·intro b o h n
  obtain⟨o',e⟩:=I.base.there b o h (nex b)
  exact l.free b o' e (I.base.free b o h n (nex b))
 ·exact fun b xs h=>l.tups b xs (I.base.tups b xs h)
 ·exact fun b o u h=>l.frzs b o u (I.base.frzs b o u h)
 ·intro b ps h
  obtain⟨m1,e1⟩:=I.base.tbls b ps h
  obtain⟨m2,e2⟩:=l.tbls b _ e1
  exact⟨m1++m2,by rw[e2,Array.append_assoc]⟩
theorem qJw (I:Inv X pins σ H s) (l:Lies X.prog X.w X.stack H s a C B a0 H' s') (hs:X.stack=X.env::X.outer) (hf:X.env.frame=some X.env.locals) {Q:Unit->Shared->Prop}
  (k:∀h',Inv X pins σ H' {s' with heap:=h'}->Lies X.prog X.w X.stack H s a C B a0 H' {s' with heap:=h'}->Q () {s' with heap:=h'}):
  wpAny (model X.prog X.w) X.A (noteFrame (.ref a) X.env) (fun _ s2=>wpAny (model X.prog X.w) X.A (setFlight (.ref a) none) Q E s2) E s':=by
 have hfr:X.A.frames=some (X.env::X.outer):=by rw[I.ok.frames,hs]
 refine wpAny_looks_onW hfr hf (by rw[<-hs];exact l.fly) fun h1 hd up1=> ?_
 refine wpAny_landsW (s:={s' with heap:=h1}) hd fun h2 fl up2=> ?_
 have l2:Lies X.prog X.w X.stack H s a C B a0 H' {s' with heap:=h2}:=by
  refine⟨l.os,l.bare,by rw[hs];exact fl,l.hok,l.keep,l.there,fun b o h f=> ?_,l.free,l.tups,l.frzs,l.tbls⟩
  obtain⟨sl,e⟩:=l.slot b o h f
  obtain⟨_,o',ho',hd'⟩:=I.stack.mem f
  rw[h] at ho'
  cases ho'
  obtain⟨sl2,e2⟩:=(up1.trans up2) b _ e hd'
  exact⟨sl2,e2⟩
 exact k h2 (I.call' l2.os l2.un (l2.hok.kept fun b u e=>l2.fly.1 b u e) l2.bare fun b z=>absurd z lJr) l2
end
abbrev XK3:=Str->Gp->Prop
abbrev SpX:=List T->Gp->VK3->XK3->Prop
def vmro:List Value:=[.type "ValueError",.type "Exception",.type "BaseException",.type "object"]
structure ExC (K:PySem.W.Frag) (mg:Str->Option Value) (cn:Str):Prop where
 ex:∃C,CN K cn C/\mg cn=some (.ref C)/\excIn K C vmro "ValueError.__new__"=true
theorem exc_at {K:PySem.W.Frag} {C:Addr} {bmB:List Value} {newId:String} (q:excIn K C bmB newId=true):
  ∃bm N nm qn bs hdct sn sub ab col dd k0 k1 k2 k3 k5,K.lookup C=some (excClassObj nm qn C N bs bm hdct sn sub ab col dd k0 k1 k2 k3 k5 newId)/\nsOkIn K N=true/\nsIn K N "__init__"=some none/\tailIn K bmB bm=true:=by
 unfold excIn at q
 split at q
 ·rename_i dd cd sl ho
  split at q
  ·rename_i C' bm k0 k1 k2 k3 n k5 hm hs
   (simp only[lKt,beq_iff_eq,lX1] at q)
   obtain⟨⟨⟨⟨⟨rfl,rfl⟩,z⟩,ht⟩,hok⟩,hni⟩:=q
   (obtain⟨nm,bs,mro,ns,qn,hd,sn,sub,ab,col,del⟩:=cd)
   dsimp only at hm z hok hni
   subst hm z
   have e:sl= #[k0,k1,k2,k3,some (.builtin n),k5]:=by
    obtain⟨l⟩:=sl
    simp only at hs
    rw[hs]
   subst e
   exact⟨bm,ns,nm,qn,bs,hd,sn,sub,ab,col,dd,k0,k1,k2,k3,k5,ho,hok,hni,ht⟩
  ·cases q
 ·cases q
theorem qYd {K:PySem.W.Frag} {h h':Heap} {N:Addr} {m:Str->Option Value} (X:K.In h) (X':K.In h') (e:nsOkIn K N=true) (hn:h.Ns N m):h'.Ns N m:=by
 unfold nsOkIn at e
 split at e
 ·rename_i ho
  obtain⟨o,es,ep,h1,r⟩:=hn
  have:=X _ _ ho
  rw[h1] at this
  cases this
  exact⟨_,es,ep,X' _ _ ho,r⟩
 ·cases e
theorem kZm {h:Heap} {bm:List Value} (t:OwnTail h vmro bm):bm.contains (.type "BaseException")=true:=t.hasType (by decide)
def CXX (P:Program) (w:World):CXT:=fun outer H s E e s'=>∃a C B a0 H',e= .ref a/\Lies P w outer H s a C B a0 H' s'/\E e (some C) H'
structure XR (X:Cx) (R:XK3):Prop where
 raise_:∀(pins:List (Addr×Obj)) (σ:L2.St) (H1:Hp) (G1:Gp) (s1 s':Shared) (a C:Addr) (cn:Str) (args:List Value),Inv X pins σ H1 s1->GRel X.K H1 G1->CN X.K cn C->Heap.MadeExcOf s1.heap s'.heap a (.ref C) args->s'.os=s1.os->s'.gens=s1.gens->R cn G1->X.xe (.ref a) s'
 pass:∀(pins:List (Addr×Obj)) (σ:L2.St) (H1:Hp) (s1 s':Shared) (a C:Addr) (cn:Str) (B:Heap) (a0:Value) (H':Hp) (G':Gp),Inv X pins σ H1 s1->Lies X.prog X.w X.stack H1 s1 a C B a0 H' s'->GRel X.K H' G'->CN X.K cn C->R cn G'->X.xe (.ref a) s'
 own:PassesOwn (model X.prog X.w) X.A X.env X.xe
noncomputable def dnX (K:PySem.W.Frag) (n:Nat) (sp:SpX):Sp:=fun vs H Q E=>vs.length=n/\∃xs G,Reps K H xs vs/\GRel K H G/\sp xs G (fun t G'=>∀v H',Ext H H'->GRel K H' G'->Rep K H' t v->Q v H') (fun cn G'=>∀e C H',Ext H H'->GRel K H' G'->CN K cn C->E e (some C) H')
def FnX (P:Program) (w:World) (K:PySem.W.Frag) (mg:Str->Option Value) (base:Heap) (k:Nat) (f:Addr) (fd:FuncData) (ps:List Str) (sp:SpX):Prop:=FnOk P w K mg base (CXX P w) k f fd ps (dnX K ps.length sp)
theorem fnX {P:Program} {w:World} {K:PySem.W.Frag} {mg:Str->Option Value} {base:Heap} {x qual:Str} {st:Stmt} {f:Addr} {fd:FuncData} {N ps:List Str} {k:Nat} {sp:SpX} (F:Fun K x qual st f fd) (S:FnScope N ps (jJq st))
  (hbody:∀(cdv:Value) (A:Around) (outer:List Env) (s:Shared) (H:Hp) (E:XK) (R:XK3),Room k (A.deeper (envOfC qual (jJq st) s.heap.objs.size f cdv))->XR (cxOf (CXX P w) P w K mg base N qual (jJq st) f cdv A outer s H E) R->
   ∃t,PSs3 (cxOf (CXX P w) P w K mg base N qual (jJq st) f cdv A outer s H E) (jK7 st) t/\∀xs G Q,sp xs G Q R->t {nx:=fun _ G'=>Q .non G',rt:=Q} (jK0 N xs) G):FnX P w K mg base (k+1) f fd ps sp:=by
 obtain⟨oc,od,kV,doc,pm,an,cdv,ct,osl,rfl,lk,hcd⟩:=F.ex
 refine fn_of (sp:=dnX K ps.length sp) lk hcd S (fun vs H Q E h=>h.1) fun A outer s H vs Q E hr hsp=> ?_
 obtain⟨hl,xs,G,rs,hg,hsp⟩:=hsp
 have hXR:XR (cxOf (CXX P w) P w K mg base N qual (jJq st) f cdv A outer s H E) (fun cn G'=>∀e C H',Ext H H'->GRel K H' G'->CN K cn C->E e (some C) H'):=by
  refine⟨?_,?_,PassesOwn.leaving⟩
  ·intro pins σ H1 G1 s1 s' a C cn args I g1 hc hm ho hg' hR
   exact qUo I rfl rfl rfl hm ho hg' fun B a0 h' l=>⟨a,C,B,a0,H1,rfl,l,hR (.ref a) C H1 ⟨I.base.tups,I.base.frzs⟩ g1 hc⟩
  ·intro pins σ H1 s1 s' a C cn B a0 H' G' I l g1 hc hR
   refine qYh I rfl rfl rfl l fun h' l'=>⟨a,C,B,a0,H',rfl,l',hR (.ref a) C H' ⟨l'.tups,l'.frzs⟩ g1 hc⟩
 obtain⟨t,ht,hq⟩:=hbody cdv A outer s H E _ hr hXR
 ·refine⟨fun D σ H1=>D.nx=(fun _ H'=>Q .non H')/\D.rt=Q/\σ=L2.start N vs/\H1=H,?_,rfl,rfl,rfl,rfl⟩
  rintro pins s1 σ1 H1 D I ⟨e1,e2,e3,e4⟩
  subst e3;subst e4
  have I3:Inv3 (cxOf (CXX P w) P w K mg base N qual (jJq st) f cdv A outer s H1 E) pins (jK0 N xs) G H1 s1:=⟨_,I,kQl rs,hg⟩
  refine thn (ht pins s1 _ G H1 _ I3 (hq xs G _ hsp)) fun fl s2 z=> ?_
  cases fl with
  | next=>obtain⟨τ',G',H',e',⟨σ',I',a,b⟩,q⟩:=z;exact⟨σ',H',I',by rw[e1];exact q .non H' e' b rfl⟩
  | brk=>obtain⟨τ',G',H',e',_,q⟩:=z;exact q.elim
  | cont=>obtain⟨τ',G',H',e',_,q⟩:=z;exact q.elim
  | ret u=>obtain⟨x',τ',G',H',e',⟨σ',I',a,b⟩,⟨v,rv,ru⟩,q⟩:=z;exact⟨v,σ',H',I',ru,by rw[e2];exact q v H' e' b rv⟩
def qVs (sp:SpX):Prop:=∀xs G Q Q' R R',(∀t G',Q t G'->Q' t G')->(∀c G',R c G'->R' c G')->sp xs G Q R->sp xs G Q' R'
structure CalX (P:Program) (w:World) (K:PySem.W.Frag) (mg:Str->Option Value) (base:Heap) (k:Nat) (x:Str) (ps:List Str) (sp:SpX):Prop where
 ex:∃f fd,FnX P w K mg base k f fd ps sp/\mg x=some (.ref f)/\PySem.W.keepIn K (.ref f)=true/\Binds K fd ps []
 mono:qVs sp
 len:∀xs G Q R,sp xs G Q R->xs.length=ps.length
section
variable {X:Cx}
theorem qXx {k:Nat} {f:Addr} {fd:FuncData} {ps:List Str} {sp:SpX} {pins:List (Addr×Obj)} {σ:L2.St} {τ:St3} {H1:Hp} {G1:Gp} {s1:Shared} {xs:List T} {as:List V} {us:List Value} {Q:VK3} {R:XK3} {E:Value->Shared->Prop} (F:FnX X.prog X.w X.K X.mg X.base k f fd ps sp) (hr:Room k X.A) (hb:Binds X.K fd ps []) (mono:qVs sp) (len:∀xs G Q R,sp xs G Q R->xs.length=ps.length)
  (I1:Inv X pins σ H1 s1) (hs1:SRel X.K H1 σ τ) (hg1:GRel X.K H1 G1) (ras:Reps X.K H1 xs as) (rvs:Vals as us) (q:sp xs G1 Q R)
  (hE:∀a C cn B a0 H' G' s',Lies X.prog X.w X.stack H1 s1 a C B a0 H' s'->Ext H1 H'->GRel X.K H' G'->CN X.K cn C->R cn G'->E (.ref a) s'):
  wpAny (model X.prog X.w) X.A (call (.ref f) us) (EP3 X pins τ H1 Q) E s1:=by
 have hl:us.length=ps.length:=by rw[<-rvs.length,<-ras.length];exact len _ _ _ _ q
 refine wpAny_call (lXn (F.run X.A X.stack s1 H1 ⟨us,[]⟩ (us++[]) as (up X.K H1 Q) (fun _ c H'=>∃cn C G',c=some C/\CN X.K cn C/\Ext H1 H'/\GRel X.K H' G'/\R cn G') hr I1.env0 (hb s1 us I1.kIn (by rw[lQ0];exact hl)) (by rw[lQ0];exact rvs) ?_) fun r s' hq=> ?_)
 ·exact⟨by rw[<-ras.length];exact len _ _ _ _ q,xs,G1,ras,hg1,mono _ _ _ _ _ _ (fun t G' hq v H' e g r=>⟨t,G',e,g,r,hq⟩) (fun cn G' hR e C H' e1 g hc=>⟨cn,C,G',rfl,hc,e1,g,hR⟩) q⟩
 ·cases r with
  | error e=>
   obtain⟨a,C,B,a0,H',rfl,l,cn,C',G',ec,hc,e1,g,hR⟩:=(show CXX X.prog X.w X.stack H1 s1 (fun _ c H'=>∃cn C G',c=some C/\CN X.K cn C/\Ext H1 H'/\GRel X.K H' G'/\R cn G') e s' from hq)
   cases ec
   exact hE a C cn B a0 H' G' s' l e1 g hc hR
  | ok fl=>
   cases fl with
   | ret u=>exact jU4 hs1 (I1.after hq)
   | next=>exact False.elim hq
   | brk=>exact False.elim hq
   | cont=>exact False.elim hq
def kUo (R:XK3) (cn:Str):TS3:=fun _ _ G=>R cn G
theorem qQt {R:XK3} {cn v:Str} {a:Expr} {np cpos pos:Pos} (hx:XR X R) (hC:ExC X.K X.mg cn) (hc:X.calm=true) (ha:PA3 X [a] (jJc (tC (.str v)) tNil)) (hg:Gl X cn:=by rfl) (hdb:(cn == ("__debug__":Str))=false:=by decide)
  (he:starEach [a] X.env=[(false,eval a X.env)]:=by rfl):
  PS3 X (.Raise (some (.Call (.Name cn np) [a] [] cpos)) none pos) (kUo R cn):=by
 intro pins s τ G H D I h
 obtain⟨C,hcn,hmg,hin⟩:=hC.ex
 obtain⟨σ,I0,hs,hgr⟩:=id I
 obtain⟨bm,N,nm,qn,bs,hdct,sn,sub,ab,col,dd,k0,k1,k2,k3,k5,hC0,hok,hni,ht⟩:=exc_at hin
 refine wpAny_Raise_call_subU (C:=C) (N:=N) (nm:=nm) (q:=qn) (bs:=bs) (bm:=bm) (hdct:=hdct) (sn:=sn) (sub:=sub) (ab:=ab) (col:=col) (dd:=dd) (k0:=k0) (k1:=k1) (k2:=k2) (k3:=k3) (k5:=k5) (mN:=s.heap.nsMap N) (bmB:=vmro) PySem.F.excBase_ValueError (by decide) PySem.F.excBase_ValueError (kZm (tail_of_in I0.kIn ht)) (I0.ok.hd hc) (by rw[he];rfl) (nsMap_none_of_in I0.kIn hok hni) ?_
 refine kKw I0 hg hmg ⟨rfl,?_⟩ hdb
 rw[show backTo cpos (starEach [a] X.env)=[(false,eval a X.env)] by rw[he];rfl]
 refine Calls.evalArgs_plain ?_
 have:=ha cpos pins s τ G H (fun ts G'=>ts.length=1/\R cn G') I ⟨rfl,h⟩
 rw[show backTo cpos (starEach [a] X.env)=[(false,eval a X.env)] by rw[he];rfl] at this
 refine thn this fun us s1 w_=>w_.el fun xs G1 H1 e1 i_ r_ q=>i_.el fun σ1 I1 hs1 hg1=>r_.el fun as ras rvs=> ?_
 have hl:us.length=1:=by rw[<-rvs.length,<-ras.length];exact q.1
 refine⟨rfl,by rw[hl];decide,I1.kIn _ _ hC0,qYd I0.kIn I1.kIn hok (.of_isNs (isNs_of_in I0.kIn hok)),tail_of_in I1.kIn ht,fun h' b hm=> ?_⟩
 exact hx.raise_ pins σ1 H1 G1 s1 {s1 with heap:=h'} b C cn us I1 hg1 hcn hm rfl rfl q.2
end
abbrev RX3:=Str->St3->Gp->Prop
abbrev TEx:=St3->Gp->VK3->RX3->Prop
abbrev TSx:=Ends3->RX3->St3->Gp->Prop
section
variable {X:Cx}
def XP (X:Cx) (pins:List (Addr×Obj)) (H:Hp) (R:RX3) (e:Value) (s':Shared):Prop:=∃a C cn B a0 τ' G1 H1 s1 G' H',e= .ref a/\Ext H H1/\Inv3 X pins τ' G1 H1 s1/\Lies X.prog X.w X.stack H1 s1 a C B a0 H' s'/\Ext H1 H'/\GRel X.K H' G'/\CN X.K cn C/\R cn τ' G'
def PEx (X:Cx) (e:Expr) (t:TEx):Prop:=∀(pins:List (Addr×Obj)) (s:Shared) (τ:St3) (G:Gp) (H:Hp) (Q:VK3) (R:RX3),Inv3 X pins τ G H s->t τ G Q R->wpAny (model X.prog X.w) X.A (eval e X.env) (EP3 X pins τ H Q) (XP X pins H R) s
def PSx (X:Cx) (st:Stmt) (t:TSx):Prop:=∀(pins:List (Addr×Obj)) (s:Shared) (τ:St3) (G:Gp) (H:Hp) (D:Ends3) (R:RX3),Inv3 X pins τ G H s->t D R τ G->wpAny (model X.prog X.w) X.A (exec st X.env) (SP3 X pins H D) (XP X pins H R) s
def PSsx (X:Cx) (st:List Stmt) (t:TSx):Prop:=∀(pins:List (Addr×Obj)) (s:Shared) (τ:St3) (G:Gp) (H:Hp) (D:Ends3) (R:RX3),Inv3 X pins τ G H s->t D R τ G->wpAny (model X.prog X.w) X.A (execs st X.env) (SP3 X pins H D) (XP X pins H R) s
def Calm (X:Cx):Prop:=∀e s,¬ X.xe e s
theorem Calm.any (h:Calm X) {α:Type} {m:Sem α} {Q:α->Shared->Prop} {E:Value->Shared->Prop} {s:Shared} (w:wpAny (model X.prog X.w) X.A m Q X.xe s):wpAny (model X.prog X.w) X.A m Q E s:=
 lKz w (fun _ _ z=>z) fun e s z=>absurd z (h e s)
def qXq (sp:SpX) (t:TA3):TEx:=fun τ G Q R=>t τ G fun xs G1=>sp xs G1 Q fun cn G'=>R cn τ G'
theorem ex_cal {k:Nat} {ps:List Str} {sp:SpX} {x:Str} {p pos:Pos} {e:Expr} {es:List Expr} {t:TA3} (hn:Calm X) (C:CalX X.prog X.w X.K X.mg X.base k x ps sp) (hr:Room k X.A) (ha:PA3 X (e::es) t) (hg:Gl X x:=by rfl)
  (hdb:(x == ("__debug__":Str))=false:=by decide) (he:starEach (e::es) X.env=(false,eval e X.env)::starEach es X.env:=by rfl) (hpl:(backTo pos (starEach es X.env)).any (·.1)=false:=by rfl):
  PEx X (.Call (.Name x p) (e::es) [] pos) (qXq sp t):=by
 intro pins s τ G H Q R I h
 obtain⟨f,fd,F,hm,hk,hb⟩:=C.ex
 obtain⟨σ0,I0,hs0,hg0⟩:=id I
 refine lYp (kKw I0 hg hm ?_ hdb)
 refine PySem.W.callWith_K (h₀:=X.base) I0.ok.mod.kin hk (thn (hn.any (ha pos pins s τ G H _ I h)) fun us s1 w_=>w_.el fun xs G1 H1 e1 i_ r_ q=>i_.el fun σ I1 hs1 hg1=>r_.el fun as ras rvs=>⟨I1.kIn,?_⟩) he hpl
 refine thn (qXx F hr hb C.mono C.len I1 hs1 hg1 ras rvs q fun a C' cn B a0 H' G' s' l ex g hc hR=> ?_) fun u s' z=>z.ext e1
 exact⟨a,C',cn,B,a0,τ,G1,H1,s1,G',H',rfl,e1,⟨σ,I1,hs1,hg1⟩,l,ex,g,hc,hR⟩
def qXp (te:TEx) (i:Nat):TSx:=fun D R τ G=>te τ G (fun v G1=>D.nx (τ.set i (some v)) G1) R
theorem sx_set {i:Nat} {x:Str} {e:Expr} {te:TEx} {pos pos':Pos} (hN:X.N.Nodup) (he:PEx X e te) (hi:X.N[i]? =some x:=by rfl) (hx:Loc X.env.scope x:=by first | exact Or.inl rfl | exact Or.inr rfl)
  (hs:swapsWith e (some (.Name x pos')) pos.line X.env=pure false:=by rfl) (hf:X.fn x=true\/X.env.scope.names.lookup x=some .local:=by first | exact .inl rfl | exact .inr rfl):
  PSx X (.Assign [.Name x pos'] e pos) (qXp te i):=by
 intro pins s τ G H D R I h
 refine wpAny_Assign_Name (thn (he pins s τ G H _ R I h) fun v s1 w_=>w_.el fun y G1 H1 e1 i_ r_ q1=>i_.el fun σ I1 hs1 hg1=>r_.el fun a ra rv=> ?_) hs
 exact jU8 I1 hN hi hx rv (fun s2 I2=>⟨_,G1,H1,e1,⟨_,I2,hs1.set i ra,hg1⟩,q1⟩) hf
theorem qXr {st:Stmt} {t:TSx} (h1:PSx X st t):PSsx X [st] t:=by
 intro pins s τ G H D R I h
 refine wpAny_execs_cons (thn (h1 pins s τ G H D R I h) fun f s1 q=> ?_)
 cases f with
 | next=>exact lXp q
 | ret v=>exact q
 | brk=>exact q
 | cont=>exact q
end
section
variable {X:Cx} {pins:List (Addr×Obj)} {σ:L2.St} {H H':Hp} {s s':Shared} {a C:Addr} {B:Heap} {a0:Value}
abbrev hX (X:Cx) (a:Addr):Cx:={X with A:=X.A.mark (some (.ref a)),calm:=false}
theorem Inv.mark (I:Inv X pins σ H s) (a:Addr):Inv (hX X a) pins σ H s:=
 ⟨⟨I.ok.mod,I.ok.kind,I.ok.glob,I.ok.blt,I.ok.above,I.ok.inj,I.ok.has,I.ok.cab,fun z=>Bool.noConfusion z,fun z=>Bool.noConfusion z,I.ok.frames,I.ok.stk,I.ok.exf,I.ok.bs,I.ok.bsz,I.ok.noex,I.ok.exfs,I.ok.funs,I.ok.frf⟩,I.os,I.bare,I.base,I.loc,I.cell,I.free,I.freeC,I.pin,I.hok,I.len⟩
theorem Inv.unmark (I:Inv (hX X a) pins σ H s) (ok:X.Ok):Inv X pins σ H s:=⟨ok,I.os,I.bare,I.base,I.loc,I.cell,I.free,I.freeC,I.pin,I.hok,I.len⟩
theorem Inv3.mark {τ:St3} {G:Gp} (I:Inv3 X pins τ G H s) (a:Addr):Inv3 (hX X a) pins τ G H s:=let ⟨σ,I,x,y⟩:=I;⟨σ,Inv.mark I a,x,y⟩
theorem Inv3.unmark {τ:St3} {G:Gp} (I:Inv3 (hX X a) pins τ G H s) (ok:X.Ok):Inv3 X pins τ G H s:=let ⟨σ,I,x,y⟩:=I;⟨σ,Inv.unmark I ok,x,y⟩
theorem Lies.new (I:Inv X pins σ H s) (l:Lies X.prog X.w X.stack H s a C B a0 H' s'):s.heap.get? a=none:=by
 cases e:s.heap.get? a with
 | none=>rfl
 | some o=>
  exfalso
  by_cases f:a∈frs X.stack
  ·obtain⟨_,o',ho',hd⟩:=I.stack.mem f
   rw[e] at ho';cases ho'
   obtain⟨sl,e2⟩:=l.slot a o e f
   obtain⟨oe,vs,T,oT,ts,he,hc,hdd,_⟩:=l.fly.2.2.2
   rw[e2] at he;cases he
   exact hd vs hdd
  ·obtain⟨o',e2⟩:=l.there a o e f
   rw[l.fly.2.1] at e2;cases e2
theorem Lies.again {E:Value->Shared->Prop} {A:Around} (I:Inv X pins σ H s) (l:Lies X.prog X.w X.stack H s a C B a0 H' s') {Q:Unit->Shared->Prop} (k:∀h',Lies X.prog X.w X.stack H s a C B a0 H' {s' with heap:=h'}->Q () {s' with heap:=h'}):wpAny (model X.prog X.w) A (setFlight (.ref a) none) Q E s':=by
 refine lands_againW l.fly fun h2 fl up=>k h2 ⟨l.os,l.bare,fl,l.hok,l.keep,l.there,fun b o h f=> ?_,l.free,l.tups,l.frzs,l.tbls⟩
 obtain⟨sl,e⟩:=l.slot b o h f
 obtain⟨_,o',ho',hd'⟩:=I.stack.mem f
 rw[h] at ho'
 cases ho'
 obtain⟨sl2,e2⟩:=up b _ e hd'
 exact⟨sl2,e2⟩
theorem qUp (I:Inv X pins σ H s) (l:Lies X.prog X.w X.stack H s a C B a0 H' s'):∃ob,ob.cls= .ref C/\Inv X pins σ (upd H' a (.frz ob (.ext fun h=>h.get? a=some ob))) s':=by
 obtain⟨ob,hob,hcl⟩:=l.fly.there
 have na:=l.na
 have new:=Lies.new I l
 have u:=l.un
 have hok:=l.hok.kept fun b u e=>l.fly.1 b u e
 refine⟨ob,hcl,I.call' (ch:=[]) l.os ⟨u.keep,u.slot,fun b o h n x=> ?_,u.there,fun b xs h=> ?_,fun b o w h=> ?_,fun b ps h=> ?_⟩ (fun b o e=> ?_) l.bare fun b z=>absurd z lJr⟩
 ·rw[jJw (fun z=>by rw[z,new] at h;cases h)];exact u.free b o h n x
 ·rw[jJw (fun z=>by have:=u.tups b xs h;rw[z,na] at this;cases this)];exact u.tups b xs h
 ·rw[jJw (fun z=>by have:=u.frzs b o w h;rw[z,na] at this;cases this)];exact u.frzs b o w h
 ·obtain⟨m,e⟩:=u.tbls b ps h
  exact⟨m,by rw[jJw (fun z=>by rw[z,na] at e;cases e)];exact e⟩
 ·by_cases hb:b=a
  ·subst hb
   rw[jKg] at e;cases e
   exact⟨hob,hob,⟨ob,hob⟩,fun h1 h2 p k=>k ob p⟩
  ·rw[jJw hb] at e
   refine (hok b o e).stay (fun c w' _ q=>q) (fun c q=> ?_) fun c xs q=> ?_
   ·rw[jJw (fun z=>by rw[z,na] at q;cases q)];exact q
   ·rw[jJw (fun z=>by rw[z,na] at q;cases q)];exact q
end
structure ExSub (K:PySem.W.Frag) (mg:Str->Option Value) (cn c:Str) (b:Bool):Prop where
 ex:∃C D,CN K cn C/\mg c=some (.ref D)/\exmOne K (.ref C) (.ref D)=some b
section
variable {X:Cx}
end
section
variable {prog:Program} {w:World} {A:Around} {E:Value->Shared->Prop} {s:Shared} {K:PySem.W.Frag} {x D:Addr} {ox:Obj}
end
section
variable {X:Cx}
theorem exc_mk {K:PySem.W.Frag} {h:Heap} {mg:Str->Option Value} {cn:Str} {C:Addr} (X:K.In h) (G:h.Ns mainGlobals mg) (a:nsIn K mainGlobals cn=some (some (.ref C))) (q:excIn K C vmro "ValueError.__new__"=true):ExC K mg cn:=⟨C,a,mg_of X G a,q⟩
theorem exsub_mk {K:PySem.W.Frag} {h:Heap} {mg:Str->Option Value} {cn c:Str} {C D:Addr} {v:Bool} (X:K.In h) (G:h.Ns mainGlobals mg) (a:nsIn K mainGlobals cn=some (some (.ref C))) (b:nsIn K mainGlobals c=some (some (.ref D))) (q:exmOne K (.ref C) (.ref D)=some v):ExSub K mg cn c v:=⟨C,D,a,mg_of X G b,q⟩
end
end L3
namespace L3
open PySem
theorem sub1 {K:PySem.W.Frag} {mg:Str->Option Value} {cn c:Str} (h:ExSub K mg cn c true):∀cn',cn'∈[cn]->ExSub K mg cn' c true:=fun cn' z=>by cases lJ1.mp z;exact h
end L3
namespace L3
open PySem PySem.Spec PyProof.Rows L2 PySem.W
section
variable {X:Cx}
def qXo (cs:List Str) (tb:TSx) (th:TS3):TS3:=fun D τ G=>tb D (fun cn τ' G'=>cn∈cs/\∀a,G' a=none->th {nx:=D.nx,rt:=fun _ _=>False} τ' (gup G' a (.exc cn))) τ G
theorem s_try0 {body:List Stmt} {b0:Stmt} {bs:List Stmt} {c:Str} {cs:List Str} {tb:TSx} {th:TS3} {np hpos pos:Pos} (hn:Calm X) (hb:PSsx X body tb) (hh:∀a,PSs3 (hX X a) (b0::bs) th) (hcs:∀cn,cn∈cs->ExSub X.K X.mg cn c true)
  (hst:X.stack=X.env::X.outer:=by rfl) (hfr:X.env.frame=some X.env.locals:=by rfl) (hg:Gl X c:=by rfl) (hdb:(c == ("__debug__":Str))=false:=by decide):
  PS3 X (.Try body [.ExceptHandler (some (.Name c np)) none (b0::bs) hpos] [] [] pos) (qXo cs tb th):=by
 intro pins s τ G H D I h
 refine wpAny_Try_except (lKz (hb pins s τ G H D _ I h) (fun f s1 q=> ?_) fun e s1 q=> ?_)
 ·cases f with
  | next=>exact lXp q
  | ret v=>exact q
  | brk=>exact q
  | cont=>exact q
 obtain⟨a,C,cn,B,a0,τ',G1,H1,s2,G',H',rfl,e1,I1,l,e2,g,hc,hin,hR⟩:=q
 obtain⟨σ,I2,hs2,hg2⟩:=I1
 obtain⟨C',Dc,hC',hmg,hx⟩:=(hcs cn hin).ex
 cases hC'.one hc
 refine qJw I2 l hst hfr fun h3 I3 l3=> ?_
 refine wpAny_handleBy_cons (codeAny_handlers_test (kKw (X:=hX X a) (Inv.mark I3 a) hg hmg ?_ hdb)) (by intro q;cases q)
 obtain⟨ob,hob,hcl⟩:=l3.fly.there
 have LT:Looks (model X.prog X.w) h3 (typeOf (.ref a)) (.ref C):=hcl▸(Looks.ld (part:=none) hob).andThen .now
 refine (exm_one (K:=X.K) I3.kIn LT hx).at ?_
 (refine codeAny_handlers_suite ?_)
 refine Lies.again (X:=X) I2 l3 fun h4 l4=> ?_
 obtain⟨ob4,hcl4,I4⟩:=qUp I2 l4
 have ea:Ext H' (upd H' a (.frz ob4 (.ext fun h=>h.get? a=some ob4))):= .upd (.none l4.na)
 have hs5:SRel X.K (upd H' a (.frz ob4 (.ext fun h=>h.get? a=some ob4))) σ τ':=(hs2.mono e2).mono ea
 have ga:G' a=none:=g.fresh l4.na
 have hg5:GRel X.K (upd H' a (.frz ob4 (.ext fun h=>h.get? a=some ob4))) (gup G' a (.exc cn)):=g.upd (.none l4.na) ⟨ob4,C,_,jKg,hcl4,hc⟩
 have:=hh a pins _ _ _ _ _ (Inv3.mark ⟨_,I4,hs5,hg5⟩ a) (hR a ga)
 refine lKz this (fun f s6 q=> ?_) fun e s6 q=>absurd q (hn e s6)
 cases f with
 | next=>
  obtain⟨τ6,G6,H6,e6,I6,q⟩:=q
  obtain⟨σ6,I6,hs6,hg6⟩:=Inv3.unmark I6 I2.ok
  exact⟨_,G6,H6,((e1.trans e2).trans ea).trans e6,⟨_,I6,hs6,hg6⟩,q⟩
 | ret v=>obtain⟨_,_,_,_,_,_,_,q⟩:=q;exact q.elim
 | brk=>obtain⟨_,_,_,_,_,q⟩:=q;exact q.elim
 | cont=>obtain⟨_,_,_,_,_,q⟩:=q;exact q.elim
end
end L3
namespace HT
open PySem PyProof.Rows
section
variable {prog:Program} {w:World} {A:Around} {E:Value->Shared->Prop} {s:Shared}
end
end HT
namespace L3
open PySem PySem.Spec PyProof.Rows L2
section
variable {X:Cx}
end
end L3
namespace L3
open PySem
def itr {α:Type} (f:α->α):Nat->α->α
 | 0,a=>a
 | n+1,a=>itr f n (f a)
theorem jKm {α:Type} (f:α->α):∀(m n:Nat) (a:α),itr f (m+n) a=itr f n (itr f m a)
 | 0,n,a=>by rw[lVt];rfl
 | m+1,n,a=>by rw[Nat.add_right_comm];exact jKm f m n (f a)
theorem jXm {α:Type} (f:α->α) (n:Nat) (a:α):itr f (n+1) a=f (itr f n a):=jKm f n 1 a
namespace St
open SetTable
theorem getD_at {xs:Array Nat} {k d:Nat} (h:k<xs.size):xs.getD k d=xs[k]:=by simp[Array.getD,h]
theorem qY1 (xs:Array Nat) (j:Nat) (hs:∀a b:Nat,a<b->∀(hb:b<xs.size),xs.getD a 0<xs[b]):∀(fuel lo hi:Nat),hi<=xs.size->lo<=hi->hi-lo<=fuel->(∀k,k<lo->xs.getD k 0<j)->(∀k (h:k<xs.size),hi<=k->j<=xs[k])->
  (below.go xs j fuel lo hi)<=xs.size/\(∀k,k<below.go xs j fuel lo hi->xs.getD k 0<j)/\(∀k (h:k<xs.size),below.go xs j fuel lo hi<=k->j<=xs[k])
 | 0,lo,hi,h1,h2,h3,h4,h5=>by
  have e:hi=lo:=by omega
  subst e
  exact⟨h1,h4,h5⟩
 | fuel+1,lo,hi,h1,h2,h3,h4,h5=>by
  unfold below.go
  by_cases c:lo<hi
  ·rw[lJc c]
   have hm:(lo+hi) / 2<xs.size:=by omega
   by_cases d:xs.getD ((lo+hi) / 2) j<j
   ·simp only[d,lKp]
    refine qY1 xs j hs fuel _ hi h1 (by omega) (by omega) (fun k hk=> ?_) h5
    rw[getD_at hm] at d
    by_cases e:k=(lo+hi) / 2
    ·subst e;rw[getD_at hm];exact d
    ·exact Nat.lt_trans (hs k _ (by omega) hm) d
   ·simp only[d,lKd]
    refine qY1 xs j hs fuel lo _ (by omega) (by omega) (by omega) h4 fun k h hk=> ?_
    rw[getD_at hm] at d
    by_cases e:k=(lo+hi) / 2
    ·subst e;omega
    ·have:=hs ((lo+hi) / 2) k (by omega) h
     rw[getD_at hm] at this
     omega
  ·rw[lJa c]
   have e:hi=lo:=by omega
   subst e
   exact⟨h1,h4,h5⟩
def Ris (xs:Array Nat):Prop:=xs.toList.Pairwise (· < ·)
theorem Ris.lt {xs:Array Nat} (h:Ris xs) (a b:Nat) (hab:a<b) (hb:b<xs.size):xs.getD a 0<xs[b]:=by
 rw[getD_at (by omega)]
 have:=lYu.mp h a b (by simpa using (by omega:a<xs.size)) (by simpa using hb) hab
 simpa using this
theorem jY7 {xs:Array Nat} (h:Ris xs) (j:Nat):below xs j<=xs.size/\(∀k,k<below xs j->xs.getD k 0<j)/\(∀k (h:k<xs.size),below xs j<=k->j<=xs[k]):=
 qY1 xs j h.lt xs.size 0 xs.size (lJh _) (lJu _) (lJh _) (fun k hk=>absurd hk (lKv _)) fun k h1 h2=>absurd h1 (by omega)
theorem kX2 {xs:Array Nat} (h:Ris xs) {i:Nat} (hi:i<xs.size):below xs xs[i]=i:=by
 obtain⟨h1,h2,h3⟩:=jY7 h xs[i]
 rcases lX2 (below xs xs[i]) i with c | c | c
 ·have a:=h3 (below xs xs[i]) (by omega) (lJh _)
  have b:=h.lt _ i c hi
  rw[getD_at (by omega)] at b
  omega
 ·exact c
 ·have:=h2 i c
  rw[getD_at hi] at this
  omega
theorem below_next {xs:Array Nat} (h:Ris xs) {i:Nat} (hi:i<xs.size):below xs (xs[i]+1)=i+1:=by
 obtain⟨h1,h2,h3⟩:=jY7 h (xs[i]+1)
 rcases lX2 (below xs (xs[i]+1)) (i+1) with c | c | c
 ·have:=h3 i hi (by omega)
  omega
 ·exact c
 ·have a:=h2 (i+1) c
  have hi1:i+1<xs.size:=by omega
  rw[getD_at hi1] at a
  have b:=h.lt i (i+1) (by omega) hi1
  rw[getD_at hi] at b
  omega
theorem below_zero {xs:Array Nat} (h:Ris xs):below xs 0=0:=by
 obtain⟨h1,h2,h3⟩:=jY7 h 0
 rcases Nat.eq_zero_or_pos (below xs 0) with c | c
 ·exact c
 ·exact absurd (h2 0 c) (lKv _)
theorem insertAt_ris {xs:Array Nat} (h:Ris xs) {j:Nat} (hj:j∉xs.toList):Ris (insertAt xs (below xs j) j):=by
 obtain⟨h1,h2,h3⟩:=jY7 h j
 unfold Ris
 rw[SetTable.toList_insertAt,lKc,List.pairwise_cons]
 have up:∀b,b∈xs.toList.drop (below xs j)->j<b:=by
  intro b hb
  obtain⟨k,hk,e⟩:=lVu hb
  rw[lVq] at hk
  rw[List.getElem_drop] at e
  have hk':below xs j+k<xs.size:=by simp at hk;omega
  have:=h3 _ hk' (by omega)
  have e':xs[below xs j+k]=b:=by simpa using e
  have ne:b≠j:=fun z=>hj (z▸lQ4 hb)
  omega
 have dn:∀a,a∈xs.toList.take (below xs j)->a<j:=by
  intro a ha
  obtain⟨k,hk,e⟩:=lVu ha
  rw[lQc] at hk
  rw[List.getElem_take] at e
  have:=h2 k (by omega)
  rw[getD_at (by simp at hk;omega)] at this
  have e':xs[k]'(by simp at hk;omega)=a:=by simpa using e
  omega
 refine⟨List.Pairwise.sublist (lQ1 _ _) h,⟨up,List.Pairwise.sublist (lQ5 _ _) h⟩,?_⟩
 intro a ha b hb
 (rcases lJk.mp hb with rfl | hb)
 ·exact dn a ha
 ·exact Nat.lt_trans (dn a ha) (up b hb)
theorem has_nil (j:Nat):has #[] j=false:=rfl
theorem slot_cases {t:SetTable} (hd:t.dummies= #[]) (j:Nat):(t.slot j= .empty/\(Ris t.place->j∉t.place.toList))\/∃i,t.slot j= .live i/\∃h:i<t.place.size,t.place[i]=j/\i=below t.place j:=by
 unfold SetTable.slot
 by_cases c:(t.place[below t.place j]? == some j)=true
 ·right
  refine⟨below t.place j,?_,?_⟩
  ·simp only[c,lKp]
  ·have c':=eq_of_beq c
   obtain⟨h,e⟩:=lXf.mp c'
   exact⟨h,e,rfl⟩
 ·left
  refine⟨?_,fun hr hm=> ?_⟩
  ·rw[hd]
   simp only[c,has_nil,lKn,lKd]
  ·obtain⟨k,hk,e⟩:=lVu hm
   have hk':k<t.place.size:=by simpa using hk
   have e':t.place[k]=j:=by simpa using e
   apply c
   rw[<-e',kX2 hr hk',lKu hk']
   exact beq_self_eq_true _
theorem slot_empty {t:SetTable} (hd:t.dummies= #[]) {j:Nat} (h:j∉t.place.toList):t.slot j= .empty:=by
 rcases slot_cases hd j with c | ⟨i,_,hi,e,_⟩
 ·exact c.1
 ·exact absurd (by rw[<-e];simp) h
theorem slot_live {t:SetTable} (hr:Ris t.place) {i:Nat} (hi:i<t.place.size):t.slot t.place[i]= .live i:=by
 unfold SetTable.slot
 rw[kX2 hr hi]
 simp[hi]
theorem kZw (mask i:Nat):runEnd mask i-i<=9:=by unfold runEnd;split<;>omega
def kJ7 (t:SetTable) (p:Probe):Prop:=p.j=p.i/\p.more=runEnd t.mask p.i-p.i
theorem jZa (t:SetTable):∀(m:Nat) (p:Probe),m<=p.more->itr t.advance m p={p with j:=p.j+m,more:=p.more-m}
 | 0,p,_=>by cases p;rfl
 | m+1,p,h=>by
  show itr t.advance m (t.advance p)=_
  have e:t.advance p={p with j:=p.j+1,more:=p.more-1}:=by unfold SetTable.advance;rw[lJc (by omega)]
  rw[e,jZa t m _ (by show m<=p.more-1;omega)]
  simp only[Probe.mk.injEq,and_true,true_and]
  omega
theorem qVm (t:SetTable) (p:Probe):∃m,m<=p.more+1/\kJ7 t (itr t.advance m p)/\(itr t.advance m p).i=(leap t.mask p.i p.perturb).1/\(itr t.advance m p).perturb=p.perturb / 32:=by
 refine⟨p.more+1,lJh _,?_⟩
 rw[jXm,jZa t p.more p (lJh _)]
 unfold SetTable.advance
 rw[lJa (by show ¬ p.more-p.more>0;omega)]
 exact⟨⟨rfl,rfl⟩,rfl,rfl⟩
def lp (mask:Nat) (x:Nat×Nat):Nat×Nat:=leap mask x.1 x.2
theorem jZ9 (t:SetTable):∀(k:Nat) (p:Probe),kJ7 t p->∃m,m<=10*k/\kJ7 t (itr t.advance m p)/\((itr t.advance m p).i,(itr t.advance m p).perturb)=itr (lp t.mask) k (p.i,p.perturb)
 | 0,p,h=>⟨0,lJh _,h,rfl⟩
 | k+1,p,h=>by
  obtain⟨m,h1,h2,h3,h4⟩:=qVm t p
  obtain⟨m',h1',h2',h3'⟩:=jZ9 t k _ h2
  have hm:p.more<=9:=by rw[h.2];exact kZw _ _
  refine⟨m+m',by omega,?_,?_⟩
  ·rw[jKm];exact h2'
  ·rw[jKm,h3',h3,h4];rfl
theorem kVk (mask:Nat):∀(k:Nat) (x:Nat×Nat),(itr (lp mask) k x).2=x.2 / 32^k
 | 0,x=>by simp[itr]
 | k+1,x=>by
  show (itr (lp mask) k (lp mask x)).2=_
  rw[kVk mask k]
  show x.2 / 32 / 32^k=_
  rw[Nat.div_div_eq_div_mul,Nat.pow_succ,Nat.mul_comm]
def five (mask i:Nat):Nat:=(i*5+1)%(mask+1)
theorem kVl (mask:Nat):∀(k i:Nat),itr (lp mask) k (i,0)=(itr (five mask) k i,0)
 | 0,i=>rfl
 | k+1,i=>by
  show itr (lp mask) k (lp mask (i,0))=_
  have e:lp mask (i,0)=(five mask i,0):=by simp[lp,leap,five]
  rw[e];exact kVl mask k _
def orb (mask:Nat):Nat->Nat->List Nat
 | 0,_=>[]
 | n+1,i=>i::orb mask n (five mask i)
theorem qJj (mask:Nat):∀(n i k:Nat),k<n->(orb mask n i)[k]? =some (itr (five mask) k i)
 | n+1,i,0,_=>rfl
 | n+1,i,k+1,h=>by
  show (orb mask n (five mask i))[k]? =_
  exact qJj mask n _ k (by omega)
theorem kVb (mask:Nat):∀(n i:Nat),(orb mask n i).length=n
 | 0,_=>rfl
 | n+1,i=>by simp[orb,kVb mask n]
theorem qJi {mask n i j:Nat} (h:j∈orb mask n i):∃k,k<n/\itr (five mask) k i=j:=by
 obtain⟨k,hk,e⟩:=lVu h
 rw[kVb] at hk
 refine⟨k,hk,?_⟩
 have:=qJj mask n i k hk
 rw[lJm (by rw[kVb];exact hk),e] at this
 (exact (lJn this).symm)
def Full (mask:Nat):Prop:=(∀j,j<=mask->∃k,k<=mask/\itr (five mask) k 0=j)/\itr (five mask) (mask+1) 0=0
theorem kVs {mask:Nat} (h:(List.range (mask+1)).all (fun j=>(orb mask (mask+1) 0).contains j)=true) (h0:itr (five mask) (mask+1) 0=0):Full mask:=by
 refine⟨fun j hj=> ?_,h0⟩
 rw[lQf] at h
 have:=h j (lKq.mpr (by omega))
 obtain⟨k,hk,e⟩:=qJi (List.contains_iff_mem.mp this)
 exact⟨k,by omega,e⟩
theorem full7:Full 7:=kVs (by decide +kernel) (by decide +kernel)
theorem full31:Full 31:=kVs (by decide +kernel) (by decide +kernel)
theorem full127:Full 127:=kVs (by decide +kernel) (by decide +kernel)
def bts (mask:Nat):Nat->Nat->Nat->Nat
 | 0,_,acc=>acc
 | n+1,i,acc=>bts mask n (five mask i) (acc ||| 2^i)
theorem qK0 {mask j:Nat}:∀ {n i acc:Nat},(bts mask n i acc).testBit j=true->acc.testBit j=true\/j∈orb mask n i
 | 0,i,acc,h=> .inl h
 | n+1,i,acc,h=>by
  rcases qK0 (n:=n) h with h | h
  ·rw[Nat.testBit_or,Bool.or_eq_true] at h
   rcases h with h | h
   ·exact .inl h
   ·rw[Nat.testBit_two_pow] at h
    exact .inr (by rw[show j=i from (of_decide_eq_true h).symm];exact lJz ..)
  ·exact .inr (lJ4 _ h)
theorem kXr {mask:Nat} (h:bts mask (mask+1) 0 0=2^(mask+1)-1) (h0:itr (five mask) (mask+1) 0=0):Full mask:=by
 refine⟨fun j hj=> ?_,h0⟩
 have hb:(bts mask (mask+1) 0 0).testBit j=true:=by rw[h,Nat.testBit_two_pow_sub_one];exact lJ3 (by omega)
 rcases qK0 hb with z | z
 ·rw[Nat.zero_testBit] at z;cases z
 ·obtain⟨k,hk,e⟩:=qJi z
  exact⟨k,by omega,e⟩
theorem full511:Full 511:=kXr (by decide +kernel) (by decide +kernel)
theorem full2047:Full 2047:=kXr (by decide +kernel) (by decide +kernel)
theorem Full.all {mask:Nat} (h:Full mask) {i j:Nat} (hi:i<=mask) (hj:j<=mask):∃k,k<=mask/\itr (five mask) k i=j:=by
 obtain⟨a,ha,ea⟩:=h.1 i hi
 obtain⟨b,hb,eb⟩:=h.1 j hj
 by_cases c:a<=b
 ·refine⟨b-a,by omega,?_⟩
  rw[<-ea,<-jKm,show a+(b-a)=b by omega,eb]
 ·refine⟨mask+1-a+b,by omega,?_⟩
  rw[<-ea,<-jKm,show a+(mask+1-a+b)=mask+1+b by omega,jKm,h.2,eb]
theorem qK1 (h:Int):bits h<2^64:=by
 unfold bits
 have h1:=lVv h (show (2^64:Int)≠0 by decide)
 have h2:=lVw h (show (0:Int)<2^64 by decide)
 omega
theorem kJn (t:SetTable) (h:Int):kJ7 t (t.probeStart h):=⟨rfl,rfl⟩
theorem met {t:SetTable} (hf:Full t.mask) (h:Int) {j:Nat} (hj:j<=t.mask):∃n,n<=10*(t.mask+14)/\(itr t.advance n (t.probeStart h)).j=j:=by
 obtain⟨m,h1,h2,h3⟩:=jZ9 t 13 _ (kJn t h)
 have hp:(itr t.advance m (t.probeStart h)).perturb=0:=by
  have e:=lKg Prod.snd h3
  rw[kVk] at e
  refine e.trans (Nat.div_eq_of_lt (lKe (qK1 h) (by decide)))
 have hi:(itr t.advance m (t.probeStart h)).i<=t.mask:=by
  have e:=lKg Prod.fst h3
  rw[jXm] at e
  have:(lp t.mask (itr (lp t.mask) 12 ((t.probeStart h).i,(t.probeStart h).perturb))).1<=t.mask:=by
   unfold lp leap
   exact lQ6 (lVx _ (lXg _))
  rw[<-e] at this
  exact this
 obtain⟨k,hk,ek⟩:=hf.all hi hj
 obtain⟨m',h1',h2',h3'⟩:=jZ9 t k _ h2
 refine⟨m+m',by omega,?_⟩
 rw[jKm,h2'.1]
 rw[hp,kVl] at h3'
 exact (lKg Prod.fst h3').trans ek
theorem adv_dummy (t:SetTable) (p:Probe):(t.advance p).dummy=p.dummy:=by unfold SetTable.advance;split<;>rfl
def Miss (t:SetTable) (hashAt:Nat->Int) (h:Int) (j:Nat):Prop:=∃i,t.slot j= .live i/\hashAt i≠h
theorem pgo_ok {t:SetTable} (hd:t.dummies= #[]) (hashAt:Nat->Int) (h:Int):∀(n fuel:Nat) (p:Probe),t.slot (itr t.advance n p).j= .empty->n<fuel->p.dummy=none->
  (∃m,m<=n/\t.slot (itr t.advance m p).j= .empty/\(∀k,k<m->Miss t hashAt h (itr t.advance k p).j)/\probe.go t hashAt h fuel p=some (.empty (itr t.advance m p).j none))\/
  (∃m i,m<n/\t.slot (itr t.advance m p).j= .live i/\hashAt i=h/\(∀k,k<m->Miss t hashAt h (itr t.advance k p).j)/\probe.go t hashAt h fuel p=some (.candidate (itr t.advance m p).j i (itr t.advance (m+1) p)))
 | n,0,p,_,hn,_=>absurd hn (lKv _)
 | n,fuel+1,p,he,hn,hp=>by
  rcases slot_cases hd p.j with ⟨c,_⟩ | ⟨i,c,_⟩
  ·left
   refine⟨0,lJu _,c,fun k hk=>absurd hk (lKv _),?_⟩
   unfold probe.go
   rw[c,hp];rfl
  ·by_cases q:hashAt i=h
   ·right
    have n0:n≠0:=by rintro rfl;rw[show itr t.advance 0 p=p from rfl,c] at he;cases he
    refine⟨0,i,by omega,c,q,fun k hk=>absurd hk (lKv _),?_⟩
    unfold probe.go
    simp only[c,q,beq_self_eq_true,lKp]
    rfl
   ·have n0:n≠0:=by rintro rfl;rw[show itr t.advance 0 p=p from rfl,c] at he;cases he
    obtain⟨n',rfl⟩:∃n',n=n'+1:=⟨n-1,by omega⟩
    have e:probe.go t hashAt h (fuel+1) p=probe.go t hashAt h fuel (t.advance p):=by
     conv=>lhs;unfold probe.go
     have q':(hashAt i == h)=false:=by simpa using q
     simp only[c,q',lKn,lKd]
    have ih:=pgo_ok hd hashAt h n' fuel (t.advance p) he (by omega) (by rw[adv_dummy];exact hp)
    rw[e]
    rcases ih with ⟨m,h1,h2,h3,h4⟩ | ⟨m,i',h1,h2,h3,h4,h5⟩
    ·left
     refine⟨m+1,by omega,h2,fun k hk=> ?_,h4⟩
     cases k with
     | zero=>exact⟨i,c,q⟩
     | succ k=>exact h3 k (by omega)
    ·right
     refine⟨m+1,i',by omega,h2,h3,fun k hk=> ?_,h5⟩
     cases k with
     | zero=>exact⟨i,c,q⟩
     | succ k=>exact h4 k (by omega)
end St
end L3
namespace L3
open PySem
namespace St
open SetTable
theorem fm_congr {α β:Type} {f g:α->Option β}:∀ {l:List α},(∀x,x∈l->f x=g x)->l.filterMap f=l.filterMap g
 | [],_=>rfl
 | a::l,h=>by rw[lQa,lQa,h a (lJz ..),fm_congr fun x hx=>h x (lJ4 _ hx)]
theorem jXp {g f:Nat->Option Nat} {j k:Nat} (hf:f j=none) (hg:g j=some k) (he:∀i,i≠j->g i=f i):∀ {l:List Nat},l.Nodup->j∈l->(l.filterMap g).Perm (k::l.filterMap f)
 | [],_,h=>absurd h (lJr)
 | a::l,hn,h=>by
  rw[lK0] at hn
  by_cases e:a=j
  ·subst e
   rw[lX3 hg,lYv hf]
   refine List.Perm.cons _ (List.Perm.of_eq (fm_congr fun x hx=>he x ?_))
   rintro rfl;exact hn.1 hx
  ·have ih:=jXp hf hg he hn.2 ((lJk.mp h).resolve_left (fun z=>e z.symm))
   cases q:f a with
   | none=>rw[lYv (by rw[he a e];exact q),lYv q];exact ih
   | some b=>
    rw[lX3 (by rw[he a e];exact q),lX3 q]
    exact (List.Perm.cons b ih).trans (List.Perm.swap _ _ _)
def jKt (owner:Array (Option Nat)) (j:Nat):Option Nat:=owner.getD j none
def ChainO (t:SetTable) (owner:Array (Option Nat)) (h:Int) (j:Nat):Prop:=∃n,(itr t.advance n (t.probeStart h)).j=j/\∀k,k<n->jKt owner (itr t.advance k (t.probeStart h)).j≠none
structure Own (t:SetTable) (hashes:List Int) (owner:Array (Option Nat)) (n:Nat):Prop where
 size:owner.size=t.mask+1
 perm:((List.range (t.mask+1)).filterMap (jKt owner)).Perm (List.range n)
 chain:∀j i,jKt owner j=some i->∃h,hashes[i]? =some h/\ChainO t owner h j
theorem qYg {mask:Nat} {x:Nat×Nat} (hx:x.1<=mask):∀(k:Nat),(itr (lp mask) k x).1<=mask
 | 0=>hx
 | k+1=>by
  rw[jXm]
  unfold lp leap
  exact lQ6 (lVx _ (lXg _))
theorem kUx {mask i:Nat} (h:i<=mask):runEnd mask i<=mask:=by unfold runEnd;split<;>omega
theorem kZx (mask i:Nat):i<=runEnd mask i:=by unfold runEnd;split<;>omega
theorem qKe {t:SetTable} {owner:Array (Option Nat)} (hz:owner.size=t.mask+1):∀(fuel:Nat) (p:Probe),kJ7 t p->p.i<=t.mask->∀K,K<fuel->jKt owner (itr (lp t.mask) K (p.i,p.perturb)).1=none->
  ∃n j,layClean.free t.mask owner fuel p.i p.perturb=some j/\(itr t.advance n p).j=j/\j<=t.mask/\jKt owner j=none/\∀k,k<n->jKt owner (itr t.advance k p).j≠none
 | 0,p,_,_,K,hK,_=>absurd hK (lKv _)
 | fuel+1,p,hl,hi,K,hK,he=>by
  have hr:=kUx hi
  have hg:=kZx t.mask p.i
  have sl:∀k,k<runEnd t.mask p.i+1-p.i->((owner.getD (p.i+k) (some 0)).isNone=true↔jKt owner (p.i+k)=none):=by
   intro k hk
   unfold jKt
   have:p.i+k<owner.size:=by omega
   simp[Array.getD,this]
  have pj:∀k,k<runEnd t.mask p.i+1-p.i->(itr t.advance k p).j=p.i+k:=by
   intro k hk
   rw[jZa t k p (by rw[hl.2];omega)]
   show p.j+k=_
   rw[hl.1]
  unfold layClean.free
  cases q:(List.range (runEnd t.mask p.i+1-p.i)).find? (fun k=>(owner.getD (p.i+k) (some 0)).isNone) with
  | some k=>
   obtain⟨h1,as,bs,h2,h3⟩:=List.find?_eq_some_iff_append.mp q
   have hk:k<runEnd t.mask p.i+1-p.i:=by
    have:k∈List.range (runEnd t.mask p.i+1-p.i):=by rw[h2];simp
    exact lKq.mp this
   have ha:∀x,x<k->x∈as:=by
    intro x hx
    have e:as.length=k:=by
     have e1:(List.range (runEnd t.mask p.i+1-p.i))[as.length]? =some k:=by rw[h2];simp
     rw[lX4 (by have:=lKg List.length h2;simp at this;omega)] at e1
     exact lJn e1
    have e2:(List.range (runEnd t.mask p.i+1-p.i))[x]? =as[x]? :=by rw[h2,lK1 (by omega)]
    rw[lX4 (by omega)] at e2
    exact lJo e2.symm
   refine⟨k,p.i+k,rfl,pj k hk,by omega,(sl k hk).mp h1,fun x hx=> ?_⟩
   rw[pj x (by omega)]
   intro z
   have:=h3 x (ha x hx)
   rw[(sl x (by omega)).mpr z] at this
   exact absurd this (by decide)
  | none=>
   have none_:∀k,k<runEnd t.mask p.i+1-p.i->jKt owner (p.i+k)≠none:=by
    intro k hk z
    have:=List.find?_eq_none.mp q k (lKq.mpr hk)
    exact this ((sl k hk).mpr z)
   have K0:K≠0:=by
    rintro rfl
    exact none_ 0 (by omega) he
   obtain⟨K',rfl⟩:∃K',K=K'+1:=⟨K-1,by omega⟩
   have hm:p.more=runEnd t.mask p.i-p.i:=hl.2
   have e1:itr t.advance (p.more+1) p={p with j:=(leap t.mask p.i p.perturb).1,more:=runEnd t.mask (leap t.mask p.i p.perturb).1-(leap t.mask p.i p.perturb).1,i:=(leap t.mask p.i p.perturb).1,perturb:=(leap t.mask p.i p.perturb).2}:=by
    rw[jXm,jZa t p.more p (lJh _)]
    unfold SetTable.advance
    rw[lJa (by show ¬ p.more-p.more>0;omega)]
   have hl2:kJ7 t (itr t.advance (p.more+1) p):=by rw[e1];exact⟨rfl,rfl⟩
   have hi2:(itr t.advance (p.more+1) p).i<=t.mask:=by
    rw[e1];exact lQ6 (lVx _ (lXg _))
   obtain⟨n,j,g1,g2,g3,g4,g5⟩:=qKe hz fuel _ hl2 hi2 K' (by omega) (by rw[e1];exact he)
   refine⟨p.more+1+n,j,?_,?_,g3,g4,fun k hk=> ?_⟩
   ·rw[e1] at g1;exact g1
   ·rw[jKm];exact g2
   ·by_cases c:k<p.more+1
    ·rw[pj k (by omega)];exact none_ k (by omega)
    ·have:=g5 (k-(p.more+1)) (by omega)
     rw[<-jKm,show p.more+1+(k-(p.more+1))=k by omega] at this
     exact this
theorem jV7 {owner:Array (Option Nat)} {j k:Nat} (hj:j<owner.size) (i:Nat):jKt (owner.setIfInBounds j (some k)) i=if i=j then some k else jKt owner i:=by
 unfold jKt
 rw[lXi,lXi,lYf]
 by_cases e:j=i
 ·subst e;simp[hj]
 ·rw[lJa e,lJa (fun z=>e z.symm)]
theorem qKc {t:SetTable} (hf:Full t.mask) {owner:Array (Option Nat)} {hashes:List Int} {n:Nat} (o:Own t hashes owner n) (hn:n<=t.mask) (h:Int):∃K,K<turns t.mask/\jKt owner (itr (lp t.mask) K ((t.probeStart h).i,(t.probeStart h).perturb)).1=none:=by
 have hex:∃j,j<=t.mask/\jKt owner j=none:=by
  apply lVa
  intro q
  have all:∀j,j∈List.range (t.mask+1)->(jKt owner j).isSome=true:=by
   intro j hj
   cases e:jKt owner j with
   | none=>exact absurd ⟨j,by have:=lKq.mp hj;omega,e⟩ q
   | some _=>rfl
  have len:∀l:List Nat,(∀j,j∈l->(jKt owner j).isSome=true)->(l.filterMap (jKt owner)).length=l.length:=by
   intro l hl
   induction l with
   | nil=>rfl
   | cons a l ih=>
    obtain⟨b,hb⟩:=lXt.mp (hl a (lJz ..))
    rw[lX3 hb,lKm,lKm,ih fun j hj=>hl j (lJ4 _ hj)]
  have:=o.perm.length_eq
  rw[len _ all,lVh,lVh] at this
  omega
 obtain⟨j,hj,e⟩:=hex
 have hs:(t.probeStart h).i<=t.mask:=lQ6 (lVx _ (lXg _))
 have h13:=kVk t.mask 13 ((t.probeStart h).i,(t.probeStart h).perturb)
 have z:(t.probeStart h).perturb / 32^13=0:=Nat.div_eq_of_lt (lKe (qK1 h) (by decide))
 obtain⟨k,hk,ek⟩:=hf.all (qYg (x:=((t.probeStart h).i,(t.probeStart h).perturb)) hs 13) hj
 refine⟨13+k,by unfold turns;omega,?_⟩
 rw[jKm]
 generalize hy:itr (lp t.mask) 13 ((t.probeStart h).i,(t.probeStart h).perturb)=y at h13 ek
 obtain⟨y1,y2⟩:=y
 have y0:y2=0:=h13.trans z
 subst y0
 rw[kVl,ek]
 exact e
theorem qQ7 {t:SetTable} (hf:Full t.mask) {owner:Array (Option Nat)} {hashes:List Int} {n:Nat} {h:Int} (o:Own t hashes owner n) (hn:n<t.mask+1) (hh:hashes[n]? =some h) (hn':n<=t.mask):
  ∃j,layClean.free t.mask owner (turns t.mask) (bits h%(t.mask+1)) (bits h)=some j/\Own t hashes (owner.setIfInBounds j (some n)) (n+1):=by
 obtain⟨K,hK,eK⟩:=qKc hf o hn' h
 have hs:(t.probeStart h).i<=t.mask:=lQ6 (lVx _ (lXg _))
 obtain⟨m,j,g1,g2,g3,g4,g5⟩:=qKe o.size (turns t.mask) (t.probeStart h) (kJn t h) hs K hK eK
 have hj:j<owner.size:=by rw[o.size];omega
 have grow:∀i,jKt owner i≠none->jKt (owner.setIfInBounds j (some n)) i≠none:=by
  intro i hi
  rw[jV7 hj]
  split
  ·simp
  ·exact hi
 refine⟨j,g1,by rw[lYw];exact o.size,?_,?_⟩
 ·refine (jXp (f:=jKt owner) (j:=j) (k:=n) g4 (by rw[jV7 hj,lJc rfl]) (fun i hi=>by rw[jV7 hj,lJa hi]) (List.nodup_range) (lKq.mpr (by omega))).trans ?_
  rw[lKx (n:=n)]
  exact (List.Perm.cons n o.perm).trans (List.perm_append_singleton n _).symm
 ·intro i x hx
  rw[jV7 hj] at hx
  by_cases e:i=j
  ·subst e
   rw[lJc rfl] at hx;cases hx
   exact⟨h,hh,m,g2,fun k hk=>grow _ (g5 k hk)⟩
  ·rw[lJa e] at hx
   obtain⟨h',e1,n',e2,e3⟩:=o.chain i x hx
   exact⟨h',e1,n',e2,fun k hk=>grow _ (e3 k hk)⟩
theorem qJh (t:SetTable) (hashes:List Int):Own t hashes (Array.replicate (t.mask+1) none) 0:=by
 have z:∀j,jKt (Array.replicate (t.mask+1) none) j=none:=by
  intro j
  unfold jKt
  rw[lXi,Array.getElem?_replicate]
  split<;>rfl
 refine⟨by simp,?_,fun j i h=>by rw[z] at h;cases h⟩
 have:(List.range (t.mask+1)).filterMap (jKt (Array.replicate (t.mask+1) none))=[]:=by
  rw[List.filterMap_eq_nil_iff];intro j _;exact z j
 rw[this];exact List.Perm.nil
theorem qKf {t:SetTable} (hf:Full t.mask) (all:List Int) (hn:all.length<=t.mask):∀(l:List Int) (done:List Int) (owner:Array (Option Nat)),all=done++l->Own t all owner done.length->
  ∃owner',l.foldl (fun (acc:Option (Array (Option Nat)×Nat)) h=>do
   let (owner,k) <-acc
   let j <-layClean.free t.mask owner (turns t.mask) (bits h%(t.mask+1)) (bits h)
   pure (owner.setIfInBounds j (some k),k+1)) (some (owner,done.length))=some (owner',all.length)/\Own t all owner' all.length
 | [],done,owner,e,o=>by
  rw[lQ0] at e;subst e
  exact⟨owner,rfl,o⟩
 | h::l,done,owner,e,o=>by
  have hlt:done.length<all.length:=by rw[e];simp
  obtain⟨j,h1,o'⟩:=qQ7 (h:=h) hf o (by omega) (by rw[e];simp) (by omega)
  have e':all=(done++[h])++l:=by rw[e];simp
  obtain⟨owner',h2,h3⟩:=qKf hf all hn l (done++[h]) _ e' (by simpa using o')
  refine⟨owner',?_,h3⟩
  rw[lXc]
  have:(do
   let (owner,k) <-some (owner,done.length)
   let j <-layClean.free t.mask owner (turns t.mask) (bits h%(t.mask+1)) (bits h)
   pure (owner.setIfInBounds j (some k),k+1))=some (owner.setIfInBounds j (some done.length),done.length+1):=by
   show (layClean.free t.mask owner (turns t.mask) (bits h%(t.mask+1)) (bits h)).bind _=_
   rw[h1];rfl
  rw[this]
  simpa using h2
theorem kVo {t:SetTable} (hf:Full t.mask) (hashes:Array Int) (hn:hashes.size<=t.mask):∃owner,layClean t.mask hashes=some owner/\Own t hashes.toList owner hashes.size:=by
 obtain⟨owner,h1,h2⟩:=qKf hf hashes.toList (by simpa using hn) hashes.toList [] _ rfl (qJh t _)
 refine⟨owner,?_,by simpa using h2⟩
 unfold layClean
 rw[<-Array.foldl_toList]
 have h1':=h1
 simp only[lQd] at h1'
 rw[h1'];rfl
def Chain (t:SetTable) (h:Int) (j:Nat):Prop:=∃n,(itr t.advance n (t.probeStart h)).j=j/\∀k,k<n->(itr t.advance k (t.probeStart h)).j∈t.place.toList
structure Good (t:SetTable) (hs:List Int):Prop where
 len:t.place.size=hs.length
 ris:Ris t.place
 dum:t.dummies= #[]
 chain:∀x,x∈t.place.toList.zip hs->Chain t x.2 x.1
theorem laid_ok {mask:Nat} (hf:Full mask) (finger moves:Nat) (led plain:Bool) (hashes:Array Int) (hn:hashes.size<=mask):
  ∃t order,laid mask finger moves led plain hashes=some (t,order)/\t.mask=mask/\t.led=led/\t.plain=plain/\order.toList.Perm (List.range hashes.size)/\Good t (order.toList.filterMap (hashes[·]?)):=by
 let t0:SetTable:={mask:=mask,place:= #[],dummies:= #[],finger:=finger,led:=led,moves:=moves,plain:=plain}
 obtain⟨owner,h1,o⟩:=kVo (t:=t0) hf hashes hn
 have hl:layClean mask hashes=some owner:=h1
 let live:=(List.range (mask+1)).filterMap fun j=>((owner.getD j none).map (j,·))
 refine⟨{mask:=mask,place:=(live.map (·.1)).toArray,dummies:= #[],finger:=finger,led:=led,moves:=moves,plain:=plain},(live.map (·.2)).toArray,?_,rfl,rfl,rfl,?_,?_⟩
 ·unfold laid
  rw[hl];rfl
 ·have e:live.map (·.2)=(List.range (mask+1)).filterMap (jKt owner):=by
   show ((List.range (mask+1)).filterMap fun j=>(owner.getD j none).map (j,·)).map (·.2)=_
   rw[List.map_filterMap]
   refine fm_congr fun j _=> ?_
   unfold jKt
   cases owner.getD j none<;>rfl
  show (live.map (·.2)).Perm _
  rw[e];exact o.perm
 ·have live_mem:∀j k,(j,k)∈live->jKt owner j=some k/\j<=mask:=by
   intro j k hm
   obtain⟨j',hj',e⟩:=lQq.mp hm
   obtain⟨k',e1,e2⟩:=lQe.mp e
   cases e2
   exact⟨e1,by have:=lKq.mp hj';omega⟩
  have mem_place:∀j,j∈live.map (·.1)↔jKt owner j≠none/\j<=mask:=by
   intro j
   constructor
   ·intro hm
    obtain⟨⟨j',k⟩,h2,rfl⟩:=lJl.mp hm
    obtain⟨h3,h4⟩:=live_mem _ _ h2
    exact⟨by rw[h3];simp,h4⟩
   ·rintro⟨h2,h3⟩
    obtain⟨k,hk⟩:=Option.ne_none_iff_exists'.mp h2
    refine lJl.mpr ⟨(j,k),lQq.mpr ⟨j,lKq.mpr (by omega),?_⟩,rfl⟩
    show (jKt owner j).map _=_
    rw[hk];rfl
  have hin:∀k,k∈live.map (·.2)->k<hashes.size:=by
   intro k hk
   obtain⟨⟨j,k'⟩,h2,rfl⟩:=lJl.mp hk
   obtain⟨h',e1,_⟩:=o.chain j k' (live_mem _ _ h2).1
   have:=(lJi.mp e1).1
   simpa using this
  have fm:∀l:List Nat,(∀k,k∈l->k<hashes.size)->∀i:Nat,(l.filterMap (hashes[·]?)).length=l.length/\(l.filterMap (hashes[·]?))[i]? =(l[i]?).bind (hashes[·]?):=by
   intro l
   induction l with
   | nil=>intro _ i;exact⟨rfl,by simp⟩
   | cons a l ih=>
    intro hl i
    have ha:=hl a (lJz ..)
    have e:hashes[a]? =some hashes[a]:=lKu ha
    have ih':=ih (fun k hk=>hl k (lJ4 _ hk))
    rw[lX3 e]
    refine⟨by rw[lKm,lKm,(ih' 0).1],?_⟩
    cases i with
    | zero=>simp[e]
    | succ i=>simpa using (ih' i).2
  refine⟨?_,?_,rfl,?_⟩
  ·show (live.map (·.1)).toArray.size=_
   rw[lJy,lJg]
   have:=(fm (live.map (·.2)) hin 0).1
   rw[lJg] at this
   exact this.symm
  ·show (live.map (·.1)).Pairwise (· < ·)
   rw[lQ7]
   have:live.Pairwise fun a b=>a.1<b.1:=by
    show ((List.range (mask+1)).filterMap fun j=>(owner.getD j none).map (j,·)).Pairwise _
    rw[List.pairwise_filterMap]
    refine (List.pairwise_lt_range).imp fun {a b} hab x hx y hy=> ?_
    obtain⟨k,_,e⟩:=lQe.mp hx
    obtain⟨k',_,e'⟩:=lQe.mp hy
    rw[<-e,<-e'];exact hab
   exact this
  ·intro x hx
   obtain⟨i,hi,hxe⟩:=lVu hx
   rw[List.getElem_zip] at hxe
   obtain⟨xj,h⟩:=x
   obtain⟨pe,he⟩:=Prod.mk.inj hxe
   have hi':i<live.length:=by rw[List.length_zip] at hi;have:=lKe hi (Nat.min_le_left _ _);simpa using this
   have hh:((live.map (·.2)).filterMap (hashes[·]?))[i]? =some h:=by rw[<-he];exact lJm _
   have pl:live[i].1=xj:=by rw[<-pe];simp
   show Chain _ h xj
   rw[<-pl]
   have e2:=(fm (live.map (·.2)) hin i).2
   have hh':((live.map (·.2)).filterMap (hashes[·]?))[i]? =some h:=hh
   rw[hh',lKr,lJm hi'] at e2
   have e3:hashes[live[i].2]? =some h:=e2.symm
   obtain⟨h3,h4⟩:=live_mem live[i].1 live[i].2 (List.getElem_mem hi')
   obtain⟨h',e4,n,e5,e6⟩:=o.chain _ _ h3
   have:h'=h:=by
    have:hashes.toList[live[i].2]? =some h:=by simpa using e3
    rw[this] at e4;exact (lJn e4).symm
   subst this
   refine⟨n,e5,fun k hk=> ?_⟩
   show (itr t0.advance k (t0.probeStart h')).j∈live.map (·.1)
   refine (mem_place _).mpr ⟨e6 k hk,?_⟩
   apply lVa
   intro z
   refine e6 k hk ?_
   unfold jKt
   rw[lXi,lQ3 (by rw[o.size];show mask+1<=_;omega)]
   rfl
end St
end L3
namespace L3
open PySem PySem.Spec PyProof.Rows L2
def TupKept (h h':Heap):Prop:=∀b o,h.get? b=some o->o.cls= .type "tuple"->h'.get? b=some o
section
variable {prog:Program} {w:World} {K:Type} [DecidableEq K] {c:Nat}
def Stab (V:KeyV prog w K c):Prop:=∀ {h h':Heap} {k:K} {v:Value},TupKept h h'->V.is h k v->V.is h' k v
theorem kX9 {V:KeyV prog w K c} (hV:Stab V) {h h':Heap} (kp:TupKept h h') {ks:List K} {vs:List Value} (hi:ItemsV V h ks vs):ItemsV V h' ks vs:=by
 induction hi with
 | nil=>exact .nil
 | cons a _ ih=>exact .cons (hV kp a) ih
theorem kV8 {V:KeyV prog w K c} (hV:Stab V):Stab (jUg V):=by
 rintro h h' k v kp ⟨a,o,items,n,rfl,ho,hc,hd,hi⟩
 exact⟨a,o,items,n,rfl,kp a o ho hc,hc,hd,kX9 hV kp hi⟩
theorem kV9 {V:KeyV prog w K c} (hV:Stab V):Stab (kX8 V):=by
 rintro h h' (k | k) v kp hx
 ·exact hx
 ·exact kV8 hV kp hx
theorem kZq:Stab (jYc prog w):=fun _ hx=>hx
theorem jKv {h h':Heap} {k:TKey} {a:Addr} (kp:TupKept h h') (hx:(jJf prog w).is h k a):(jJf prog w).is h' k a:=kV8 (kV9 (kV9 kZq)) kp hx
theorem TupKept.same {h h':Heap} {a:Addr} {o:Obj} (ho:h.get? a=some o) (hc:o.cls= .type "set") (hs:Heap.SameBut a h h'):TupKept h h':=by
 intro b ob hb hcb
 have ne:b≠a:=by
  rintro rfl
  rw[ho] at hb;cases hb
  rw[hc] at hcb
  exact absurd hcb (by decide)
 exact (hs.2 b ne).trans hb
def HbV (V:KeyV prog w K c) (f:K->Bool):Prop:=∀ {A:Around} {E:Value->Shared->Prop} {s:Shared} {k:K} {v:Value} {Q:Bool->Shared->Prop} (n:Nat),c<=n->f k=true->V.is s.heap k v->Q true s->wpAny (model prog w) A (hashByValue n v) Q E s
def intK:Key->Bool
 | .inl _=>true
 | .inr _=>false
def intS {α:Type} (f:α->Bool):Key ⊕ List α->Bool
 | .inl k=>intK k
 | .inr ks=>ks.all f
def intT:TKey->Bool:=fun ks=>ks.all (intS (intS intK))
theorem qJ7:HbV (jYc prog w) intK:=by
 intro A E s k v Q n _ hk hv h
 rcases jJo (show jV1 k v=true from hv) with ⟨i,t,_,rfl⟩ | ⟨i,t,rfl,rfl⟩
 ·cases n<;>exact lJd h
 ·cases hk
theorem qV9 {V:KeyV prog w K c} {f:K->Bool} (hV:HbV V f):HbV (jUg V) (fun ks=>ks.all f):=by
 rintro A E s ks v Q n hn hf ⟨a,o,items,m,rfl,ho,hc,hd,hi⟩ h
 obtain⟨n,rfl⟩:∃nn,n=nn+1:=⟨n-1,by omega⟩
 have hT:s.TypeIs (.ref a) "tuple":=⟨o,ho,hc⟩
 unfold hashByValue
 (refine lJb (wpAny_specialOf hT F.slot_tuple_hash.lookup ?_))
 refine (show wpAny _ _ (seqItems? (.ref a) >>= _) _ _ s from ?_)
 refine lJb (lVm ho hd (lJb ?_))
 refine (show wpAny _ _ (forIn items _ _) _ _ s from ?_)
 rw[<-lYd]
 refine lV1 _ (fun rest r z=>r.1=none/\z=s/\∃left,left.all f=true/\ItemsV V s.heap left rest) _ ?_ ?_ _ _ ⟨rfl,rfl,ks,hf,hi⟩
 ·rintro x rest r z ⟨hr,rfl,left,hfl,hl⟩
  cases hl with
  | cons h1 hl'=>
   rw[lQ2,lKt] at hfl
   refine lJb (hV n (by omega) hfl.1 h1 ?_)
   simp only[lKd,Bool.not_true,lKn]
   exact lJd ⟨rfl,rfl,_,hfl.2,hl'⟩
 ·rintro⟨r1,r2⟩ z ⟨hr,rfl,_⟩
  simp only at hr;subst hr
  exact lJd h
theorem qXa {V:KeyV prog w K c} {f:K->Bool} (hV:HbV V f):HbV (kX8 V) (intS f):=by
 rintro A E s (k | k) v Q n hn hf hx h
 ·exact qJ7 n (lJu _) hf hx h
 ·exact qV9 hV n hn hf hx h
theorem qY0 {A:Around} {E:Value->Shared->Prop} {s:Shared} {k:TKey} {a:Addr} {Q:Bool->Shared->Prop} (hf:intT k=true) (hx:(jJf prog w).is s.heap k a) (h:Q true s):wpAny (model prog w) A (hashByValue 8 (.ref a)) Q E s:=
 qV9 (qXa (qXa qJ7)) 8 (by decide) hf hx h
def OcV (V:KeyV prog w K c):Prop:=∀ {A:Around} {E:Value->Shared->Prop} {s:Shared} {k:K} {v:Value} {Q:Bool->Shared->Prop} (n:Nat),c<=n->V.is s.heap k v->Q false s->wpAny (model prog w) A (ofAClassStatement n v) Q E s
theorem qJq:OcV (jYc prog w):=by
 intro A E s k v Q n _ hv h
 rcases jJo (show jV1 k v=true from hv) with ⟨i,t,_,rfl⟩ | ⟨i,t,rfl,rfl⟩<;>(cases n<;>exact lJd h)
theorem qV2 {V:KeyV prog w K c} (hV:OcV V):OcV (jUg V):=by
 rintro A E s ks v Q n hn ⟨a,o,items,m,rfl,ho,hc,hd,hi⟩ h
 obtain⟨n,rfl⟩:∃nn,n=nn+1:=⟨n-1,by omega⟩
 have hT:s.TypeIs (.ref a) "tuple":=⟨o,ho,hc⟩
 unfold ofAClassStatement
 (refine lJb (lXo hT ?_))
 dsimp only
 rw[lJc (by decide)]
 refine lJb (lJd ?_)
 rw[lJa (by decide)]
 refine lJb (lVm ho hd (lJb ?_))
 rw[<-lYd]
 refine lV1 _ (fun rest r z=>r.1=none/\z=s/\∃left,ItemsV V s.heap left rest) _ ?_ ?_ _ _ ⟨rfl,rfl,ks,hi⟩
 ·rintro x rest r z ⟨hr,rfl,left,hl⟩
  cases hl with
  | cons h1 hl'=>
   refine lJb (hV n (by omega) h1 ?_)
   rw[lJa (by decide)]
   exact lJd ⟨rfl,rfl,_,hl'⟩
 ·rintro⟨r1,r2⟩ z ⟨hr,rfl,_⟩
  simp only at hr;subst hr
  exact lJd h
theorem qV3 {V:KeyV prog w K c} (hV:OcV V):OcV (kX8 V):=by
 rintro A E s (k | k) v Q n hn hx h
 ·exact qJq n (lJu _) hx h
 ·exact qV2 hV n hn hx h
theorem qJp {A:Around} {E:Value->Shared->Prop} {s:Shared} {k:TKey} {a:Addr} {Q:Bool->Shared->Prop} (hx:(jJf prog w).is s.heap k a) (h:Q false s):wpAny (model prog w) A (ofAClassStatement 8 (.ref a)) Q E s:=
 qV2 (qV3 (qV3 qJq)) 8 (by decide) hx h
theorem unseen {A:Around} {E:Value->Shared->Prop} {s:Shared} {k:TKey} {a:Addr} {Q:Bool->Shared->Prop} (hx:(jJf prog w).is s.heap k a) {ys:List Value} (hy:∀y,y∈ys->∃k' b,y= .ref b/\(jJf prog w).is s.heap k' b) (h:Q false s):wpAny (model prog w) A (searchCouldBeSeen (.ref a) ys) Q E s:=by
 unfold searchCouldBeSeen
 refine lJb ?_
 refine lV1 _ (fun rest r z=>r.1=none/\z=s/\∀y,y∈rest->∃k' b,y= .ref b/\(jJf prog w).is s.heap k' b) _ ?_ ?_ _ _ ⟨rfl,rfl,hy⟩
 ·rintro x rest r z ⟨hr,rfl,hl⟩
  obtain⟨k',b,rfl,hb⟩:=hl x (lJz ..)
  have hl':=fun y hy=>hl y (lJ4 _ hy)
  dsimp only
  split
  ·exact lJd ⟨rfl,rfl,hl'⟩
  ·refine lJb ((jJf prog w).quiet hx ?_)
   rw[lJa (by decide)]
   refine lJb ((jJf prog w).quiet hb ?_)
   rw[lJa (by decide)]
   refine lJb (qJp hx ?_)
   rw[lJa (by decide)]
   refine lJb (qJp hb ?_)
   rw[lJa (by decide)]
   exact lJd ⟨rfl,rfl,hl'⟩
 ·rintro⟨r1,r2⟩ z ⟨hr,rfl,_⟩
  simp only at hr;subst hr
  exact lJd h
end
section
variable {prog:Program} {w:World} {A:Around} {E:Value->Shared->Prop} {s:Shared}
def entS (prog:Program) (w:World) (e:TKey×Addr):Int×Value:=((jJf prog w).hash e.1,.ref e.2)
def hashes (prog:Program) (w:World) (es:List (TKey×Addr)):List Int:=es.map fun e=>(jJf prog w).hash e.1
def MaskOk (mask n:Nat):Prop:=(mask=7/\n<=4)\/(mask=31/\n<=18)\/(mask=127/\n<=76)\/(mask=511/\n<=306)\/(mask=2047/\n<=1228)
theorem MaskOk.full {mask n:Nat} (h:MaskOk mask n):St.Full mask/\n<=mask/\mask%2=1:=by
 rcases h with ⟨rfl,h⟩ | ⟨rfl,h⟩ | ⟨rfl,h⟩ | ⟨rfl,h⟩ | ⟨rfl,h⟩
 ·exact⟨St.full7,by omega,rfl⟩
 ·exact⟨St.full31,by omega,rfl⟩
 ·exact⟨St.full127,by omega,rfl⟩
 ·exact⟨St.full511,by omega,rfl⟩
 ·exact⟨St.full2047,by omega,rfl⟩
theorem kYf {t:SetTable} {f g:Nat->Int} {h:Int} {p:SetTable.Probe} (e:∀i,f i=g i):t.probe f h p=t.probe g h p:=by rw[funext e]
structure SetD (prog:Program) (w:World) (h:Heap) (a:Addr) (o:Obj) (arr:Array (Int×Value)) (ep:Nat) (t:SetTable) (es:List (TKey×Addr)):Prop where
 get:h.get? a=some o
 exact_:o.ExactSet
 data:o.data= .set arr ep t
 arr_:arr.toList=es.map (entS prog w)
 are:∀e,e∈es->(jJf prog w).is h e.1 e.2
 good:St.Good t (hashes prog w es)
 mask:MaskOk t.mask es.length
 plain:t.plain=true
theorem SetD.size {h:Heap} {a:Addr} {o:Obj} {arr:Array (Int×Value)} {ep:Nat} {t:SetTable} {es:List (TKey×Addr)} (d:SetD prog w h a o arr ep t es):arr.size=es.length:=by
 rw[<-lKj,d.arr_,lJg]
theorem SetD.fits {h:Heap} {a:Addr} {o:Obj} {arr:Array (Int×Value)} {ep:Nat} {t:SetTable} {es:List (TKey×Addr)} (d:SetD prog w h a o arr ep t es):t.fits arr.size=true:=by
 have l:=d.good.len
 unfold hashes at l
 rw[lJg] at l
 obtain⟨_,hm,_⟩:=d.mask.full
 simp only[SetTable.fits,SetTable.fill,d.good.dum,l,d.size,lKt,beq_iff_eq,lKw]
 exact⟨trivial,by simpa using hm⟩
theorem SetD.state {a:Addr} {o:Obj} {arr:Array (Int×Value)} {ep:Nat} {t:SetTable} {es:List (TKey×Addr)} (d:SetD prog w s.heap a o arr ep t es) {Q:(Array (Int×Value)×Nat×SetTable)->Shared->Prop} (h:Q (arr,ep,t) s):wpAny (model prog w) A (setState a) Q E s:=
 wpAny_setState_of d.get d.data d.fits h
theorem SetD.at {h:Heap} {a:Addr} {o:Obj} {arr:Array (Int×Value)} {ep:Nat} {t:SetTable} {es:List (TKey×Addr)} (d:SetD prog w h a o arr ep t es) {i:Nat} (hi:i<t.place.size):∃e,es[i]? =some e/\arr[i]? =some (entS prog w e):=by
 have l:=d.good.len
 unfold hashes at l
 rw[lJg] at l
 have hi':i<es.length:=by omega
 refine⟨es[i],lJm hi',?_⟩
 rw[<-lJ7,d.arr_,lKr,lJm hi']
 rfl
def Ahead (t:SetTable) (es:List (TKey×Addr)) (k:TKey) (p:SetTable.Probe):Prop:=∃n i b,t.slot (itr t.advance n p).j= .live i/\es[i]? =some (k,b)/\∀m,m<n->t.slot (itr t.advance m p).j≠ .empty
theorem kZt {a:Addr} {o:Obj} {arr:Array (Int×Value)} {ep:Nat} {t:SetTable} {es:List (TKey×Addr)} (d:SetD prog w s.heap a o arr ep t es) {k:TKey} {b:Addr} (hk:(jJf prog w).is s.heap k b) (hu:(jJf prog w).room A) {Q:SetFound->Shared->Prop}
  (h1:∀j,t.slot j= .empty->k∉es.map (·.1)->St.Chain t ((jJf prog w).hash k) j->Q (.free j false) s) (h2:k∈es.map (·.1)->Q (.there none) s):∀(n fuel:Nat) (stand:Option SetTable.Probe) (p:SetTable.Probe),stand.getD (t.probeStart ((jJf prog w).hash k))=p->p.dummy=none->t.slot (itr t.advance n p).j= .empty->n<10*SetTable.turns t.mask->n<fuel->
  (k∈es.map (·.1)->Ahead t es k p)->(∃n0,p=itr t.advance n0 (t.probeStart ((jJf prog w).hash k))/\∀m,m<n0->(itr t.advance m (t.probeStart ((jJf prog w).hash k))).j∈t.place.toList)->
  wpAny (model prog w) A (setSearchFrom a (.ref b) ((jJf prog w).hash k) true fuel stand) Q E s:=by
 intro n
 induction n using Nat.strongRecOn with
 | ind n ih=>
 intro fuel stand p hp hdm he hn hfu hA hC
 obtain⟨fuel,rfl⟩:∃f,fuel=f+1:=⟨fuel-1,by omega⟩
 unfold setSearchFrom
 refine lJb (d.state ?_)
 dsimp only
 have gw:t.gaveWay=false:=by
  unfold SetTable.gaveWay
  rw[d.mask.full.2.2];rfl
 rw[gw,lJa (by decide),hp]
 rw[kYf (g:=fun i=>((arr[i]?).map (·.1)).getD 0) ?hsw]
 case hsw=>exact fun i=>rfl
 have hash_at:∀(i:Nat) (k':TKey) (b':Addr),es[i]? =some (k',b')->((arr[i]?).map (·.1)).getD 0=(jJf prog w).hash k':=by
  intro i k' b' e
  have:arr[i]? =some (entS prog w (k',b')):=by rw[<-lJ7,d.arr_,lKr,e];rfl
  rw[this];rfl
 have onway:∀m,(∀q,q<m->St.Miss t (fun i=>((arr[i]?).map (·.1)).getD 0) ((jJf prog w).hash k) (itr t.advance q p).j)->∀q,q<m->(itr t.advance q p).j∈t.place.toList:=by
  intro m hm q hq
  obtain⟨i,hi,_⟩:=hm q hq
  rcases St.slot_cases d.good.dum (itr t.advance q p).j with c | ⟨i',c,hi',e,_⟩
  ·rw[c.1] at hi;cases hi
  ·rw[<-e];simp
 have way:∀m,(∀q,q<m->(itr t.advance q p).j∈t.place.toList)->∃n0,itr t.advance m p=itr t.advance n0 (t.probeStart ((jJf prog w).hash k))/\∀q,q<n0->(itr t.advance q (t.probeStart ((jJf prog w).hash k))).j∈t.place.toList:=by
  intro m hm
  obtain⟨n0,e0,c0⟩:=hC
  refine⟨n0+m,by rw[jKm,e0],fun q hq=> ?_⟩
  by_cases c:q<n0
  ·exact c0 q c
  ·have:=hm (q-n0) (by omega)
   rw[e0,<-jKm,show n0+(q-n0)=q by omega] at this
   exact this
 have ahead:∀m,(∀q,q<m->St.Miss t (fun i=>((arr[i]?).map (·.1)).getD 0) ((jJf prog w).hash k) (itr t.advance q p).j)->∀ {n' i:Nat} {b':Addr},t.slot (itr t.advance n' p).j= .live i->es[i]? =some (k,b')->m<=n':=by
  intro m hm n' i b' hs hi
  apply lVa
  intro z
  obtain⟨i',q1,q2⟩:=hm n' (by omega)
  rw[hs] at q1;cases q1
  exact q2 (hash_at _ _ _ hi)
 rcases St.pgo_ok d.good.dum (fun i=>((arr[i]?).map (·.1)).getD 0) ((jJf prog w).hash k) n (10*SetTable.turns t.mask) p he hn hdm with ⟨m,hm,e1,e2,e3⟩ | ⟨m,i,hm,e1,e2,e3,e4⟩
 ·rw[show t.probe (fun i=>((arr[i]?).map (·.1)).getD 0) ((jJf prog w).hash k) p=_ from e3]
  dsimp only
  refine lJd (h1 _ e1 (fun z=> ?_) ?_)
  ·obtain⟨n',i,b',q1,q2,q3⟩:=hA z
   have:=ahead m e2 q1 q2
   by_cases c:m=n'
   ·subst c;rw[e1] at q1;cases q1
   ·exact q3 m (by omega) e1
  ·obtain⟨n0,w1,w2⟩:=way m (onway m e2)
   exact⟨n0,by rw[w1],w2⟩
 ·rw[show t.probe (fun i=>((arr[i]?).map (·.1)).getD 0) ((jJf prog w).hash k) p=_ from e4]
  dsimp only
  have hi:i<t.place.size/\t.place.toList[i]? =some (itr t.advance m p).j:=by
   rcases St.slot_cases d.good.dum (itr t.advance m p).j with c | ⟨i',c,hi',e,_⟩
   ·rw[c.1] at e1;cases e1
   ·rw[c] at e1;cases e1
    exact⟨hi',by simp[hi',e]⟩
  obtain⟨⟨k',b'⟩,ee,ea⟩:=d.at hi.1
  have hk':(jJf prog w).is s.heap k' b':=d.are _ (lJo ee)
  have rest:∀(R:Unit->Shared->Prop),R () s->True:=fun _ _=>trivial
  have go:wpAny (model prog w) A (do
    let some (_,y):=arr[i]? | unsupported "internal:set-entry"
    let equal <-holding [y] (eqBool y (.ref b))
    let (es',_,t') <-setState a
    if true&&equal then return .there none
    let some same:=(t'.sameMemory t.moves t.mask) | unsupported "set.changed-during-lookup:is-the-new-block-at-the-old-address"
    let still <-match (if same then t'.slot (itr t.advance m p).j else .empty) with
     | .live i'=>match (es'[i']?) with
      | some (_,y')=>do pure (if (<-isSame y' y) then some i' else none)
      | none=>pure none
     | _=>pure none
    match still with
    | none=>rule "set.search.anew"; setSearchFrom a (.ref b) ((jJf prog w).hash k) true fuel none
    | some i'=>if equal then return .there (some i') else setSearchFrom a (.ref b) ((jJf prog w).hash k) true fuel (some (itr t.advance (m+1) p))) Q E s:=by
   rw[ea]
   dsimp only[entS]
   refine lJb (lK4 ((jJf prog w).eqBool hu hk' hk ?_))
   refine lJb (d.state ?_)
   dsimp only
   by_cases eq:k'=k
   ·subst eq
    rw[lJc (by simp)]
    exact lJd (h2 (lJl.mpr ⟨_,lJo ee,rfl⟩))
   ·rw[lJa (by simp[eq])]
    rw[show t.sameMemory t.moves t.mask=some true by simp[SetTable.sameMemory]]
    dsimp only
    rw[lJc rfl,e1]
    dsimp only
    rw[ea]
    dsimp only[entS]
    refine lJb (wpAny_isSame_ref_self (lJb (lJd ?_)))
    rw[lJc rfl]
    dsimp only
    rw[lJa (by simp[eq])]
    have ne:∀ {n' i' b''},t.slot (itr t.advance n' p).j= .live i'->es[i']? =some (k,b'')->m+1<=n':=by
     intro n' i' b'' q1 q2
     have:=ahead m e3 q1 q2
     by_cases c:m=n'
     ·subst c
      rw[e1] at q1;cases q1
      rw[ee] at q2
      exact absurd (Prod.mk.inj (lJn q2)).1 eq
     ·omega
    refine ih (n-(m+1)) (by omega) fuel (some (itr t.advance (m+1) p)) (itr t.advance (m+1) p) rfl ?_ ?_ (by omega) (by omega) ?_ ?_
    ·have dm:∀q,(itr t.advance q p).dummy=none:=by
      intro q
      induction q with
      | zero=>exact hdm
      | succ q ihq=>rw[jXm,St.adv_dummy];exact ihq
     exact dm _
    ·rw[<-jKm,show m+1+(n-(m+1))=n by omega];exact he
    ·intro z
     obtain⟨n',i',b'',q1,q2,q3⟩:=hA z
     have:=ne q1 q2
     refine⟨n'-(m+1),i',b'',?_,q2,fun q hq=> ?_⟩
     ·rw[<-jKm,show m+1+(n'-(m+1))=n' by omega];exact q1
     ·rw[<-jKm];exact q3 _ (by omega)
    ·refine way (m+1) fun q hq=> ?_
     by_cases c:q<m
     ·exact onway m e3 q c
     ·have:q=m:=by omega
      subst this
      exact lJo hi.2
  split
  ·refine lJb (unseen hk ?_ ?_)
   ·intro y hy
    obtain⟨x,hx,rfl⟩:=lJl.mp hy
    have hx':x∈arr.toList:=by
     have:=(Array.mem_filter.mp (lYg.mp hx)).1
     exact lYg.mpr this
    rw[d.arr_] at hx'
    obtain⟨e,he',rfl⟩:=lJl.mp hx'
    exact⟨e.1,e.2,rfl,d.are e he'⟩
   ·rw[lJa (by decide)]
    exact go
  ·exact go
theorem SetD.chain {h:Heap} {a:Addr} {o:Obj} {arr:Array (Int×Value)} {ep:Nat} {t:SetTable} {es:List (TKey×Addr)} (d:SetD prog w h a o arr ep t es) {k:TKey} (hk:k∈es.map (·.1)):Ahead t es k (t.probeStart ((jJf prog w).hash k)):=by
 obtain⟨⟨k',b⟩,he,e⟩:=lJl.mp hk
 cases (show k'=k from e)
 obtain⟨i,hi,ei⟩:=lVu he
 have l:=d.good.len
 unfold hashes at l
 rw[lJg] at l
 have hp:i<t.place.size:=by omega
 have hz:(t.place[i],(jJf prog w).hash k)∈t.place.toList.zip (hashes prog w es):=by
  refine lJo (i:=i) ?_
  unfold hashes
  simp[lXd,hp,hi,ei]
 obtain⟨n,h1,h2⟩:=d.good.chain _ hz
 refine⟨n,i,b,?_,by rw[lJm hi,ei],fun m hm=> ?_⟩
 ·rw[h1];exact St.slot_live d.good.ris hp
 ·obtain⟨q,hq,e⟩:=lVu (h2 m hm)
  have hq':q<t.place.size:=by simpa using hq
  have e':t.place[q]=(itr t.advance m (t.probeStart ((jJf prog w).hash k))).j:=by simpa using e
  rw[<-e',St.slot_live d.good.ris hq']
  simp
theorem free_j {t:SetTable} (hd:t.dummies= #[]) (hn:t.place.size<=t.mask):∃j,j<=t.mask/\t.slot j= .empty:=by
 have:∃j,j<=t.mask/\j∉t.place.toList:=by
  apply lVa
  intro q
  have sub:(List.range (t.mask+1)) ⊆ t.place.toList:=by
   intro j hj
   apply lVa
   intro z
   exact q ⟨j,by have:=lKq.mp hj;omega,z⟩
  have:=List.nodup_range.length_le_of_subset sub
  simp at this
  omega
 obtain⟨j,h1,h2⟩:=this
 exact⟨j,h1,St.slot_empty hd h2⟩
theorem kYb {a:Addr} {o:Obj} {arr:Array (Int×Value)} {ep:Nat} {t:SetTable} {es:List (TKey×Addr)} (d:SetD prog w s.heap a o arr ep t es) {k:TKey} {b:Addr} (hk:(jJf prog w).is s.heap k b) (hu:(jJf prog w).room A) {Q:SetFound->Shared->Prop}
  (h1:∀j,t.slot j= .empty->k∉es.map (·.1)->St.Chain t ((jJf prog w).hash k) j->Q (.free j false) s) (h2:k∈es.map (·.1)->Q (.there none) s):wpAny (model prog w) A (setSearch a (.ref b) ((jJf prog w).hash k) true) Q E s:=by
 have l:=d.good.len
 unfold hashes at l
 rw[lJg] at l
 obtain⟨hf,hm,_⟩:=d.mask.full
 obtain⟨j,hj,ej⟩:=free_j (t:=t) d.good.dum (by omega)
 obtain⟨n,hn,en⟩:=St.met hf ((jJf prog w).hash k) hj
 have hm127:t.mask<=2047:=by rcases d.mask with ⟨e,_⟩ | ⟨e,_⟩ | ⟨e,_⟩ | ⟨e,_⟩ | ⟨e,_⟩<;>omega
 unfold setSearch
 refine kZt d hk hu h1 h2 n 100000 none (t.probeStart ((jJf prog w).hash k)) rfl rfl (by rw[en];exact ej) (by unfold SetTable.turns;omega) (by omega) d.chain ⟨0,rfl,fun m hm=>absurd hm (lKv _)⟩
end
section
variable {prog:Program} {w:World} {A:Around} {E:Value->Shared->Prop} {s:Shared}
theorem kJ5 {t t':SetTable} (hm:t'.mask=t.mask) (hp:∀j,j∈t.place.toList->j∈t'.place.toList) {h:Int} {j:Nat} (c:St.Chain t h j):St.Chain t' h j:=by
 obtain⟨n,h1,h2⟩:=c
 have ea:t'.advance=t.advance:=by funext p;unfold SetTable.advance;rw[hm]
 have eb:t'.probeStart h=t.probeStart h:=by unfold SetTable.probeStart;rw[hm]
 refine⟨n,by rw[ea,eb];exact h1,fun k hk=> ?_⟩
 rw[ea,eb]
 exact hp _ (h2 k hk)
theorem zipE {α β:Type} {xs:List α} {ys:List β} (hl:xs.length=ys.length) (p:Nat) {x:α} {y:β} {z:α×β} (h:z∈(xs.take p++x::xs.drop p).zip (ys.take p++y::ys.drop p)):z∈xs.zip ys\/z=(x,y):=by
 rw[List.zip_append (by simp[hl]),lVs] at h
 have e1:(xs.take p).zip (ys.take p)=(xs.zip ys).take p:=by rw[lYh,lYh,List.take_zipWith]
 have e2:(xs.drop p).zip (ys.drop p)=(xs.zip ys).drop p:=by rw[lYh,lYh,List.drop_zipWith]
 rw[e1,e2] at h
 (rcases lJx.mp h with h | h)
 ·exact .inl (lQi h)
 ·rcases (lJk.mp h) with h | h
  ·exact .inr h
  ·exact .inl (lQ4 h)
theorem qU8 {t:SetTable} {hs:List Int} (g:St.Good t hs) {j:Nat} {h:Int} (he:t.slot j= .empty) (hc:St.Chain t h j):St.Good (t.put j).1 (hs.take (t.put j).2++h::hs.drop (t.put j).2):=by
 have hj:j∉t.place.toList:=by
  rcases St.slot_cases g.dum j with c | ⟨i,c,_⟩
  ·exact c.2 g.ris
  ·rw[c] at he;cases he
 have ep:(t.put j).1.place=SetTable.insertAt t.place (SetTable.below t.place j) j:=rfl
 have mem:∀q,q∈t.place.toList->q∈(t.put j).1.place.toList:=by
  intro q hq
  rw[ep,SetTable.toList_insertAt]
  rw[<-lKy (SetTable.below t.place j) t.place.toList] at hq
  rcases (lJx.mp hq) with z | z
  ·(exact lKa _ z)
  ·exact lJ5 _ (lJ4 _ z)
 have hl:=g.len
 refine⟨?_,?_,?_,?_⟩
 ·rw[ep,<-lKj,SetTable.toList_insertAt]
  show _=(hs.take (SetTable.below t.place j)++h::hs.drop (SetTable.below t.place j)).length
  simp[hl]
 ·rw[ep];exact St.insertAt_ris g.ris hj
 ·show (if SetTable.has t.dummies j=true then _ else t.dummies)= #[]
  rw[g.dum,St.has_nil];rfl
 ·intro x hx
  rw[ep,SetTable.toList_insertAt] at hx
  rcases zipE (by simpa using hl) _ hx with z | rfl
  ·exact kJ5 (t:=t) (t':=(t.put j).1) rfl mem (g.chain x z)
  ·exact kJ5 (t:=t) (t':=(t.put j).1) rfl mem hc
def putE (p:Nat) (e:TKey×Addr) (es:List (TKey×Addr)):List (TKey×Addr):=es.take p++e::es.drop p
theorem jXf (p:Nat) (e:TKey×Addr) (es:List (TKey×Addr)):(putE p e es).Perm (e::es):=by
 unfold putE
 refine List.perm_middle.trans ?_
 rw[lKy]
theorem qJa {h:Heap} {a:Addr} {o:Obj} {arr:Array (Int×Value)} {ep:Nat} {t:SetTable} (ho:h.get? a=some o) (hd:o.data= .set arr ep t) (arr':Array (Int×Value)) (t':SetTable):
  (h.update a (Obj.putSet arr' t')).get? a=some {o with data:= .set arr' (ep+1) t'}:=by
 have:=lXv (Obj.putSet arr' t') ho (by rw[putSet_of arr' t' hd];rfl)
 rw[putSet_of arr' t' hd] at this;exact this
theorem kYh {α:Type} {l:List Nat} {xs:List α} (hp:l.Perm (List.range xs.length)):(l.filterMap (xs[·]?)).Perm xs:=by
 have:=hp.filterMap (fun i=>xs[i]?)
 rw[List.filterMap_getElem?_range_length] at this
 exact this
theorem jXk {α β:Type} (f:α->β) (xs:List α):∀l:List Nat,(l.filterMap (xs[·]?)).map f=l.filterMap ((xs.map f)[·]?)
 | []=>rfl
 | a::l=>by
  rw[lQa,lQa,lKr]
  cases xs[a]? with
  | none=>exact jXk f xs l
  | some x=>rw[lJp,jXk f xs l];rfl
theorem qQv {a:Addr} {o:Obj} {arr:Array (Int×Value)} {ep:Nat} {t:SetTable} {es:List (TKey×Addr)} (ho:s.heap.get? a=some o) (hex:o.ExactSet) (hd:o.data= .set arr ep t) (harr:arr.toList=es.map (entS prog w)) (are:∀e,e∈es->(jJf prog w).is s.heap e.1 e.2) (hf:t.fits arr.size=true) (hpl:t.plain=true) {wanted mask:Nat} (hw:SetTable.sizeAbove wanted-1=mask) (hl:SetTable.sizeAbove wanted<=sizeLine) (hM:MaskOk mask es.length) {Q:Unit->Shared->Prop}
  (h:∀h' o' arr' ep' t' es',Heap.SameBut a s.heap h'->es'.Perm es->t'.led=t.led->SetD prog w h' a o' arr' ep' t' es'->Q () {s with heap:=h'}):wpAny (model prog w) A (setRelay a wanted) Q E s:=by
 have hsz:arr.size=es.length:=by rw[<-lKj,harr,lJg]
 obtain⟨hfull,hle,_⟩:=hM.full
 obtain⟨t',order,e1,e2,e3,e4,e5,e6⟩:=St.laid_ok hfull t.finger (t.movedTo mask) t.led t.plain (arr.map (·.1)) (by rw[Array.size_map,hsz];exact hle)
 have e1':t.relaid (arr.map (·.1)) wanted=some (t',order):=by unfold SetTable.relaid;rw[hw];exact e1
 have hash_:(arr.map (·.1)).toList=hashes prog w es:=by
  rw[Array.toList_map,harr,lKo];rfl
 have po:order.toList.Perm (List.range es.length):=by
  have:=e5
  rw[Array.size_map,hsz] at this
  exact this
 have em:(order.filterMap (arr[·]?)).toList=(order.toList.filterMap (es[·]?)).map (entS prog w):=by
  rw[Array.toList_filterMap,jXk,<-harr]
  exact St.fm_congr fun x _=>by rw[lJ7]
 have pe:(order.toList.filterMap (es[·]?)).Perm es:=kYh po
 have sz2:(order.filterMap (arr[·]?)).size=es.length:=by rw[<-lKj,em,lJg,pe.length_eq]
 unfold setRelay
 (refine lJb (wpAny_setState_of ho hd hf ?_))
 dsimp only
 rw[lJa (Nat.not_lt.mpr hl)]
 refine lJb ?_
 refine (show wpAny (model prog w) A (do
  let some (t,order):=t.relaid (arr.map (·.1)) wanted | unsupported "internal:set-table-without-room"
  let es':=order.filterMap (arr[·]?)
  if es'.size != arr.size then unsupported "internal:set-table-lost-an-element"
  pure (es',t)) _ _ _ from ?_)
 rw[e1']
 dsimp only
 rw[lJa (by rw[sz2,hsz];simp)]
 refine lJd ?_
 dsimp only
 refine wpAny_storeSet_of ho hd ?_ (by rw[sz2,<-hsz,lKs];have:=hM;rcases hM with ⟨_,z⟩ | ⟨_,z⟩ | ⟨_,z⟩ | ⟨_,z⟩ | ⟨_,z⟩<;>omega)
 have sb:=lXz s.heap a (Obj.putSet (order.filterMap (arr[·]?)) t')
 have kp:TupKept s.heap _:=TupKept.same ho hex.1 sb
 refine h _ _ _ _ t' (order.toList.filterMap (es[·]?)) sb pe e3 ⟨qJa ho hd _ _,hex,rfl,em,fun e he=>jKv kp (are e (pe.mem_iff.mp he)),?_,?_,e4.trans hpl⟩
 ·have:=e6
  have e7:order.toList.filterMap ((arr.map (·.1))[·]?)=hashes prog w (order.toList.filterMap (es[·]?)):=by
   unfold hashes
   rw[jXk]
   refine St.fm_congr fun x _=> ?_
   rw[<-lJ7,hash_];rfl
  rw[e7] at this
  exact this
 ·rw[pe.length_eq,e2];exact hM
theorem add_ok {a:Addr} {o:Obj} {arr:Array (Int×Value)} {ep:Nat} {t:SetTable} {es:List (TKey×Addr)} (d:SetD prog w s.heap a o arr ep t es) {k:TKey} {b:Addr} (hk:(jJf prog w).is s.heap k b) (hi:intT k=true) (hu:(jJf prog w).room A) (hn:es.length<1228) {Q:Bool->Shared->Prop}
  (h1:k∈es.map (·.1)->Q false s)
  (h2:k∉es.map (·.1)->∀h' o' arr' ep' t' es',Heap.SameBut a s.heap h'->es'.Perm ((k,b)::es)->t'.led=t.led->SetD prog w h' a o' arr' ep' t' es'->Q true {s with heap:=h'}):
  wpAny (model prog w) A (setAddHashed a (.ref b) ((jJf prog w).hash k)) Q E s:=by
 unfold setAddHashed
 refine lK4 ?_
 unfold setAddHashedIn
 refine lJb (d.state ?_)
 dsimp only
 rw[show byScan (.ref b) arr=false from rfl,lJa (by decide)]
 refine lJb (kYb d hk hu (fun j hj hnk hc=> ?_) fun z=>lJd (h1 z))
 dsimp only
 refine lJb (d.state ?_)
 dsimp only
 have hpl:(t.put j).1.plain=true:=d.plain
 rw[lJc hpl]
 refine lJb (qY0 hi hk ?_)
 simp only[↓reduceIte]
 have hsz:=d.size
 have hlen:t.place.size=es.length:=by have l:=d.good.len;unfold hashes at l;rw[lJg] at l;exact l
 have g1:St.Good (t.put j).1 (hashes prog w (putE (t.put j).2 (k,b) es)):=by
  have:=qU8 d.good hj hc
  unfold hashes putE
  rw[lVy,lJp,List.map_take,List.map_drop]
  exact this
 have ae:(SetTable.insertAt arr (t.put j).2 ((jJf prog w).hash k,Value.ref b)).toList=(putE (t.put j).2 (k,b) es).map (entS prog w):=by
  rw[SetTable.toList_insertAt,d.arr_]
  unfold putE
  rw[lVy,lJp,List.map_take,List.map_drop]
  rfl
 have pl:=(jXf (t.put j).2 (k,b) es).length_eq
 rw[lKm] at pl
 have asz:(SetTable.insertAt arr (t.put j).2 ((jJf prog w).hash k,Value.ref b)).size=es.length+1:=by
  rw[<-lKj,ae,lJg,pl]
 refine lJb (wpAny_storeSet_of d.get d.data ?_ (by rw[asz,lKs];omega))
 have sb1:=lXz s.heap a (Obj.putSet (SetTable.insertAt arr (t.put j).2 ((jJf prog w).hash k,Value.ref b)) (t.put j).1)
 have kp1:TupKept s.heap _:=TupKept.same d.get d.exact_.1 sb1
 have ob1:=qJa d.get d.data (SetTable.insertAt arr (t.put j).2 ((jJf prog w).hash k,Value.ref b)) (t.put j).1
 have are1:∀e,e∈putE (t.put j).2 (k,b) es->(jJf prog w).is (s.heap.update a (Obj.putSet (SetTable.insertAt arr (t.put j).2 ((jJf prog w).hash k,Value.ref b)) (t.put j).1)) e.1 e.2:=by
  intro e he
  rcases lJk.mp ((jXf _ _ _).mem_iff.mp he) with rfl | he
  ·exact jKv kp1 hk
  ·exact jKv kp1 (d.are e he)
 have fl:(t.put j).1.fill=es.length+1:=by
  have l:=g1.len
  unfold hashes at l
  rw[lJg,pl] at l
  unfold SetTable.fill
  rw[g1.dum,l];rfl
 have mk:(t.put j).1.mask=t.mask:=rfl
 by_cases full:(t.put j).1.tooFull=true
 ·rw[full]
  simp only[Bool.not_false,Bool.and_self,↓reduceIte]
  have full':(es.length+1)*5>=t.mask*3:=by
   unfold SetTable.tooFull at full
   rw[fl,mk] at full
   exact of_decide_eq_true full
  have w1:SetTable.sizeAbove (SetTable.grown (arr.size+1))<=sizeLine/\MaskOk (SetTable.sizeAbove (SetTable.grown (arr.size+1))-1) (putE (t.put j).2 (k,b) es).length:=by
   rw[pl,hsz]
   rcases d.mask with ⟨e,z⟩ | ⟨e,z⟩ | ⟨e,z⟩ | ⟨e,z⟩ | ⟨e,z⟩
   ·have:es.length=4:=by omega
    rw[this];exact⟨by rw[lKs];decide,.inr (.inl ⟨by decide,by omega⟩)⟩
   ·have:es.length=18:=by omega
    rw[this];exact⟨by rw[lKs];decide,.inr (.inr (.inl ⟨by decide,by omega⟩))⟩
   ·have:es.length=76:=by omega
    rw[this];exact⟨by rw[lKs];decide,.inr (.inr (.inr (.inl ⟨by decide,by omega⟩)))⟩
   ·have:es.length=306:=by omega
    rw[this];exact⟨by rw[lKs];decide,.inr (.inr (.inr (.inr ⟨by decide,by omega⟩)))⟩
   ·omega
  have ft:(t.put j).1.fits (SetTable.insertAt arr (t.put j).2 ((jJf prog w).hash k,Value.ref b)).size=true:=by
   have l:=g1.len
   unfold hashes at l
   rw[lJg,pl] at l
   simp only[SetTable.fits,lKt,beq_iff_eq,lKw]
   refine⟨by rw[asz];exact l,?_⟩
   rw[fl,mk]
   rcases d.mask with ⟨e,z⟩ | ⟨e,z⟩ | ⟨e,z⟩ | ⟨e,z⟩ | ⟨e,z⟩<;>omega
  refine lJb (qQv (s:={s with heap:=s.heap.update a (Obj.putSet (SetTable.insertAt arr (t.put j).2 ((jJf prog w).hash k,Value.ref b)) (t.put j).1)}) ob1 d.exact_ rfl ae are1 ft hpl rfl w1.1 w1.2 fun h' o' arr' ep' t' es' sb2 pe el d'=> ?_)
  exact lJd (h2 hnk h' o' arr' ep' t' es' (sb1.trans sb2) (pe.trans (jXf _ _ _)) el d')
 ·rw[show (t.put j).1.tooFull=false from by simpa using full]
  simp only[Bool.and_false,lKn,↓reduceIte]
  have full':(es.length+1)*5<t.mask*3:=by
   unfold SetTable.tooFull at full
   rw[fl,mk] at full
   simpa using full
  refine lJd (h2 hnk _ _ _ _ (t.put j).1 _ sb1 (jXf _ _ _) rfl ⟨ob1,d.exact_,rfl,ae,are1,g1,?_,hpl⟩)
  rw[pl,mk]
  rcases d.mask with ⟨e,_⟩ | ⟨e,_⟩ | ⟨e,_⟩ | ⟨e,_⟩ | ⟨e,_⟩
  ·exact .inl ⟨e,by omega⟩
  ·exact .inr (.inl ⟨e,by omega⟩)
  ·exact .inr (.inr (.inl ⟨e,by omega⟩))
  ·exact .inr (.inr (.inr (.inl ⟨e,by omega⟩)))
  ·exact .inr (.inr (.inr (.inr ⟨e,by omega⟩)))
end
section
variable {w:World} {prog:Program}
def bt (w:World):Bool:=w.params.followText "set-order"
structure Put (es kb:List (TKey×Addr)):Prop where
 sub:∀e,e∈es->e∈kb
 all:∀e,e∈kb->e.1∈es.map (·.1)
 nod:(es.map (·.1)).Nodup
theorem Put.old {es kb:List (TKey×Addr)} (p:Put es kb) {e:TKey×Addr} (h:e.1∈es.map (·.1)):Put es (kb++[e]):=by
 refine⟨fun x hx=>lKa _ (p.sub x hx),fun x hx=> ?_,p.nod⟩
 rcases (lJx.mp hx) with z | z
 ·exact p.all x z
 ·rw[lJ1.mp z];exact h
theorem Put.new {es es' kb:List (TKey×Addr)} (p:Put es kb) {e:TKey×Addr} (h:e.1∉es.map (·.1)) (hp:es'.Perm (e::es)):Put es' (kb++[e]):=by
 have hm:(es'.map (·.1)).Perm (e.1::es.map (·.1)):=hp.map _
 refine⟨fun x hx=> ?_,fun x hx=> ?_,?_⟩
 ·rcases lJk.mp (hp.mem_iff.mp hx) with rfl | z
  ·exact lJ5 _ (lJ1.mpr rfl)
  ·exact lKa _ (p.sub x z)
 ·refine hm.mem_iff.mpr ?_
  rcases (lJx.mp hx) with z | z
  ·exact lJ4 _ (p.all x z)
  ·rw[lJ1.mp z];exact lJz ..
 ·exact hm.nodup_iff.mpr (lK0.mpr ⟨h,p.nod⟩)
theorem Put.few {es kb:List (TKey×Addr)} (p:Put es kb) {us:List TKey} (h:∀e,e∈kb->e.1∈us):es.length<=us.length:=by
 have h1:(es.map (·.1)) ⊆ us:=by
  intro k hk
  obtain⟨e,he,rfl⟩:=lJl.mp hk
  exact h e (p.sub e he)
 have:=p.nod.length_le_of_subset h1
 simpa using this
theorem SetD.move {h h':Heap} {a:Addr} {o:Obj} {arr:Array (Int×Value)} {ep:Nat} {t:SetTable} {es:List (TKey×Addr)} (d:SetD prog w h a o arr ep t es) (hg:h'.get? a=some o) (kp:TupKept h h'):SetD prog w h' a o arr ep t es:=
 ⟨hg,d.exact_,d.data,d.arr_,fun e he=>jKv kp (d.are e he),d.good,d.mask,d.plain⟩
def SetIs (prog:Program) (w:World) (h:Heap) (a:Addr) (kb:List (TKey×Addr)):Prop:=∃o arr ep t es,SetD prog w h a o arr ep t es/\Put es kb/\t.led= !bt w
theorem SetIs.move {h h':Heap} {a:Addr} {kb:List (TKey×Addr)} (d:SetIs prog w h a kb) (hg:∀o,h.get? a=some o->h'.get? a=some o) (kp:TupKept h h'):SetIs prog w h' a kb:=by
 obtain⟨o,arr,ep,t,es,d,p,l⟩:=d
 exact⟨o,arr,ep,t,es,d.move (hg o d.get) kp,p,l⟩
section
variable {A:Around} {R:Result->Shared->Prop} {I:Addr} {fp:List Addr} {G:Array GenState->Array GenState->Prop} {n:Nat} {P:Nat->Value->Prop} {St:Nat->Shared->Prop}
theorem kV6 {wr:List Addr} {s s':Shared} (hm:Moved wr G s s') (hw:∀b o,b∈wr->s.heap.get? b=some o->o.cls≠ .type "tuple"):TupKept s.heap s'.heap:=by
 intro b o hb hc
 exact hm.heap b o (fun z=>hw b o z hb hc) hb
theorem qQn (W:WalksS prog w A.in1 I fp [I] G n P St) (S:Addr) (hSf:S∉fp) (hIt:∀i s o,St i s->s.heap.get? I=some o->o.cls≠ .type "tuple") (kb:List (TKey×Addr)) (hu:(jJf prog w).room A.in1) (hk:∀e,e∈kb->intT e.1=true)
  (hval:∀i v,P i v->∃e,kb[i]? =some e/\v= .ref e.2) (hn:n=kb.length) {us:List TKey} (hus:us.length<400) (hkus:∀e,e∈kb->e.1∈us):
  ∀(q i:Nat) (s:Shared),n-i=q->i<=n->St i s->(∀e,e∈kb->(jJf prog w).is s.heap e.1 e.2)->SetIs prog w s.heap S (kb.take i)->
   (∀s',Moved (S::[I]) G s s'->SetIs prog w s'.heap S kb->R (.ok (.ret .none)) s')->codeAny (model prog w) A (.builtin "set.update.loop" ⟨[.ref S,.ref I],[]⟩) R s:=by
 have hSw:S∉[I]:=fun h=>hSf (W.sub _ h)
 have hsub:∀b∈[I],b∈S::[I]:=fun b hb=>lJ4 _ hb
 intro q
 induction q with
 | zero=>
  intro i s hq hi hst hks hS hR
  have hin:i=n:=by omega
  subst hin
  refine lXs PyProof.Rows.F.entry_set_update_loop ?_
  rw[lX5 lYi _]
  refine (show wpAny _ A.in1 (pyNext (.ref I) >>= _) _ _ s from ?_)
  (refine lJb (W.done s _ _ hst fun s' hm=> ?_))
  refine (show wpAny _ A.in1 (ret Value.none) _ _ s' from ?_)
  refine lJd (hR s' (hm.mono hsub) ?_)
  rw[hn,lVg] at hS
  exact hS.move (fun o e=>hm.heap S o hSw e) (kV6 hm fun b o hb e=>by rw[lJ1.mp hb] at e;exact hIt _ _ _ hst e)
 | succ q ih=>
  intro i s hq hi hst hks hS hR
  have hlt:i<n:=by omega
  refine lXs PyProof.Rows.F.entry_set_update_loop ?_
  rw[lX5 lYi _]
  refine (show wpAny _ A.in1 (pyNext (.ref I) >>= _) _ _ s from ?_)
  (refine lJb (W.item i s _ _ hlt hst fun v s' hP hst' hm=> ?_))
  obtain⟨⟨k,b⟩,he,rfl⟩:=hval i v hP
  have hmem:(k,b)∈kb:=lJo he
  have tk:=kV6 hm fun b o hb e=>by rw[lJ1.mp hb] at e;exact hIt _ _ _ hst e
  have hS':=hS.move (h':=s'.heap) (fun o e=>hm.heap S o hSw e) tk
  have hks':∀e,e∈kb->(jJf prog w).is s'.heap e.1 e.2:=fun e he=>jKv tk (hks e he)
  refine (show wpAny _ A.in1 (holding [Value.ref b] (setAdd S (.ref b)) >>= _) _ _ s' from ?_)
  (refine lJb (lK4 ?_))
  unfold setAdd
  refine lK4 ?_
  refine lJb ((jJf prog w).pyHash hu (hks' _ hmem) ?_)
  obtain⟨o,arr,ep,t,es,d,p,l⟩:=hS'
  have hl:=p.few fun e he=>hkus e (lQi he)
  have tk1:kb.take (i+1)=kb.take i++[(k,b)]:=by
   rw[lQt,he];rfl
  refine add_ok (s:={s' with toks:=s'.toks+(jJf prog w).draws k}) d (hks' _ hmem) (hk _ hmem) hu (by omega) (fun z=> ?_) (fun z h' o' arr' ep' t' es' sb pe el d'=> ?_)
  ·refine lJd ⟨plainId_quiet lYi _,ih (i+1) _ (by omega) hlt (W.frame _ s' _ _ hst' (Nat.le_add_right _ _) fun b hb o e=>e) hks' ?_ fun s'' hm'' hS''=> ?_⟩
   ·rw[tk1];exact⟨o,arr,ep,t,es,d,p.old z,l⟩
   ·exact hR s'' (Moved.trans W.gtrans ((hm.mono hsub).then_heap (Nat.le_add_right _ _) fun b o hb e=>e) hm'') hS''
  ·have tk2:TupKept s'.heap h':=TupKept.same d.get d.exact_.1 sb
   refine lJd ⟨plainId_quiet lYi _,ih (i+1) _ (by omega) hlt (W.frame _ s' _ _ hst' (Nat.le_add_right _ _) fun b hb o e=> ?_) (fun e he=>jKv tk2 (hks' e he)) ?_ fun s'' hm'' hS''=> ?_⟩
   ·exact (sb.2 b (fun z=>hSf (z▸hb))).trans e
   ·rw[tk1];exact⟨o',arr',ep',t',es',d',p.new z pe,el.trans l⟩
   ·refine hR s'' (Moved.trans W.gtrans ((hm.mono hsub).then_heap (Nat.le_add_right _ _) fun b o hb e=> ?_) hm'') hS''
    exact (sb.2 b (fun z=>hb (by rw[z];exact lJz ..))).trans e
end
section
variable {E:Value->Shared->Prop} {s:Shared} {A:Around}
theorem kZs {led:Bool} (hl:led= !bt w) {h:Heap}:SetIs prog w (h.push {cls:= .type "set",dict:=none,data:= .set #[] 0 (.fresh 0 0 led)}) h.objs.size []:=by
 refine⟨_,#[],0,_,[],⟨lJ8 _ rfl,⟨rfl,rfl,rfl⟩,rfl,rfl,fun e he=>absurd he (lJr),⟨rfl,List.Pairwise.nil,rfl,fun x hx=> ?_⟩,.inl ⟨rfl,lJu _⟩,rfl⟩,⟨fun _ h=>h,fun e he=>absurd he (lJr),lXx⟩,hl⟩
 exact absurd hx (by simp[hashes])
theorem qQm (a:Value) {Q₁:Value->Shared->Prop}
  (h:Q₁ (.ref s.heap.objs.size) {s with heap:=s.heap.push {cls:= .type "set",dict:=none,data:= .set #[] 0 (.fresh 0 0 (!bt w))} }):codeAny (model prog w) A (.call (.builtin "set.__new__") ⟨[.type "set",a],[]⟩) (wants Q₁ E) s:=by
 refine codeAny_of_tree ?_
 refine (show wpAny _ A.in1 (do checkBuiltinCall "set.__new__" ⟨[.type "set",a],[]⟩;again (.builtin "set.__new__" ⟨[.type "set",a],[]⟩)) _ _ s from ?_)
 (refine lJb (wpAny_of_eq (F.newCall_set_1 a) (lJd ⟨plainId_quiet F.plain_set_new _,lXs F.entry_set_new ?_⟩)))
 (rw[lX5 F.plain_set_new _])
 (unfold Builtin.«set.__new__» Builtin.Frozenset.newClass)
 have hsub:=sub_set_self
 (obtain⟨hp,g,d,tk,os⟩:=s)
 dsimp only
 wp_walk
 (refine lYc (lJd ?_))
 dsimp only
 simp only[newObj]
 (refine lJb (wpAny_alloc (lJd ?_)))
 exact lJd h
def jVo (w:World):Obj:={cls:= .type "set",dict:=none,data:= .set #[] 0 (.fresh 0 0 (!bt w))}
set_option maxHeartbeats 3201000 in
theorem kKf {l:Addr} {items:Array Value} {kb:List (TKey×Addr)} {Q:Value->Shared->Prop} (hh:A.handled=none) (hu:A.units+20<cLine) (hl:s.heap.IsList l items) (hi:items.toList=kb.map fun e=> .ref e.2) (hk:∀e,e∈kb->intT e.1=true/\(jJf prog w).is s.heap e.1 e.2) {us:List TKey} (hus:us.length<400) (hkus:∀e,e∈kb->e.1∈us)
  (h:∀(h':Heap) (tk:Nat),SetIs prog w h' s.heap.objs.size kb->(∀b o,s.heap.get? b=some o->h'.get? b=some o)->Q (.ref s.heap.objs.size) {s with heap:=h',toks:=tk}):wpAny (model prog w) A (call (.type "set") [.ref l]) Q E s:=by
 (obtain⟨c,tl,hmro⟩:=lVi.mro)
 (have hmade:=lVi.made)
 have hsub:=lVi.sub
 have hsz:items.size=kb.length:=by rw[<-lKj,hi,lJg]
 (refine wpAny_call (codeAny_of_tree ?_))
 refine (show wpAny _ _ (callAny (.type "set") _) _ _ _ from ?_)
 (refine lJd ⟨Code.quiet_builtin _ (by decide +kernel),lXs F.entry_type_call ?_⟩)
 (rw[Around.under_plain (weight_type_call_type "set" [.ref l] []) rfl])
 (have h1:=lVi.notType)
 (have h2:=lVi.canCreate)
 (have hct:=F.typeCall_set_1 (.ref l))
 (repeat (any_goals (first | assumption | wp_step)))
 refine lXn (qQm (.ref l) (E:=E) (Q₁:=fun obj s₁=>obj= .ref s.heap.objs.size/\s₁={s with heap:=s.heap.push (jVo w)}) ⟨rfl,rfl⟩) fun r s₁ hr=> ?_
 cases r with
 | error e=>exact hr
 | ok fl=>
  cases fl with
  | ret obj=>
   obtain⟨rfl,rfl⟩:=hr
   have hS:(s.heap.push (jVo w)).get? s.heap.objs.size=some (jVo w):=lJ8 _ rfl
   have hT:Shared.TypeIs {s with heap:=s.heap.push (jVo w)} (.ref s.heap.objs.size) "set":=⟨_,hS,rfl⟩
   (have hli:=lVi.init.lookup)
   (have hbi:=lVi.init.bind (.ref s.heap.objs.size))
   (repeat (any_goals (first | assumption | wp_step)))
   refine lXn (codeAny_call_builtin (R:=wants (fun r s₂=>r= .none/\∃h' tk,s₂={s with heap:=h',toks:=tk}/\SetIs prog w h' s.heap.objs.size kb/\(∀b o,s.heap.get? b=some o->h'.get? b=some o)) E) lVi.init.plain F.entry_set_init (check_set_init_1 hT ?_)) fun r₂ s₂ hr₂=> ?_
   ·(obtain⟨ol,hol,hcl,nl,hdl⟩:=hl)
    (obtain⟨ocls,odict,odata,oslots⟩:=ol)
    simp only at hcl hdl
    subst hcl;subst hdl
    have hol':(s.heap.push (jVo w)).get? l=some {cls:= .type "list",dict:=odict,data:= .seq items nl,slots:=oslots}:=lJs _ hol
    have hsls:=F.sub_list_set
    (have hslf:=F.sub_list_frozenset)
    (have hne:(Value.type "list" == Value.type "dict")=false:=by decide)
    have hl1:(s.heap.push (jVo w)).IsList l items:=⟨_,hol',rfl,nl,rfl⟩
    (unfold Builtin.«set.__init__» noKeywords Builtin.Frozenset.updateFrom)
    generalize hPI:pyIter=PI
    unfold jVo at hS hol' hl1 ⊢
    wp_walk
    subst hPI
    (refine lYq hl1 ?_)
    (refine lJb (wpAny_runValue ?_))
    (have hlS:l<s.heap.objs.size:=lJj hol)
    (have hh3:A.in1.in1.in1.handled=none:=by simp[hh])
    have hneI:l≠(s.heap.push (jVo w)).objs.size:=by
     (rw[lXe];exact lJw (Nat.lt_succ_of_lt hlS))
    have hSf:s.heap.objs.size∉[(s.heap.push (jVo w)).objs.size,l]:=by
     rw[lXe];simp only[lJk,lJr,lJ0,not_or]
     (exact⟨lJw (Nat.lt_succ_self _),lK6 hlS⟩)
    have hval:∀(i:Nat) (v:Value),items[i]? =some v->∃e,kb[i]? =some e/\v= .ref e.2:=by
     intro i v hv
     rw[<-lJ7,hi,lKr] at hv
     obtain⟨e,e1,e2⟩:=lQe.mp hv
     exact⟨e,e1,e2.symm⟩
    have up:∀b o,s.heap.get? b=some o->((s.heap.push (jVo w)).push {cls:= .type "list_iterator",data:= .fields #[.ref l,.int 0 0]}).get? b=some o:=fun b o e=>lJs _ (lJs _ e)
    refine qQn (A:=A.in1.in1) ((Walks.list hh3 _ l hneI items).toS) s.heap.objs.size hSf ?hIt kb ?hu (fun e he=>(hk e he).1) hval hsz hus hkus (items.size-0) 0 _ (by omega) (lJu _) ⟨⟨_,lJ8 _ rfl,rfl,rfl⟩,(hl1.push _)⟩ ?hks ?hS0 ?hR
    case hIt=>
     rintro i s2 o2 ⟨⟨o3,e3,c3,_⟩,_⟩ e2
     rw[e3] at e2;cases e2
     rw[c3];decide
    case hu=>
     show A.in1.in1.in1.units+6<cLine
     rw[lQo,lQo,lQo];omega
    case hks=>
     exact fun e he=>jKv (fun b o e _=>up b o e) (hk e he).2
    case hS0=>
     exact (kZs (prog:=prog) (w:=w) rfl (h:=s.heap)).move (fun o e=>lJs _ e) fun b o e _=>lJs _ e
    case hR=>
     intro s' hm hS'
     (obtain⟨h',g',d',tk',os'⟩:=s')
     cases (show g'=s.gens from hm.gens)
     cases (show d'=s.drawn from hm.drawn)
     cases (show os'=s.os from hm.os)
     refine (show wpAny _ _ _ _ _ _ from lJd ?_)
     refine (show wpAny _ _ (ret Value.none) _ _ _ from lJd ⟨rfl,h',tk',rfl,hS',fun b o e=> ?_⟩)
     have hb:=lJj e
     refine hm.heap b o ?_ (up b o e)
     simp only[lJk,lJr,lJ0,not_or]
     exact⟨lJw hb,by rw[lXe];exact lJw (Nat.lt_succ_of_lt hb)⟩
   ·cases r₂ with
    | error e=>exact hr₂
    | ok fl₂=>
     cases fl₂ with
     | ret r=>
      (obtain⟨rfl,h',tk,rfl,hS',hk'⟩:=hr₂)
      (repeat (any_goals (first | assumption | wp_step)))
      exact h _ _ hS' hk'
     | _=>exact hr₂.elim
  | _=>exact hr.elim
end
end
namespace Si
theorem own:Manifest.owners.lookup (String.ofList ['r','o','t','a','r','e','t','i','_','t','e','s'].reverse)=some Manifest.sig_set_iterator:=by kernel_rfl
theorem slot_next:Slot "set_iterator" "__next__" "set_iterator.__next__":=
 .of (owner:="set_iterator") (n:="__next__") (by rw[typeLookup_type,builtinLookup_eq_fast];kernel_rfl) (by decide +kernel) (by decide +kernel) (by decide +kernel) (by first | exact .inl (by decide +kernel) | exact .inr (by decide +kernel)) (by rw[isSubtype_type];kernel_rfl)
theorem entry_next:entryFor table "set_iterator.__next__"=some Builtin.«set_iterator.__next__» :=entryFor_of_tree (by kernel_rfl)
theorem args_next (a:Value):argsOk "set_iterator.__next__" ⟨[a],[]⟩:=by
 unfold argsOk;rw[signature?_of (id:="set_iterator.__next__") (n:=['_','_','t','x','e','n','_','_']) (o:=['r','o','t','a','r','e','t','i','_','t','e','s']) (by kernel_rfl) own];kernel_rfl
theorem entry_iter:entryFor table "set.__iter__"=some Builtin.«frozenset.__iter__» :=entryFor_alias (id':="frozenset.__iter__") (by kernel_rfl) rfl (by decide +kernel) (by kernel_rfl)
theorem slot_iter:Slot "set_iterator" "__iter__" "set_iterator.__iter__":=
 .of (owner:="set_iterator") (n:="__iter__") (by rw[typeLookup_type,builtinLookup_eq_fast];kernel_rfl) (by decide +kernel) (by decide +kernel) (by decide +kernel) (by first | exact .inl (by decide +kernel) | exact .inr (by decide +kernel)) (by rw[isSubtype_type];kernel_rfl)
theorem entry_it:entryFor table "set_iterator.__iter__"=some Builtin.«dict_keyiterator.__iter__» :=entryFor_alias (id':="dict_keyiterator.__iter__") (by kernel_rfl) rfl (by decide +kernel) (by kernel_rfl)
theorem args_it (a:Value):argsOk "set_iterator.__iter__" ⟨[a],[]⟩:=by
 unfold argsOk;rw[signature?_of (id:="set_iterator.__iter__") (n:=['_','_','r','e','t','i','_','_']) (o:=['r','o','t','a','r','e','t','i','_','t','e','s']) (by kernel_rfl) own];kernel_rfl
end Si
section
variable {prog:Program} {w:World} {A:Around} {E:Value->Shared->Prop} {s:Shared}
theorem SetD.stateB {h0:Heap} {S:Addr} {o:Obj} {arr:Array (Int×Value)} {ep:Nat} {t:SetTable} {es:List (TKey×Addr)} (d:SetD prog w h0 S o arr ep t es) (hg:s.heap.get? S=some o) {Q:(Array (Int×Value)×Nat×SetTable)->Shared->Prop} (h:Q (arr,ep,t) s):wpAny (model prog w) A (setState S) Q E s:=
 wpAny_setState_of hg d.data d.fits h
theorem qUz {S:Addr} {o:Obj} {arr:Array (Int×Value)} {ep:Nat} {t:SetTable} {es:List (TKey×Addr)} (d:SetD prog w s.heap S o arr ep t es) {Q:Value->Shared->Prop}
  (hQ:Q (.ref s.heap.objs.size) {s with heap:=s.heap.push {cls:= .type "set_iterator",data:= .fields #[.int 0 0,.int 0 0,.ref S,.int es.length 0,.int ep 0]} }):wpAny (model prog w) A (pyIter (.ref S)) Q E s:=by
 have hT:s.TypeIs (.ref S) "set":=⟨o,d.get,d.exact_.1⟩
 refine wpAny_pyIter_slot hT PySem.F.slot_set_iter (lQm PySem.F.slot_set_iter hT Si.entry_iter ?_ (PySem.F.args_set_iter_1 _))
 unfold Builtin.«frozenset.__iter__» Builtin.Frozenset.slot0 slotArgs
 (simp only[List.isEmpty_nil,Bool.not_true,lKn,↓reduceIte,bind_assoc,lQd,bne_self_eq_false])
 (unfold Builtin.Frozenset.addrOf Builtin.Frozenset.sizeOf)
 refine lJb (lJd ?_)
 try dsimp only
 refine lJb (lJd ?_)
 simp only[setEntries,setDrawn,bind_assoc]
 refine lJb (d.state ?_)
 refine lJb (lJd (lJb (lJd (lJb (d.state ?_)))))
 dsimp only[setsByText]
 refine lJb (lJb (lYc (lJd (lJb (lJd ?_)))))
 rw[lJa (fun z=> ?_)]
 ·(refine lJb (lJd ?_))
  unfold setEpoch
  refine lJb (lJb (d.state (lJd ?_)))
  refine lJb (lK8 (lJd ⟨_,rfl,"set_iterator",_,⟨_,lJ8 _ rfl,rfl⟩,Si.slot_next.lookup,?_⟩))
  have:=d.size
  simpa[rawInt,this] using hQ
 ·have z':(!(w.params.followText "set-order")&&(!t.plain&&decide (arr.size>1)))=true:=z
  rw[d.plain] at z'
  simp at z'
theorem kJ2 {α:Type}:∀ {l:List α} {i:Nat} (h:i<l.length),(l[i]::l.eraseIdx i).Perm l
 | a::l,0,_=> .refl _
 | a::l,i+1,h=>by
  have hi:i<l.length:=by simpa using h
  exact (List.Perm.swap _ _ _).trans (List.Perm.cons a (kJ2 hi))
theorem qJf {α:Type} (next:Nat->Nat):∀(fuel k:Nat) (left:List α) (out:Array α),fuel=left.length->(pickOrder.go next fuel k left out).toList.Perm (out.toList++left)
 | 0,k,left,out,h=>by
  have:left=[]:=List.eq_nil_of_length_eq_zero h.symm
  subst this
  rw[lQ0];exact .refl _
 | fuel+1,k,left,out,h=>by
  have hl:next k%left.length<left.length:=lVx _ (by omega)
  unfold pickOrder.go
  rw[lJm hl]
  dsimp only
  refine (qJf next fuel (k+1) _ _ (by rw[List.length_eraseIdx_of_lt hl];omega)).trans ?_
  rw[Array.toList_push,lJq]
  (refine lXj _ ?_)
  rw[List.singleton_append]
  exact kJ2 hl
theorem qJe {α:Type} (next:Nat->Nat) (xs:Array α):(pickOrder next xs).toList.Perm xs.toList:=by
 have:=qJf next xs.size 0 xs.toList #[] (by simp)
 rw[show (#[]:Array α).toList++xs.toList=xs.toList from rfl] at this
 exact this
def ordS (w:World) (S:Addr) (ep:Nat) (arr:Array (Int×Value)):Array (Int×Value):=if bt w=true then pickOrder (w.params.setOrder S ep) arr else arr
theorem jXg (w:World) (S:Addr) (ep:Nat) (arr:Array (Int×Value)):(ordS w S ep arr).toList.Perm arr.toList:=by
 unfold ordS
 split
 ·exact qJe _ _
 ·exact .refl _
def jVm (w:World) (t:SetTable) (i:Nat):Nat:=if bt w=true then 0 else if i=0 then 0 else t.place.getD (i-1) 0+1
theorem kYu {t:SetTable} {hs:List Int} (g:St.Good t hs) (hb:bt w=false) {i:Nat} (hi:i<=t.place.size):SetTable.below t.place (jVm w t i)=i:=by
 unfold jVm
 rw[hb,lJa (by decide)]
 by_cases c:i=0
 ·subst c;exact St.below_zero g.ris
 ·rw[lJa c,St.getD_at (by omega),St.below_next g.ris (by omega)]
  omega
theorem kJp {h0:Heap} {S:Addr} {o:Obj} {arr:Array (Int×Value)} {ep:Nat} {t:SetTable} {es:List (TKey×Addr)} (d:SetD prog w h0 S o arr ep t es) (hg:s.heap.get? S=some o) (hl:t.led= !bt w) {i:Nat} (hi:i<=arr.size) {Q:Option (Value×Nat)->Shared->Prop}
  (hQ:Q (((ordS w S ep arr)[i]?).map fun e=>(e.2,jVm w t (i+1))) s):wpAny (model prog w) A (setNext S (jVm w t i) i ep) Q E s:=by
 have hp:t.place.size=arr.size:=by
  have l:=d.good.len
  unfold hashes at l
  rw[lJg] at l
  rw[l,d.size]
 unfold setNext
 refine lJb (d.stateB hg ?_)
 dsimp only[setsByText]
 (refine lJb (lJb (lYc (lJd ?_))))
 refine (show wpAny _ _ (if bt w=true then _ else _) _ _ _ from ?_)
 cases hb:bt w with
 | true=>
  rw[lJc rfl,lJa (by simp)]
  unfold setWalk
  refine lJb (lJb (d.stateB hg ?_))
  dsimp only[setsByText]
  (refine lJb (lJb (lYc (lJd ?_))))
  refine (show wpAny _ _ (if bt w=true then _ else _) _ _ _ from ?_)
  rw[hb,lJc rfl]
  refine lJb (lYc (lJd (lJd ?_)))
  have e1:jVm w t i=jVm w t (i+1):=by unfold jVm;rw[hb];rfl
  unfold ordS at hQ
  rw[hb,lJc rfl,<-e1] at hQ
  exact hQ
 | false=>
  rw[lJa (by decide)]
  rw[lJa (fun z=> ?_)]
  ·refine lJb (m:=(if (!t.led&& !arr.isEmpty)=true then unsupported "set:maker-not-led" else pure ())) ?_
   rw[hl,hb]
   simp only[Bool.not_false,Bool.not_true,Bool.false_and,lKn,↓reduceIte]
   (refine lJd (lJd ?_))
   rw[kYu d.good hb (by omega)]
   unfold ordS at hQ
   rw[hb,lJa (by decide)] at hQ
   by_cases c:i<arr.size
   ·have hi':i<t.place.size:=by omega
    rw[lKu c,lKu hi']
    rw[lKu c] at hQ
    dsimp only
    have e1:jVm w t (i+1)=t.place[i]+1:=by
     unfold jVm
     rw[hb,lJa (by decide),lJa (by omega),lYj,St.getD_at hi']
    rw[e1] at hQ
    exact hQ
   ·rw[lQ3 (by omega)]
    rw[lQ3 (by omega)] at hQ
    exact hQ
  ·have z':(!t.plain&&decide (arr.size>1))=true:=z
   rw[d.plain] at z'
   simp at z'
def kYq (S:Addr) (ep n slot i:Nat):Obj:={cls:= .type "set_iterator",dict:=none,data:= .fields #[.int slot 0,.int i 0,.ref S,.int n 0,.int ep 0],slots:= #[]}
theorem qUg {h0:Heap} {S I:Addr} {o:Obj} {arr:Array (Int×Value)} {ep:Nat} {t:SetTable} {es:List (TKey×Addr)} (d:SetD prog w h0 S o arr ep t es) (hl:t.led= !bt w) (hg:s.heap.get? S=some o) {i:Nat} (hI:s.heap.get? I=some (kYq S ep arr.size (jVm w t i) i)) {e:Int×Value} (he:(ordS w S ep arr)[i]? =some e) {Q:Option Value->Shared->Prop}
  (hQ:∀h',Heap.SameBut I s.heap h'->h'.get? I=some (kYq S ep arr.size (jVm w t (i+1)) (i+1))->Q (some e.2) {s with heap:=h'}):wpAny (model prog w) A (pyNext (.ref I)) Q E s:=by
 have hT:s.TypeIs (.ref I) "set_iterator":=⟨_,hI,rfl⟩
 have hsz:(ordS w S ep arr).size=arr.size:=by rw[<-lKj,(jXg w S ep arr).length_eq,lKj]
 have hi:i<arr.size:=by have:=(lXf.mp he).1;omega
 unfold pyNext
 refine lJb (wpAny_attempt (lVn (name:=Str.ofString "__next__") hT Si.slot_next (lQm Si.slot_next hT Si.entry_next ?_ (Si.args_next _))))
 unfold Builtin.«set_iterator.__next__»
 refine lJb (lJd ?_)
 refine lJb (wpAny_fieldsOf hI rfl ?_)
 dsimp only
 unfold setEntries
 refine lJb (lJb (d.stateB hg (lJd ?_)))
 dsimp only
 rw[lJa (by simp)]
 simp only[lXu]
 refine lJb (kJp d hg hl (lVp hi) ?_)
 rw[he]
 dsimp only[Option.map_some]
 refine lJb (lVo hI (by simp) fun h1 e1 sb1=> ?_)
 refine lJb (lVo (s:={s with heap:=h1}) e1 (by simp) fun h2 e2 sb2=> ?_)
 refine lJd ⟨_,rfl,lJd (hQ h2 (sb1.trans sb2) ?_)⟩
 simpa[rawInt,kYq] using e2
theorem qZa {h0:Heap} {S I:Addr} {o:Obj} {arr:Array (Int×Value)} {ep:Nat} {t:SetTable} {es:List (TKey×Addr)} (d:SetD prog w h0 S o arr ep t es) (hl:t.led= !bt w) (hh:A.handled=none) (hg:s.heap.get? S=some o) (hI:s.heap.get? I=some (kYq S ep arr.size (jVm w t arr.size) arr.size)) {Q:Option Value->Shared->Prop}
  (hQ:∀h',Heap.ExtBut I s.heap h'->Q none {s with heap:=h'}):wpAny (model prog w) A (pyNext (.ref I)) Q E s:=by
 have hT:s.TypeIs (.ref I) "set_iterator":=⟨_,hI,rfl⟩
 have hsz:(ordS w S ep arr).size=arr.size:=by rw[<-lKj,(jXg w S ep arr).length_eq,lKj]
 unfold pyNext
 refine lJb (wpAny_attempt (lVn (name:=Str.ofString "__next__") hT Si.slot_next (lQm Si.slot_next hT Si.entry_next ?_ (Si.args_next _))))
 unfold Builtin.«set_iterator.__next__»
 refine lJb (lJd ?_)
 refine lJb (wpAny_fieldsOf hI rfl ?_)
 dsimp only
 unfold setEntries
 refine lJb (lJb (d.stateB hg (lJd ?_)))
 dsimp only
 rw[lJa (by simp)]
 simp only[lXu]
 refine lJb (kJp d hg hl (lJh _) ?_)
 rw[lQ3 (by omega)]
 dsimp only[Option.map_none]
 refine lJb (lVo hI (by simp) fun h1 e1 sb1=> ?_)
 refine (show wpAny _ _ (newExc (.type "StopIteration") [] >>= _) _ _ _ from lJb ?_)
 simp only[newExc,newTuple];refine lJb (lK8 ?_ (by size_fits));refine lJb (m:=firstArgMember _ _) (wpAny_of_eq (a:=Value.none) (by first | rfl | (simp only[firstArgMember];rfl)) (lK8 ?_ (by size_fits)))
 simp only[raiseNew];refine lJb (wpAny_handled ?_);rw[show A.in1.handled=none from hh];refine lJb (lJd (wpAny_throw ?_))
 exact lJb (lYb (T:="StopIteration") (b:=true) ⟨_,lJ8 _ rfl,rfl⟩ isSubtype_stop (lJd (hQ _ ((sb1.extBut.push _).push _))))
theorem kY8 {h0:Heap} {S I:Addr} {o:Obj} {arr:Array (Int×Value)} {ep:Nat} {t:SetTable} {es:List (TKey×Addr)} (d:SetD prog w h0 S o arr ep t es) (hl:t.led= !bt w) (hh:A.handled=none) (hIS:I≠S):
  WalksS prog w A I [I,S] [I] (fun a b=>b=a) arr.size (fun i v=>((ordS w S ep arr)[i]?).map (·.2)=some v) (fun i s=>s.heap.get? S=some o/\s.heap.get? I=some (kYq S ep arr.size (jVm w t i) i)) where
 sub:=fun b hb=>by rw[lJ1.mp hb];exact lJz ..
 grefl:=fun _=>rfl
 gtrans:=fun _ _ _ h1 h2=>(h2.trans h1)
 frame:=fun i s h' _ st _ hk=>⟨hk S (by simp) _ st.1,hk I (by simp) _ st.2⟩
 item:=by
  intro i s Q E hi st hQ
  have hsz:(ordS w S ep arr).size=arr.size:=by rw[<-lKj,(jXg w S ep arr).length_eq,lKj]
  refine qUg d hl st.1 st.2 (e:=(ordS w S ep arr)[i]) (lKu (by omega)) fun h' sb e=> ?_
  refine hQ _ _ (by rw[lKu (by omega)];rfl) ⟨(sb.2 S (fun z=>hIS z.symm)).trans st.1,e⟩ ⟨fun b ob hb e=> ?_,rfl,rfl,rfl,lJh _⟩
  exact (sb.2 b (fun z=>hb (lJ1.mpr z))).trans e
 done:=by
  intro s Q E st hQ
  refine qZa d hl hh st.1 st.2 fun h' eb=>hQ _ ⟨fun b ob hb e=> ?_,rfl,rfl,rfl,lJh _⟩
  exact eb b ob (fun z=>hb (lJ1.mpr z)) e
 self:=by
  intro i s Q E st hQ
  have hT:s.TypeIs (.ref I) "set_iterator":=⟨_,st.2,rfl⟩
  refine wpAny_pyIter_slot hT Si.slot_iter (lQm Si.slot_iter hT Si.entry_it ?_ (Si.args_it _))
  exact (show wpAny _ _ (ret (.ref I)) _ _ s from lJd ⟨_,rfl,"set_iterator",_,hT,Si.slot_next.lookup,hQ⟩)
theorem qU6 {S:Addr} {o:Obj} (hg:s.heap.get? S=some o) (hc:o.cls= .type "set") {Q:Bool->Shared->Prop} (h:Q false s):wpAny (model prog w) A (Builtin.List.listLengthHint (.ref S)) Q E s:=by
 have hT:s.TypeIs (.ref S) "set":=⟨o,hg,hc⟩
 (unfold Builtin.List.listLengthHint)
 refine lJb (wpAny_specialOf hT PySem.F.slot_set_len.lookup ?_)
 generalize hn:("set.__len__":String)=nm
 wp_delta
 rw[show splitId nm=some ("set","__len__") by subst hn;decide +kernel];subst hn
 refine lJb (lYb (T:="set") (b:=true) hT (by rw[isSubtype_type];kernel_rfl) (wpAny_ite_split (fun z=>absurd z (by decide)) fun _=> ?_))
 refine wpAny_ite_split (fun _=> ?_) fun z=>absurd (by decide +kernel) z
 exact lJb (lXo hT (lJd h))
theorem kYs {R:Result->Shared->Prop} {S L:Addr} {o:Obj} {arr:Array (Int×Value)} {ep:Nat} {t:SetTable} {es:List (TKey×Addr)} (d:SetD prog w s.heap S o arr ep t es) (hl:t.led= !bt w) (hh:A.handled=none) (res:Value) (c0:Nat)
  (hL:s.heap.get? L=some {cls:= .type "list",data:= .seq #[] c0}) (hLS:L≠S)
  (hR:∀(g:Heap) (tk:Nat) (acc:Array Value) (c':Nat),(∀b ob,b≠L->s.heap.get? b=some ob->g.get? b=some ob)->g.get? L=some {cls:= .type "list",dict:=none,data:= .seq acc c',slots:= #[]}->ItemsOf (fun i v=>((ordS w S ep arr)[i]?).map (·.2)=some v) acc arr.size->R (.ok (.ret res)) {s with heap:=g,toks:=tk}):
  wpAny (model prog w) A.in1 (Builtin.List.listExtendWith (.ref L) (.ref S) res) (fun fin z=>match fin with | .done f=>R (.ok f) z | .again c'=>c'.quiet=true/\codeAny (model prog w) A c' R z) (fun e z=>R (.error e) z) s:=by
 have hT:s.TypeIs (.ref S) "set":=⟨o,d.get,d.exact_.1⟩
 have hIS:s.heap.objs.size≠S:=lK6 (lJj d.get)
 have hIL:L≠s.heap.objs.size:=lJw (lJj hL)
 have hSf:L∉[s.heap.objs.size,S]:=by simp[hIL,hLS]
 have asz:arr.size<=sizeLine:=by
  rw[d.size,lKs]
  rcases d.mask with ⟨_,z⟩ | ⟨_,z⟩ | ⟨_,z⟩<;>omega
 (unfold Builtin.List.listExtendWith)
 (refine lJb (lXo hT ?_))
 have z1:Builtin.List.listSameRef (.ref L) (.ref S)=false:=by simp[Builtin.List.listSameRef,hLS]
 have z2:(Value.type "set" == Value.type "list")=false:=by decide
 have z3:(Value.type "set" == Value.type "tuple")=false:=by decide
 simp only[z1,z2,z3,Bool.or_false,lKn,lKd]
 refine lJb (qUz d ?_)
 refine lJb (lK4 (qU6 (o:=o) (lJs _ d.get) d.exact_.1 ?_))
 refine wpAny_ite_split (fun _=> ?_) fun z=>absurd (by decide +kernel) z
 refine lJb (lK9 ?_)
 generalize hg1:s.heap.push {cls:=Value.type "set_iterator",data:=Data.fields #[Value.int 0 0,Value.int 0 0,Value.ref S,Value.int (es.length:Int) 0,Value.int (ep:Int) 0]}=h1
 have hI1:h1.get? s.heap.objs.size=some (kYq S ep arr.size (jVm w t 0) 0):=by
  rw[<-hg1,d.size,show jVm w t 0=0 by unfold jVm;split<;>rfl]
  exact lJ8 _ rfl
 have up:∀b ob,s.heap.get? b=some ob->h1.get? b=some ob:=fun b ob e=>by rw[<-hg1];exact lJs _ e
 have hL1:=up L _ hL
 refine lJb ?_
 refine (show wpAny _ A.in1 (updateSeq L (·.push .none) >>= fun _=>updateSeq L (·.pop)) _ _ {s with heap:=h1} from ?_)
 refine lJb (wpAny_updateSeq hL1 rfl ?_)
 have hL2:=lXv (Obj.mapSeq (·.push Value.none)) hL1 rfl
 refine wpAny_updateSeq (s:={s with heap:=h1.update L (Obj.mapSeq (·.push Value.none))}) hL2 rfl ?_
 have hL3:=lXv (Obj.mapSeq (·.pop)) hL2 rfl
 have oth:∀b ob,b≠L->h1.get? b=some ob->((h1.update L (Obj.mapSeq (·.push Value.none))).update L (Obj.mapSeq (·.pop))).get? b=some ob:=
  fun b ob hb e=>(lYe _ _ (Ne.symm hb)).trans ((lYe _ _ (Ne.symm hb)).trans e)
 refine lJd ⟨plainId_quiet F.plain_extend_loop _,?_⟩
 refine codeAny_extend_loopS (kY8 (A:=A.in1) d hl hh hIS) asz L hSf res arr.size 0 _ #[] _ rfl (lJu _) ⟨oth S o (Ne.symm hLS) (up S o d.get),oth _ _ (Ne.symm hIL) hI1⟩ hL3 (ItemsOf.nil _) fun z acc c' hm hL' hacc=> ?_
 rw[Moved.eq_with hm]
 refine hR z.heap z.toks acc c' (fun b ob hb e=>hm.heap b ob ?_ (oth b ob hb (up b ob e))) hL' hacc
 simp only[lJk,lJr,lJ0,not_or]
 exact⟨hb,lJw (lJj e)⟩
theorem kVy {S:Addr} {o:Obj} {arr:Array (Int×Value)} {ep:Nat} {t:SetTable} {es:List (TKey×Addr)} (d:SetD prog w s.heap S o arr ep t es) (hl:t.led= !bt w) (hh:A.handled=none) {Q:List Value->Shared->Prop}
  (hQ:∀(g:Heap) (tk:Nat) (acc:List Value),(∀b ob,s.heap.get? b=some ob->g.get? b=some ob)->s.heap.objs.size<g.objs.size->acc.Perm (es.map fun e=> .ref e.2)->Q acc {s with heap:=g,toks:=tk}):wpAny (model prog w) A (collect (.ref S)) Q E s:=by
 have hLS:s.heap.objs.size≠S:=lK6 (lJj d.get)
 have key:∀R:Result->Shared->Prop,(∀(g:Heap) (tk:Nat) (acc:Array Value) (c':Nat),(∀b ob,s.heap.get? b=some ob->g.get? b=some ob)->g.get? s.heap.objs.size=some {cls:= .type "list",dict:=none,data:= .seq acc c',slots:= #[]}->ItemsOf (fun i v=>((ordS w S ep arr)[i]?).map (·.2)=some v) acc arr.size->R (.ok (.ret (.ref s.heap.objs.size))) {s with heap:=g,toks:=tk})->
   codeAny (model prog w) A (.builtin "proto.collect" ⟨[.ref S],[]⟩) R s:=by
  intro R hR
  refine lXs F.entry_proto_collect ?_
  (rw[lX5 F.plain_proto_collect _])
  refine (show wpAny _ A.in1 (newList [] >>= fun l=>again (.builtin "list.__iadd__" ⟨[l,.ref S],[]⟩)) _ _ s from lJb (lK8 (lJd ⟨plainId_quiet F.plain_list_iadd _,lXs F.entry_list_iadd ?_⟩)))
  (rw[lX5 F.plain_list_iadd _])
  have hS1:(s.heap.push {cls:= .type "list",data:= .seq ([]:List Value).toArray}).get? s.heap.objs.size=some {cls:= .type "list",data:= .seq ([]:List Value).toArray}:=lJ8 _ rfl
  have d1:SetD prog w (s.heap.push {cls:= .type "list",data:= .seq ([]:List Value).toArray}) S o arr ep t es:=d.move (lJs _ d.get) fun b ob e _=>lJs _ e
  exact kYs (A:=A) (R:=R) (s:={s with heap:=s.heap.push {cls:= .type "list",data:= .seq ([]:List Value).toArray} }) d1 hl hh (.ref s.heap.objs.size) 0 hS1 hLS fun g tk acc c' kp hL' hacc=>hR g tk acc c' (fun b ob e=>kp b ob (lJw (lJj e)) (lJs _ e)) hL' hacc
 unfold collect
 refine lJb (wpAny_runValue (key _ fun g tk acc c' kp hL' hacc=>(show wpAny _ A (load s.heap.objs.size >>= _) _ _ _ from lJb (wpAny_load hL' (lJd (hQ g tk acc.toList kp (lJj hL') ?_))))))
 have e1:acc.toList=(ordS w S ep arr).toList.map (·.2):=by
  have hsz:(ordS w S ep arr).size=arr.size:=by rw[<-lKj,(jXg w S ep arr).length_eq,lKj]
  apply lVb
  intro i
  rw[lKr,lJ7,lJ7]
  by_cases hi:i<acc.size
  ·have:=hacc.2 i acc[i] (lKu hi)
   rw[lKu hi]
   exact this.symm
  ·rw[lQ3 (by omega),lQ3 (by rw[hsz,<-hacc.1];omega)]
   rfl
 rw[e1]
 refine ((jXg w S ep arr).map _).trans ?_
 rw[d.arr_,lKo]
 exact .refl _
end
end L3
namespace L3
open PySem PySem.Spec PyProof.Rows L2
noncomputable def lexLt {K:Type} [DecidableEq K] (lt:K->K->Option Bool):List K->List K->Option Bool
 | [],[]=>some false
 | [],_::_=>some true
 | _::_,[]=>some false
 | x::xs,y::ys=>if x=y then lexLt lt xs ys else lt x y
def ltI:Key->Key->Option Bool
 | .inl i,.inl j=>some (decide (i<j))
 | _,_=>none
def ltS {K:Type} [DecidableEq K] (lt:K->K->Option Bool):Key ⊕ List K->Key ⊕ List K->Option Bool
 | .inl x,.inl y=>ltI x y
 | .inr x,.inr y=>lexLt lt x y
 | _,_=>none
def ltK:TKey->TKey->Option Bool:=lexLt (ltS (ltS ltI))
section
variable {prog:Program} {w:World} {K:Type} [DecidableEq K] {c:Nat}
def LtV (V:KeyV prog w K c) (lt:K->K->Option Bool):Prop:=∀ {A:Around} {E:Value->Shared->Prop} {s:Shared} {x y:K} {u v:Value} {b:Bool} {Q:Value->Shared->Prop},A.units+c<cLine->V.is s.heap x u->V.is s.heap y v->lt x y=some b->Q (.bool b) s->wpAny (model prog w) A (compareOp .Lt u v) Q E s
theorem qJv:LtV (jYc prog w) ltI:=by
 intro A E s x y u v b Q _ hx hy hl h
 rcases jJo (show jV1 x u=true from hx) with ⟨i,t,rfl,rfl⟩ | ⟨i,t,rfl,rfl⟩
 ·rcases jJo (show jV1 y v=true from hy) with ⟨j,t',rfl,rfl⟩ | ⟨j,t',rfl,rfl⟩
  ·cases hl
   exact PyProof.Rows.lt_int h
  ·cases hl
 ·cases hl
open PySem.SeqAt in
open PySem.AutoSeq1 (wpAny_loadPart') in
open PySem.MeetsSeq PySem.MeetsSeq2 PySem.MeetsSeq3 in
theorem lt_tup {V:KeyV prog w K c} {lt:K->K->Option Bool} (hV:LtV V lt):LtV (jUg V) (lexLt lt):=by
 rintro A E s x y u v b Q hu ⟨a1,o1,its1,n1,rfl,ho1,hc1,hd1,hi1⟩ ⟨a2,o2,its2,n2,rfl,ho2,hc2,hd2,hi2⟩ hl h
 obtain⟨cls,dd,data,sl⟩:=o1
 obtain⟨cls2,dd2,data2,sl2⟩:=o2
 simp only at hc1 hd1 hc2 hd2
 subst hc1 hd1 hc2 hd2
 have hT1:s.TypeIs (.ref a1) "tuple":=⟨_,ho1,rfl⟩
 have hT2:s.TypeIs (.ref a2) "tuple":=⟨_,ho2,rfl⟩
 refine (show wpAny _ _ (richCompare .Lt (.ref a1) (.ref a2)) _ _ s from wpAny_richCompare_same_room hT1 hT2 PySem.F.slot_tuple_lt (lQm PySem.F.slot_tuple_lt hT1 PySem.F.entry_tuple_lt ?_ (PySem.F.args_tuple_lt_2 _ _)) (by omega))
 have f2:=AutoSeq1.sub_tuple_tuple
 (obtain⟨hp,g,d,tk,os⟩:=s)
 have z1:its1.size=x.length:=by rw[hi1.length];simp
 have z2:its2.size=y.length:=by rw[hi2.length];simp
 wp_walk using wpAny_loadPart' ho1,wpAny_loadPart' ho2,wpAny_forIn_list _ (fun rest bb s'=>bb.1=none/\s'=⟨hp,g,d,tk,os⟩/\∃(vs ws:List Value) (x' y':List K),rest=vs.zip ws/\ItemsV V hp x' vs/\ItemsV V hp y' ws/\x'.length+its2.size=y'.length+its1.size/\lexLt lt x' y'=some b) _
 case turn=>
  rintro⟨p,q⟩ rest bb s' ⟨hb',rfl,vs,ws,x',y',hz,hv1,hv2,hlen,hR⟩
  cases hv1 with
  | nil=>rw[List.zip_nil_left] at hz;cases hz
  | @cons k1 v1 ks1 vs1 h1 hv1'=>
   cases hv2 with
   | nil=>rw[List.zip_nil_right] at hz;cases hz
   | @cons k2 v2 ks2 vs2 h2 hv2'=>
    rw[lVs] at hz
    injection hz with hyx hrest
    injection hyx with hy hx
    subst hy hx
    simp only[lKm] at hlen
    have he:=V.eqAt (A:=A.in1) (s:=⟨hp,g,d,tk,os⟩) (by rw[lQo];omega) h1 h2
    refine lJb (he prog w _ _ ?_)
    by_cases e:k1=k2
    ·have hR':lexLt lt ks1 ks2=some b:=by
      have:=hR
      unfold lexLt at this
      rw[lJc e] at this;exact this
     rw[lJ3 e]
     wp_walk
     exact⟨rfl,rfl,_,_,_,_,hrest,hv1',hv2',by omega,hR'⟩
    ·have hR':lt k1 k2=some b:=by
      have:=hR
      unfold lexLt at this
      rw[lJa e] at this;exact this
     rw[lJt e]
     have hri:∀ {Q':Value->Shared->Prop} {E':Value->Shared->Prop},Q' (.bool b) ⟨hp,g,d,tk,os⟩->wpAny (model prog w) A.in1 (richCompare .Lt p q) Q' E' ⟨hp,g,d,tk,os⟩:=fun hq=>(hV (A:=A.in1) (s:=⟨hp,g,d,tk,os⟩) (by rw[lQo];omega) h1 h2 hR' hq:wpAny (model prog w) A.in1 (compareOp .Lt p q) _ _ _)
     wp_walk using hri
     exact⟨_,rfl,(fun z=>nomatch z),h⟩
 case fin=>
  rintro⟨b1,b2⟩ s' ⟨hb',rfl,vs,ws,x',y',hz,hv1,hv2,hlen,hR⟩
  simp only at hb'
  subst hb'
  have hv:b=decide (its1.size<its2.size):=by
   cases hv1 with
   | nil=>
    cases hv2 with
    | nil=>simp only[lQd] at hlen;cases hR;exact (lJt (by omega)).symm
    | cons _ _=>simp only[lQd,lKm] at hlen;cases hR;exact (lJ3 (by omega)).symm
   | cons _ hv1'=>
    cases hv2 with
    | nil=>simp only[lQd,lKm] at hlen;cases hR;exact (lJt (by omega)).symm
    | cons _ _=>rw[lVs] at hz;cases hz
  wp_walk
  refine⟨_,rfl,(fun z=>nomatch z),?_⟩
  simpa[Builtin.Tuple.tupleCompareSizes,<-hv] using h
 case h=>
  exact⟨rfl,rfl,its1.toList,its2.toList,x,y,rfl,hi1,hi2,by omega,hl⟩
theorem qV6 {V:KeyV prog w K c} {lt:K->K->Option Bool} (hV:LtV V lt):LtV (kX8 V) (ltS lt):=by
 rintro A E s (x | x) (y | y) u v b Q hu hx hy hl h
 ·exact qJv (by omega) hx hy hl h
 ·cases hl
 ·cases hl
 ·exact lt_tup hV hu hx hy hl h
end
end L3
namespace L3
open PySem PySem.Spec PyProof.Rows L2 PySem.W
section
variable {n:Nat} {lt:Nat->Nat->Bool}
end
structure KOrd {K:Type} (lt:K->K->Option Bool):Prop where
 neg:∀ {a b},a≠b->∀ {c},lt a b=some c->lt b a=some !c
 tr:∀ {a b c},a≠b->b≠c->lt a b=some true->lt b c=some true->lt a c=some true
 ir:∀ {a b},a≠b->lt a b=some true->lt b a=some true->False
theorem kord_I:KOrd ltI:=by
 refine⟨?_,?_,?_⟩
 ·rintro (a | a) (b | b) h c e
  ·have hab:a≠b:=fun z=>h (by rw[z])
   simp only[ltI,lYk] at e ⊢
   rw[<-e]
   by_cases q:a<b
   ·rw[lJ3 q,lJt (by omega)];rfl
   ·rw[lJt q,lJ3 (by omega)];rfl
  ·cases e
  ·cases e
  ·cases e
 ·rintro (a | a) (b | b) (c | c) _ _ e1 e2<;>first | cases e1;done | cases e2;done | skip
  simp only[ltI,lYk,lKw] at e1 e2 ⊢
  omega
 ·rintro (a | a) (b | b) _ e1 e2<;>first | cases e1;done | skip
  simp only[ltI,lYk,lKw] at e1 e2
  omega
section
variable {K:Type} [DecidableEq K] {lt:K->K->Option Bool}
theorem kVm (o:KOrd lt):∀ {a b:List K},a≠b->∀ {c},lexLt lt a b=some c->lexLt lt b a=some !c
 | [],[],h,_,_=>absurd rfl h
 | [],_::_,_,c,e=>by cases e;rfl
 | _::_,[],_,c,e=>by cases e;rfl
 | x::xs,y::ys,h,c,e=>by
  unfold lexLt at e ⊢
  by_cases q:x=y
  ·rw[lJc q] at e;rw[lJc q.symm]
   exact kVm o (fun z=>h (by rw[q,z])) e
  ·rw[lJa q] at e;rw[lJa (fun z=>q z.symm)]
   exact o.neg q e
theorem jVf:∀(a:List K),lexLt lt a a=some false
 | []=>rfl
 | x::xs=>by unfold lexLt;rw[lJc rfl];exact jVf xs
theorem kXg (o:KOrd lt):∀ {a b c:List K},lexLt lt a b=some true->lexLt lt b c=some true->lexLt lt a c=some true
 | [],[],_,e,_=>by cases e
 | _::_,[],_,e,_=>by cases e
 | [],_::_,[],_,e=>by cases e
 | [],_::_,_::_,_,_=>(rfl)
 | _::_,_::_,[],_,e=>by cases e
 | x::xs,y::ys,z::zs,e1,e2=>by
  unfold lexLt at e1 e2 ⊢
  by_cases q1:x=y
  ·subst q1
   rw[lJc rfl] at e1
   by_cases q2:x=z
   ·rw[lJc q2] at e2 ⊢
    exact kXg o e1 e2
   ·rw[lJa q2] at e2 ⊢
    exact e2
  ·rw[lJa q1] at e1
   by_cases q2:y=z
   ·subst q2
    rw[lJa q1]
    exact e1
   ·rw[lJa q2] at e2
    by_cases q3:x=z
    ·subst q3
     exact (o.ir q1 e1 e2).elim
    ·rw[lJa q3]
     exact o.tr q1 q2 e1 e2
theorem kKx (o:KOrd lt):KOrd (lexLt lt):=by
 refine⟨?_,?_,?_⟩
 ·intro a b h c e;exact kVm o h e
 ·intro a b c _ _ e1 e2;exact kXg o e1 e2
 ·intro a b h e1 e2
  have:=kVm o h e1
  rw[e2] at this;cases this
theorem kXh (o:KOrd lt):KOrd (ltS lt):=by
 refine⟨?_,?_,?_⟩
 ·rintro (a | a) (b | b) h c e
  ·exact kord_I.neg (fun z=>h (by rw[z])) e
  ·cases e
  ·cases e
  ·exact (kKx o).neg (fun z=>h (by rw[z])) e
 ·rintro (a | a) (b | b) (c | c) h1 h2 e1 e2<;>first | cases e1;done | cases e2;done | skip
  ·exact kord_I.tr (fun z=>h1 (by rw[z])) (fun z=>h2 (by rw[z])) e1 e2
  ·exact kXg o e1 e2
 ·rintro (a | a) (b | b) h e1 e2<;>first | cases e1;done | skip
  ·exact kord_I.ir (fun z=>h (by rw[z])) e1 e2
  ·exact (kKx o).ir (fun z=>h (by rw[z])) e1 e2
end
theorem kord:KOrd ltK:=kKx (kXh (kXh kord_I))
theorem kVp {a b c:TKey} (h1:ltK a b=some true) (h2:ltK b c=some true):ltK a c=some true:=kXg (kXh (kXh kord_I)) h1 h2
def kQ5:TKey->Bool->Prop
 | .inl _::_,b=>b=true
 | .inr _::_,b=>b=false
 | [],_=>False
section
variable {prog:Program} {w:World} {A:Around} {E:Value->Shared->Prop} {s:Shared}
theorem kQ3 {Q:Bool->Shared->Prop} {b:Bool} {n1 n2:Nat} {c:Bool} (hu:A.units+6<cLine) (hq:Q c s):∀(i:Nat) (x y:TKey) (vs ws:List Value),ItemsV (vk2 prog w) s.heap x vs->ItemsV (vk2 prog w) s.heap y ws->x.length+n2=y.length+n1->lexLt (ltS (ltS ltI)) x y=some c->((b&&i == 0)=true->(∀k,k∈x->i=0->x.head? =some k->∃z,k= .inl z)/\(∀k,k∈y->i=0->y.head? =some k->∃z,k= .inl z))->
  KatLex prog w A b (decide (n1<n2)) Q (vs.zip ws) i s
 | i,_,_,_,_,.nil,.nil,hn,hl,_=>by
  simp only[lQd] at hn
  cases hl
  refine kat_nil ?_
  rw[lJt (by omega)];exact hq
 | i,_,_,_,_,.nil,.cons _ _,hn,hl,_=>by
  simp only[lQd,lKm] at hn
  cases hl
  refine kat_nil ?_
  rw[lJ3 (by omega)];exact hq
 | i,_,_,_,_,.cons _ _,.nil,hn,hl,_=>by
  simp only[lQd,lKm] at hn
  cases hl
  refine kat_nil ?_
  rw[lJt (by omega)];exact hq
 | i,_,_,_,_,@ItemsV.cons _ _ _ _ _ _ _ k1 v1 ks1 vs1 h1 t1,@ItemsV.cons _ _ _ _ _ _ _ k2 v2 ks2 vs2 h2 t2,hn,hl,hb=>by
  simp only[lKm] at hn
  rw[lVs]
  refine kat_cons (((vk2 prog w).eqAt (by omega) h1 h2) prog w _ _ ?_)
  unfold lexLt at hl
  by_cases e:k1=k2
  ·rw[lJc e] at hl
   rw[lJ3 e]
   refine kat_yes (kQ3 hu hq (i+1) _ _ _ _ t1 t2 (by omega) hl fun z=> ?_)
   simp at z
  ·rw[lJa e] at hl
   rw[lJt e]
   refine kat_no ?_
   cases q:(b&&i == 0) with
   | false=>exact kat_one _ _ (qV6 (qV6 qJv) (by omega) h1 h2 hl hq)
   | true=>
    have hi:i=0:=by simp at q;exact q.2
    obtain⟨z1,z2⟩:=hb q
    obtain⟨a,rfl⟩:=z1 k1 (lJz ..) hi rfl
    obtain⟨a',rfl⟩:=z2 k2 (lJz ..) hi rfl
    rcases jJo (show jV1 a v1=true from h1) with ⟨p,t,rfl,rfl⟩ | ⟨p,t,rfl,rfl⟩
    ·rcases jJo (show jV1 a' v2=true from h2) with ⟨p',t',rfl,rfl⟩ | ⟨p',t',rfl,rfl⟩
     ·cases hl
      exact oneLt_int hq
     ·cases hl
    ·cases hl
theorem ask_ok {b:Bool} {x y:TKey} {a1 a2:Addr} {c:Bool} {Q:Bool->Shared->Prop} (hu:A.units+6<cLine) (h1:(jJf prog w).is s.heap x a1) (h2:(jJf prog w).is s.heap y a2) (hl:ltK x y=some c) (hx:kQ5 x b) (hy:kQ5 y b) (hq:Q c s):wpAny (model prog w) A (keyLt' (tuples' b) (.ref a1) (.ref a2)) Q E s:=by
 obtain⟨p1,o1,its1,n1,e1,ho1,hc1,hd1,hi1⟩:=(show kJc _ _ _ _ from h1)
 obtain⟨p2,o2,its2,n2,e2,ho2,hc2,hd2,hi2⟩:=(show kJc _ _ _ _ from h2)
 cases e1;cases e2
 refine kat_lt ho1 hd1 ho2 hd2 (kQ3 hu hq 0 x y _ _ hi1 hi2 ?_ hl fun z=> ?_)
 ·have l1:=hi1.length
  have l2:=hi2.length
  simp at l1 l2
  omega
 ·have hb:b=true:=by simpa using z
  subst hb
  refine⟨fun k _ _ hk=> ?_,fun k _ _ hk=> ?_⟩
  ·match x,hx,hk with
   | .inl u::_,_,e=>cases e;exact⟨u,rfl⟩
  ·match y,hy,hk with
   | .inl u::_,_,e=>cases e;exact⟨u,rfl⟩
def tyOf (b:Bool):Value:=if b=true then .type "int" else .type "tuple"
theorem kQ0 {b:Bool}:∀(es:List (TKey×Addr)),(∀e,e∈es->(jJf prog w).is s.heap e.1 e.2/\kQ5 e.1 b/\intT e.1=true)->∃fs,KatTups s.heap (es.map fun e=> .ref e.2) fs/\fs.length=es.length/\∀v,v∈fs->Looks (model prog w) s.heap (typeOf v) (tyOf b)
 | [],_=>⟨[],.nil,rfl,fun v hv=>absurd hv (lJr)⟩
 | (k,a)::es,h=>by
  obtain⟨fs,t,l,hf⟩:=kQ0 es fun e he=>h e (lJ4 _ he)
  obtain⟨h1,h2,h3⟩:=h (k,a) (lJz ..)
  obtain⟨p1,o1,its1,n1,e1,ho1,hc1,hd1,hi1⟩:=(show kJc _ _ _ _ from h1)
  cases e1
  match k,h2,h3,hi1 with
  | .inl u::ks,hb,h3,hi=>
   cases (show b=true from hb)
   generalize hits:its1.toList=its at hi
   cases hi with
   | @cons _ v _ vs hv ht=>
    refine⟨v::fs,.cons ho1 hc1 hd1 (by rw[<-lJ7,hits];rfl) t,by simp[l],fun x hx=> ?_⟩
    (rcases lJk.mp hx with rfl | hx)
    ·rcases jJo (show jV1 u x=true from hv) with ⟨i,tk,_,rfl⟩ | ⟨i,tk,rfl,rfl⟩
     ·exact Looks.of_pure rfl
     ·simp[intT,intS,intK] at h3
    ·exact hf x hx
  | .inr u::ks,hb,h3,hi=>
   cases (show b=false from hb)
   generalize hits:its1.toList=its at hi
   cases hi with
   | @cons _ v _ vs hv ht=>
    obtain⟨p2,o2,its2,n2,e2,ho2,hc2,hd2,hi2⟩:=(show kJc _ _ u v from hv)
    subst e2
    refine⟨.ref p2::fs,.cons ho1 hc1 hd1 (by rw[<-lJ7,hits];rfl) t,by simp[l],fun x hx=> ?_⟩
    (rcases lJk.mp hx with rfl | hx)
    ·have:=(Looks.ld (M:=model prog w) (part:=none) ho2).andThen (f:=fun o=>pure o.cls) .now
     rw[hc2] at this
     exact this
    ·exact hf x hx
theorem qYl {b:Bool} {es:List (TKey×Addr)} (h:∀e,e∈es->(jJf prog w).is s.heap e.1 e.2/\kQ5 e.1 b/\intT e.1=true) (hne:0<es.length) {Q:SortKind->Shared->Prop} (hq:Q (tuples' b) s):wpAny (model prog w) A (keyKind' (List.toArray (es.map fun e=>Value.ref e.2))) Q E s:=by
 obtain⟨fs,t,l,hf⟩:=kQ0 es h
 refine kat_kind (T:=tyOf b) t (by omega) hf (by cases b<;>decide) ?_
 rw[show (tyOf b != Value.type "tuple")=b by cases b<;>decide]
 exact hq
end
theorem jZq {α β:Type} {f:α->β} {l l':List β} (h:l.Perm l'):∀es:List α,l'=es.map f->∃es':List α,es'.Perm es/\l=es'.map f:=by
 induction h with
 | nil=>intro es e;cases es with | nil=>exact⟨[],.refl _,rfl⟩ | cons _ _=>cases e
 | cons x _ ih=>
  intro es e
  cases es with
  | nil=>cases e
  | cons a es=>
   rw[lJp,lVz] at e
   obtain⟨es',h1,h2⟩:=ih es e.2
   exact⟨a::es',h1.cons a,by rw[lJp,e.1,h2]⟩
 | swap x y l=>
  intro es e
  match es,e with
  | a::b::es,e=>
   rw[lJp,lJp,lVz,lVz] at e
   exact⟨b::a::es,.swap _ _ _,by rw[lJp,lJp,e.1,e.2.1,e.2.2]⟩
 | trans _ _ ih1 ih2=>
  intro es e
  obtain⟨es',h1,h2⟩:=ih2 es e
  obtain⟨es'',h3,h4⟩:=ih1 es' h2
  exact⟨es'',h3.trans h1,h4⟩
section
variable {prog:Program} {w:World} {A:Around} {E:Value->Shared->Prop} {s:Shared}
end
theorem jZv {x y:T} {k:Key} (h1:jUv x=some k) (h2:jUv y=some k):x=y:=by
 cases x<;>cases h1<;>(cases y<;>cases h2;rfl)
theorem jY9 {κ:Type} {f:T->Option κ} (hf:∀x y k,f x=some k->f y=some k->x=y):∀ {xs ys:List T} {ks:List κ},allK f xs=some ks->allK f ys=some ks->xs=ys
 | [],[],_,_,_=>rfl
 | [],y::ys,_,h1,h2=>by
  cases h1
  unfold allK at h2
  cases e1:f y<;>cases e2:allK f ys<;>rw[e1,e2] at h2<;>cases h2
 | x::xs,[],_,h1,h2=>by
  cases h2
  unfold allK at h1
  cases e1:f x<;>cases e2:allK f xs<;>rw[e1,e2] at h1<;>cases h1
 | x::xs,y::ys,ks,h1,h2=>by
  unfold allK at h1 h2
  cases e1:f x with
  | none=>rw[e1] at h1;cases h1
  | some k1=>
   cases e2:allK f xs with
   | none=>rw[e1,e2] at h1;cases h1
   | some k2=>
    rw[e1,e2] at h1;cases h1
    cases e3:f y with
    | none=>rw[e3] at h2;cases h2
    | some k3=>
     cases e4:allK f ys with
     | none=>rw[e3,e4] at h2;cases h2
     | some k4=>
      rw[e3,e4] at h2;cases h2
      rw[hf _ _ _ e1 e3,jY9 hf e2 e4]
theorem qUy (x y:T) (k:K1) (h1:key1 x=some k) (h2:key1 y=some k):x=y:=by
 cases k with
 | inl k=>
  have f:∀z:T,key1 z=some (.inl k)->jUv z=some k:=by
   intro z hz
   cases z with
   | tup ts=>
    obtain⟨_,_,e⟩:=lQe.mp (show (allK jUv ts).map Sum.inr=some (Sum.inl k) from hz)
    cases e
   | int i=>cases hz;rfl
   | str i=>cases hz;rfl
   | _=>cases hz
  exact jZv (f x h1) (f y h2)
 | inr ks=>
  have f:∀z:T,key1 z=some (.inr ks)->∃ts,z= .tup ts/\allK jUv ts=some ks:=by
   intro z hz
   cases z with
   | tup ts=>
    obtain⟨k',h,e⟩:=lQe.mp (show (allK jUv ts).map Sum.inr=some (Sum.inr ks) from hz)
    cases e
    exact⟨ts,rfl,h⟩
   | _=>cases hz
  obtain⟨t1,rfl,e1⟩:=f x h1
  obtain⟨t2,rfl,e2⟩:=f y h2
  rw[jY9 (fun _ _ _=>jZv) e1 e2]
theorem qUw (x y:T) (k:K2) (h1:key2 x=some k) (h2:key2 y=some k):x=y:=by
 cases k with
 | inl k=>
  have f:∀z:T,key2 z=some (.inl k)->jUv z=some k:=by
   intro z hz
   cases z with
   | tup ts=>
    obtain⟨_,_,e⟩:=lQe.mp (show (allK key1 ts).map Sum.inr=some (Sum.inl k) from hz)
    cases e
   | int i=>cases hz;rfl
   | str i=>cases hz;rfl
   | _=>cases hz
  exact jZv (f x h1) (f y h2)
 | inr ks=>
  have f:∀z:T,key2 z=some (.inr ks)->∃ts,z= .tup ts/\allK key1 ts=some ks:=by
   intro z hz
   cases z with
   | tup ts=>
    obtain⟨k',h,e⟩:=lQe.mp (show (allK key1 ts).map Sum.inr=some (Sum.inr ks) from hz)
    cases e
    exact⟨ts,rfl,h⟩
   | _=>cases hz
  obtain⟨t1,rfl,e1⟩:=f x h1
  obtain⟨t2,rfl,e2⟩:=f y h2
  rw[jY9 qUy e1 e2]
theorem kJw {xs ys:List T} {k:TKey} (h1:jQh xs=some k) (h2:jQh ys=some k):xs=ys:=jY9 qUw h1 h2
def SKey (b:Bool) (ts:List T) (k:TKey):Prop:=jQh ts=some k/\kQ5 k b/\intT k=true
theorem kZh {K:PySem.W.Frag} {H:Hp} {b:Bool}:∀ {tks:List (List T×TKey)} {vs:List V} {its:List Value},(∀e,e∈tks->SKey b e.1 e.2)->Reps K H (tks.map fun e=> .tup e.1) vs->Vals vs its->
  ∃tb:List ((List T×TKey)×Addr),tb.map (·.1)=tks/\vs=tb.map (fun e=> .ref e.2)/\its=tb.map (fun e=>Value.ref e.2)/\∀e,e∈tb->TKeyAt H e.1.2 e.2/\Rep K H (.tup e.1.1) (.ref e.2)
 | [],_,_,_,r,v=>by
  cases (show _=[] from r)
  cases v
  exact⟨[],rfl,rfl,rfl,fun e he=>absurd he (lJr)⟩
 | (ts,k)::tks,_,its,hk,⟨v,ws,e,r1,r2⟩,vv=>by
  subst e
  cases vv with
  | @cons _ u _ us hr hrs=>
  obtain⟨tb,h1,h2,h3,h4⟩:=kZh (fun e he=>hk e (lJ4 _ he)) r2 hrs
  obtain⟨a,vs',e,ha,hrep⟩:=(show ∃a vs',v= .ref a/\H a=some (.tup vs')/\Reps K H ts vs' from r1)
  subst e
  cases (show u=Value.ref a from hr)
  refine⟨((ts,k),a)::tb,by rw[lJp,h1],by rw[lJp,h2],by rw[lJp,h3],fun e he=> ?_⟩
  (rcases lJk.mp he with rfl | he)
  ·exact⟨jVh (hk _ (lJz ..)).1 ha hrep,r1⟩
  ·exact h4 e he
theorem qJd {tb:List ((List T×TKey)×Addr)}:∀(es:List (TKey×Addr)),(∀e,e∈es->e∈tb.map fun x=>(x.1.2,x.2))->∃tb':List ((List T×TKey)×Addr),tb'.map (fun x=>(x.1.2,x.2))=es/\∀e,e∈tb'->e∈tb
 | [],_=>⟨[],rfl,fun e he=>absurd he (lJr)⟩
 | e::es,h=>by
  obtain⟨tb',h1,h2⟩:=qJd es fun x hx=>h x (lJ4 _ hx)
  obtain⟨x,hx,ex⟩:=lJl.mp (h e (lJz ..))
  refine⟨x::tb',by rw[lJp,h1,ex],fun y hy=> ?_⟩
  (rcases lJk.mp hy with rfl | hy)
  ·exact hx
  ·exact h2 y hy
theorem kZ0 {K:PySem.W.Frag} {H:Hp}:∀(tb:List ((List T×TKey)×Addr)),(∀e,e∈tb->Rep K H (.tup e.1.1) (.ref e.2))->Reps K H (tb.map fun e=> .tup e.1.1) (tb.map fun e=>V.ref e.2)
 | [],_=>rfl
 | e::tb,h=>⟨_,_,rfl,h e (lJz ..),kZ0 tb fun x hx=>h x (lJ4 _ hx)⟩
theorem kJl:∀(bs:List ((List T×TKey)×Addr)),Vals (bs.map fun e=>V.ref e.2) (bs.map fun e=>Value.ref e.2)
 | []=> .nil
 | e::bs=> .cons rfl (kJl bs)
section
variable {X:Cx}
structure Rising (xs ys:List T) (kys:List (List T×TKey)):Prop where
 eq:ys=kys.map fun e=> .tup e.1
 keys:∀e,e∈kys->jQh e.1=some e.2
 mem:∀t,t∈ys↔t∈xs
 up:kys.Pairwise fun x y=>ltK x.2 y.2=some true
end
end L3
namespace L3
open PySem PySem.Spec PyProof.Rows L2
section
variable {X:Cx}
end
section
variable {X:Cx}
def kU9:R3:=fun x y G Q=>∃p xs,y= .ref p/\G p=some (.lst xs)/\eqOk x=true/\kK6 xs=true/\Q (.bl (!(tds xs).any fun z=>PyData.eqv z (td x))) G
theorem qUb (hu:X.A.units+64<cLine):Op3 X (compareOp .NotIn) kU9:=by
 rintro pins s τ G H x y v u Q ⟨σ,I,hs,hg⟩ ⟨a,ra,rv⟩ ⟨b,rb,ru⟩ ⟨p,xs,ey,hp,ox,oxs,q⟩
 subst ey
 cases (show b= .ref p from rb)
 cases ru
 obtain⟨vs,h1,h2⟩:=hg.lst hp
 obtain⟨its,r1,⟨o,n,ho,hc,_,hd⟩,_⟩:=I.list (.of h1)
 simp only[eqOk,kK6,lKt,lKw] at ox oxs
 obtain⟨as,r3⟩:=jXa I xs oxs.1.1 h2 r1
 obtain⟨bs,r4⟩:=kKi I x ox.1.1 ra rv
 have hd':=ox.2
 exact SeqAt.notIn_list_reads (.list ho hc hd (by simpa using r3)) r4 (by simpa[PyData.canLay0] using oxs.1.2) ox.1.2 (by have:=Nat.min_le_right (PyData.depthAll (tds xs)) (td x).depth;omega) ⟨.bl _,G,H,.refl H,⟨σ,I,hs,hg⟩,⟨.bl _,rfl,rfl⟩,q⟩
end
end L3
namespace L3
open PySem PyProof.Rows
def qY4:Bool->Keyed->Array Keyed->Nat->Nat->Nat->StateT SortSt Sem (Option Nat):=sortPriv%PySem.Builtin.gallop
def qUl:Array Keyed->Array Keyed->StateT SortSt Sem (Array Keyed):=sortPriv%PySem.Builtin.mergeLo
def qUm:Array Keyed->Array Keyed->StateT SortSt Sem (Array Keyed):=sortPriv%PySem.Builtin.mergeHi
section
variable {A:Around} {E:Value->Shared->Prop} {s:Shared} {M:Model}
structure Asks (M:Model) (A:Around) (s:Shared) (κ:SortKind) (mem:Keyed->Prop) (le:Keyed->Keyed->Prop) [∀x y,Decidable (le x y)]:Prop where
 ask:∀x y,mem x->mem y->∀(E:Value->Shared->Prop) (Q:Bool->Shared->Prop),Q (!decide (le y x)) s->wpAny M A (keyLt' κ x.1 y.1) Q E s
 tot:∀x y,mem x->mem y->le x y\/le y x
 tr:∀x y z,mem x->mem y->mem z->le x y->le y z->le x z
variable {κ:SortKind} {mem:Keyed->Prop} {le:Keyed->Keyed->Prop} [∀x y,Decidable (le x y)]
theorem qJu (H:Asks M A s κ mem le) {x y:Keyed} (hx:mem x) (hy:mem y) {st:SortSt} (hk:kindOf st=κ) {Q:Option Bool->SortSt->Prop} (h:Q (some (!decide (le y x))) st):wpS M A E s (lt' x y) Q st:=by
 rw[lt'_eq]
 refine lJe (lK5 ?_)
 rw[hk]
 refine lJe (wpS_lift (wpAny_attempt (H.ask x y hx hy _ _ ?_)))
 exact⟨rfl,lJf h⟩
theorem jJ5 {arr:Array Keyed} {i:Nat} {x:Keyed} {st:SortSt} {Q:Keyed->SortSt->Prop} (hi:arr[i]? =some x) (h:Q x st):wpS M A E s (elem' arr i) Q st:=by
 rw[elem'_eq,hi];exact lJf h
def bey (le:Keyed->Keyed->Prop) [∀x y,Decidable (le x y)] (left:Bool) (key x:Keyed):Bool:=if left=true then !decide (le key x) else decide (le x key)
theorem qK3 (H:Asks M A s κ mem le) {left:Bool} {key x:Keyed} {arr:Array Keyed} {b:Nat} {st:SortSt} {Q:Option Bool->SortSt->Prop} (hk:kindOf st=κ) (hkey:mem key) (hx:arr[b]? =some x) (hm:mem x) (h:Q (some (bey le left key x)) st):
  wpS M A E s (do let y <-elem' arr b;if left=true then lt' y key else do let r <-lt' key y;pure (r.map fun z=> !z)) Q st:=by
 refine lJe (jJ5 hx ?_)
 cases left with
 | true=>rw[lJc rfl];exact qJu H hm hkey hk h
 | false=>
  rw[lJa (by decide)]
  refine lJe (qJu H hkey hm hk (lJf ?_))
  simpa[bey] using h
theorem jUc {left:Bool} {key:Keyed} {arr:Array Keyed} {base n hint:Nat} {st:SortSt} {Q:Option Nat->SortSt->Prop} (H:Asks M A s κ mem le) (hk:kindOf st=κ) (hkey:mem key) {f:Nat->Keyed} (hf:∀i,i<n->arr[base+i]? =some (f i)) (hm:∀i,i<n->mem (f i)) (hs:∀i j,i<=j->j<n->le (f i) (f j)) (hh:hint<n)
  (h:∀k,k<=n->(∀i,i<k->bey le left key (f i)=true)->(∀i,k<=i->i<n->bey le left key (f i)=false)->Q (some k) st):
  wpS M A E s (qY4 left key arr base n hint) Q st:=by
 have ask:∀(i:Nat) {Q:Option Bool->SortSt->Prop},i<n->Q (some (bey le left key (f i))) st->wpS M A E s (do let y <-elem' arr (base+i);if left=true then lt' y key else do let r <-lt' key y;pure (r.map fun z=> !z)) Q st:=fun i {Q} hi q=>qK3 H hk hkey (hf i hi) (hm i hi) q
 have mono:∀i j,i<=j->j<n->bey le left key (f j)=true->bey le left key (f i)=true:=by
  intro i j hij hj hb
  unfold bey at hb ⊢
  cases left with
  | true=>
   rw[lJc rfl] at hb ⊢
   simp only[lX1,lV5] at hb ⊢
   exact fun z=>hb (H.tr _ _ _ hkey (hm i (by omega)) (hm j hj) z (hs i j hij hj))
  | false=>
   rw[lJa (by decide)] at hb ⊢
   rw[lKw] at hb ⊢
   exact H.tr _ _ _ (hm i (by omega)) (hm j hj) hkey (hs i j hij hj) hb
 refine lJe (ask hint hh ?_)
 cases hbh:bey le left key (f hint) with
 | true=>
  dsimp only
  rw[lJc rfl]
  refine lJe (lKk (lKl (I:=fun i (c:Option (Option Nat)×Nat×Nat) st'=>st=st'/\c.1=none/\c.2.1<c.2.2/\i+1<=c.2.2/\hint+c.2.1<n/\bey le left key (f (hint+c.2.1))=true)
   (Q:=fun (c:Option (Option Nat)×Nat×Nat) st'=>st=st'/\c.1=none/\c.2.1<c.2.2/\hint+c.2.1<n/\bey le left key (f (hint+c.2.1))=true/\(c.2.2<n-hint->bey le left key (f (hint+c.2.2))=false)) ?_ ?_ ⟨rfl,rfl,by decide,by decide,hh,hbh⟩) ?_)
  ·rintro x ⟨r,la,of⟩ st' _ hx ⟨rfl,rfl,i1,i2,i3,i4⟩
   dsimp only at i1 i2 i3 i4 ⊢
   by_cases c:of>=n-hint
   ·rw[lJc c]
    exact wpS_pure ⟨rfl,rfl,i1,i3,i4,fun z=>absurd c (by dsimp only at z;omega)⟩
   ·rw[lJa c]
    refine lJe (ask _ (by omega) ?_)
    cases hbo:bey le left key (f (hint+of)) with
    | false=>
     dsimp only
     (rw[lJc (show (!false)=true from rfl)])
     exact lJf ⟨rfl,rfl,i1,i3,i4,fun _=>hbo⟩
    | true=>
     dsimp only
     rw[lJa (by decide)]
     exact wpS_pure ⟨rfl,rfl,by dsimp only;omega,by dsimp only;omega,by dsimp only;omega,hbo⟩
  ·rintro⟨r,la,of⟩ st' ⟨rfl,rfl,i1,i2,i3,i4⟩
   dsimp only at i1 i2 i3 i4 ⊢
   exact⟨rfl,rfl,i1,i3,i4,fun z=>absurd z (by omega)⟩
  ·rintro⟨r,la,of⟩ st' ⟨rfl,rfl,i1,i3,i4,i5⟩
   dsimp only at i1 i3 i4 i5 ⊢
   have PL:∀i,i<hint+la+1->bey le left key (f i)=true:=fun i hi=>mono i _ (by omega) i3 i4
   have PH:∀i,hint+min of (n-hint)<=i->i<n->bey le left key (f i)=false:=fun i hi hin=>by
    have hon:=i5 (by omega)
    cases hbi:bey le left key (f i) with
    | false=>rfl
    | true=>rw[mono (hint+of) i (by omega) hin hbi] at hon;cases hon
   have LO:hint+la+1<=hint+min of (n-hint):=by omega
   have HI:hint+min of (n-hint)<=n:=by omega
   refine lJe (lKk (lKl (I:=fun i (c:Option (Option Nat)×Nat×Nat) st'=>st=st'/\c.1=none/\c.2.1<=c.2.2/\c.2.2<=n/\c.2.2-c.2.1<=n-i/\(∀i,i<c.2.1->bey le left key (f i)=true)/\(∀i,c.2.2<=i->i<n->bey le left key (f i)=false))
    (Q:=fun (c:Option (Option Nat)×Nat×Nat) st'=>st=st'/\c.1=none/\c.2.2<=n/\(∀i,i<c.2.2->bey le left key (f i)=true)/\(∀i,c.2.2<=i->i<n->bey le left key (f i)=false)) ?_ ?_ ⟨rfl,rfl,LO,HI,by dsimp only;omega,PL,PH⟩) ?_)
   ·rintro x ⟨r,lo,hi⟩ st' _ hx ⟨rfl,rfl,i1,i2,i3,i4,i5⟩
    dsimp only at i1 i2 i3 i4 i5 ⊢
    by_cases c:lo>=hi
    ·rw[lJc c]
     exact wpS_pure ⟨rfl,rfl,i2,fun i hi'=>i4 i (by dsimp only at hi';omega),i5⟩
    ·rw[lJa c]
     have hmm:lo+(hi-lo) / 2<hi:=by omega
     refine lJe (ask _ (by omega) ?_)
     cases hbm:bey le left key (f (lo+(hi-lo) / 2)) with
     | true=>
      dsimp only
      rw[lJc rfl]
      exact wpS_pure ⟨rfl,rfl,by dsimp only;omega,i2,by dsimp only;omega,fun i hi'=>mono i _ (by dsimp only at hi';omega) (by omega) hbm,i5⟩
     | false=>
      dsimp only
      rw[lJa (by decide)]
      refine wpS_pure ⟨rfl,rfl,by dsimp only;omega,by dsimp only;omega,by dsimp only;omega,i4,fun i hi' hin=> ?_⟩
      dsimp only at hi'
      cases hbi:bey le left key (f i) with
      | false=>rfl
      | true=>rw[mono _ i hi' hin hbi] at hbm;cases hbm
   ·rintro⟨r,lo,hi⟩ st' ⟨rfl,rfl,i1,i2,i3,i4,i5⟩
    dsimp only at i1 i2 i3 i4 i5 ⊢
    exact⟨rfl,rfl,i2,fun i hi'=>i4 i (by omega),i5⟩
   ·rintro⟨r,lo,hi⟩ st' ⟨rfl,rfl,i1,i2,i3⟩
    dsimp only at i1 i2 i3 ⊢
    exact lJf (h hi i1 i2 i3)
 | false=>
  dsimp only
  rw[lJa (by decide)]
  refine lJe (lKk (lKl (I:=fun i (c:Option (Option Nat)×Nat×Nat) st'=>st=st'/\c.1=none/\c.2.1<c.2.2/\i+1<=c.2.2/\c.2.1<=hint/\bey le left key (f (hint-c.2.1))=false)
   (Q:=fun (c:Option (Option Nat)×Nat×Nat) st'=>st=st'/\c.1=none/\c.2.1<c.2.2/\c.2.1<=hint/\bey le left key (f (hint-c.2.1))=false/\(c.2.2<hint+1->bey le left key (f (hint-c.2.2))=true)) ?_ ?_ ⟨rfl,rfl,by decide,by decide,lJu _,hbh⟩) ?_)
  ·rintro x ⟨r,la,of⟩ st' _ hx ⟨rfl,rfl,i1,i2,i3,i4⟩
   dsimp only at i1 i2 i3 i4 ⊢
   by_cases c:of>=hint+1
   ·rw[lJc c]
    exact wpS_pure ⟨rfl,rfl,i1,i3,i4,fun z=>absurd c (by dsimp only at z;omega)⟩
   ·rw[lJa c]
    refine lJe (ask _ (by omega) ?_)
    cases hbo:bey le left key (f (hint-of)) with
    | true=>
     dsimp only
     rw[lJc rfl]
     exact lJf ⟨rfl,rfl,i1,i3,i4,fun _=>hbo⟩
    | false=>
     dsimp only
     rw[lJa (by decide)]
     exact wpS_pure ⟨rfl,rfl,by dsimp only;omega,by dsimp only;omega,by dsimp only;omega,hbo⟩
  ·rintro⟨r,la,of⟩ st' ⟨rfl,rfl,i1,i2,i3,i4⟩
   dsimp only at i1 i2 i3 i4 ⊢
   exact⟨rfl,rfl,i1,i3,i4,fun z=>absurd z (by omega)⟩
  ·rintro⟨r,la,of⟩ st' ⟨rfl,rfl,i1,i3,i4,i5⟩
   dsimp only at i1 i3 i4 i5 ⊢
   have PL:∀i,i<hint+1-min of (hint+1)->bey le left key (f i)=true:=fun i hi=>mono i (hint-of) (by omega) (by omega) (i5 (by omega))
   have PH:∀i,hint-la<=i->i<n->bey le left key (f i)=false:=fun i hi hin=>by
    cases hbi:bey le left key (f i) with
    | false=>rfl
    | true=>rw[mono (hint-la) i hi hin hbi] at i4;cases i4
   have LO:hint+1-min of (hint+1)<=hint-la:=by omega
   have HI:hint-la<=n:=by omega
   refine lJe (lKk (lKl (I:=fun i (c:Option (Option Nat)×Nat×Nat) st'=>st=st'/\c.1=none/\c.2.1<=c.2.2/\c.2.2<=n/\c.2.2-c.2.1<=n-i/\(∀i,i<c.2.1->bey le left key (f i)=true)/\(∀i,c.2.2<=i->i<n->bey le left key (f i)=false))
    (Q:=fun (c:Option (Option Nat)×Nat×Nat) st'=>st=st'/\c.1=none/\c.2.2<=n/\(∀i,i<c.2.2->bey le left key (f i)=true)/\(∀i,c.2.2<=i->i<n->bey le left key (f i)=false)) ?_ ?_ ⟨rfl,rfl,LO,HI,by dsimp only;omega,PL,PH⟩) ?_)
   ·rintro x ⟨r,lo,hi⟩ st' _ hx ⟨rfl,rfl,i1,i2,i3,i4,i5⟩
    dsimp only at i1 i2 i3 i4 i5 ⊢
    by_cases c:lo>=hi
    ·rw[lJc c]
     exact wpS_pure ⟨rfl,rfl,i2,fun i hi'=>i4 i (by dsimp only at hi';omega),i5⟩
    ·rw[lJa c]
     have hmm:lo+(hi-lo) / 2<hi:=by omega
     refine lJe (ask _ (by omega) ?_)
     cases hbm:bey le left key (f (lo+(hi-lo) / 2)) with
     | true=>
      dsimp only
      rw[lJc rfl]
      exact wpS_pure ⟨rfl,rfl,by dsimp only;omega,i2,by dsimp only;omega,fun i hi'=>mono i _ (by dsimp only at hi';omega) (by omega) hbm,i5⟩
     | false=>
      dsimp only
      rw[lJa (by decide)]
      refine wpS_pure ⟨rfl,rfl,by dsimp only;omega,by dsimp only;omega,by dsimp only;omega,i4,fun i hi' hin=> ?_⟩
      dsimp only at hi'
      cases hbi:bey le left key (f i) with
      | false=>rfl
      | true=>rw[mono _ i hi' hin hbi] at hbm;cases hbm
   ·rintro⟨r,lo,hi⟩ st' ⟨rfl,rfl,i1,i2,i3,i4,i5⟩
    dsimp only at i1 i2 i3 i4 i5 ⊢
    exact⟨rfl,rfl,i2,fun i hi'=>i4 i (by omega),i5⟩
   ·rintro⟨r,lo,hi⟩ st' ⟨rfl,rfl,i1,i2,i3⟩
    dsimp only at i1 i2 i3 ⊢
    exact lJf (h hi i1 i2 i3)
end
section
variable {le:Keyed->Keyed->Prop} {a b out:Array Keyed} {ia ib k:Nat}
def Fin2 (le:Keyed->Keyed->Prop) (a b r:Array Keyed):Prop:=r.toList.Perm (a.toList++b.toList)/\r.toList.Pairwise le
structure Lw (le:Keyed->Keyed->Prop) (a b out:Array Keyed) (ia ib:Nat):Prop where
 perm:(out.toList++(a.toList.drop ia++b.toList.drop ib)).Perm (a.toList++b.toList)
 srt:out.toList.Pairwise le
 up:∀x,x∈out.toList->∀y,y∈a.toList.drop ia++b.toList.drop ib->le x y
theorem Lw.size (h:Lw le a b out ia ib):out.size+((a.size-ia)+(b.size-ib))=a.size+b.size:=by
 have:=h.perm.length_eq
 simpa using this
theorem jVj {arr:Array Keyed} {i j:Nat}:(arr.extract i j).toList=(arr.toList.drop i).take (j-i):=by simp[List.extract]
theorem qXc (h:k<=a.size):(a.extract ia (ia+k)).toList=(a.toList.drop ia).take k:=by rw[jVj];congr 1;omega
theorem kK5:(a.extract ia).toList=a.toList.drop ia:=by
 rw[jVj]
 (exact lQg (by simp))
theorem Lw.takeA (h:Lw le a b out ia ib) (sa:a.toList.Pairwise le) {o:Array Keyed} (ho:o.toList=out.toList++(a.toList.drop ia).take k) (hx:∀x,x∈(a.toList.drop ia).take k->∀y,y∈b.toList.drop ib->le x y):Lw le a b o (ia+k) ib:=by
 have e:a.toList.drop ia=(a.toList.drop ia).take k++a.toList.drop (ia+k):=by rw[<-List.drop_drop];exact (lKy k _).symm
 have sd:(a.toList.drop ia).Pairwise le:=sa.sublist (lQ5 ..)
 have up:=h.up
 have perm:=h.perm
 rw[e] at sd up perm
 obtain⟨s1,s2,s3⟩:=lKc.mp sd
 refine⟨?_,?_,?_⟩
 ·rw[ho,lJq,<-lJq _ _ (b.toList.drop ib)];exact perm
 ·rw[ho]
  exact lKc.mpr ⟨h.srt,s1,fun x hx' y hy=>up x hx' y (lKa _ (lKa _ hy))⟩
 ·intro x hx' y hy
  rw[ho] at hx'
  rcases (lJx.mp hx') with z | z
  ·refine up x z y ?_
   rcases (lJx.mp hy) with w | w
   ·exact lKa _ (lJ5 _ w)
   ·exact lJ5 _ w
  ·rcases (lJx.mp hy) with w | w
   ·exact s3 x z y w
   ·exact hx x z y w
theorem Lw.takeB (h:Lw le a b out ia ib) (sb:b.toList.Pairwise le) {o:Array Keyed} (ho:o.toList=out.toList++(b.toList.drop ib).take k) (hx:∀x,x∈(b.toList.drop ib).take k->∀y,y∈a.toList.drop ia->le x y):Lw le a b o ia (ib+k):=by
 have e:b.toList.drop ib=(b.toList.drop ib).take k++b.toList.drop (ib+k):=by rw[<-List.drop_drop];exact (lKy k _).symm
 have sd:(b.toList.drop ib).Pairwise le:=sb.sublist (lQ5 ..)
 have up:=h.up
 have perm:=h.perm
 rw[e] at sd up perm
 obtain⟨s1,s2,s3⟩:=lKc.mp sd
 refine⟨?_,?_,?_⟩
 ·rw[ho,lJq]
  refine List.Perm.trans (lXj _ ?_) perm
  (rw[<-lJq,<-lJq])
  (exact lX6 _ lX7)
 ·rw[ho]
  exact lKc.mpr ⟨h.srt,s1,fun x hx' y hy=>up x hx' y (lJ5 _ (lKa _ hy))⟩
 ·intro x hx' y hy
  rw[ho] at hx'
  rcases (lJx.mp hx') with z | z
  ·refine up x z y ?_
   rcases (lJx.mp hy) with w | w
   ·exact lKa _ w
   ·exact lJ5 _ (lJ5 _ w)
  ·rcases (lJx.mp hy) with w | w
   ·exact hx x z y w
   ·exact s3 x z y w
theorem jUp {arr:Array Keyed} {i:Nat} {x:Keyed} (h:arr[i]? =some x):arr.toList.drop i=x::arr.toList.drop (i+1):=by
 have hl:arr.toList[i]? =some x:=by rw[lJ7];exact h
 obtain⟨h1,h2⟩:=lJi.mp hl
 rw[lYl h1,h2]
theorem Lw.pushA (h:Lw le a b out ia ib) (sa:a.toList.Pairwise le) {x:Keyed} (hi:a[ia]? =some x) (hx:∀y,y∈b.toList.drop ib->le x y):Lw le a b (out.push x) (ia+1) ib:=by
 have e:(a.toList.drop ia).take 1=[x]:=by rw[jUp hi];rfl
 refine h.takeA sa (k:=1) (by rw[e];simp) fun z hz y hy=> ?_
 rw[e,lJ1] at hz
 rw[hz];exact hx y hy
theorem Lw.pushB (h:Lw le a b out ia ib) (sb:b.toList.Pairwise le) {x:Keyed} (hi:b[ib]? =some x) (hx:∀y,y∈a.toList.drop ia->le x y):Lw le a b (out.push x) ia (ib+1):=by
 have e:(b.toList.drop ib).take 1=[x]:=by rw[jUp hi];rfl
 refine h.takeB sb (k:=1) (by rw[e];simp) fun z hz y hy=> ?_
 rw[e,lJ1] at hz
 rw[hz];exact hx y hy
theorem Lw.done (h:Lw le a b out ia ib) (sa:a.toList.Pairwise le) (sb:b.toList.Pairwise le) (hi:ib=b.size\/ia=a.size):Fin2 le a b (out++a.extract ia++b.extract ib):=by
 have e:(out++a.extract ia++b.extract ib).toList=out.toList++(a.toList.drop ia++b.toList.drop ib):=by rw[lQj,lQj,kK5,kK5,lJq]
 unfold Fin2
 rw[e]
 refine⟨h.perm,lKc.mpr ⟨h.srt,?_,h.up⟩⟩
 refine lKc.mpr ⟨sa.sublist (lQ5 ..),sb.sublist (lQ5 ..),fun x hx y hy=> ?_⟩
 rcases hi with z | z
 ·rw[z,lVj (by simp)] at hy;cases hy
 ·rw[z,lVj (by simp)] at hx;cases hx
theorem Lw.lastA (h:Lw le a b out ia ib) (sa:a.toList.Pairwise le) (sb:b.toList.Pairwise le) (hi:ia+1=a.size) (hl:∀x,a[ia]? =some x->∀y,y∈b.toList->le y x):Fin2 le a b (out++b.extract ib++a.extract ia):=by
 have e:(out++b.extract ib++a.extract ia).toList=out.toList++(b.toList.drop ib++a.toList.drop ia):=by rw[lQj,lQj,kK5,kK5,lJq]
 unfold Fin2
 rw[e]
 have hx:a[ia]? =some a[ia]:=lKu (by omega)
 have ed:a.toList.drop ia=[a[ia]]:=by rw[jUp hx,lVj (by simp;omega)]
 refine⟨(lXj _ lX7).trans h.perm,lKc.mpr ⟨h.srt,?_,fun x hx' y hy=>h.up x hx' y ?_⟩⟩
 ·refine lKc.mpr ⟨sb.sublist (lQ5 ..),sa.sublist (lQ5 ..),fun x hx' y hy=> ?_⟩
  rw[ed,lJ1] at hy
  rw[hy]
  exact hl _ hx x (lQ4 hx')
 ·rcases (lJx.mp hy) with w | w
  ·exact lJ5 _ w
  ·exact lKa _ w
end
section
variable {M:Model} {A:Around} {E:Value->Shared->Prop} {s:Shared} {κ:SortKind} {mem:Keyed->Prop} {le:Keyed->Keyed->Prop} [∀x y,Decidable (le x y)]
abbrev jKk (st:SortSt) (g:Nat):SortSt:=SortSt.mk' (kindOf st) (arrOf st) (pendingOf st) g (failedOf st)
theorem kKt {l:List Keyed} {i j:Nat} {x y:Keyed} (h:l.Pairwise le) (hi:l[i]? =some x) (hij:i<j) (hj:l[j]? =some y):le x y:=by
 obtain⟨a1,a2⟩:=lJi.mp hi
 obtain⟨b1,b2⟩:=lJi.mp hj
 have:=lYu.mp h i j a1 b1 hij
 rwa [a2,b2] at this
theorem jX1 (H:Asks M A s κ mem le) {arr:Array Keyed} {i:Nat} {x y:Keyed} (hs:arr.toList.Pairwise le) (hm:∀x,x∈arr.toList->mem x) (hx:arr[i]? =some x) (hy:mem y) (h:le y x):∀z,z∈arr.toList.drop i->le y z:=by
 intro z hz
 rw[jUp hx] at hz
 rcases (lJk.mp hz) with rfl | hz
 ·exact h
 ·have hxl:x∈arr.toList:=by rw[lYg];exact Array.mem_of_getElem? hx
  have hzl:z∈arr.toList:=lQ4 hz
  have hd:(arr.toList.drop i).Pairwise le:=hs.sublist (lQ5 ..)
  rw[jUp hx] at hd
  exact H.tr _ _ _ hy (hm x hxl) (hm z hzl) h (List.rel_of_pairwise_cons hd hz)
theorem jKa {arr:Array Keyed} {i:Nat} {x:Keyed} (hx:arr[i]? =some x):x∈arr.toList:=by rw[lYg];exact Array.mem_of_getElem? hx
theorem jVq {arr:Array Keyed} {i:Nat} (h:i<arr.size):∃x,arr[i]? =some x:=⟨arr[i],lKu h⟩
theorem kV7 {arr:Array Keyed} {i k:Nat} {x:Keyed} (h:x∈(arr.toList.drop i).take k):∃j,j<k/\arr[i+j]? =some x:=by
 obtain⟨j,hj⟩:=lJ6 h
 rw[lQv] at hj
 split at hj
 ·rename_i hl
  rw[lXk,lJ7] at hj
  exact⟨j,hl,hj⟩
 ·cases hj
theorem jJ2 {α:Type} {m n:Nat} {p q:StateT SortSt Sem α} {Q:α->SortSt->Prop} {st:SortSt} (h1:m=n->wpS M A E s p Q st) (h2:¬ m=n->wpS M A E s q Q st):wpS M A E s (if (m == n)=true then p else q) Q st:=by
 by_cases c:m=n
 ·rw[lJc (by simpa using c)];exact h1 c
 ·rw[lJa (by simpa using c)];exact h2 c
theorem qYs {α:Type} {c:Prop} [Decidable c] {F:Nat->StateT SortSt Sem α} {x y:Nat} {p q:StateT SortSt Sem α} {Q:α->SortSt->Prop} {st:SortSt} (h2:q=F y) (h1:p=F x) (h:∀z,wpS M A E s (F z) Q st):wpS M A E s (if c then p else q) Q st:=by
 split
 ·rw[h1];exact h x
 ·rw[h2];exact h y
theorem qV7 {α γ δ:Type} {c:Prop} [Decidable c] {F:γ->δ->StateT SortSt Sem α} {p q:StateT SortSt Sem α} {Q:α->SortSt->Prop} {st:SortSt} (y1:γ) (y2:δ) (h2:q=F y1 y2) (R:γ->δ->Prop) (hn:¬ c->R y1 y2) (hp:c->(∀z1 z2,R z1 z2->wpS M A E s (F z1 z2) Q st)->wpS M A E s p Q st) (key:∀z1 z2,R z1 z2->wpS M A E s (F z1 z2) Q st):wpS M A E s (if c then p else q) Q st:=by
 by_cases h:c
 ·rw[lJc h];exact hp h key
 ·rw[lJa h,h2];exact key y1 y2 (hn h)
abbrev kd:Keyed:=(Value.none,Value.none)
theorem at_d {a:Array Keyed} {ja:Nat} (i:Nat) (hi:i<a.size-ja):a[ja+i]? =some (a.getD (ja+i) kd):=by simp[Array.getD,show ja+i<a.size by omega]
theorem srt_d (H:Asks M A s κ mem le) {a:Array Keyed} {ja:Nat} (sa:a.toList.Pairwise le) (ma:∀x,x∈a.toList->mem x) (i j:Nat) (hij:i<=j) (hj:j<a.size-ja):le (a.getD (ja+i) kd) (a.getD (ja+j) kd):=by
 have h1:=at_d (a:=a) (ja:=ja) i (by omega)
 have h2:=at_d (a:=a) (ja:=ja) j hj
 rcases lQw hij with q | rfl
 ·exact kKt sa (i:=ja+i) (j:=ja+j) (by rw[lJ7];exact h1) (by omega) (by rw[lJ7];exact h2)
 ·exact (H.tot _ _ (ma _ (jKa h1)) (ma _ (jKa h1))).elim id id
variable {a b:Array Keyed}
theorem galA (H:Asks M A s κ mem le) {ja jb k:Nat} {y:Keyed} (sa:a.toList.Pairwise le) (ma:∀x,x∈a.toList->mem x) (sb:b.toList.Pairwise le) (mb:∀x,x∈b.toList->mem x) (hy:b[jb]? =some y) (hk1:k<=a.size-ja) (hk2:∀i,i<k->bey le false y (a.getD (ja+i) kd)=true) (hk3:∀i,k<=i->i<a.size-ja->bey le false y (a.getD (ja+i) kd)=false):
  (∀x,x∈(a.toList.drop ja).take k->∀z,z∈b.toList.drop jb->le x z)/\(ja+k<a.size->∀z,z∈a.toList.drop (ja+k)->le y z):=by
 have my:=mb y (jKa hy)
 simp only[bey,lKn,lKd,lKw,lV5] at hk2 hk3
 refine⟨fun x hx z hz=> ?_,fun hlt=> ?_⟩
 ·obtain⟨j,hj,hxj⟩:=kV7 hx
  have e:=at_d (a:=a) (ja:=ja) j (by omega)
  rw[hxj] at e
  have hle:=hk2 j hj
  rw[<-lJn e] at hle
  exact jX1 H sb mb hy (ma x (jKa hxj)) hle z hz
 ·have e:=at_d (a:=a) (ja:=ja) k (by omega)
  have hm:=ma _ (jKa e)
  exact jX1 H sa ma e my ((H.tot _ _ hm my).resolve_left (hk3 k (lJh _) (by omega)))
theorem galB (H:Asks M A s κ mem le) {ja jb k:Nat} {x:Keyed} (sa:a.toList.Pairwise le) (ma:∀x,x∈a.toList->mem x) (sb:b.toList.Pairwise le) (mb:∀x,x∈b.toList->mem x) (hx:a[ja]? =some x) (hk1:k<=b.size-jb) (hk2:∀i,i<k->bey le true x (b.getD (jb+i) kd)=true) (hk3:∀i,k<=i->i<b.size-jb->bey le true x (b.getD (jb+i) kd)=false):
  (∀y,y∈(b.toList.drop jb).take k->∀z,z∈a.toList.drop ja->le y z)/\(jb+k<b.size->∀z,z∈b.toList.drop (jb+k)->le x z):=by
 have mx:=ma x (jKa hx)
 simp only[bey,lKp,lX1,lV5,Bool.not_eq_false',lKw] at hk2 hk3
 refine⟨fun y hy z hz=> ?_,fun hlt=> ?_⟩
 ·obtain⟨j,hj,hyj⟩:=kV7 hy
  have e:=at_d (a:=b) (ja:=jb) j (by omega)
  rw[hyj] at e
  have hle:=hk2 j hj
  rw[<-lJn e] at hle
  have my:=mb y (jKa hyj)
  exact jX1 H sa ma hx my ((H.tot _ _ mx my).resolve_left hle) z hz
 ·have e:=at_d (a:=b) (ja:=jb) k (by omega)
  exact jX1 H sb mb e mx (hk3 k (lJh _) (by omega))
theorem kYl {st:SortSt} {Q:Array Keyed->SortSt->Prop} (H:Asks M A s κ mem le) (hk:kindOf st=κ) (hA:1<=a.size) (hB:1<=b.size) (sa:a.toList.Pairwise le) (sb:b.toList.Pairwise le) (ma:∀x,x∈a.toList->mem x) (mb:∀x,x∈b.toList->mem x)
  (hf:∀x,b[0]? =some x->∀y,y∈a.toList->le x y) (hl:∀x,a[a.size-1]? =some x->∀y,y∈b.toList->le y x) (h:∀r g,Fin2 le a b r->Q r (jKk st g)):
  wpS M A E s (qUl a b) Q st:=by
 obtain⟨x0,hb0⟩:=jVq (arr:=b) (i:=0) (by omega)
 have hl':∀i,i+1=a.size->∀x,a[i]? =some x->∀y,y∈b.toList->le y x:=fun i hi x hx=>hl x (by rw[show a.size-1=i by omega];exact hx)
 have L0:Lw le a b #[x0] 0 1:=by
  refine⟨?_,by simp,?_⟩
  ·rw[lXl]
   have:b.toList=x0::b.toList.drop 1:=by have:=jUp hb0;rwa [lXl] at this
   conv=>rhs;rw[this]
   show (x0::(a.toList++List.drop 1 b.toList)).Perm _
   exact List.perm_middle.symm
  ·intro x hx y hy
   simp at hx;subst hx
   rcases (lJx.mp hy) with z | z
   ·exact hf x hb0 y (lQ4 z)
   ·have hd:=sb
    have e:b.toList=x::b.toList.drop 1:=by have:=jUp hb0;rwa [lXl] at this
    rw[e] at hd
    exact List.rel_of_pairwise_cons hd z
 have fin0:∀r,Fin2 le a b r->Q r st:=fun r hr=>h r (gallopOf st) hr
 (refine lJe (wpS_lift (lK9 ⟨rfl,?_⟩)))
 refine lJe (jJ5 hb0 ?_)
 dsimp only
 by_cases c1:1=b.size
 ·rw[lJc (by simpa using c1)]
  exact lJf (fin0 _ (L0.done sa sb (.inl c1)))
 rw[lJa (by simpa using c1)]
 by_cases c2:0+1=a.size
 ·rw[lJc (by simpa using c2)]
  exact lJf (fin0 _ (L0.lastA sa sb c2 (hl' 0 c2)))
 rw[lJa (by simpa using c2)]
 refine lJe (lK5 ?_)
 refine lJe (lKk (lKl (I:=fun i (c:Option (Array Keyed)×Array Keyed×Nat×Nat×Nat) st'=>(∃g,jKk st g=st')/\c.1=none/\Lw le a b c.2.1 c.2.2.1 c.2.2.2.1/\c.2.2.1+1<a.size/\c.2.2.2.1<b.size/\i+1<=c.2.1.size)
  (Q:=fun (c:Option (Array Keyed)×Array Keyed×Nat×Nat×Nat) st'=>(∃g,jKk st g=st')/\∃r,c.1=some r/\Fin2 le a b r) ?_ ?_ ⟨⟨_,rfl⟩,rfl,L0,by dsimp only;omega,by dsimp only;omega,by simp⟩) ?_)
 ·rintro i ⟨r,out,ia,ib,mg⟩ st' _ hi ⟨⟨g,rfl⟩,rfl,L,ha,hb,hsz⟩
  dsimp only at L ha hb hsz ⊢
  refine lJe (lKk (lKl (I:=fun i1 (c:Option (Array Keyed)×Array Keyed×Nat×Nat×Nat×Nat) st'=>jKk st g=st'/\c.1=none/\Lw le a b c.2.1 c.2.2.1 c.2.2.2.1/\c.2.2.1+1<a.size/\c.2.2.2.1<b.size/\out.size+i1<=c.2.1.size)
   (Q:=fun (c:Option (Array Keyed)×Array Keyed×Nat×Nat×Nat×Nat) st'=>jKk st g=st'/\((∃r,c.1=some r/\Fin2 le a b r)\/(c.1=none/\Lw le a b c.2.1 c.2.2.1 c.2.2.2.1/\c.2.2.1+1<a.size/\c.2.2.2.1<b.size/\out.size+1<=c.2.1.size))) ?_ ?_ ⟨rfl,rfl,L,ha,hb,lJh _⟩) ?_)
  ·rintro i1 ⟨r,out1,ia1,ib1,ac,bc⟩ st' _ hi1 ⟨rfl,rfl,L1,ha1,hb1,hsz1⟩
   dsimp only at L1 ha1 hb1 hsz1 ⊢
   obtain⟨y,hy⟩:=jVq hb1
   obtain⟨x,hx⟩:=jVq (arr:=a) (i:=ia1) (by omega)
   have my:=mb y (jKa hy)
   have mx:=ma x (jKa hx)
   refine lJe (jJ5 hy (lJe (jJ5 hx (lJe (qJu (st:=jKk st g) H my mx hk ?_)))))
   by_cases w:le x y
   ·rw[lJ3 w]
    dsimp only
    rw[lJa (by decide)]
    refine lJe (jJ5 hx ?_)
    have L2:=L1.pushA sa hx (jX1 H sb mb hy mx w)
    by_cases c3:ia1+1+1=a.size
    ·rw[lJc (by simpa using c3)]
     exact lJf ⟨rfl,.inl ⟨_,rfl,L2.lastA sa sb c3 (hl' _ c3)⟩⟩
    ·rw[lJa (by simpa using c3)]
     by_cases c4:ac+1>=mg
     ·rw[lJc c4]
      exact wpS_pure ⟨rfl,.inr ⟨rfl,L2,by dsimp only;omega,hb1,by simp;omega⟩⟩
     ·rw[lJa c4]
      exact wpS_pure ⟨rfl,rfl,L2,by dsimp only;omega,hb1,by simp;omega⟩
   ·rw[lJt w]
    dsimp only
    (rw[lJc (show (!false)=true from rfl)])
    refine lJe (jJ5 hy ?_)
    have w':le y x:=(H.tot x y mx my).resolve_left w
    have L2:=L1.pushB sb hy (jX1 H sa ma hx my w')
    by_cases c3:ib1+1=b.size
    ·rw[lJc (by simpa using c3)]
     exact lJf ⟨rfl,.inl ⟨_,rfl,L2.done sa sb (.inl c3)⟩⟩
    ·rw[lJa (by simpa using c3)]
     by_cases c4:bc+1>=mg
     ·rw[lJc c4]
      exact wpS_pure ⟨rfl,.inr ⟨rfl,L2,ha1,by dsimp only;omega,by simp;omega⟩⟩
     ·rw[lJa c4]
      exact wpS_pure ⟨rfl,rfl,L2,ha1,by dsimp only;omega,by simp;omega⟩
  ·rintro⟨r,out1,ia1,ib1,ac,bc⟩ st' ⟨rfl,rfl,L1,ha1,hb1,hsz1⟩
   dsimp only at L1 ha1 hb1 hsz1 ⊢
   exact⟨rfl,.inr ⟨rfl,L1,ha1,hb1,by omega⟩⟩
  ·rintro⟨r,out1,ia1,ib1,ac,bc⟩ st' ⟨rfl,⟨r',rfl,fr⟩ | ⟨rfl,L1,ha1,hb1,hsz1⟩⟩
   ·dsimp only
    exact lJf ⟨⟨g,rfl⟩,r',rfl,fr⟩
   dsimp only at L1 ha1 hb1 hsz1 ⊢
   (refine lJe (wpS_lift (lK9 ⟨rfl,?_⟩)))
   refine lJe (lKk (lKl (I:=fun _ (c:Option (Array Keyed)×Array Keyed×Nat×Nat×Nat×Nat×Nat) st'=>(∃g,jKk st g=st')/\c.1=none/\Lw le a b c.2.1 c.2.2.1 c.2.2.2.1/\c.2.2.1+1<a.size/\c.2.2.2.1<b.size/\out.size+1<=c.2.1.size)
    (Q:=fun (c:Option (Array Keyed)×Array Keyed×Nat×Nat×Nat×Nat×Nat) st'=>(∃g,jKk st g=st')/\((∃r,c.1=some r/\Fin2 le a b r)\/(c.1=none/\Lw le a b c.2.1 c.2.2.1 c.2.2.2.1/\c.2.2.1+1<a.size/\c.2.2.2.1<b.size/\out.size+1<=c.2.1.size))) ?_ ?_ ⟨⟨g,rfl⟩,rfl,L1,ha1,hb1,hsz1⟩) ?_)
   ·clear L1 ha1 hb1 hsz1
    rintro i1 ⟨r,o,ja,jb,mg1,ac1,bc1⟩ st' _ hi1 ⟨⟨g1,rfl⟩,rfl,L1,ha1,hb1,hsz1⟩
    dsimp only at L1 ha1 hb1 hsz1 ⊢
    obtain⟨y,hy⟩:=jVq hb1
    have my:=mb y (jKa hy)
    apply qYs (x:=mg1-1) (y:=mg1)
    case h2=>rfl
    case h1=>rfl
    intro mg2
    refine lJe (lKh ?_)
    refine lJe (jJ5 hy ?_)
    refine lJe (jUc (st:=jKk st _) (f:=fun i=>a.getD (ja+i) kd) H hk my at_d (fun i hi=>ma _ (jKa (at_d i hi))) (srt_d H sa ma) (by omega) fun k hk1 hk2 hk3=> ?_)
    obtain⟨takeK,beyK⟩:=galA H sa ma sb mb hy hk1 hk2 hk3
    clear hk2 hk3
    dsimp only
    apply qV7 o ja (R:=fun o2 ja2=>Lw le a b o2 ja2 jb/\ja2+1<a.size/\out.size+1<=o2.size/\∀z,z∈a.toList.drop ja2->le y z)
    case h2=>rfl
    ·intro ck
     obtain rfl:k=0:=by omega
     have bk:=beyK (by omega)
     rw[lXh] at bk
     exact⟨L1,ha1,hsz1,bk⟩
    ·intro ck key
     have L2:Lw le a b (o++a.extract ja (ja+k)) (ja+k) jb:=L1.takeA sa (by rw[lQj,qXc (by omega)]) takeK
     refine jJ2 (fun d1=> ?_) fun d1=> ?_
     ·exact lJf ⟨⟨_,rfl⟩,.inl ⟨_,rfl,L2.lastA sa sb d1 (hl' _ d1)⟩⟩
     refine jJ2 (fun d2=> ?_) fun d2=> ?_
     ·exact lJf ⟨⟨_,rfl⟩,.inl ⟨_,rfl,L2.done sa sb (.inr d2)⟩⟩
     exact key _ _ ⟨L2,by omega,by rw[Array.size_append];omega,beyK (by omega)⟩
    intro o2 ja2 hR
    obtain⟨L2,hja,hos,bk⟩:=hR
    clear L1 takeK beyK hk1 ha1 hsz1
    refine lJe (jJ5 hy ?_)
    have L3:=L2.pushB sb hy bk
    refine jJ2 (fun d3=> ?_) fun d3=> ?_
    ·exact lJf ⟨⟨_,rfl⟩,.inl ⟨_,rfl,L3.done sa sb (.inl d3)⟩⟩
    obtain⟨x,hx⟩:=jVq (Nat.lt_of_succ_lt hja)
    have mx:=ma x (jKa hx)
    have hps:out.size+1<=(o2.push y).size:=by rw[Array.size_push];omega
    have hjb:jb+1<b.size:=by omega
    clear L2 bk hos d3 hb1
    refine lJe (jJ5 hx ?_)
    generalize o2.push y=o3 at *
    generalize jb+1=jb1 at *
    refine lJe (jUc (st:=jKk st _) (f:=fun i=>b.getD (jb1+i) kd) H hk mx at_d (fun i hi=>mb _ (jKa (at_d i hi))) (srt_d H sb mb) (by omega) fun k2 e1 e2 e3=> ?_)
    obtain⟨takeK,beyK⟩:=galB H sa ma sb mb hx e1 e2 e3
    clear e2 e3
    dsimp only
    apply qV7 o3 jb1 (R:=fun o4 jb2=>Lw le a b o4 ja2 jb2/\jb2<b.size/\out.size+1<=o4.size/\∀z,z∈b.toList.drop jb2->le x z)
    case h2=>rfl
    ·intro ck
     obtain rfl:k2=0:=by omega
     have bk:=beyK (by omega)
     rw[lXh] at bk
     exact⟨L3,hjb,hps,bk⟩
    ·intro ck key
     have L4:=L3.takeB sb (k:=k2) (lQj.trans (lKg _ (qXc (ia:=jb1) (a:=b) (by omega)))) takeK
     refine jJ2 (fun d4=> ?_) fun d4=> ?_
     ·exact lJf ⟨⟨_,rfl⟩,.inl ⟨_,rfl,L4.done sa sb (.inl d4)⟩⟩
     exact key _ _ ⟨L4,by omega,by rw[Array.size_append];omega,beyK (by omega)⟩
    intro o4 jb2 hR
    obtain⟨L4,hjb2,hos,bk⟩:=hR
    clear L3 takeK beyK e1 hjb hps
    have L5:=L4.pushA sa hx bk
    refine lJe (jJ5 hx ?_)
    refine jJ2 (fun d5=> ?_) fun d5=> ?_
    ·exact lJf ⟨⟨_,rfl⟩,.inl ⟨_,rfl,L5.lastA sa sb d5 (hl' _ d5)⟩⟩
    have g5:ja2+1+1<a.size:=by omega
    have g6:out.size+1<=(o4.push x).size:=by rw[Array.size_push];omega
    split
    ·exact lJf ⟨⟨_,rfl⟩,.inr ⟨rfl,L5,g5,hjb2,g6⟩⟩
    ·exact lJf ⟨⟨_,rfl⟩,rfl,L5,g5,hjb2,g6⟩
   ·rintro⟨r,o,ja,jb,mg1,ac1,bc1⟩ st' ⟨⟨g1,rfl⟩,rfl,L1,ha1,hb1,hsz1⟩
    dsimp only at L1 ha1 hb1 hsz1 ⊢
    exact⟨⟨g1,rfl⟩,.inr ⟨rfl,L1,ha1,hb1,hsz1⟩⟩
   ·rintro⟨r,o,ja,jb,mg1,ac1,bc1⟩ st' ⟨⟨g1,rfl⟩,⟨r',rfl,fr⟩ | ⟨rfl,L1,ha1,hb1,hsz1⟩⟩
    ·dsimp only
     exact lJf ⟨⟨g1,rfl⟩,r',rfl,fr⟩
    ·dsimp only at L1 ha1 hb1 hsz1 ⊢
     refine lJe (lKh ?_)
     exact wpS_pure ⟨⟨_,rfl⟩,rfl,L1,ha1,hb1,by dsimp only;omega⟩
 ·rintro⟨r,out,ia,ib,mg⟩ st' ⟨⟨g,rfl⟩,rfl,L,ha,hb,hsz⟩
  have:=L.size
  dsimp only at this hsz ha hb
  exfalso
  rw[Nat.zero_max] at hsz
  omega
 ·rintro⟨r,out,ia,ib,mg⟩ st' ⟨⟨g,rfl⟩,r',rfl,fr⟩
  dsimp only
  exact lJf (h _ _ fr)
end
section
variable {le:Keyed->Keyed->Prop} {a b out:Array Keyed} {na nb k:Nat}
structure Hw (le:Keyed->Keyed->Prop) (a b out:Array Keyed) (na nb:Nat):Prop where
 perm:((a.toList.take na++b.toList.take nb)++out.toList.reverse).Perm (a.toList++b.toList)
 srt:out.toList.reverse.Pairwise le
 up:∀x,x∈a.toList.take na++b.toList.take nb->∀y,y∈out.toList->le x y
theorem Hw.size (h:Hw le a b out na nb) (h1:na<=a.size) (h2:nb<=b.size):na+nb+out.size=a.size+b.size:=by
 have:=h.perm.length_eq
 simp at this
 omega
theorem kJm {l:List Keyed} (h:k<=na):l.take na=l.take k++(l.take na).drop k:=by
 conv=>lhs;rw[<-lKy k (l.take na)]
 rw[List.take_take,Nat.min_eq_left h]
theorem Hw.takeA (h:Hw le a b out na nb) (sa:a.toList.Pairwise le) (hk:k<=na) {o:Array Keyed} (ho:o.toList.reverse=(a.toList.take na).drop k++out.toList.reverse) (hx:∀x,x∈b.toList.take nb->∀y,y∈(a.toList.take na).drop k->le x y):Hw le a b o k nb:=by
 have sd:(a.toList.take na).Pairwise le:=sa.sublist (lQ1 ..)
 have up:=h.up
 have perm:=h.perm
 have e:=kJm (l:=a.toList) hk
 generalize hd:(a.toList.take na).drop k=d at *
 rw[e] at sd up perm
 obtain⟨s1,s2,s3⟩:=lKc.mp sd
 have mo:∀y,y∈o.toList->y∈d\/y∈out.toList:=fun y hy=>by
  have:y∈o.toList.reverse:=lVk.mpr hy
  rw[ho] at this
  exact (lJx.mp this).imp id lVk.mp
 refine⟨?_,?_,?_⟩
 ·rw[ho]
  refine List.Perm.trans ?_ perm
  rw[<-lJq,lJq,lJq,lJq,lJq]
  (refine lXj _ ?_)
  (rw[<-lJq,<-lJq])
  (exact lX6 _ lX7)
 ·rw[ho]
  exact lKc.mpr ⟨s2,h.srt,fun x hx' y hy=>up x (lKa _ (lJ5 _ hx')) y (lVk.mp hy)⟩
 ·intro x hx' y hy
  rcases mo y hy with z | z
  ·rcases (lJx.mp hx') with w | w
   ·exact s3 x w y z
   ·exact hx x w y z
  ·refine up x ?_ y z
   rcases (lJx.mp hx') with w | w
   ·exact lKa _ (lKa _ w)
   ·exact lJ5 _ w
theorem Hw.takeB (h:Hw le a b out na nb) (sb:b.toList.Pairwise le) (hk:k<=nb) {o:Array Keyed} (ho:o.toList.reverse=(b.toList.take nb).drop k++out.toList.reverse) (hx:∀x,x∈a.toList.take na->∀y,y∈(b.toList.take nb).drop k->le x y):Hw le a b o na k:=by
 have sd:(b.toList.take nb).Pairwise le:=sb.sublist (lQ1 ..)
 have up:=h.up
 have perm:=h.perm
 have e:=kJm (l:=b.toList) hk
 generalize hd:(b.toList.take nb).drop k=d at *
 rw[e] at sd up perm
 obtain⟨s1,s2,s3⟩:=lKc.mp sd
 have mo:∀y,y∈o.toList->y∈d\/y∈out.toList:=fun y hy=>by
  have:y∈o.toList.reverse:=lVk.mpr hy
  rw[ho] at this
  exact (lJx.mp this).imp id lVk.mp
 refine⟨?_,?_,?_⟩
 ·rw[ho]
  refine List.Perm.trans ?_ perm
  rw[<-lJq,lJq,lJq,lJq,lJq]
 ·rw[ho]
  exact lKc.mpr ⟨s2,h.srt,fun x hx' y hy=>up x (lJ5 _ (lJ5 _ hx')) y (lVk.mp hy)⟩
 ·intro x hx' y hy
  rcases mo y hy with z | z
  ·rcases (lJx.mp hx') with w | w
   ·exact hx x w y z
   ·exact s3 x w y z
  ·refine up x ?_ y z
   rcases (lJx.mp hx') with w | w
   ·exact lKa _ w
   ·exact lJ5 _ (lKa _ w)
theorem jY1 {arr:Array Keyed} {i:Nat} {x:Keyed} (h:arr[i]? =some x):(arr.toList.take (i+1)).drop i=[x]:=by
 have hl:arr.toList[i]? =some x:=by rw[lJ7];exact h
 obtain⟨h1,h2⟩:=lJi.mp hl
 have hs:i<arr.size:=by simpa using h1
 rw[lQt,hl,lYm (by simp;omega),lVj (by simp;omega)]
 rfl
theorem Hw.pushA (h:Hw le a b out (na+1) nb) (sa:a.toList.Pairwise le) {x:Keyed} (hi:a[na]? =some x) (hx:∀y,y∈b.toList.take nb->le y x):Hw le a b (out.push x) na nb:=by
 refine h.takeA sa (k:=na) (by omega) (by rw[jY1 hi];simp) fun z hz y hy=> ?_
 rw[jY1 hi,lJ1] at hy
 rw[hy];exact hx z hz
theorem Hw.pushB (h:Hw le a b out na (nb+1)) (sb:b.toList.Pairwise le) {x:Keyed} (hi:b[nb]? =some x) (hx:∀y,y∈a.toList.take na->le y x):Hw le a b (out.push x) na nb:=by
 refine h.takeB sb (k:=nb) (by omega) (by rw[jY1 hi];simp) fun z hz y hy=> ?_
 rw[jY1 hi,lJ1] at hy
 rw[hy];exact hx z hz
theorem jY3:(a.extract 0 na).toList=a.toList.take na:=by rw[jVj];simp
theorem Hw.done (h:Hw le a b out na nb) (sa:a.toList.Pairwise le) (sb:b.toList.Pairwise le) (hi:na=0\/nb=0):Fin2 le a b (a.extract 0 na++b.extract 0 nb++out.reverse):=by
 have e:(a.extract 0 na++b.extract 0 nb++out.reverse).toList=(a.toList.take na++b.toList.take nb)++out.toList.reverse:=by rw[lQj,lQj,jY3,jY3,Array.toList_reverse]
 unfold Fin2
 rw[e]
 refine⟨h.perm,lKc.mpr ⟨?_,h.srt,fun x hx y hy=>h.up x hx y (lVk.mp hy)⟩⟩
 refine lKc.mpr ⟨sa.sublist (lQ1 ..),sb.sublist (lQ1 ..),fun x hx y hy=> ?_⟩
 rcases hi with z | z
 ·rw[z] at hx;cases hx
 ·rw[z] at hy;cases hy
theorem Hw.firstB (h:Hw le a b out na nb) (sa:a.toList.Pairwise le) (sb:b.toList.Pairwise le) (hi:nb=1) (hl:∀x,b[0]? =some x->∀y,y∈a.toList->le x y):Fin2 le a b (b.extract 0 nb++a.extract 0 na++out.reverse):=by
 have e:(b.extract 0 nb++a.extract 0 na++out.reverse).toList=(b.toList.take nb++a.toList.take na)++out.toList.reverse:=by rw[lQj,lQj,jY3,jY3,Array.toList_reverse]
 unfold Fin2
 rw[e]
 refine⟨(lX6 _ lX7).trans h.perm,lKc.mpr ⟨?_,h.srt,fun x hx y hy=>h.up x ?_ y (lVk.mp hy)⟩⟩
 ·refine lKc.mpr ⟨sb.sublist (lQ1 ..),sa.sublist (lQ1 ..),fun x hx y hy=> ?_⟩
  rw[hi] at hx
  (obtain⟨j,hj⟩:=lJ6 hx)
  rw[lQv] at hj
  split at hj
  ·rename_i hlt
   obtain rfl:j=0:=by omega
   rw[lJ7] at hj
   exact hl x hj y (lQi hy)
  ·cases hj
 ·rcases (lJx.mp hx) with w | w
  ·exact lJ5 _ w
  ·exact lKa _ w
end
section
variable {M:Model} {A:Around} {E:Value->Shared->Prop} {s:Shared} {κ:SortKind} {mem:Keyed->Prop} {le:Keyed->Keyed->Prop} [∀x y,Decidable (le x y)] {a b:Array Keyed}
theorem kKa (H:Asks M A s κ mem le) {arr:Array Keyed} {i:Nat} {x y:Keyed} (hs:arr.toList.Pairwise le) (hm:∀x,x∈arr.toList->mem x) (hx:arr[i]? =some x) (hy:mem y) (h:le x y):∀z,z∈arr.toList.take (i+1)->le z y:=by
 intro z hz
 have hzl:z∈arr.toList:=lQi hz
 obtain⟨j,hj⟩:=lJ6 hz
 rw[lQv] at hj
 split at hj
 ·rename_i hlt
  rcases lQw (lQ6 hlt) with q | rfl
  ·exact H.tr _ _ _ (hm z hzl) (hm x (jKa hx)) hy (kKt hs hj q (by rw[lJ7];exact hx)) h
  ·rw[lJ7,hx] at hj;cases hj;exact h
 ·cases hj
theorem qXd {arr:Array Keyed} {n k:Nat} {x:Keyed} (h:x∈(arr.toList.take n).drop k):∃j,k<=j/\j<n/\arr[j]? =some x:=by
 obtain⟨j,hj⟩:=lJ6 h
 rw[lXk,lQv] at hj
 split at hj
 ·rename_i hl
  rw[lJ7] at hj
  exact⟨k+j,by omega,hl,hj⟩
 ·cases hj
theorem qVu {arr:Array Keyed} {n:Nat} {x:Keyed} (h:x∈arr.toList.take n):∃j,j<n/\arr[j]? =some x:=by
 obtain⟨j,hj⟩:=lJ6 h
 rw[lQv] at hj
 split at hj
 ·rename_i hl
  rw[lJ7] at hj
  exact⟨j,hl,hj⟩
 ·cases hj
theorem at_e {a:Array Keyed} {n:Nat} (hn:n<=a.size) (i:Nat) (hi:i<n):a[0+i]? =some (a.getD i kd):=by rw[lVt];simp[Array.getD,show i<a.size by omega]
theorem srt_e (H:Asks M A s κ mem le) {a:Array Keyed} {n:Nat} (hn:n<=a.size) (sa:a.toList.Pairwise le) (ma:∀x,x∈a.toList->mem x) (i j:Nat) (hij:i<=j) (hj:j<n):le (a.getD i kd) (a.getD j kd):=by
 have h1:=at_e hn i (by omega)
 have h2:=at_e hn j hj
 rw[lVt] at h1 h2
 rcases lQw hij with q | rfl
 ·exact kKt sa (i:=i) (j:=j) (by rw[lJ7];exact h1) q (by rw[lJ7];exact h2)
 ·exact (H.tot _ _ (ma _ (jKa h1)) (ma _ (jKa h1))).elim id id
theorem galAh (H:Asks M A s κ mem le) {na nb k:Nat} {y:Keyed} (ma:∀x,x∈a.toList->mem x) (sb:b.toList.Pairwise le) (mb:∀x,x∈b.toList->mem x) (hna:na<=a.size) (hy:b[nb]? =some y) (hk1:k<=na) (hk2:∀i,i<k->bey le false y (a.getD i kd)=true) (hk3:∀i,k<=i->i<na->bey le false y (a.getD i kd)=false):
  (∀z,z∈b.toList.take (nb+1)->∀x,x∈(a.toList.take na).drop k->le z x)/\(∀z,z∈a.toList.take k->le z y):=by
 have my:=mb y (jKa hy)
 simp only[bey,lKn,lKd,lKw,lV5] at hk2 hk3
 refine⟨fun z hz x hx=> ?_,fun z hz=> ?_⟩
 ·obtain⟨j,h1,h2,h3⟩:=qXd hx
  have e:=at_e hna j h2
  rw[lVt,h3] at e
  have hle:=hk3 j h1 h2
  rw[<-lJn e] at hle
  have mx:=ma x (jKa h3)
  exact kKa H sb mb hy mx ((H.tot _ _ mx my).resolve_left hle) z hz
 ·obtain⟨j,h1,h2⟩:=qVu hz
  have e:=at_e hna j (by omega)
  rw[lVt,h2] at e
  have hle:=hk2 j h1
  rwa [<-lJn e] at hle
theorem galBh (H:Asks M A s κ mem le) {na nb k:Nat} {x:Keyed} (sa:a.toList.Pairwise le) (ma:∀x,x∈a.toList->mem x) (mb:∀x,x∈b.toList->mem x) (hnb:nb<=b.size) (hx:a[na]? =some x) (hk1:k<=nb) (hk2:∀i,i<k->bey le true x (b.getD i kd)=true) (hk3:∀i,k<=i->i<nb->bey le true x (b.getD i kd)=false):
  (∀z,z∈a.toList.take (na+1)->∀y,y∈(b.toList.take nb).drop k->le z y)/\(∀z,z∈b.toList.take k->le z x):=by
 have mx:=ma x (jKa hx)
 simp only[bey,lKp,lX1,lV5,Bool.not_eq_false',lKw] at hk2 hk3
 refine⟨fun z hz y hy=> ?_,fun z hz=> ?_⟩
 ·obtain⟨j,h1,h2,h3⟩:=qXd hy
  have e:=at_e hnb j h2
  rw[lVt,h3] at e
  have hle:=hk3 j h1 h2
  rw[<-lJn e] at hle
  exact kKa H sa ma hx (mb y (jKa h3)) hle z hz
 ·obtain⟨j,h1,h2⟩:=qVu hz
  have e:=at_e hnb j (by omega)
  rw[lVt,h2] at e
  have hle:=hk2 j h1
  rw[<-lJn e] at hle
  exact (H.tot _ _ mx (mb z (jKa h2))).resolve_left hle
theorem kZz {arr o:Array Keyed} {n k:Nat}:(o++(arr.extract k n).reverse).toList.reverse=(arr.toList.take n).drop k++o.toList.reverse:=by
 rw[lQj,List.reverse_append,Array.toList_reverse,List.reverse_reverse,jVj,List.drop_take]
theorem kYm {st:SortSt} {Q:Array Keyed->SortSt->Prop} (H:Asks M A s κ mem le) (hk:kindOf st=κ) (hA:1<=a.size) (hB:1<=b.size) (sa:a.toList.Pairwise le) (sb:b.toList.Pairwise le) (ma:∀x,x∈a.toList->mem x) (mb:∀x,x∈b.toList->mem x)
  (hf:∀x,b[0]? =some x->∀y,y∈a.toList->le x y) (hl:∀x,a[a.size-1]? =some x->∀y,y∈b.toList->le y x) (h:∀r g,Fin2 le a b r->Q r (jKk st g)):
  wpS M A E s (qUm a b) Q st:=by
 obtain⟨x0,hb0⟩:=jVq (arr:=a) (i:=a.size-1) (by omega)
 have La:Hw le a b #[] (a.size-1+1) b.size:=by
  refine⟨?_,by simp,fun x _ y hy=> ?_⟩
  ·rw[lQg (by simp;omega),lQg (by simp)];simp
  ·simp at hy
 have L0:Hw le a b #[x0] (a.size-1) b.size:=La.pushA sa hb0 fun y hy=>hl x0 hb0 y (lQi hy)
 have fin0:∀r,Fin2 le a b r->Q r st:=fun r hr=>h r (gallopOf st) hr
 (refine lJe (wpS_lift (lK9 ⟨rfl,?_⟩)))
 refine lJe (jJ5 hb0 ?_)
 dsimp only
 refine jJ2 (fun c1=> ?_) fun c1=> ?_
 ·exact lJf (fin0 _ (L0.done sa sb (.inl c1)))
 refine jJ2 (fun c2=> ?_) fun c2=> ?_
 ·exact lJf (fin0 _ (L0.firstB sa sb c2 hf))
 refine lJe (lK5 ?_)
 refine lJe (lKk (lKl (I:=fun i (c:Option (Array Keyed)×Nat×Nat×Array Keyed×Nat) st'=>(∃g,jKk st g=st')/\c.1=none/\Hw le a b c.2.2.2.1 c.2.1 c.2.2.1/\1<=c.2.1/\c.2.1<=a.size/\2<=c.2.2.1/\c.2.2.1<=b.size/\i+1<=c.2.2.2.1.size)
  (Q:=fun (c:Option (Array Keyed)×Nat×Nat×Array Keyed×Nat) st'=>(∃g,jKk st g=st')/\∃r,c.1=some r/\Fin2 le a b r) ?_ ?_ ⟨⟨_,rfl⟩,rfl,L0,by dsimp only;omega,by dsimp only;omega,by dsimp only;omega,by dsimp only;omega,by simp⟩) ?_)
 ·rintro i ⟨r,na,nb,out,mg⟩ st' _ hi ⟨⟨g,rfl⟩,rfl,L,ha,ha',hb,hb',hsz⟩
  dsimp only at L ha ha' hb hb' hsz ⊢
  refine lJe (lKk (lKl (I:=fun i1 (c:Option (Array Keyed)×Nat×Nat×Array Keyed×Nat×Nat) st'=>jKk st g=st'/\c.1=none/\Hw le a b c.2.2.2.1 c.2.1 c.2.2.1/\1<=c.2.1/\c.2.1<=a.size/\2<=c.2.2.1/\c.2.2.1<=b.size/\out.size+i1<=c.2.2.2.1.size)
   (Q:=fun (c:Option (Array Keyed)×Nat×Nat×Array Keyed×Nat×Nat) st'=>jKk st g=st'/\((∃r,c.1=some r/\Fin2 le a b r)\/(c.1=none/\Hw le a b c.2.2.2.1 c.2.1 c.2.2.1/\1<=c.2.1/\c.2.1<=a.size/\2<=c.2.2.1/\c.2.2.1<=b.size/\out.size+1<=c.2.2.2.1.size))) ?_ ?_ ⟨rfl,rfl,L,ha,ha',hb,hb',lJh _⟩) ?_)
  ·rintro i1 ⟨r,n1,m1,out1,ac,bc⟩ st' _ hi1 ⟨rfl,rfl,L1,p1,p2,p3,p4,hsz1⟩
   dsimp only at L1 p1 p2 p3 p4 hsz1 ⊢
   obtain⟨n1,rfl⟩:∃k,n1=k+1:=⟨n1-1,by omega⟩
   obtain⟨m1,rfl⟩:∃k,m1=k+1:=⟨m1-1,by omega⟩
   simp only[lYj]
   obtain⟨y,hy⟩:=jVq (arr:=b) (i:=m1) (by omega)
   obtain⟨x,hx⟩:=jVq (arr:=a) (i:=n1) (by omega)
   have my:=mb y (jKa hy)
   have mx:=ma x (jKa hx)
   refine lJe (jJ5 hy (lJe (jJ5 hx (lJe (qJu (st:=jKk st g) H my mx hk ?_)))))
   by_cases w:le x y
   ·rw[lJ3 w]
    dsimp only
    rw[lJa (by decide)]
    refine lJe (jJ5 hy ?_)
    have L2:=L1.pushB sb hy (kKa H sa ma hx my w)
    refine jJ2 (fun c3=> ?_) fun c3=> ?_
    ·exact lJf ⟨rfl,.inl ⟨_,rfl,L2.firstB sa sb c3 hf⟩⟩
    ·split
     ·exact wpS_pure ⟨rfl,.inr ⟨rfl,L2,p1,p2,by dsimp only;omega,by dsimp only;omega,by simp;omega⟩⟩
     ·exact wpS_pure ⟨rfl,rfl,L2,p1,p2,by dsimp only;omega,by dsimp only;omega,by simp;omega⟩
   ·rw[lJt w]
    dsimp only
    (rw[lJc (show (!false)=true from rfl)])
    refine lJe (jJ5 hx ?_)
    have L2:=L1.pushA sa hx (kKa H sb mb hy mx ((H.tot x y mx my).resolve_left w))
    refine jJ2 (fun c3=> ?_) fun c3=> ?_
    ·exact lJf ⟨rfl,.inl ⟨_,rfl,L2.done sa sb (.inl c3)⟩⟩
    ·split
     ·exact wpS_pure ⟨rfl,.inr ⟨rfl,L2,by dsimp only;omega,by dsimp only;omega,p3,p4,by simp;omega⟩⟩
     ·exact wpS_pure ⟨rfl,rfl,L2,by dsimp only;omega,by dsimp only;omega,p3,p4,by simp;omega⟩
  ·rintro⟨r,n1,m1,out1,ac,bc⟩ st' ⟨rfl,rfl,L1,p1,p2,p3,p4,hsz1⟩
   dsimp only at L1 p1 p2 p3 p4 hsz1 ⊢
   exact⟨rfl,.inr ⟨rfl,L1,p1,p2,p3,p4,by omega⟩⟩
  ·rintro⟨r,n1,m1,out1,ac,bc⟩ st' ⟨rfl,⟨r',rfl,fr⟩ | ⟨rfl,L1,p1,p2,p3,p4,hsz1⟩⟩
   ·dsimp only
    exact lJf ⟨⟨g,rfl⟩,r',rfl,fr⟩
   dsimp only at L1 p1 p2 p3 p4 hsz1 ⊢
   (refine lJe (wpS_lift (lK9 ⟨rfl,?_⟩)))
   refine lJe (lKk (lKl (I:=fun _ (c:Option (Array Keyed)×Nat×Nat×Array Keyed×Nat×Nat×Nat) st'=>(∃g,jKk st g=st')/\c.1=none/\Hw le a b c.2.2.2.1 c.2.1 c.2.2.1/\1<=c.2.1/\c.2.1<=a.size/\2<=c.2.2.1/\c.2.2.1<=b.size/\out.size+1<=c.2.2.2.1.size)
    (Q:=fun (c:Option (Array Keyed)×Nat×Nat×Array Keyed×Nat×Nat×Nat) st'=>(∃g,jKk st g=st')/\((∃r,c.1=some r/\Fin2 le a b r)\/(c.1=none/\Hw le a b c.2.2.2.1 c.2.1 c.2.2.1/\1<=c.2.1/\c.2.1<=a.size/\2<=c.2.2.1/\c.2.2.1<=b.size/\out.size+1<=c.2.2.2.1.size))) ?_ ?_ ⟨⟨g,rfl⟩,rfl,L1,p1,p2,p3,p4,hsz1⟩) ?_)
   ·clear L1 p1 p2 p3 p4 hsz1
    rintro i1 ⟨r,ja,jb,o,mg1,ac1,bc1⟩ st' _ hi1 ⟨⟨g1,rfl⟩,rfl,L1,p1,p2,p3,p4,hsz1⟩
    dsimp only at L1 p1 p2 p3 p4 hsz1 ⊢
    obtain⟨jb,rfl⟩:∃k,jb=k+1:=⟨jb-1,by omega⟩
    simp only[lYj]
    obtain⟨y,hy⟩:=jVq (arr:=b) (i:=jb) (by omega)
    have my:=mb y (jKa hy)
    by_cases cg:mg1>1
    all_goals first | rw[lJc cg] | rw[lJa cg]
    all_goals refine lJe (lKh ?_)
    all_goals refine lJe (jJ5 hy ?_)
    all_goals refine lJe (jUc (st:=jKk st _) (f:=fun i=>a.getD i kd) H hk my (at_e p2) (fun i hi=>ma _ (jKa (at_e p2 i hi))) (srt_e H p2 sa ma) (by omega) fun k hk1 hk2 hk3=> ?_)
    all_goals obtain⟨takeK,beyK⟩:=galAh H ma sb mb p2 hy hk1 hk2 hk3
    all_goals dsimp only
    all_goals by_cases ck:ja-k>0
    all_goals first | rw[lJc ck] | rw[lJa ck]
    all_goals first
     | (have L2:Hw le a b (o++(a.extract k ja).reverse) k (jb+1):=L1.takeA sa hk1 kZz takeK
        refine jJ2 (fun d1=> ?_) fun d1=> ?_
        ·exact lJf ⟨⟨_,rfl⟩,.inl ⟨_,rfl,L2.done sa sb (.inl d1)⟩⟩
        have q1:1<=k:=by omega
        have q2:k<=a.size:=by omega
        have hos:out.size+1<=(o++(a.extract k ja).reverse).size:=by rw[Array.size_append];omega
        have bk:=beyK
        clear L1 hk1 hk2 hk3 takeK beyK
        generalize ja-k=kk at *
        generalize o++(a.extract k ja).reverse=o2 at *
        skip)
     | (obtain rfl:k=ja:=by omega
        have L2:=L1
        have q1:=p1
        have q2:=p2
        have hos:=hsz1
        have bk:=beyK
        clear L1 hk1 hk2 hk3 takeK beyK
        skip)
    all_goals refine lJe (jJ5 hy ?_)
    all_goals have L3:=L2.pushB sb hy bk
    all_goals refine jJ2 (fun d3=> ?_) fun d3=> ?_
    all_goals first
     | exact lJf ⟨⟨_,rfl⟩,.inl ⟨_,rfl,L3.firstB sa sb d3 hf⟩⟩
     | skip
    all_goals obtain⟨k',rfl⟩:∃n,k=n+1:=⟨k-1,by omega⟩
    all_goals obtain⟨x,hx⟩:=jVq (arr:=a) (i:=k') (by omega)
    all_goals have mx:=ma x (jKa hx)
    all_goals have r4:jb<=b.size:=by omega
    all_goals simp only[lYj]
    all_goals refine lJe (jJ5 hx ?_)
    all_goals refine lJe (jUc (st:=jKk st _) (f:=fun i=>b.getD i kd) H hk mx (at_e r4) (fun i hi=>mb _ (jKa (at_e r4 i hi))) (srt_e H r4 sb mb) (by omega) fun k2 e1 e2 e3=> ?_)
    all_goals obtain⟨takeK,beyK⟩:=galBh H sa ma mb r4 hx e1 e2 e3
    all_goals dsimp only
    all_goals by_cases ck2:jb-k2>0
    all_goals first | rw[lJc ck2] | rw[lJa ck2]
    all_goals first
     | (have L4:=L3.takeB sb e1 kZz takeK
        refine jJ2 (fun d4=> ?_) fun d4=> ?_
        ·exact lJf ⟨⟨_,rfl⟩,.inl ⟨_,rfl,L4.firstB sa sb d4 hf⟩⟩
        refine jJ2 (fun d5=> ?_) fun d5=> ?_
        ·exact lJf ⟨⟨_,rfl⟩,.inl ⟨_,rfl,L4.done sa sb (.inr d5)⟩⟩
        have L5:=L4.pushA sa hx beyK
        have r1:2<=k2:=by omega
        have r2:k2<=b.size:=by omega
        skip)
     | (obtain rfl:k2=jb:=by omega
        have L5:=L3.pushA sa hx beyK
        have r1:2<=k2:=by omega
        have r2:k2<=b.size:=by omega
        skip)
    all_goals refine lJe (jJ5 hx ?_)
    all_goals clear takeK beyK e1 e2 e3
    all_goals first
     | (refine jJ2 (fun d5=> ?_) fun d5=> ?_
        ·exact lJf ⟨⟨_,rfl⟩,.inl ⟨_,rfl,L5.done sa sb (.inl d5)⟩⟩
        ·split
         ·exact wpS_pure ⟨⟨_,rfl⟩,.inr ⟨rfl,L5,by dsimp only;omega,by dsimp only;omega,r1,r2,by simp;omega⟩⟩
         ·exact wpS_pure ⟨⟨_,rfl⟩,rfl,L5,by dsimp only;omega,by dsimp only;omega,r1,r2,by simp;omega⟩)
     | trace_state
   ·rintro⟨r,ja,jb,o,mg1,ac1,bc1⟩ st' ⟨⟨g1,rfl⟩,rfl,L1,p1,p2,p3,p4,hsz1⟩
    dsimp only at L1 p1 p2 p3 p4 hsz1 ⊢
    exact⟨⟨g1,rfl⟩,.inr ⟨rfl,L1,p1,p2,p3,p4,hsz1⟩⟩
   ·rintro⟨r,ja,jb,o,mg1,ac1,bc1⟩ st' ⟨⟨g1,rfl⟩,⟨r',rfl,fr⟩ | ⟨rfl,L1,p1,p2,p3,p4,hsz1⟩⟩
    ·dsimp only
     exact lJf ⟨⟨g1,rfl⟩,r',rfl,fr⟩
    ·dsimp only at L1 p1 p2 p3 p4 hsz1 ⊢
     refine lJe (lKh ?_)
     exact wpS_pure ⟨⟨_,rfl⟩,rfl,L1,p1,p2,p3,p4,by dsimp only;omega⟩
 ·rintro⟨r,na,nb,out,mg⟩ st' ⟨⟨g,rfl⟩,rfl,L,ha,ha',hb,hb',hsz⟩
  dsimp only at L ha ha' hb hb' hsz
  have:=L.size ha' hb'
  exfalso
  rw[Nat.zero_max] at hsz
  omega
 ·rintro⟨r,na,nb,out,mg⟩ st' ⟨⟨g,rfl⟩,r',rfl,fr⟩
  dsimp only
  exact lJf (h _ _ fr)
end
section
theorem jZh {α:Type}:∀(m:List α) (base:Nat) (arr:Array α) (k:Nat),base+k+m.length<=arr.size->
  ((m.zipIdx k).foldl (fun (a:Array α) (x:α×Nat)=>a.setIfInBounds (base+x.2) x.1) arr).toList=arr.toList.take (base+k)++m++arr.toList.drop (base+k+m.length)
 | [],base,arr,k,h=>by simp
 | p::m,base,arr,k,h=>by
  rw[List.zipIdx_cons,lXc]
  have hl:base+k<arr.size:=by simp at h;omega
  rw[jZh m base _ (k+1) (by rw[lYw];simp at h;omega)]
  rw[Array.toList_setIfInBounds,show base+(k+1)=(base+k)+1 by omega]
  have h1:(arr.toList.set (base+k) p).take (base+k+1)=arr.toList.take (base+k)++[p]:=by
   rw[lQt,List.take_set_of_le (lJh _),lQb (by simpa using hl)];rfl
  have h2:(arr.toList.set (base+k) p).drop (base+k+1+m.length)=arr.toList.drop (base+k+1+m.length):=List.drop_set_of_lt (by omega)
  rw[h1,h2]
  simp only[lKm,lJq,List.singleton_append,List.cons_append]
  rw[show base+k+(m.length+1)=base+k+1+m.length by omega]
  rfl
end
section
variable {M:Model} {A:Around} {E:Value->Shared->Prop} {s:Shared} {κ:SortKind} {mem:Keyed->Prop} {le:Keyed->Keyed->Prop} [∀x y,Decidable (le x y)]
theorem qXm {σ:Type} {Q:PUnit->σ->Prop} {st st':σ} (h:Q ⟨⟩ st'):wpS M A E s (set st':StateT σ Sem PUnit) Q st:=by
 unfold wpS;rw[StateT.run_set];exact lJd ⟨rfl,h⟩
theorem jJ7 {l:List Keyed} {i:Nat} (h:i<l.length):l[i]? =some (l.getD i kd):=by simp[List.getD,h]
theorem jYw (H:Asks M A s κ mem le) {l:List Keyed} (hs:l.Pairwise le) (hm:∀x,x∈l->mem x) (i j:Nat) (hij:i<=j) (hj:j<l.length):le (l.getD i kd) (l.getD j kd):=by
 have h1:=jJ7 (l:=l) (i:=i) (by omega)
 have h2:=jJ7 hj
 rcases lQw hij with q | rfl
 ·exact kKt hs h1 q h2
 ·exact (H.tot _ _ (hm _ (lJo h1)) (hm _ (lJo h1))).elim id id
theorem kYn {st:SortSt} {Q:Bool->SortSt->Prop} {i sa na sb nb pw pw2:Nat} {P X Y S:List Keyed} (H:Asks M A s κ mem le) (hk:kindOf st=κ) (hfl:failedOf st=none) (hp1:(pendingOf st)[i]? =some (sa,na,pw)) (hp2:(pendingOf st)[i+1]? =some (sb,nb,pw2))
  (harr:(arrOf st).toList=P++(X++Y)++S) (h1:P.length=sa) (h2:X.length=na) (h3:sb=sa+na) (h4:Y.length=nb) (hX:1<=na) (hY:1<=nb) (sX:X.Pairwise le) (sY:Y.Pairwise le) (mX:∀x,x∈X->mem x) (mY:∀x,x∈Y->mem x)
  (h:∀Z st',Z.Perm (X++Y)->Z.Pairwise le->(arrOf st').toList=P++Z++S->kindOf st'=κ->failedOf st'=none->pendingOf st'=((pendingOf st).setIfInBounds i (sa,na+nb,pw)).eraseIdxIfInBounds (i+1)->Q true st'):wpS M A E s (mergeAt' i) Q st:=by
 have fX:∀j,j<na->(arrOf st)[sa+j]? =some (X.getD j kd):=fun j hj=>by
  rw[<-lJ7,harr,lJq,lK7 (by omega),h1,lYn,lJq,lK1 (by omega)]
  exact jJ7 (by omega)
 have fY:∀j,j<nb->(arrOf st)[sb+j]? =some (Y.getD j kd):=fun j hj=>by
  rw[<-lJ7,harr,lJq,lK7 (by omega),h1,lJq,lK7 (by omega),h2,lK1 (by omega),show sb+j-sa-na=j by omega]
  exact jJ7 (by omega)
 have mX':∀j,j<na->mem (X.getD j kd):=fun j hj=>mX _ (lJo (jJ7 (by omega)))
 have mY':∀j,j<nb->mem (Y.getD j kd):=fun j hj=>mY _ (lJo (jJ7 (by omega)))
 refine lJe (lK5 ?_)
 simp only[hp1,hp2]
 refine lJe (qXm ?_)
 have hy0:=fY 0 (by omega)
 rw[lXh] at hy0
 refine lJe (jJ5 hy0 ?_)
 refine lJe (jUc (f:=fun j=>X.getD j kd) H (by exact hk) (mY' 0 (by omega)) fX mX' (fun p q hpq hq=>jYw H sX mX p q hpq (by omega)) (by omega) fun k hk1 hk2 hk3=> ?_)
 dsimp only
 simp only[bey,lKn,lKd,lKw,lV5] at hk2 hk3
 have inX:∀x,x∈X->∃j,j<na/\x=X.getD j kd:=fun x hx=>by
  (obtain⟨j,hj⟩:=lJ6 hx)
  have hl:=(lJi.mp hj).1
  exact⟨j,by omega,by rw[jJ7 hl] at hj;exact (lJn hj).symm⟩
 have inY:∀x,x∈Y->∃j,j<nb/\x=Y.getD j kd:=fun x hx=>by
  (obtain⟨j,hj⟩:=lJ6 hx)
  have hl:=(lJi.mp hj).1
  exact⟨j,by omega,by rw[jJ7 hl] at hj;exact (lJn hj).symm⟩
 have y0:∀y,y∈Y->le (Y.getD 0 kd) y:=fun y hy=>by
  obtain⟨j,hj,rfl⟩:=inY y hy
  exact jYw H sY mY 0 j (lJu _) (by omega)
 have xl:∀x,x∈X->le x (X.getD (na-1) kd):=fun x hx=>by
  obtain⟨j,hj,rfl⟩:=inX x hx
  exact jYw H sX mX j (na-1) (by omega) (by omega)
 have lowX:∀x,x∈X.take k->∀y,y∈Y->le x y:=fun x hx y hy=>by
  (obtain⟨j,hj⟩:=lJ6 hx)
  rw[lQv] at hj
  split at hj
  ·rename_i hjk
   rw[jJ7 (by omega)] at hj
   have:=hk2 j hjk
   rw[lJn hj] at this
   exact H.tr _ _ _ (mX _ (lQi hx)) (mY' 0 (by omega)) (mY _ hy) this (y0 y hy)
  ·cases hj
 refine jJ2 (fun d1=> ?_) fun d1=> ?_
 ·refine lJf (h (X++Y) _ (.refl _) (lKc.mpr ⟨sX,sY,fun x hx y hy=>lowX x ?_ y hy⟩) harr hk hfl rfl)
  rw[lQg (by omega)];exact hx
 refine lJe (jJ5 (x:=X.getD (na-1) kd) (by rw[show sa+k+(na-k)-1=sa+(na-1) by omega];exact fX _ (by omega)) ?_)
 have mk:=mX' (na-1) (by omega)
 refine lJe (jUc (f:=fun j=>Y.getD j kd) H (by exact hk) mk fY mY' (fun p q hpq hq=>jYw H sY mY p q hpq (by omega)) (by omega) fun k2 e1 e2 e3=> ?_)
 dsimp only
 simp only[bey,lKp,lX1,lV5,Bool.not_eq_false',lKw] at e2 e3
 have highY:∀y,y∈Y.drop k2->∀x,x∈X->le x y:=fun y hy x hx=>by
  obtain⟨j,hj⟩:=lJ6 hy
  rw[lXk] at hj
  have hl:=(lJi.mp hj).1
  rw[jJ7 hl] at hj
  have:=e3 (k2+j) (by omega) (by omega)
  rw[lJn hj] at this
  exact H.tr _ _ _ (mX _ hx) mk (mY _ (lQ4 hy)) (xl x hx) this
 refine jJ2 (fun d2=> ?_) fun d2=> ?_
 ·refine lJf (h (X++Y) _ (.refl _) (lKc.mpr ⟨sX,sY,fun x hx y hy=>highY y ?_ x hx⟩) harr hk hfl rfl)
  rw[d2];exact hy
 have exX:((arrOf st).extract (sa+k) sb).toList=X.drop k:=by
  rw[jVj,harr,lJq,lJq,<-h1,List.drop_append,lVj (by omega),lXw,lYn,lYm (by omega),lV0 (by simp;omega),lQg (by simp;omega)]
 have exY:((arrOf st).extract sb (sb+k2)).toList=Y.take k2:=by
  rw[jVj,harr,lJq,lJq,<-lJq P,List.drop_append,lVj (by simp;omega),lXw,show sb-(P++X).length=0 by simp;omega,lXl,lV0 (by omega),lYn]
 have szX:((arrOf st).extract (sa+k) sb).size=na-k:=by rw[<-lKj,exX,lVq,h2]
 have szY:((arrOf st).extract sb (sb+k2)).size=k2:=by rw[<-lKj,exY,lQc,h4];omega
 have fin:∀(r:Array Keyed) g,Fin2 le ((arrOf st).extract (sa+k) sb) ((arrOf st).extract sb (sb+k2)) r->Q (failedOf (jKk st g)).isNone (SortSt.mk' (kindOf st) (r.toList.zipIdx.foldl (fun a x=>a.setIfInBounds (sa+k+x.snd) x.fst) (arrOf st)) (((pendingOf st).setIfInBounds i (sa,na+nb,pw)).eraseIdxIfInBounds (i+1)) g (failedOf st)):=by
  rintro r g ⟨fp,fs⟩
  rw[exX,exY] at fp
  have hrl:r.toList.length=(na-k)+k2:=by rw[fp.length_eq,lKb,lVq,lQc];omega
  have hal:(arrOf st).size=sa+(na+nb)+S.length:=by rw[<-lKj,harr];simp;omega
  have e:=jZh r.toList (sa+k) (arrOf st) 0 (by omega)
  have e2':(failedOf (jKk st g)).isNone=true:=by show (failedOf st).isNone=true;rw[hfl];rfl
  rw[e2']
  have inr:∀z,z∈r.toList->z∈X.drop k\/z∈Y.take k2:=fun z hz=>lJx.mp (fp.mem_iff.mp hz)
  refine h (X.take k++r.toList++Y.drop k2) _ ?_ ?_ ?_ hk hfl rfl
  ·have:(X.take k++r.toList++Y.drop k2).Perm (X.take k++(X.drop k++Y.take k2)++Y.drop k2):=lX6 _ (lXj _ fp)
   refine this.trans (List.Perm.of_eq ?_)
   rw[<-lJq,lKy,lJq,lKy]
  ·have sX':(X.take k++X.drop k).Pairwise le:=by rw[lKy];exact sX
   have sY':(Y.take k2++Y.drop k2).Pairwise le:=by rw[lKy];exact sY
   obtain⟨a1,a2,a3⟩:=lKc.mp sX'
   obtain⟨b1,b2,b3⟩:=lKc.mp sY'
   refine lKc.mpr ⟨lKc.mpr ⟨a1,fs,fun x hx z hz=> ?_⟩,b2,fun x hx y hy=> ?_⟩
   ·rcases inr z hz with w | w
    ·exact a3 x hx z w
    ·exact lowX x hx z (lQi w)
   ·rcases (lJx.mp hx) with w | w
    ·exact highY y hy x (lQi w)
    ·rcases inr x w with w | w
     ·exact highY y hy x (lQ4 w)
     ·exact b3 x w y hy
  ·show (List.foldl _ _ _:Array Keyed).toList=_
   rw[e,lXh,hrl,show sa+k+(na-k+k2)=sb+k2 by omega]
   have t1:(arrOf st).toList.take (sa+k)=P++X.take k:=by
    rw[harr,lJq,lJq,<-h1,List.take_append,lQg (by omega),lYn,lV0 (by omega)]
   have t2:(arrOf st).toList.drop (sb+k2)=Y.drop k2++S:=by
    rw[harr,lJq,lJq,<-lJq P,List.drop_append,lVj (by simp;omega),lXw,show sb+k2-(P++X).length=k2 by simp;omega,lYm (by omega)]
   rw[t1,t2]
   simp only[lJq]
 have pa:((arrOf st).extract (sa+k) sb).toList.Pairwise le:=by rw[exX];exact sX.sublist (lQ5 ..)
 have pb:((arrOf st).extract sb (sb+k2)).toList.Pairwise le:=by rw[exY];exact sY.sublist (lQ1 ..)
 have pma:∀x,x∈((arrOf st).extract (sa+k) sb).toList->mem x:=fun x hx=>by rw[exX] at hx;exact mX x (lQ4 hx)
 have pmb:∀x,x∈((arrOf st).extract sb (sb+k2)).toList->mem x:=fun x hx=>by rw[exY] at hx;exact mY x (lQi hx)
 have pf:∀x,((arrOf st).extract sb (sb+k2))[0]? =some x->∀y,y∈((arrOf st).extract (sa+k) sb).toList->le x y:=fun x hx y hy=>by
  rw[<-lJ7,exY,lQv,lJc (by omega),jJ7 (by omega)] at hx
  rw[<-lJn hx]
  rw[exX] at hy
  obtain⟨j,hj⟩:=lJ6 hy
  rw[lXk] at hj
  have hl:=(lJi.mp hj).1
  rw[jJ7 hl] at hj
  have:=hk3 (k+j) (by omega) (by omega)
  rw[lJn hj] at this
  exact (H.tot _ _ (mX _ (lQ4 hy)) (mY' 0 (by omega))).resolve_left this
 have pl:∀x,((arrOf st).extract (sa+k) sb)[((arrOf st).extract (sa+k) sb).size-1]? =some x->∀y,y∈((arrOf st).extract sb (sb+k2)).toList->le y x:=fun x hx y hy=>by
  rw[szX,<-lJ7,exX,lXk,show k+(na-k-1)=na-1 by omega,jJ7 (by omega)] at hx
  rw[<-lJn hx]
  rw[exY] at hy
  obtain⟨j,hj⟩:=lJ6 hy
  rw[lQv] at hj
  split at hj
  ·rename_i hjk
   rw[jJ7 (by omega)] at hj
   have:=e2 j hjk
   rw[lJn hj] at this
   exact (H.tot _ _ mk (mY _ (lQi hy))).resolve_left this
  ·cases hj
 have qa:1<=((arrOf st).extract (sa+k) sb).size:=by rw[szX];omega
 have qb:1<=((arrOf st).extract sb (sb+k2)).size:=by rw[szY];omega
 split
 ·refine lJe (kYl H (by exact hk) qa qb pa pb pma pmb pf pl fun r g fr=> ?_)
  refine lJe (lKh (lJe (lK5 (lJf ?_))))
  exact fin r g fr
 ·refine lJe (kYm H (by exact hk) qa qb pa pb pma pmb pf pl fun r g fr=> ?_)
  refine lJe (lKh (lJe (lK5 (lJf ?_))))
  exact fin r g fr
end
section
variable {M:Model} {A:Around} {E:Value->Shared->Prop} {s:Shared} {κ:SortKind} {mem:Keyed->Prop} {le:Keyed->Keyed->Prop} [∀x y,Decidable (le x y)]
structure SB (κ:SortKind) (a0:Array Keyed) (lo hi:Nat) (pe:Array (Nat×Nat×Nat)) (st:SortSt):Prop where
 kind:kindOf st=κ
 fail:failedOf st=none
 pend:pendingOf st=pe
 perm:(arrOf st).Perm a0
 out:∀p,(p<lo\/hi<=p)->(arrOf st)[p]? =a0[p]?
abbrev Vl (st:SortSt) (p:Nat):Keyed:=(arrOf st).getD p kd
def SrtA (le:Keyed->Keyed->Prop) (st:SortSt) (lo n:Nat):Prop:=∀p q,p<q->q<n->le (Vl st (lo+p)) (Vl st (lo+q))
variable {a0:Array Keyed} {lo hi:Nat} {pe:Array (Nat×Nat×Nat)} {st:SortSt}
theorem SB.size (h:SB κ a0 lo hi pe st):(arrOf st).size=a0.size:=h.perm.size_eq
theorem SB.at (h:SB κ a0 lo hi pe st) {p:Nat} (hp:p<a0.size):(arrOf st)[p]? =some (Vl st p):=by
 have:p<(arrOf st).size:=by rw[h.size];exact hp
 simp[Array.getD,this]
theorem SB.inn (h:SB κ a0 lo hi pe st) (hm:∀x,x∈a0.toList->mem x) {p:Nat} (hp:p<a0.size):mem (Vl st p):=by
 have:=jKa (h.at hp)
 exact hm _ ((Array.perm_iff_toList_perm.mp h.perm).mem_iff.mp this)
theorem jXq (H:Asks M A s κ mem le) (hm:∀x,x∈a0.toList->mem x) (h:SB κ a0 lo hi pe st) {i j:Nat} (hi:i<a0.size) (hj:j<a0.size) {Q:Option Bool->SortSt->Prop} (q:Q (some (!decide (le (Vl st j) (Vl st i)))) st):wpS M A E s (ltAt' i j) Q st:=by
 rw[ltAt'_eq]
 refine lJe (lK5 ?_)
 exact lJe (jJ5 (h.at hi) (lJe (jJ5 (h.at hj) (qJu H (h.inn hm hi) (h.inn hm hj) h.kind q))))
theorem SB.set (h:SB κ a0 lo hi pe st) {xs:Array Keyed} (hp:xs.Perm (arrOf st)) (ho:∀p,(p<lo\/hi<=p)->xs[p]? =(arrOf st)[p]?):SB κ a0 lo hi pe (setArr st xs):=
 ⟨h.kind,h.fail,h.pend,hp.trans h.perm,fun p hp=>(ho p hp).trans (h.out p hp)⟩
theorem jZy {xs ys:Array Keyed} {i j:Nat} (h:xs[i]? =ys[j]?):xs.getD i kd=ys.getD j kd:=by
 rw[lXi,lXi,h]
theorem V_bub {k l p:Nat} (hs:lo+k<(arrOf st).size) (hl:l<=k):Vl (setArr st (bubble (arrOf st) (lo+k) (lo+k-(lo+l)))) (lo+p)=if p=l then Vl st (lo+k) else if l<p/\p<=k then Vl st (lo+(p-1)) else Vl st (lo+p):=by
 have e:=getElem?_bubble hs (lo+k-(lo+l)) (by omega) (lo+p)
 by_cases h1:p=l
 ·rw[lJc (by omega)] at e
  rw[lJc h1];exact jZy e
 ·rw[lJa (by omega)] at e
  rw[lJa h1]
  by_cases h2:l<p/\p<=k
  ·rw[lJc (by omega)] at e
   rw[lJc h2];exact jZy (e.trans (by rw[show lo+p-1=lo+(p-1) by omega]))
  ·rw[lJa (by omega)] at e
   rw[lJa h2];exact jZy e
theorem kQc (H:Asks M A s κ mem le) (hm:∀x,x∈a0.toList->mem x) (h:SB κ a0 lo hi pe st) {n ok:Nat} (hok:1<=ok) (hn:ok<=n) (hl:lo+n<=hi) (hh:hi<=a0.size) (hs:SrtA le st lo ok) {Q:Bool->SortSt->Prop} (q:∀st',SB κ a0 lo hi pe st'->SrtA le st' lo n->Q true st'):wpS M A E s (binarySort' lo n ok) Q st:=by
 rw[binarySort'_eq]
 refine lJe (lKk (lKl (I:=fun k (c:Option Bool×Unit) st'=>c=(none,())/\SB κ a0 lo hi pe st'/\SrtA le st' lo k) (Q:=fun (c:Option Bool×Unit) st'=>c=(none,())/\SB κ a0 lo hi pe st'/\SrtA le st' lo n) ?_ ?_ ⟨rfl,h,by rw[Nat.max_eq_left hok];exact hs⟩) ?_)
 ·rintro k c st1 hk hkn ⟨rfl,B,S⟩
  have hks:lo+k<a0.size:=by omega
  dsimp only
  have mV:∀p,p<=k->mem (Vl st1 (lo+p)):=fun p hp=>B.inn hm (by omega)
  have S':∀p q,p<=q->q<k->le (Vl st1 (lo+p)) (Vl st1 (lo+q)):=fun p q hpq hq=>by
   rcases lQw hpq with z | rfl
   ·exact S p q z hq
   ·exact (H.tot _ _ (mV p (by omega)) (mV p (by omega))).elim id id
  refine lJe (lKk (lKl (I:=fun i (c:Option Bool×Nat×Nat) st'=>st1=st'/\c.1=none/\c.2.1<=c.2.2/\c.2.2<=k/\c.2.2-c.2.1<=k-i/\(∀p,p<c.2.1->le (Vl st1 (lo+p)) (Vl st1 (lo+k)))/\(∀p,c.2.2<=p->p<k->le (Vl st1 (lo+k)) (Vl st1 (lo+p))))
   (Q:=fun (c:Option Bool×Nat×Nat) st'=>st1=st'/\c.1=none/\c.2.1<=k/\(∀p,p<c.2.1->le (Vl st1 (lo+p)) (Vl st1 (lo+k)))/\(∀p,c.2.1<=p->p<k->le (Vl st1 (lo+k)) (Vl st1 (lo+p)))) ?_ ?_ ⟨rfl,rfl,Nat.zero_le _,Nat.le_refl _,by dsimp only;omega,fun p hp=>absurd hp (Nat.not_lt_zero _),fun p h1 h2=>absurd h2 (by dsimp only at h1;omega)⟩) ?_)
  ·rintro i ⟨r0,l,r⟩ st2 _ hi2 ⟨rfl,rfl,i1,i2,i3,i4,i5⟩
   dsimp only at i1 i2 i3 i4 i5 ⊢
   by_cases c:l>=r
   ·rw[lJc c]
    exact wpS_pure ⟨rfl,rfl,by dsimp only;omega,i4,fun p h1 h2=>i5 p (by dsimp only at h1;omega) h2⟩
   ·rw[lJa c]
    have hmm:(l+r) / 2<k:=by omega
    refine lJe (jXq H hm B (by omega) (by omega) ?_)
    by_cases w:le (Vl st1 (lo+(l+r) / 2)) (Vl st1 (lo+k))
    ·rw[lJ3 w]
     dsimp only
     rw[lJa (by decide)]
     exact wpS_pure ⟨rfl,rfl,by dsimp only;omega,i2,by dsimp only;omega,fun p hp=>H.tr _ _ _ (mV p (by dsimp only at hp;omega)) (mV _ (by omega)) (mV k (Nat.le_refl _)) (S' p _ (by dsimp only at hp;omega) hmm) w,i5⟩
    ·rw[lJt w]
     dsimp only
     (rw[lJc (show (!false)=true from rfl)])
     have w':=(H.tot _ _ (mV _ (by omega)) (mV k (lJh _))).resolve_left w
     exact wpS_pure ⟨rfl,rfl,by dsimp only;omega,by dsimp only;omega,by dsimp only;omega,i4,fun p h1 h2=>H.tr _ _ _ (mV k (Nat.le_refl _)) (mV _ (by omega)) (mV p (by omega)) w' (S' _ p h1 h2)⟩
  ·rintro⟨r0,l,r⟩ st2 ⟨rfl,rfl,i1,i2,i3,i4,i5⟩
   dsimp only at i1 i2 i3 i4 i5 ⊢
   exact⟨rfl,rfl,by omega,i4,fun p h1 h2=>i5 p (by omega) h2⟩
  ·rintro⟨r0,l,r⟩ st2 ⟨rfl,rfl,i1,i2,i3⟩
   dsimp only at i1 i2 i3 ⊢
   rw[moveDown'_eq]
   have hsz:lo+k<(arrOf st1).size:=by rw[B.size];exact hks
   refine lJe (lKh (lJf ⟨rfl,B.set (bubble_perm ..) (fun p hp=> ?_),fun p q' hpq hq=> ?_⟩))
   ·rw[getElem?_bubble hsz _ (by omega),lJa (by omega),lJa (by omega)]
   ·rw[V_bub hsz i1,V_bub hsz i1]
    by_cases e1:p=l
    ·rw[lJc e1,lJa (by omega),lJc ⟨by omega,by omega⟩]
     exact i3 _ (by omega) (by omega)
    ·rw[lJa e1]
     by_cases e2:q'=l
     ·rw[lJc e2,lJa (by omega)]
      exact i2 p (by omega)
     ·rw[lJa e2]
      by_cases e3:l<p/\p<=k
      ·rw[lJc e3,lJc ⟨by omega,by omega⟩]
       exact S _ _ (by omega) (by omega)
      ·rw[lJa e3]
       by_cases e4:l<q'/\q'<=k
       ·rw[lJc e4]
        exact S' _ _ (by omega) (by omega)
       ·rw[lJa e4]
        exact S _ _ hpq (by omega)
 ·rintro c st1 ⟨rfl,B,S⟩
  refine⟨rfl,B,?_⟩
  rwa [show max (max ok 1) n=n by omega] at S
 ·rintro c st1 ⟨rfl,B,S⟩
  dsimp only
  exact lJf (q _ B S)
end
section
variable {M:Model} {A:Around} {E:Value->Shared->Prop} {s:Shared} {κ:SortKind} {mem:Keyed->Prop} {le:Keyed->Keyed->Prop} [∀x y,Decidable (le x y)]
variable {a0:Array Keyed} {lo hi:Nat} {pe:Array (Nat×Nat×Nat)} {st:SortSt}
def NInc (le:Keyed->Keyed->Prop) (st:SortSt) (lo n:Nat):Prop:=∀p q,p<q->q<n->le (Vl st (lo+q)) (Vl st (lo+p))
abbrev revS (st:SortSt) (i j:Nat):SortSt:=setArr st (mirror (arrOf st) i j ((j-i) / 2))
theorem jYn {i j p:Nat} (hj:lo+j<=(arrOf st).size):Vl (revS st (lo+i) (lo+j)) (lo+p)=if i<=p/\p<j then Vl st (lo+(i+j-1-p)) else Vl st (lo+p):=by
 have e:=getElem?_mirror_all (i:=lo+i) hj (lo+p)
 by_cases h:i<=p/\p<j
 ·rw[lJc (by omega)] at e
  rw[lJc h];exact jZy (e.trans (by rw[show lo+i+(lo+j)-1-(lo+p)=lo+(i+j-1-p) by omega]))
 ·rw[lJa (by omega)] at e
  rw[lJa h];exact jZy e
theorem SB.rev (h:SB κ a0 lo hi pe st) {i j:Nat} (hj:lo+j<=hi) (hh:hi<=a0.size):SB κ a0 lo hi pe (revS st (lo+i) (lo+j)):=
 h.set (mirror_perm ..) fun p hp=>by rw[getElem?_mirror_all (by rw[h.size];omega),lJa (by omega)]
theorem NInc.flip {n:Nat} (h:NInc le st lo n) (hn:lo+n<=(arrOf st).size):SrtA le (revS st (lo+0) (lo+n)) lo n:=fun p q hpq hq=>by
 rw[jYn hn,jYn hn,lJc ⟨lJu _,by omega⟩,lJc ⟨lJu _,hq⟩]
 exact h _ _ (by omega) (by omega)
theorem SrtA.flip {n:Nat} (h:SrtA le st lo n) (hn:lo+n<=(arrOf st).size):NInc le (revS st (lo+0) (lo+n)) lo n:=fun p q hpq hq=>by
 rw[jYn hn,jYn hn,lJc ⟨lJu _,hq⟩,lJc ⟨lJu _,by omega⟩]
 exact h _ _ (by omega) (by omega)
theorem NInc.part {n m:Nat} (h:NInc le st lo n) (hn:lo+n<=(arrOf st).size) (hm:m<=n) (he:∀p q,m<=p->p<n->m<=q->q<n->le (Vl st (lo+p)) (Vl st (lo+q))):NInc le (revS st (lo+m) (lo+n)) lo n:=fun p q hpq hq=>by
 rw[jYn hn,jYn hn]
 by_cases h1:m<=p
 ·rw[lJc ⟨by omega,hq⟩,lJc ⟨h1,by omega⟩]
  exact he _ _ (by omega) (by omega) (by omega) (by omega)
 ·rw[lJa (by omega:¬ (m<=p/\p<n))]
  by_cases h2:m<=q
  ·rw[lJc ⟨h2,hq⟩]
   exact h _ _ (by omega) (by omega)
  ·rw[lJa (by omega)]
   exact h _ _ hpq hq
def Seg (le:Keyed->Keyed->Prop) (st:SortSt) (lo i e:Nat):Prop:=∀p q,i-(e+1)<=p->p<i->i-(e+1)<=q->q<i->le (Vl st (lo+p)) (Vl st (lo+q))
theorem NInc.up (H:Asks M A s κ mem le) (hm:∀x,x∈a0.toList->mem x) {n:Nat} (B:SB κ a0 lo hi pe st) (hn1:1<=n) (hn:lo+n<a0.size) (h:NInc le st lo n) (w:le (Vl st (lo+n)) (Vl st (lo+(n-1)))):NInc le st lo (n+1):=fun p q hpq hq=>by
 rcases lQw (lQ6 hq) with z | rfl
 ·exact h p q hpq z
 ·rcases lQw (show p<=q-1 by omega) with y | rfl
  ·exact H.tr _ _ _ (B.inn hm hn) (B.inn hm (by omega)) (B.inn hm (by omega)) w (h p (q-1) y (by omega))
  ·exact w
theorem Seg.part {n e:Nat} (h:Seg le st lo n e) (N:NInc le st lo n) {hn:lo+n<=(arrOf st).size}:NInc le (revS st (lo+(n-(e+1))) (lo+n)) lo n:=N.part hn (by omega) h
theorem kVx (H:Asks M A s κ mem le) (hm:∀x,x∈a0.toList->mem x) (h:SB κ a0 lo hi pe st) {nrem:Nat} (h1:1<=nrem) (hl:lo+nrem<=hi) (hh:hi<=a0.size) {Q:Option Nat->SortSt->Prop} (q:∀n st',SB κ a0 lo hi pe st'->1<=n->n<=nrem->SrtA le st' lo n->Q (some n) st'):wpS M A E s (countRun' lo nrem) Q st:=by
 rw[countRun'_eq]
 have up:∀(st':SortSt) n,SB κ a0 lo hi pe st'->1<=n->n<nrem->SrtA le st' lo n->le (Vl st' (lo+n-1)) (Vl st' (lo+n))->SrtA le st' lo (n+1):=fun st' n B hn hnr S w p q hpq hq=>by
  rcases lQw (lQ6 hq) with z | rfl
  ·exact S p q hpq z
  ·rw[show lo+q-1=lo+(q-1) by omega] at w
   rcases lQw (show p<=q-1 by omega) with y | rfl
   ·exact H.tr _ _ _ (B.inn hm (by omega)) (B.inn hm (by omega)) (B.inn hm (by omega)) (S p (q-1) y (by omega)) w
   ·exact w
 refine lJe (lKk (lKl (I:=fun i (c:Option (Option Nat)×Nat) st'=>st=st'/\c=(none,i)/\SrtA le st lo i) (Q:=fun (c:Option (Option Nat)×Nat) st'=>st=st'/\c.1=none/\1<=c.2/\c.2<=nrem/\SrtA le st lo c.2/\(c.2<nrem->¬ le (Vl st (lo+c.2-1)) (Vl st (lo+c.2)))) ?_ ?_ ⟨rfl,rfl,fun p q hpq hq=>absurd hq (by omega)⟩) ?_)
 ·rintro i c st1 hi1 hi2 ⟨rfl,rfl,S⟩
  dsimp only
  refine lJe (jXq H hm h (by omega) (by omega) ?_)
  by_cases w:le (Vl st (lo+i-1)) (Vl st (lo+i))
  ·rw[lJ3 w]
   dsimp only
   rw[lJa (by decide)]
   exact lJf ⟨rfl,rfl,up st i h hi1 hi2 S w⟩
  ·rw[lJt w]
   dsimp only
   (rw[lJc (show (!false)=true from rfl)])
   exact wpS_pure ⟨rfl,rfl,hi1,by dsimp only;omega,S,fun _=>w⟩
 ·rintro c st1 ⟨rfl,rfl,S⟩
  rw[show max 1 nrem=nrem by omega] at S ⊢
  exact⟨rfl,rfl,h1,lJh _,S,fun z=>absurd z (lV7 _)⟩
 ·rintro⟨r,n⟩ st1 ⟨rfl,rfl,n1,n2,S,W⟩
  dsimp only at n1 n2 S W ⊢
  refine jJ2 (fun d=> ?_) fun d=> ?_
  ·exact lJf (q n st h n1 n2 S)
  have nlt:n<nrem:=by omega
  have en:lo+n-1=lo+(n-1):=by omega
  rw[en] at W
  have W':=(H.tot _ _ (h.inn hm (by omega)) (h.inn hm (by omega))).resolve_left (W nlt)
  by_cases cn:n>1
  ·rw[lJc cn]
   refine lJe (jXq H hm h (by omega) (by omega) ?_)
   rw[en]
   by_cases w:le (Vl st (lo+(n-1))) (Vl st lo)
   ·rw[lJ3 w]
    dsimp only
    rw[lJa (by decide),lQ9]
    have hsz:lo+n<=(arrOf st).size:=by rw[h.size];omega
    have B2:=h.rev (i:=0) (j:=n) (by omega) hh
    have N2:NInc le (revS st (lo+0) (lo+n)) lo (n+1):=by
     refine (S.flip hsz).up H hm B2 n1 (by omega) ?_
     rw[jYn hsz,jYn hsz,lJa (by omega),lJc (by omega),show 0+n-1-(n-1)=0 by omega,lXh]
     exact H.tr _ _ _ (h.inn hm (by omega)) (h.inn hm (by omega)) (h.inn hm (by omega)) W' w
    refine lJe (lKh ?_)
    (refine lJe (wpS_lift (lK9 ⟨rfl,?_⟩)))
    refine lJe (lKk (lKl (I:=fun i (c:Option (Option Nat)×Nat×Nat) st'=>SB κ a0 lo hi pe st'/\c.1=none/\c.2.1=i/\NInc le st' lo i/\c.2.2+1<=i/\Seg le st' lo i c.2.2)
     (Q:=fun (c:Option (Option Nat)×Nat×Nat) st'=>SB κ a0 lo hi pe st'/\c.1=none/\1<=c.2.1/\c.2.1<=nrem/\NInc le st' lo c.2.1/\c.2.2+1<=c.2.1/\Seg le st' lo c.2.1 c.2.2) ?_ ?_ ⟨B2,rfl,rfl,N2,by dsimp only;omega,fun p q a1 a2 a3 a4=>by
      obtain rfl:p=q:=by dsimp only at a1 a3;omega
      exact (H.tot _ _ (B2.inn hm (by omega)) (B2.inn hm (by omega))).elim id id⟩) ?_)
    ·rintro i ⟨r,i',e⟩ st3 hi1 hi2 ⟨B,rfl,rfl,N,he,sg⟩
     dsimp only at N he sg hi1 hi2 ⊢
     have ei:lo+i'-1=lo+(i'-1):=by omega
     refine lJe (jXq H hm B (by omega) (by omega) ?_)
     rw[ei]
     by_cases w:le (Vl st3 (lo+(i'-1))) (Vl st3 (lo+i'))
     ·rw[lJ3 w]
      dsimp only
      rw[lJa (by decide)]
      refine lJe (jXq H hm B (by omega) (by omega) ?_)
      by_cases w2:le (Vl st3 (lo+i')) (Vl st3 (lo+(i'-1)))
      ·rw[lJ3 w2]
       dsimp only
       rw[lJa (by decide)]
       refine wpS_pure ⟨B,rfl,rfl,N.up H hm B (by omega) (by omega) w2,by dsimp only;omega,fun p q a1 a2 a3 a4=> ?_⟩
       dsimp only at a1 a3
       have to:∀p,i'-(e+1)<=p->p<i'->le (Vl st3 (lo+p)) (Vl st3 (lo+i'))/\le (Vl st3 (lo+i')) (Vl st3 (lo+p)):=fun p b1 b2=>
        ⟨H.tr _ _ _ (B.inn hm (by omega)) (B.inn hm (by omega)) (B.inn hm (by omega)) (sg p (i'-1) b1 b2 (by omega) (by omega)) w,H.tr _ _ _ (B.inn hm (by omega)) (B.inn hm (by omega)) (B.inn hm (by omega)) w2 (sg (i'-1) p (by omega) (by omega) b1 b2)⟩
       by_cases ep:p=i'
       ·by_cases eq:q=i'
        ·rw[ep,eq];exact (H.tot _ _ (B.inn hm (by omega)) (B.inn hm (by omega))).elim id id
        ·rw[ep];exact (to q (by omega) (by omega)).2
       ·by_cases eq:q=i'
        ·rw[eq];exact (to p (by omega) (by omega)).1
        ·exact sg p q (by omega) (by omega) (by omega) (by omega)
      ·rw[lJt w2]
       dsimp only
       (rw[lJc (show (!false)=true from rfl)])
       exact wpS_pure ⟨B,rfl,by dsimp only;omega,by dsimp only;omega,N,he,sg⟩
     ·rw[lJt w]
      dsimp only
      (rw[lJc (show (!false)=true from rfl)])
      have w':=(H.tot _ _ (B.inn hm (by omega)) (B.inn hm (by omega))).resolve_left w
      have one:∀st4,SB κ a0 lo hi pe st4->Seg le st4 lo (i'+1) 0:=fun st4 B4 p q a1 a2 a3 a4=>by
       obtain rfl:p=q:=by omega
       exact (H.tot _ _ (B4.inn hm (by omega)) (B4.inn hm (by omega))).elim id id
      by_cases ce:e>0
      ·rw[lJc ce,lQ9,show lo+i'-(e+1)=lo+(i'-(e+1)) by omega]
       have hsz:lo+i'<=(arrOf st3).size:=by rw[B.size];omega
       have B4:=B.rev (i:=i'-(e+1)) (j:=i') (by omega) hh
       have N4:=sg.part N (hn:=hsz)
       refine wpS_bind (wpS_modify (wpS_pure ⟨B4,rfl,rfl,N4.up H hm B4 (by omega) (by omega) ?_,by dsimp only;omega,one _ B4⟩))
       rw[jYn hsz,jYn hsz,lJa (by omega),lJc (by omega)]
       exact H.tr _ _ _ (B.inn hm (by omega)) (B.inn hm (by omega)) (B.inn hm (by omega)) w' (sg _ _ (by omega) (by omega) (by omega) (by omega))
      ·rw[lJa ce]
       exact wpS_pure ⟨B,rfl,rfl,N.up H hm B (by omega) (by omega) w',by dsimp only;omega,one _ B⟩
    ·rintro⟨r,i',e⟩ st3 ⟨B,rfl,rfl,N,he,sg⟩
     dsimp only at N he sg ⊢
     exact⟨B,rfl,by omega,by omega,N,he,sg⟩
    ·rintro⟨r,i',e⟩ st3 ⟨B,rfl,b1,b2,N,he,sg⟩
     dsimp only at b1 b2 N he sg ⊢
     have hsz:lo+i'<=(arrOf st3).size:=by rw[B.size];omega
     by_cases ce:e>0
     all_goals first | rw[lJc ce,lQ9,lQ9,show lo+i'-(e+1)=lo+(i'-(e+1)) by omega] | rw[lJa ce,lQ9]
     all_goals first
      | (have N4:=sg.part N (hn:=hsz)
         have B4:=B.rev (i:=i'-(e+1)) (j:=i') (by omega) hh
         have S5:=N4.flip (by rw[B4.size];omega)
         have B5:=B4.rev (i:=0) (j:=i') (by omega) hh
         refine lJe (lKh (lJe (lKh ?_)))
         skip)
      | (have S5:=N.flip hsz
         have B5:=B.rev (i:=0) (j:=i') (by omega) hh
         refine lJe (lKh ?_)
         skip)
     all_goals refine lJe (lKk (lKl (I:=fun i (c:Option (Option Nat)×Nat) st'=>SB κ a0 lo hi pe st'/\c=(none,i)/\SrtA le st' lo i) (Q:=fun (c:Option (Option Nat)×Nat) st'=>SB κ a0 lo hi pe st'/\c.1=none/\1<=c.2/\c.2<=nrem/\SrtA le st' lo c.2) ?_ ?_ ⟨B5,rfl,S5⟩) ?_)
     all_goals first
      | (rintro i c st6 hi1 hi2 ⟨B6,rfl,S6⟩
         dsimp only
         refine lJe (jXq H hm B6 (by omega) (by omega) ?_)
         by_cases w:le (Vl st6 (lo+i-1)) (Vl st6 (lo+i))
         ·rw[lJ3 w]
          dsimp only
          rw[lJa (by decide)]
          exact lJf ⟨B6,rfl,up st6 i B6 (by omega) hi2 S6 w⟩
         ·rw[lJt w]
          dsimp only
          (rw[lJc (show (!false)=true from rfl)])
          exact wpS_pure ⟨B6,rfl,by dsimp only;omega,by dsimp only;omega,S6⟩)
      | (rintro c st6 ⟨B6,rfl,S6⟩
         rw[show max i' nrem=nrem by omega] at S6 ⊢
         exact⟨B6,rfl,h1,lJh _,S6⟩)
      | (rintro⟨r,k⟩ st6 ⟨B6,rfl,k1,k2,S6⟩
         dsimp only at k1 k2 S6 ⊢
         exact lJf (q k st6 B6 k1 k2 S6))
   ·rw[lJt w]
    dsimp only
    (rw[lJc (show (!false)=true from rfl)])
    exact lJf (q n st h n1 n2 S)
  ·rw[lJa cn]
   obtain rfl:n=1:=by omega
   have B2:=h
   have N2:NInc le st lo (1+1):=fun p q hpq hq=>by
    obtain rfl:p=0:=by omega
    obtain rfl:q=1:=by omega
    exact W'
   (refine lJe (wpS_lift (lK9 ⟨rfl,?_⟩)))
   refine lJe (lKk (lKl (I:=fun i (c:Option (Option Nat)×Nat×Nat) st'=>SB κ a0 lo hi pe st'/\c.1=none/\c.2.1=i/\NInc le st' lo i/\c.2.2+1<=i/\Seg le st' lo i c.2.2)
    (Q:=fun (c:Option (Option Nat)×Nat×Nat) st'=>SB κ a0 lo hi pe st'/\c.1=none/\1<=c.2.1/\c.2.1<=nrem/\NInc le st' lo c.2.1/\c.2.2+1<=c.2.1/\Seg le st' lo c.2.1 c.2.2) ?_ ?_ ⟨B2,rfl,rfl,N2,by dsimp only;omega,fun p q a1 a2 a3 a4=>by
     obtain rfl:p=q:=by dsimp only at a1 a3;omega
     exact (H.tot _ _ (B2.inn hm (by omega)) (B2.inn hm (by omega))).elim id id⟩) ?_)
   ·rintro i ⟨r,i',e⟩ st3 hi1 hi2 ⟨B,rfl,rfl,N,he,sg⟩
    dsimp only at N he sg hi1 hi2 ⊢
    have ei:lo+i'-1=lo+(i'-1):=by omega
    refine lJe (jXq H hm B (by omega) (by omega) ?_)
    rw[ei]
    by_cases w:le (Vl st3 (lo+(i'-1))) (Vl st3 (lo+i'))
    ·rw[lJ3 w]
     dsimp only
     rw[lJa (by decide)]
     refine lJe (jXq H hm B (by omega) (by omega) ?_)
     by_cases w2:le (Vl st3 (lo+i')) (Vl st3 (lo+(i'-1)))
     ·rw[lJ3 w2]
      dsimp only
      rw[lJa (by decide)]
      refine wpS_pure ⟨B,rfl,rfl,N.up H hm B (by omega) (by omega) w2,by dsimp only;omega,fun p q a1 a2 a3 a4=> ?_⟩
      dsimp only at a1 a3
      have to:∀p,i'-(e+1)<=p->p<i'->le (Vl st3 (lo+p)) (Vl st3 (lo+i'))/\le (Vl st3 (lo+i')) (Vl st3 (lo+p)):=fun p b1 b2=>
       ⟨H.tr _ _ _ (B.inn hm (by omega)) (B.inn hm (by omega)) (B.inn hm (by omega)) (sg p (i'-1) b1 b2 (by omega) (by omega)) w,H.tr _ _ _ (B.inn hm (by omega)) (B.inn hm (by omega)) (B.inn hm (by omega)) w2 (sg (i'-1) p (by omega) (by omega) b1 b2)⟩
      by_cases ep:p=i'
      ·by_cases eq:q=i'
       ·rw[ep,eq];exact (H.tot _ _ (B.inn hm (by omega)) (B.inn hm (by omega))).elim id id
       ·rw[ep];exact (to q (by omega) (by omega)).2
      ·by_cases eq:q=i'
       ·rw[eq];exact (to p (by omega) (by omega)).1
       ·exact sg p q (by omega) (by omega) (by omega) (by omega)
     ·rw[lJt w2]
      dsimp only
      (rw[lJc (show (!false)=true from rfl)])
      exact wpS_pure ⟨B,rfl,by dsimp only;omega,by dsimp only;omega,N,he,sg⟩
    ·rw[lJt w]
     dsimp only
     (rw[lJc (show (!false)=true from rfl)])
     have w':=(H.tot _ _ (B.inn hm (by omega)) (B.inn hm (by omega))).resolve_left w
     have one:∀st4,SB κ a0 lo hi pe st4->Seg le st4 lo (i'+1) 0:=fun st4 B4 p q a1 a2 a3 a4=>by
      obtain rfl:p=q:=by omega
      exact (H.tot _ _ (B4.inn hm (by omega)) (B4.inn hm (by omega))).elim id id
     by_cases ce:e>0
     ·rw[lJc ce,lQ9,show lo+i'-(e+1)=lo+(i'-(e+1)) by omega]
      have hsz:lo+i'<=(arrOf st3).size:=by rw[B.size];omega
      have B4:=B.rev (i:=i'-(e+1)) (j:=i') (by omega) hh
      have N4:=sg.part N (hn:=hsz)
      refine wpS_bind (wpS_modify (wpS_pure ⟨B4,rfl,rfl,N4.up H hm B4 (by omega) (by omega) ?_,by dsimp only;omega,one _ B4⟩))
      rw[jYn hsz,jYn hsz,lJa (by omega),lJc (by omega)]
      exact H.tr _ _ _ (B.inn hm (by omega)) (B.inn hm (by omega)) (B.inn hm (by omega)) w' (sg _ _ (by omega) (by omega) (by omega) (by omega))
     ·rw[lJa ce]
      exact wpS_pure ⟨B,rfl,rfl,N.up H hm B (by omega) (by omega) w',by dsimp only;omega,one _ B⟩
   ·rintro⟨r,i',e⟩ st3 ⟨B,rfl,rfl,N,he,sg⟩
    dsimp only at N he sg ⊢
    exact⟨B,rfl,by omega,by omega,N,he,sg⟩
   ·rintro⟨r,i',e⟩ st3 ⟨B,rfl,b1,b2,N,he,sg⟩
    dsimp only at b1 b2 N he sg ⊢
    have hsz:lo+i'<=(arrOf st3).size:=by rw[B.size];omega
    by_cases ce:e>0
    all_goals first | rw[lJc ce,lQ9,lQ9,show lo+i'-(e+1)=lo+(i'-(e+1)) by omega] | rw[lJa ce,lQ9]
    all_goals first
     | (have N4:=sg.part N (hn:=hsz)
        have B4:=B.rev (i:=i'-(e+1)) (j:=i') (by omega) hh
        have S5:=N4.flip (by rw[B4.size];omega)
        have B5:=B4.rev (i:=0) (j:=i') (by omega) hh
        refine lJe (lKh (lJe (lKh ?_)))
        skip)
     | (have S5:=N.flip hsz
        have B5:=B.rev (i:=0) (j:=i') (by omega) hh
        refine lJe (lKh ?_)
        skip)
    all_goals refine lJe (lKk (lKl (I:=fun i (c:Option (Option Nat)×Nat) st'=>SB κ a0 lo hi pe st'/\c=(none,i)/\SrtA le st' lo i) (Q:=fun (c:Option (Option Nat)×Nat) st'=>SB κ a0 lo hi pe st'/\c.1=none/\1<=c.2/\c.2<=nrem/\SrtA le st' lo c.2) ?_ ?_ ⟨B5,rfl,S5⟩) ?_)
    all_goals first
     | (rintro i c st6 hi1 hi2 ⟨B6,rfl,S6⟩
        dsimp only
        refine lJe (jXq H hm B6 (by omega) (by omega) ?_)
        by_cases w:le (Vl st6 (lo+i-1)) (Vl st6 (lo+i))
        ·rw[lJ3 w]
         dsimp only
         rw[lJa (by decide)]
         exact lJf ⟨B6,rfl,up st6 i B6 (by omega) hi2 S6 w⟩
        ·rw[lJt w]
         dsimp only
         (rw[lJc (show (!false)=true from rfl)])
         exact wpS_pure ⟨B6,rfl,by dsimp only;omega,by dsimp only;omega,S6⟩)
     | (rintro c st6 ⟨B6,rfl,S6⟩
        rw[show max i' nrem=nrem by omega] at S6 ⊢
        exact⟨B6,rfl,h1,lJh _,S6⟩)
     | (rintro⟨r,k⟩ st6 ⟨B6,rfl,k1,k2,S6⟩
        dsimp only at k1 k2 S6 ⊢
        exact lJf (q k st6 B6 k1 k2 S6))
end
section
variable {M:Model} {A:Around} {E:Value->Shared->Prop} {s:Shared} {κ:SortKind} {mem:Keyed->Prop} {le:Keyed->Keyed->Prop} [∀x y,Decidable (le x y)]
structure Runs (κ:SortKind) (le:Keyed->Keyed->Prop) (a0:Array Keyed) (Rs:List (List Keyed)) (rest:List Keyed) (st:SortSt):Prop where
 kind:kindOf st=κ
 fail:failedOf st=none
 arr:(arrOf st).toList=Rs.flatten++rest
 perm:(arrOf st).toList.Perm a0.toList
 srt:∀R,R∈Rs->R.Pairwise le/\1<=R.length
 pend:∀i,(pendingOf st)[i]?.map (fun x=>(x.1,x.2.1))=(Rs[i]?).map (fun R=>(((Rs.take i).flatten).length,R.length))
theorem Runs.size {a0:Array Keyed} {Rs:List (List Keyed)} {rest:List Keyed} {st:SortSt} (h:Runs κ le a0 Rs rest st):(pendingOf st).size=Rs.length:=by
 rcases lX2 (pendingOf st).size Rs.length with z | z | z
 ·have:=h.pend (pendingOf st).size
  rw[lQ3 (lJh _),lJm z] at this
  cases this
 ·exact z
 ·have:=h.pend Rs.length
  rw[lKu z,lKi (lJh _)] at this
  cases this
theorem split2 {Rs:List (List Keyed)} {i:Nat} (h:i+1<Rs.length):∃A X Y B,Rs=A++X::Y::B/\A.length=i:=by
 refine⟨Rs.take i,Rs[i],Rs[i+1],Rs.drop (i+2),?_,by simp;omega⟩
 conv=>lhs;rw[<-lKy i Rs]
 rw[lYl (by omega),lYl (by omega)]
theorem qJg {o:Option (Nat×Nat×Nat)} {a b:Nat} (h:o.map (fun x=>(x.1,x.2.1))=some (a,b)):∃p,o=some (a,b,p):=by
 cases o with
 | none=>cases h
 | some x=>
  obtain⟨u,v,w⟩:=x
  simp only[lVf,lYk,Prod.mk.injEq] at h
  obtain⟨rfl,rfl⟩:=h
  exact⟨w,rfl⟩
theorem Runs.merge {a0:Array Keyed} {Rs:List (List Keyed)} {rest:List Keyed} {st:SortSt} {i:Nat} {Q:Bool->SortSt->Prop} (H:Asks M A s κ mem le) (hm:∀x,x∈a0.toList->mem x) (h:Runs κ le a0 Rs rest st) (hi:i+1<Rs.length)
  (q:∀Rs' st',Runs κ le a0 Rs' rest st'->Rs'.length+1=Rs.length->Rs'.flatten.length=Rs.flatten.length->Q true st'):wpS M A E s (mergeAt' i) Q st:=by
 obtain⟨As,X,Y,B,rfl,hA⟩:=split2 hi
 have hsz:=h.size
 have p1:=h.pend i
 have p2:=h.pend (i+1)
 have e1:(As++X::Y::B)[i]? =some X:=by rw[lK7 (by omega),hA,Nat.sub_self];rfl
 have e2:(As++X::Y::B)[i+1]? =some Y:=by rw[lK7 (by omega),hA,show i+1-i=1 by omega];rfl
 have t1:(As++X::Y::B).take i=As:=by rw[<-hA];exact List.take_left
 have t2:(As++X::Y::B).take (i+1)=As++[X]:=by rw[<-hA,lYx];rfl
 rw[e1,t1,lVf] at p1
 rw[e2,t2,lVf] at p2
 obtain⟨w1,p1⟩:=qJg p1
 obtain⟨w2,p2⟩:=qJg p2
 have inM:∀x,x∈(arrOf st).toList->mem x:=fun x hx=>hm x (h.perm.mem_iff.mp hx)
 have harr:(arrOf st).toList=As.flatten++(X++Y)++(B.flatten++rest):=by rw[h.arr];simp
 obtain⟨sX,lX⟩:=h.srt X (by simp)
 obtain⟨sY,lY⟩:=h.srt Y (by simp)
 refine kYn H h.kind h.fail p1 p2 harr rfl rfl (by simp) rfl lX lY sX sY (fun x hx=>inM x (by rw[harr];simp[hx])) (fun x hx=>inM x (by rw[harr];simp[hx])) fun Z st' zp zs za zk zf zpe=> ?_
 have zl:Z.length=X.length+Y.length:=by rw[zp.length_eq,lKb]
 refine q (As++Z::B) st' ⟨zk,zf,by rw[za];simp,?_,fun R hR=> ?_,fun j=> ?_⟩ (by simp;omega) (by simp;omega)
 ·refine List.Perm.trans ?_ h.perm
  rw[za,harr]
  exact lX6 _ (lXj _ zp)
 ·rcases (lJx.mp hR) with z | z
  ·exact h.srt R (by simp[z])
  ·rcases (lJk.mp z) with rfl | z
   ·exact⟨zs,by omega⟩
   ·exact h.srt R (by simp[z])
 ·have hin:i+1<((pendingOf st).setIfInBounds i (As.flatten.length,X.length+Y.length,w1)).size:=by rw[lYw,hsz];exact hi
  have er:(pendingOf st')[j]? =if j<i+1 then ((pendingOf st).setIfInBounds i (As.flatten.length,X.length+Y.length,w1))[j]? else ((pendingOf st).setIfInBounds i (As.flatten.length,X.length+Y.length,w1))[j+1]? :=by
   rw[zpe,Array.eraseIdxIfInBounds,dif_pos hin,Array.getElem?_eraseIdx]
  rw[er]
  rcases lX2 j i with z | z | z
  ·rw[lJc (by omega),lYf,lJa (by omega),h.pend j,lK1 (by omega),lK1 (by omega),lV0 (by omega),lV0 (by omega)]
  ·subst z
   have e3:(As++Z::B)[j]? =some Z:=by rw[lK7 (by omega),hA,Nat.sub_self];rfl
   have t3:(As++Z::B).take j=As:=by rw[<-hA];exact List.take_left
   rw[lJc (by omega),lYf,lJc rfl,lJc (by rw[hsz];omega),e3,t3,lVf,lVf,zl]
  ·obtain⟨d,rfl⟩:∃d,j=i+1+d:=⟨j-i-1,by omega⟩
   rw[lJa (by omega),lYf,lJa (by omega),h.pend]
   have g1:(As++X::Y::B)[i+1+d+1]? =B[d]? :=by rw[lK7 (by omega),hA,show i+1+d+1-i=d+2 by omega];rfl
   have g2:(As++Z::B)[i+1+d]? =B[d]? :=by rw[lK7 (by omega),hA,show i+1+d-i=d+1 by omega];rfl
   have g3:(As++X::Y::B).take (i+1+d+1)=As++X::Y::B.take d:=by rw[show i+1+d+1=As.length+(d+2) by omega,lYx];rfl
   have g4:(As++Z::B).take (i+1+d)=As++Z::B.take d:=by rw[show i+1+d=As.length+(d+1) by omega,lYx];rfl
   rw[g1,g2,g3,g4]
   congr 1
   funext R
   have:(As++X::Y::B.take d).flatten.length=(As++Z::B.take d).flatten.length:=by simp;omega
   rw[this]
end
section
variable {M:Model} {A:Around} {E:Value->Shared->Prop} {s:Shared} {κ:SortKind} {mem:Keyed->Prop} {le:Keyed->Keyed->Prop} [∀x y,Decidable (le x y)] {a0:Array Keyed} {Rs:List (List Keyed)} {rest:List Keyed} {st st3:SortSt}
theorem Runs.add {n lo:Nat} (h:Runs κ le a0 Rs rest st) (hlo:lo=Rs.flatten.length) (B:SB κ (arrOf st) lo (arrOf st).size (pendingOf st) st3) (hn:lo+n<=(arrOf st).size) (S:SrtA le st3 lo n):∃R r3,R.length=n/\R.Pairwise le/\Runs κ le a0 Rs (R++r3) st3:=by
 have hsz:=B.size
 have hd:(arrOf st3).toList.take lo=Rs.flatten:=by
  have:(arrOf st).toList.take lo=Rs.flatten:=by rw[h.arr,hlo];exact List.take_left
  rw[<-this]
  apply lVb
  intro p
  rw[lQv,lQv]
  by_cases c:p<lo
  ·rw[lJc c,lJc c,lJ7,lJ7]
   exact B.out p (.inl c)
  ·rw[lJa c,lJa c]
 refine⟨((arrOf st3).toList.drop lo).take n,((arrOf st3).toList.drop lo).drop n,by simp;omega,?_,B.kind,B.fail,?_,?_,h.srt,fun i=> ?_⟩
 ·rw[lYu]
  intro p q hp hq hpq
  have hq':q<n:=by simp at hq;omega
  have:=S p q hpq hq'
  rw[List.getElem_take,List.getElem_take,List.getElem_drop,List.getElem_drop]
  simp only[Vl,Array.getD,show lo+p<(arrOf st3).size by omega,show lo+q<(arrOf st3).size by omega,dif_pos] at this
  simpa using this
 ·rw[lKy,<-hd,lKy]
 ·exact (Array.perm_iff_toList_perm.mp B.perm).trans h.perm
 ·rw[B.pend];exact h.pend i
theorem Runs.push {R r3:List Keyed} (h:Runs κ le a0 Rs (R++r3) st) (hs:R.Pairwise le) (hl:1<=R.length):Runs κ le a0 (Rs++[R]) r3 (setPending st ((pendingOf st).push (Rs.flatten.length,R.length,0))):=by
 have hsz:=h.size
 refine⟨h.kind,h.fail,by show (arrOf st).toList=_;rw[h.arr];simp,h.perm,fun X hX=> ?_,fun i=> ?_⟩
 ·rcases (lJx.mp hX) with z | z
  ·exact h.srt X z
  ·rw[lJ1] at z;rw[z];exact⟨hs,hl⟩
 ·show ((pendingOf st).push _)[i]?.map _=_
  rw[Array.getElem?_push]
  by_cases c:i=(pendingOf st).size
  ·rw[lJc c,lK7 (by omega),show i-Rs.length=0 by omega,lV0 (by omega),lQg (by omega)]
   rfl
  ·rw[lJa c,h.pend i]
   by_cases d:i<Rs.length
   ·rw[lK1 d,lV0 (by omega)]
   ·rw[lKi (by omega),lKi (by simp;omega)];rfl
theorem Runs.pw {k:Nat} {f:Nat×Nat×Nat->Nat×Nat×Nat} (h:Runs κ le a0 Rs rest st) (hf:∀x,((f x).1,(f x).2.1)=(x.1,x.2.1)):Runs κ le a0 Rs rest (setPending st ((pendingOf st).modify k f)):=by
 refine⟨h.kind,h.fail,h.arr,h.perm,h.srt,fun i=> ?_⟩
 show ((pendingOf st).modify k f)[i]?.map _=_
 rw[<-h.pend i,Array.getElem?_modify]
 split
 ·rw[Option.map_map]
  congr 1
  funext x
  exact hf x
 ·rfl
theorem ite_lt {c:Prop} [Decidable c] {a b n:Nat} (ha:a+1<n) (hb:b+1<n):(if c then a else b)+1<n:=by
 split<;>assumption
theorem kXb:∀ {Rs:List (List Keyed)},(∀R,R∈Rs->1<=R.length)->Rs.length<=Rs.flatten.length
 | [],_=>lJh _
 | R::Rs,h=>by
  have:=kXb (Rs:=Rs) fun X hX=>h X (lJ4 _ hX)
  have:=h R (lJz ..)
  rw[lXb,lKb,lKm]
  omega
theorem Runs.len (h:Runs κ le a0 Rs rest st):Rs.flatten.length+rest.length=a0.size:=by
 have:=h.perm.length_eq
 rw[h.arr] at this
 simpa using this
theorem kUv (H:Asks M A s κ mem le) (hm:∀x,x∈(arrOf st).toList->mem x) (hk:kindOf st=κ) (hf:failedOf st=none) (hp:pendingOf st= #[]) (h1:1<=(arrOf st).size) {Q:Unit->SortSt->Prop} (q:∀st',(arrOf st').toList.Perm (arrOf st).toList->(arrOf st').toList.Pairwise le->failedOf st'=none->Q () st'):wpS M A E s sortRuns' Q st:=by
 rw[sortRuns'_eq]
 refine lJe (lK5 ?_)
 dsimp only
 have R0:Runs κ le (arrOf st) [] (arrOf st).toList st:=⟨hk,hf,by simp,.refl _,fun R hR=>(nomatch hR),fun i=>by rw[hp];simp⟩
 refine lJe (lKk (lKl (I:=fun i (c:Option Unit×Nat) st'=>c.1=none/\∃Rs rest,Runs κ le (arrOf st) Rs rest st'/\c.2=Rs.flatten.length/\(i<=c.2\/(arrOf st).size<=c.2)) (Q:=fun (c:Option Unit×Nat) st'=>c.1=none/\∃Rs rest,Runs κ le (arrOf st) Rs rest st'/\c.2=Rs.flatten.length/\(arrOf st).size<=c.2) ?_ ?_ ⟨rfl,[],_,R0,rfl,.inl (lJu _)⟩) ?_)
 ·rintro i ⟨r,lo⟩ st1 _ hi ⟨rfl,Rs,rest,R1,rfl,hl⟩
  dsimp only at hl ⊢
  by_cases c:Rs.flatten.length>=(arrOf st).size
  ·rw[lJc c]
   exact lJf ⟨rfl,Rs,rest,R1,rfl,c⟩
  rw[lJa c]
  have hs1:(arrOf st1).size=(arrOf st).size:=by have:=R1.perm.length_eq;simpa using this
  have hm1:∀x,x∈(arrOf st1).toList->mem x:=fun x hx=>hm x (R1.perm.mem_iff.mp hx)
  have B0:SB κ (arrOf st1) Rs.flatten.length (arrOf st1).size (pendingOf st1) st1:=⟨R1.kind,R1.fail,rfl,Array.Perm.refl _,fun _ _=>rfl⟩
  refine lJe (kVx H hm1 B0 (by omega) (by omega) (lJh _) fun n st2 B2 n1 n2 S2=> ?_)
  dsimp only
  by_cases cm:n<minRun' (arrOf st).size (arrOf st).size 0
  ·rw[lJc cm]
   (refine lJe (wpS_lift (lK9 ⟨rfl,?_⟩)))
   have hq1:n<=min ((arrOf st).size-Rs.flatten.length) (minRun' (arrOf st).size (arrOf st).size 0):=by omega
   have hq2:min ((arrOf st).size-Rs.flatten.length) (minRun' (arrOf st).size (arrOf st).size 0)<=(arrOf st).size-Rs.flatten.length:=Nat.min_le_left ..
   generalize min ((arrOf st).size-Rs.flatten.length) (minRun' (arrOf st).size (arrOf st).size 0)=n3 at hq1 hq2 ⊢
   refine lJe (kQc H hm1 B2 n1 hq1 (by omega) (lJh _) S2 fun st3 B3 S3=> ?_)
   rw[lJa (by decide)]
   obtain⟨R,r3,hRl,hRs,R3⟩:=R1.add rfl B3 (by omega) S3
   have hR1:1<=R.length:=by omega
   refine lJe (lK5 ?_)
   cases hb:(pendingOf st3).back? with
   | none=>
    rw[<-hRl]
    exact wpS_bind (wpS_modify (wpS_pure ⟨rfl,_,_,R3.push hRs hR1,by simp,by dsimp only;omega⟩))
   | some x=>
    obtain⟨x1,x2,x3⟩:=x
    dsimp only
    refine lJe (lKk (lKl (I:=fun _ (c:Option Unit×Unit) st'=>c=(none,())/\∃Rs',Runs κ le (arrOf st) Rs' (R++r3) st'/\Rs'.flatten.length=Rs.flatten.length) (Q:=fun (c:Option Unit×Unit) st'=>c=(none,())/\∃Rs',Runs κ le (arrOf st) Rs' (R++r3) st'/\Rs'.flatten.length=Rs.flatten.length) ?_ (fun _ _ z=>z) ⟨rfl,Rs,R3,rfl⟩) ?_)
    ·rintro i' c st4 _ hi' ⟨rfl,Rs4,R4,hl4⟩
     refine lJe (lK5 ?_)
     have hsz:=R4.size
     by_cases c:(pendingOf st4).size>1
     ·rw[lJc c,lKu (by omega)]
      dsimp only
      split
      ·exact lJf ⟨rfl,Rs4,R4,hl4⟩
      ·refine lJe (R4.merge H hm (by omega) fun Rs' st' R' e1 e2=> ?_)
       rw[lJa (by decide)]
       exact lJf ⟨rfl,Rs',R',by omega⟩
     ·rw[lJa c]
      exact lJf ⟨rfl,Rs4,R4,hl4⟩
    ·rintro c st4 ⟨rfl,Rs4,R4,hl4⟩
     dsimp only
     have R5:=fun pw:Nat=>R4.pw (k:=(pendingOf st4).size-1) (f:=fun x=>(x.1,x.2.1,pw)) fun _=>rfl
     refine lJe (lKh (lJe (lKh ?_)))
     rw[<-hl4,<-hRl]
     exact wpS_pure ⟨rfl,_,_,(R5 _).push hRs hR1,by simp,by dsimp only;omega⟩
  ·rw[lJa cm]
   obtain⟨st3,rfl⟩:∃x,x=st2:=⟨_,rfl⟩
   have B3:=B2
   have S3:=S2
   obtain⟨R,r3,hRl,hRs,R3⟩:=R1.add rfl B3 (by omega) S3
   have hR1:1<=R.length:=by omega
   refine lJe (lK5 ?_)
   cases hb:(pendingOf st3).back? with
   | none=>
    rw[<-hRl]
    exact wpS_bind (wpS_modify (wpS_pure ⟨rfl,_,_,R3.push hRs hR1,by simp,by dsimp only;omega⟩))
   | some x=>
    obtain⟨x1,x2,x3⟩:=x
    dsimp only
    refine lJe (lKk (lKl (I:=fun _ (c:Option Unit×Unit) st'=>c=(none,())/\∃Rs',Runs κ le (arrOf st) Rs' (R++r3) st'/\Rs'.flatten.length=Rs.flatten.length) (Q:=fun (c:Option Unit×Unit) st'=>c=(none,())/\∃Rs',Runs κ le (arrOf st) Rs' (R++r3) st'/\Rs'.flatten.length=Rs.flatten.length) ?_ (fun _ _ z=>z) ⟨rfl,Rs,R3,rfl⟩) ?_)
    ·rintro i' c st4 _ hi' ⟨rfl,Rs4,R4,hl4⟩
     refine lJe (lK5 ?_)
     have hsz:=R4.size
     by_cases c:(pendingOf st4).size>1
     ·rw[lJc c,lKu (by omega)]
      dsimp only
      split
      ·exact lJf ⟨rfl,Rs4,R4,hl4⟩
      ·refine lJe (R4.merge H hm (by omega) fun Rs' st' R' e1 e2=> ?_)
       rw[lJa (by decide)]
       exact lJf ⟨rfl,Rs',R',by omega⟩
     ·rw[lJa c]
      exact lJf ⟨rfl,Rs4,R4,hl4⟩
    ·rintro c st4 ⟨rfl,Rs4,R4,hl4⟩
     dsimp only
     have R5:=fun pw:Nat=>R4.pw (k:=(pendingOf st4).size-1) (f:=fun x=>(x.1,x.2.1,pw)) fun _=>rfl
     refine lJe (lKh (lJe (lKh ?_)))
     rw[<-hl4,<-hRl]
     exact wpS_pure ⟨rfl,_,_,(R5 _).push hRs hR1,by simp,by dsimp only;omega⟩
 ·rintro⟨r,lo⟩ st1 ⟨rfl,Rs,rest,R1,hlo,hl⟩
  refine⟨rfl,Rs,rest,R1,hlo,?_⟩
  rw[Nat.zero_max] at hl
  omega
 ·rintro⟨r,lo⟩ st1 ⟨rfl,Rs,rest,R1,hlo,hl⟩
  dsimp only at hlo hl ⊢
  have hL:=R1.len
  refine lJe (lKk (lKl (I:=fun i (c:Option Unit×Unit) st'=>c=(none,())/\∃Rs,Runs κ le (arrOf st) Rs rest st'/\Rs.flatten.length=lo/\Rs.length<=max 1 ((arrOf st).size-i)) (Q:=fun (c:Option Unit×Unit) st'=>c=(none,())/\∃Rs,Runs κ le (arrOf st) Rs rest st'/\Rs.flatten.length=lo/\Rs.length<=1) ?_ ?_ ⟨rfl,Rs,R1,hlo.symm,by have:=kXb fun R hR=>(R1.srt R hR).2;omega⟩) ?_)
  ·rintro i c st2 _ hi ⟨rfl,Rs2,R2,hl2,hn2⟩
   refine lJe (lK5 ?_)
   have hsz:=R2.size
   by_cases c:(pendingOf st2).size<=1
   ·rw[lJc c]
    exact lJf ⟨rfl,Rs2,R2,hl2,by omega⟩
   ·rw[lJa c]
    refine lJe (R2.merge H hm (ite_lt (by omega) (by omega)) fun Rs' st' R' e1 e2=> ?_)
    rw[lJa (by decide)]
    exact lJf ⟨rfl,Rs',R',by omega,by omega⟩
  ·rintro c st2 ⟨rfl,Rs2,R2,hl2,hn2⟩
   exact⟨rfl,Rs2,R2,hl2,by omega⟩
  ·rintro c st2 ⟨rfl,Rs2,R2,hl2,hn2⟩
   dsimp only
   have hr:rest=[]:=lVe.mp (by omega)
   refine lJf (q st2 R2.perm ?_ R2.fail)
   rw[R2.arr,hr,lQ0]
   cases Rs2 with
   | nil=>simp at hl2;omega
   | cons R Rs3=>
    obtain rfl:Rs3=[]:=by simpa using hn2
    simp
    exact (R2.srt R (by simp)).1
end
end L3
namespace L3
open PySem PySem.Spec PyProof.Rows L2 PySem.W
section
variable {prog:Program} {w:World} {A:Around} {E:Value->Shared->Prop} {s:Shared}
theorem kYa {a n:Nat} {b:Bool} {es:List (TKey×Addr)} (ho:s.heap.get? a=some (seqObj "list" (List.toArray (es.map fun e=>Value.ref e.2)) n)) (hu:A.units+6<cLine) (h:∀e,e∈es->(jJf prog w).is s.heap e.1 e.2/\kQ5 e.1 b/\intT e.1=true) (hlt:∀e,e∈es->∀e',e'∈es->(ltK e.1 e'.1).isSome=true) (h64:es.length<=16000000) {P:PySem.Fin->Shared->Prop}
  (k:∀(es':List (TKey×Addr)) (h':Heap) (c:Nat),es'.Perm es->es'.Pairwise (fun x y=>ltK y.1 x.1≠some true)->h'.get? a=some (seqObj "list" (List.toArray (es'.map fun e=>Value.ref e.2)) c)->(∀p o,p≠a->s.heap.get? p=some o->h'.get? p=some o)->P (.done (.ret .none)) {s with heap:=h'}):wpAny (model prog w) A (Builtin.«list.sort» ⟨[.ref a],[]⟩) P E s:=by
 (have ha:a<s.heap.objs.size:=lJj ho)
 have hlen:(es.map fun e=>Value.ref e.2).length=es.length:=lJg ..
 rw[list_sort_plain]
 (refine lJb (listItems_at ho rfl ?_))
 refine lJb (listUpdate_at ho rfl ?_ (by rw[lJy,hlen,lKs];omega) (lJu _))
 (obtain⟨e1,ho1⟩:∃e1,(s.heap.update a (Obj.mapSeq fun _=>(#[]:Array Value))).get? a=some (seqObj "list" #[] e1):=⟨_,get?_update_seq ho fun _=> #[]⟩)
 (refine lJb (seqEpoch_at ho1 rfl ?_))
 refine lJb (wpAny_newTuple ?_ (by show (es.map fun e=>Value.ref e.2).length<=_;rw[hlen,lKs];omega))
 (refine lJb (wpAny_newList ?_ (lJu _)))
 refine lK4 ?_
 generalize hg:((s.heap.update a (Obj.mapSeq fun _=>(#[]:Array Value))).push (seqObj "tuple" (List.toArray (es.map fun e=>Value.ref e.2)) 0)).push (seqObj "list" #[] 0)=h1
 refine (show wpAny (model prog w) A _ P E {s with heap:=h1} from ?_)
 have oth:∀p o,p≠a->s.heap.get? p=some o->h1.get? p=some o:=by
  intro p o hp e
  rw[<-hg]
  exact lJs _ (lJs _ ((Heap.get?_update_ne _ _ _ _ hp).trans e))
 have ho6:h1.get? a=some (seqObj "list" #[] e1):=by
  rw[<-hg]
  exact lJs _ (lJs _ ho1)
 have tk:TupKept s.heap h1:=by
  intro p o e hc
  refine oth p o ?_ e
  rintro rfl
  rw[ho] at e;cases e
  exact absurd hc (show ¬ Value.type "list"=Value.type "tuple" by decide)
 have hk1:∀e,e∈es->(jJf prog w).is h1 e.1 e.2/\kQ5 e.1 b/\intT e.1=true:=fun e he=>⟨jKv tk (h e he).1,(h e he).2⟩
 have fin:∀(out:List (TKey×Addr)),out.Perm es->out.Pairwise (fun x y=>ltK y.1 x.1≠some true)->∀st':SortSt,(arrOf st').map (·.2)=List.toArray (out.map fun e=>Value.ref e.2)->failedOf st'=none->
   wpAny (model prog w) A (do
    let touched:=(<-seqEpoch a) != e1
    Builtin.List.listUpdate (.ref a) fun _=>(arrOf st').map (·.2)
    if let some e:=failedOf st' then rule "list.sort.comparison-raised"; throw e
    if (touched) then rule "list.sort.modified"; raiseError "ValueError" "list modified during sort"
    ret .none) P E {s with heap:=h1}:=by
  intro out hp hs st' hout hf
  rw[hout,hf]
  have hol:out.length=es.length:=hp.length_eq
  refine lJb (seqEpoch_at (s:={s with heap:=h1}) ho6 rfl ?_)
  refine lJb (listUpdate_at (s:={s with heap:=h1}) ho6 rfl ?_ (lJu _) (by rw[lJy,lJg,hol,lKs];omega))
  (simp only[bne_self_eq_false,lKn,lKd])
  refine lJd (k out _ _ hp hs (get?_update_seq ho6 fun _=>List.toArray (out.map fun e=>Value.ref e.2)) fun p o hpa e=>(Heap.get?_update_ne _ _ _ _ hpa).trans (oth p o hpa e))
 dsimp only
 by_cases h2:(List.toArray (es.map fun e=>Value.ref e.2)).size<2
 ·rw[lJc h2,lJc h2]
  refine lJb (lJd ?_)
  rw[StateT.run_pure]
  refine lJb (lJd ?_)
  refine fin es (.refl _) ?_ _ ?_ rfl
  ·rw[lJy,hlen] at h2
   match es,h2 with
   | [],_=>exact .nil
   | [_],_=>exact List.pairwise_singleton _ _
  ·apply Array.toList_inj.mp
   show (((List.toArray (es.map fun e=>Value.ref e.2)).zip (List.toArray (es.map fun e=>Value.ref e.2))).map (·.2)).toList=_
   rw[Array.toList_map,ksk_zip,List.map_snd_zip (lJh _)]
 ·rw[lJa h2,lJa h2]
  rw[lJy,hlen] at h2
  refine lJb (qYl (s:={s with heap:=h1}) hk1 (by omega) ?_)
  let f:TKey×Addr->Keyed:=fun e=>(Value.ref e.2,Value.ref e.2)
  let mem:Keyed->Prop:=fun x=>∃e,e∈es/\x=f e
  let le:Keyed->Keyed->Prop:=fun x y=>∀e e',e∈es->e'∈es->x=f e->y=f e'->ltK e'.1 e.1≠some true
  have one:∀e e',e∈es->e'∈es->f e=f e'->e.1=e'.1:=fun e e' he he' z=>by
   have z1:Value.ref e.2=Value.ref e'.2:=lKg Prod.fst z
   have z2:e.2=e'.2:=by cases e;cases e';cases z1;rfl
   have a1:=(hk1 e he).1
   rw[z2] at a1
   exact (jJf prog w).inj a1 (hk1 e' he').1
  have le_iff:∀e e',e∈es->e'∈es->(le (f e) (f e')↔ltK e'.1 e.1≠some true):=fun e e' he he'=>
   ⟨fun z=>z e e' he he' rfl rfl,fun z d d' hd hd' q q'=>by rw[<-one e d he hd q,<-one e' d' he' hd' q'];exact z⟩
  haveI:∀x y,Decidable (le x y):=fun x y=>Classical.propDecidable _
  have HA:Asks (model prog w) A {s with heap:=h1} (tuples' b) mem le:=by
   refine⟨?_,?_,?_⟩
   ·rintro x y ⟨e,he,rfl⟩ ⟨e',he',rfl⟩ E' Q hQ
    obtain⟨c,hc⟩:=lXt.mp (hlt e he e' he')
    refine ask_ok (s:={s with heap:=h1}) hu (hk1 e he).1 (hk1 e' he').1 hc (hk1 e he).2.1 (hk1 e' he').2.1 ?_
    have:(!decide (le (f e') (f e)))=c:=by
     by_cases z:le (f e') (f e)
     ·rw[lJ3 z]
      have:=(le_iff e' e he' he).mp z
      rw[hc] at this
      cases c with
      | false=>rfl
      | true=>exact absurd rfl this
     ·rw[lJt z]
      cases c with
      | true=>rfl
      | false=>exact absurd ((le_iff e' e he' he).mpr (by rw[hc];simp)) z
    rw[this] at hQ
    exact hQ
   ·rintro x y ⟨e,he,rfl⟩ ⟨e',he',rfl⟩
    rw[le_iff e e' he he',le_iff e' e he' he]
    by_cases z:ltK e'.1 e.1=some true
    ·right
     intro z2
     have:=kVp z z2
     rw[show ltK e'.1 e'.1=some false from jVf _] at this
     cases this
    ·exact .inl z
   ·rintro x y z ⟨e,he,rfl⟩ ⟨e',he',rfl⟩ ⟨d,hd,rfl⟩ h1' h2'
    rw[le_iff e e' he he'] at h1'
    rw[le_iff e' d he' hd] at h2'
    rw[le_iff e d he hd]
    intro q
    by_cases eqk:d.1=e'.1
    ·rw[eqk] at q;exact h1' q
    ·obtain⟨c,hc⟩:=lXt.mp (hlt d hd e' he')
     cases c with
     | true=>exact h2' hc
     | false=>
      have:=kord.neg eqk hc
      exact h1' (kVp this q)
  have hz:((List.toArray (es.map fun e=>Value.ref e.2)).zip (List.toArray (es.map fun e=>Value.ref e.2))).toList=es.map f:=by
   rw[ksk_zip,List.zip_map']
  have key:wpS (model prog w) A E {s with heap:=h1} sortRuns' (fun _ st'=>∃es':List (TKey×Addr),es'.Perm es/\es'.Pairwise (fun x y=>ltK y.1 x.1≠some true)/\(arrOf st').map (·.2)=List.toArray (es'.map fun e=>Value.ref e.2)/\failedOf st'=none) (SortSt.mk' (tuples' b) ((List.toArray (es.map fun e=>Value.ref e.2)).zip (List.toArray (es.map fun e=>Value.ref e.2))) #[] 7 none):=by
   refine kUv HA (fun x hx=> ?_) rfl rfl rfl ?_ fun st' p1 p2 p3=> ?_
   ·have hx':x∈es.map f:=by rw[<-hz];exact hx
    obtain⟨e,he,rfl⟩:=lJl.mp hx'
    exact⟨e,he,rfl⟩
   ·show 1<=((List.toArray (es.map fun e=>Value.ref e.2)).zip (List.toArray (es.map fun e=>Value.ref e.2))).size
    rw[<-lKj,hz,lJg];omega
   ·obtain⟨es',hp,he⟩:=jZq p1 es hz
    refine⟨es',hp,?_,?_,p3⟩
    ·rw[he,lQ7] at p2
     exact p2.imp_of_mem fun ha hb z=>(le_iff _ _ (hp.mem_iff.mp ha) (hp.mem_iff.mp hb)).mp z
    ·apply Array.toList_inj.mp
     rw[Array.toList_map,he,lKo]
     rfl
  unfold wpS at key
  refine lJb (lKz key ?_ fun _ _ x=>x)
  rintro⟨⟨⟩,st'⟩ s' ⟨rfl,es',hp,hs,har,hf⟩
  exact fin es' hp hs st' har hf
end
section
variable {prog:Program} {w:World} {A:Around} {E:Value->Shared->Prop} {s:Shared}
theorem kUu {S:Addr} {b:Bool} {kb:List (TKey×Addr)} (hS:SetIs prog w s.heap S kb) (hh:A.handled=none) (hu:A.units+20<cLine) (h:∀e,e∈kb->kQ5 e.1 b/\intT e.1=true) (hlt:∀e,e∈kb->∀e',e'∈kb->(ltK e.1 e'.1).isSome=true) {us:List TKey} (hus:us.length<400) (hkus:∀e,e∈kb->e.1∈us) {Q:Value->Shared->Prop}
  (k:∀(es:List (TKey×Addr)) (h':Heap) (tk:Nat) (D c:Nat),Put es kb->es.Pairwise (fun x y=>ltK x.1 y.1=some true)->s.heap.objs.size<=D->h'.get? D=some (seqObj "list" (List.toArray (es.map fun e=>Value.ref e.2)) c)->(∀p o,s.heap.get? p=some o->h'.get? p=some o)->Q (.ref D) {s with heap:=h',toks:=tk}):
  wpAny (model prog w) A (call (.builtin "sorted") [.ref S]) Q E s:=by
 obtain⟨o,arr,ep,t,es,d,p,l⟩:=hS
 have el:es.length<400:=Nat.lt_of_le_of_lt (p.few hkus) hus
 (refine Calls.call_function_entry kind_sorted plain_sorted entry_sorted (args_sorted1 _) ?_)
 unfold Builtin.«sorted»
 (refine lJb (m:=checkCount "sorted" 1 1 _) (lJd ?_))
 refine lJb (kVy (A:=A.in1) d l (by simpa using hh) fun g tk acc kp big pe=> ?_)
 obtain⟨es2,pe2,rfl⟩:=jZq pe es rfl
 have l2:es2.length=es.length:=pe2.length_eq
 refine lJb (wpAny_newList ?_ (by rw[lJg,lKs];omega))
 have hoL:(g.push (seqObj "list" (List.toArray (es2.map fun e=>Value.ref e.2)) 0)).get? g.objs.size=some (seqObj "list" (List.toArray (es2.map fun e=>Value.ref e.2)) 0):=lJ8 _ rfl
 refine lJb (lK4 (lQm slot_list_sort ⟨_,hoL,rfl⟩ entry_list_sort ?_ (args_list_sort _)))
 have hsub:∀e,e∈es2->e∈kb:=fun e he=>p.sub e (pe2.mem_iff.mp he)
 refine kYa (s:={s with heap:=g.push (seqObj "list" (List.toArray (es2.map fun e=>Value.ref e.2)) 0),toks:=tk}) (b:=b) hoL (by rw[lQo,lQo];omega) (fun e he=> ?_) (fun e he e' he'=>hlt e (hsub e he) e' (hsub e' he')) (by omega) fun es' h' c pe' so0 hD oth=> ?_
 ·exact⟨jKv (fun b ob e _=>lJs _ (kp b ob e)) (d.are e (pe2.mem_iff.mp he)),h e (hsub e he)⟩
 ·have nod':(es'.map (·.1)).Nodup:=((pe'.trans pe2).map _).nodup_iff.mpr p.nod
  have so:es'.Pairwise (fun x y=>ltK x.1 y.1=some true):=by
   have nd2:es'.Pairwise (fun x y=>x.1≠y.1):=by rw[List.Nodup,lQ7] at nod';exact nod'
   refine (so0.and nd2).imp_of_mem fun {x y} hx hy z=> ?_
   have hx':=hsub x (pe'.mem_iff.mp hx)
   have hy':=hsub y (pe'.mem_iff.mp hy)
   obtain⟨c,hc⟩:=lXt.mp (hlt y hy' x hx')
   cases c with
   | true=>exact absurd hc z.1
   | false=>exact kord.neg (fun e=>z.2 e.symm) hc
  refine⟨_,rfl,lJd ⟨_,rfl,k es' h' tk _ c ?_ so (lVp big) hD fun q ob e=>oth q ob ?_ (lJs _ (kp q ob e))⟩⟩
  ·have pp:=pe'.trans pe2
   exact⟨fun e he=>p.sub e (pp.mem_iff.mp he),fun e he=>(pp.map (·.1)).mem_iff.mpr (p.all e he),(pp.map _).nodup_iff.mpr p.nod⟩
  ·exact lJw (lKe (lJj e) (lVp big))
end
section
variable {X:Cx}
noncomputable def jZe (ta:TA3):TE3:=fun τ G Q=>ta τ G fun vs G1=>∃(x:T) (b:Bool) (tks:List (List T×TKey)),vs=[x]/\jKc G1 x=some (tks.map fun e:List T×TKey=> .tup e.1)/\(∃us:List TKey,us.length<400/\∀e,e∈tks->e.2∈us)/\(∀e,e∈tks->SKey b e.1 e.2)/\(∀e,e∈tks->∀e',e'∈tks->(ltK e.2 e'.2).isSome=true)/\
 ∀(p:Addr) (ys:List T) (kys:List (List T×TKey)),G1 p=none->Rising (tks.map fun e=> .tup e.1) ys kys->Q (.ref p) (gup G1 p (.lst ys))
theorem qKm {pos pos' p p':Pos} {a:Expr} {ta:TA3} (hc:X.calm=true) (hu:X.A.units+20<cLine) (hl:Gl X "sorted") (hlm:X.mg "sorted"=none) (hlv:bootBuiltins "sorted"=some (.builtin "sorted")) (hg:Gl X "set") (hm:X.mg "set"=none) (hv:bootBuiltins "set"=some (.type "set")) (ha:PA3 X [a] ta) (hs:starEach [a] X.env=[(false,eval a X.env)]:=by rfl)
  (hs':starEach [Expr.Call (.Name "set" p) [a] [] pos] X.env=[(false,eval (.Call (.Name "set" p) [a] [] pos) X.env)]:=by rfl):
  PE3 X (.Call (.Name "sorted" p') [.Call (.Name "set" p) [a] [] pos] [] pos') (jZe ta):=by
 intro pins s τ G H Q I h
 obtain⟨σ,I0,_,_⟩:=id I
 refine Call_ (jU5 I0 hl hlm hlv (PyProof.Rows.callWith_builtin1 ?_ hs' rfl))
 rw[hs']
 refine Calls.spliced_cons (Call_ (jU5 I0 hg hm hv (lVd (thn (ha pos pins s τ G H _ I h) fun us s1 w_=>w_.el fun ys G1 H1 e1 i_ r_ q1=>i_.el fun σ1 I1 hs1 hg1=>r_.el fun as ras rvs=> ?_) hs rfl)))
 obtain⟨x,b,tks,e,hx,⟨us,hus,hkus⟩,hk,hlt,q⟩:=q1
 subst e
 obtain⟨v,rfl,rv⟩:=jYg ras
 obtain⟨u,rfl,ru⟩:=rvs.one
 obtain⟨pa,vs,rfl,hq,r⟩:=jK8 hg1 rv hx
 cases ru
 obtain⟨its,rvv,pl,hz⟩:=I1.list hq
 obtain⟨tb,t1,t2,t3,t4⟩:=kZh hk r rvv
 have tl:tb.length=tks.length:=by rw[<-t1,lJg]
 have hmem:∀e,e∈tb->e.1∈tks:=fun e he=>by rw[<-t1];exact lJl.mpr ⟨e,he,rfl⟩
 have hkb:∀e,e∈(tb.map fun e=>(e.1.2,e.2))->e.1∈us:=by
  intro e he
  obtain⟨y,hy,rfl⟩:=lJl.mp he
  exact hkus _ (hmem y hy)
 refine kKf (kb:=tb.map fun e=>(e.1.2,e.2)) (I1.ok.hd hc) hu pl.isList (by rw[List.toList_toArray,t3,lKo];rfl) (fun e he=> ?_) (by omega) hkb fun h2 tk2 hS kp2=> ?_
 ·obtain⟨y,hy,rfl⟩:=lJl.mp he
  exact⟨(hk _ (hmem y hy)).2.2,kQ2 I1.hok (t4 y hy).1⟩
 refine Calls.spliced_nil ?_
 refine kUu (s:={s1 with heap:=h2,toks:=tk2}) (b:=b) hS (I1.ok.hd hc) hu (fun e he=> ?_) (fun e he e' he'=> ?_) hus hkb fun es h3 tk3 D c hp so hD hoD kp3=> ?_
 ·obtain⟨y,hy,rfl⟩:=lJl.mp he
  exact (hk _ (hmem y hy)).2
 ·obtain⟨y,hy,rfl⟩:=lJl.mp he
  obtain⟨y',hy',rfl⟩:=lJl.mp he'
  exact hlt _ (hmem y hy) _ (hmem y' hy')
 obtain⟨tb',p1,p2⟩:=qJd es fun e he=>hp.sub e he
 have kp:∀b o,s1.heap.get? b=some o->h3.get? b=some o:=fun b o e=>kp3 b o (kp2 b o e)
 have hD1:s1.heap.objs.size<=D:=by
  obtain⟨o,_,_,_,_,d,_⟩:=hS
  exact lKf (lVp (lJj d.get)) hD
 have fr:=I1.hok.fresh hD1
 have es_len:tb'.length<=us.length:=by
  have:=hp.few hkb
  rw[<-p1,lJg] at this
  exact this
 have I3:=I1.laid (a:=D) (o:= .lst (tb'.map fun e=>V.ref e.2)) (h':=h3) (t':=tk3) kp hD1 ⟨by rw[lJg,lKs];omega,tb'.map fun e=>Value.ref e.2,c,kJl tb',by rw[<-p1,lKo] at hoD;exact hoD⟩
 have ext:Ext H1 (upd H1 D (.lst (tb'.map fun e=>V.ref e.2))):= .upd (.none fr)
 refine⟨.ref D,_,_,e1.trans ext,⟨σ1,I3,hs1.mono ext,hg1.lstNew (kZ0 tb' fun e he=>(t4 e (p2 e he)).2) (.none fr)⟩,⟨.ref D,rfl,rfl⟩,?_⟩
 refine q D _ (tb'.map (·.1)) (hg1.fresh fr) ⟨by rw[lKo];rfl,fun e he=> ?_,fun t=>⟨fun ht=> ?_,fun ht=> ?_⟩,?_⟩
 ·obtain⟨y,hy,rfl⟩:=lJl.mp he
  exact (hk _ (hmem y (p2 y hy))).1
 ·obtain⟨y,hy,rfl⟩:=lJl.mp ht
  exact lJl.mpr ⟨y.1,hmem y (p2 y hy),rfl⟩
 ·obtain⟨y,hy,rfl⟩:=lJl.mp ht
  rw[<-t1] at hy
  obtain⟨z,hz',rfl⟩:=lJl.mp hy
  have:=hp.all (z.1.2,z.2) (lJl.mpr ⟨z,hz',rfl⟩)
  rw[<-p1,lKo] at this
  obtain⟨z',hz'',ez⟩:=lJl.mp this
  have ek:z'.1.2=z.1.2:=ez
  refine lJl.mpr ⟨z',hz'',?_⟩
  have k1:=(hk _ (hmem z' (p2 z' hz''))).1
  have k2:=(hk _ (hmem z hz')).1
  rw[ek] at k1
  rw[kJw k1 k2]
 ·rw[<-p1,lQ7] at so
  rw[lQ7]
  exact so
end
end L3
namespace W
open PySem L3
local macro_rules
 | `(tactic| wp_walk using 1, $ts,*) => do
  let ls ← ts.getElems.mapM fun t => `(Lean.Parser.Tactic.simpLemma| $t:term)
  let ns ← ("tSeq tIfS jJ0 tOp rGt rLt rGe rSub L3.rI0 L3.rI rIxF tVar tC tAsg tCB jJc tNil qX0 rLen rAbs rMax rIntOf gTup jJ3 gNil gSub jJg jXe tRet tRetN jKs jVr jJs tLst tTup tIf tNot tAnd tOr kX7 tOrV tNotV tPar jKe jZn rMod qXz rPow rIsN kU8 jK6 tTru rTru truT tUn rNeg qVn qUh qUj qUi qY7 jZz qYo qYp at0 at1 at2 ix30 ix31 ix32 qQr qQo qYq jYy Option.map_some and_assoc T.int.injEq T.bl.injEq T.tup.injEq T.ref.injEq List.cons.injEq and_true true_and exists_eq_left exists_eq_left' exists_and_left exists_eq_right List.getElem?_cons_zero List.getElem?_cons_succ List.set_cons_zero List.set_cons_succ List.length_cons List.length_nil Nat.reduceAdd Option.some.injEq jJh qJ9 reduceCtorEq false_and exists_false exists_const Bool.true_eq Bool.not_eq_true' Bool.not_true Bool.not_false if_true if_false decide_eq_true_eq tBM jKq kKr jKi qQj jVl GO.lst.injEq msk List.zipWith_cons_cons List.zipWith_nil_left List.zipWith_nil_right Bool.false_eq_true kZc".splitOn " ").toArray.mapM fun n => `(Lean.Parser.Tactic.simpLemma| $(Lean.mkIdent n.toName):term)
  let al:=ns++ls
  `(tactic| ((try dsimp only [$al,*]); (try simp only [$al,*])))
local macro_rules
 | `(tactic| omega) => `(tactic| first | exact szle rfl | lia)
def BoxAt (G:Gp) (b:Addr) (n:Nat):Prop:=∃x y z:Int,G b=some (.lst [.int x,.int y,.int z])/\0<=x/\0<=y/\y<2147483648/\0<=z/\z<=n
def Keep (b:Addr) (G G':Gp):Prop:=∀c o,c≠b->G c=some o->G' c=some o
theorem Keep.trans {b:Addr} {G G1 G2:Gp} (h:Keep b G G1) (h':Keep b G1 G2):Keep b G G2:=fun c o hc e=>h' c o hc (h c o hc e)
theorem Keep.gup {b:Addr} {G:Gp} {o:GO}:Keep b G (gup G b o):=fun c u hc e=>by rw[jJu hc];exact e
theorem Keep.new {b p:Addr} {G:Gp} {o:GO} (hp:G p=none):Keep b G (L3.gup G p o):=fun c u _ e=>by rw[jJu];exact e;rintro rfl;rw[hp] at e;cases e
abbrev jQb (ns:List Int):List T:=ns.map T.int
theorem sz:sizeLine=16777216:=PySem.sizeLine_eq
abbrev RdOk (sp:Sp3) (rd:TS3) (N:List Str):Prop:=∀xs G Q,sp xs G Q->rd {nx:=fun _ G'=>Q .non G',rt:=Q} (jK0 N xs) G
noncomputable def jJr:Sp3:=fun xs G Q=>∃(b:Addr) (m:Int) (n:Nat),xs=[.ref b,.int m]/\BoxAt G b n/\n<2^40/\1<=m/\m<2^29/\∀(r:Int) G',0<=r->r<m->BoxAt G' b (n+1)->Keep b G G'->Q (.int r) G'
def qVp:List Str:=["_law_box_here","_law_many","_law_found","_law_once"]
noncomputable def jZk:TS3:=
 (tSeq (tIfS (jJ0 (tOp rGt (tOp rIxF (tVar 0) (tC (.int 0))) (tC (.int 0)))) (tSeq (tAsg (tOp rMod (tOp rIxF (tVar 0) (tC (.int 0))) (tVar 1)) (jJg 2))
 (tSeq (tAsg (tOp qXz (tOp rIxF (tVar 0) (tC (.int 0))) (tVar 1)) (gSub (tVar 0) (tC (.int 0)) jXe))
 (tRet (tVar 2)))) jKs)
 (tSeq (tAsg (tOp jKe (tOp rIxF (tVar 0) (tC (.int 2))) (tC (.int 1))) (gSub (tVar 0) (tC (.int 2)) jXe))
 (tSeq (tAsg (tOp rMod (tOp jZn (tOp jKe (tOp rIxF (tVar 0) (tC (.int 1))) (tOp jZn (tC (.int 39373)) (tOp rIxF (tVar 0) (tC (.int 2))))) (tOp jKe (tC (.int 48271)) (tOp rIxF (tVar 0) (tC (.int 2))))) (tC (.int 2147483647))) (jJg 3))
 (tSeq (tAsg (tOp rMod (tOp jKe (tOp jZn (tVar 3) (tOp jKe (tOp rMod (tVar 3) (tC (.int 40009))) (tC (.int 7)))) (tOp rIxF (tVar 0) (tC (.int 2)))) (tC (.int 2147483629))) (gSub (tVar 0) (tC (.int 1)) jXe))
 (tRet (tOp rMod (tOp qXz (tOp rMod (tOp jZn (tOp rIxF (tVar 0) (tC (.int 1))) (tOp jKe (tOp rMod (tOp rIxF (tVar 0) (tC (.int 1))) (tC (.int 1009))) (tC (.int 3)))) (tC (.int 998244353))) (tC (.int 7))) (tVar 1)))))))
theorem kU1:RdOk jJr jZk qVp:=by
 intro xs G Q h_;apply xe3 h_;clear h_;intro b m n h_;apply ae5 h_;clear h_;intro q0_ hn hm1 hm2 k
 obtain⟨x,y,z,hb,hx,hy0,hy1,hz0,hz1⟩:=q0_
 show jZk _ [some (.ref b),some (.int m),none,none] G
 wp_walk using 1,jZk,jKf hb,qVv hb
 have box:∀x' y' z':Int,0<=x'->0<=y'->y'<2147483648->0<=z'->z'<=n+1->BoxAt (gup G b (.lst [.int x',.int y',.int z'])) b (n+1):=fun x' y' z' h1 h2 h3 h4 h5=>⟨x',y',z',jJh,h1,h2,h3,h4,by omega⟩
 split
 ·exact⟨by omega,⟨by omega,by omega⟩,k _ _ (lVv _ (by omega)) (lVw _ (by omega)) (box _ _ _ (Int.ediv_nonneg hx (by omega)) hy0 hy1 hz0 (by omega)) .gup⟩
 ·have a0:=lVv ((y+39373*(z+1))*(48271+(z+1))) (b:=2147483647) (by decide)
  have a1:=lVw ((y+39373*(z+1))*(48271+(z+1))) (b:=2147483647) (by decide)
  refine⟨.inl (by decide),.inr ⟨by omega,by omega⟩,by decide,by decide,?_⟩
  generalize (y+39373*(z+1))*(48271+(z+1))%2147483647=u at a0 a1 ⊢
  have b0:=lVv (u*(u%40009+7)+(z+1)) (b:=2147483629) (by decide)
  have b1:=lVw (u*(u%40009+7)+(z+1)) (b:=2147483629) (by decide)
  refine⟨.inl ⟨by omega,by omega⟩,by decide,by decide,?_⟩
  generalize (u*(u%40009+7)+(z+1))%2147483629=v at b0 b1 ⊢
  refine⟨.inl ⟨by omega,by omega⟩,by decide,⟨by decide,by decide⟩,by omega,?_⟩
  exact k _ _ (lVv _ (by omega)) (lVw _ (by omega)) (box _ _ _ hx b0 (by omega) (by omega) (by omega)) .gup
abbrev Web:=List (List (Nat×Nat))
def encE (e:Nat×Nat):T:= .tup [.int e.1,.int e.2]
def encR (r:List (Nat×Nat)):T:= .tup (r.map encE)
def encW (W:Web):T:= .tup (W.map encR)
def en (W:Web) (r i:Nat):Option (Nat×Nat):=(W[r]?).bind fun es=>es[i]?
def Sym (W:Web):Prop:=∀r i s j,en W r i=some (s,j)->en W s j=some (r,i)
def sw:Nat->Nat
 | 0=>1
 | 1=>0
 | n=>n
theorem sw_sw {n:Nat} (h:n<=2):sw (sw n)=n/\sw n<=2:=by
 have:n=0\/n=1\/n=2:=by omega
 rcases this with rfl | rfl | rfl<;>exact⟨rfl,by decide⟩
def RowsAt (G:Gp) (h:Addr) (Hs:Web) (rs:List Addr):Prop:=G h=some (.lst (rs.map T.ref))/\rs.length=Hs.length/\∀(i:Nat) (r:Addr),rs[i]? =some r->∃hs:List (Nat×Nat),Hs[i]? =some hs/\G r=some (.lst (hs.map encE))
theorem RowsAt.sub {G G':Gp} {h:Addr} {Hs:Web} {rs:List Addr} (s:Sub G G') (x:RowsAt G h Hs rs):RowsAt G' h Hs rs:=⟨s _ _ x.1,x.2.1,fun i r e=>let ⟨hs,h1,h2⟩:=x.2.2 i r e;⟨hs,h1,s _ _ h2⟩⟩
structure JoinOk (Hs:Web):Prop where
 len:Hs.length<=1000
 row:∀(r:Nat) (hs:List (Nat×Nat)),Hs[r]? =some hs->hs.length<=1000
 inj:∀r i r' i' h,en Hs r i=some h->en Hs r' i'=some h->r=r'/\i=i'
 part:∀r i t s,en Hs r i=some (t,s)->s<=2/\∃r' i',en Hs r' i'=some (t,sw s)
def keyE (e:Nat×Nat):L2.TKey:=[.inl (.inl (e.1:Int)),.inl (.inl (e.2:Int))]
theorem qUu {a b:Nat×Nat} (h:keyE a=keyE b):a=b:=by
 obtain⟨a1,a2⟩:=a;obtain⟨b1,b2⟩:=b
 simp only[keyE,lVz,Sum.inl.injEq,and_true] at h
 obtain⟨h1,h2⟩:=h
 rw[Int.ofNat.inj h1,Int.ofNat.inj h2]
theorem kJx {a b:Int}:jQh [.int a,.int b]=some [.inl (.inl a),.inl (.inl b)]:=rfl
theorem qQg {κ:Type} [DecidableEq κ] (kvs:List (κ×T)) (k j:κ) (v:T):valT (putT kvs k v) j=if k=j then some v else valT kvs j:=by
 unfold putT valT
 by_cases h:(kvs.any fun kv=>decide (kv.1=k))=true
 ·rw[lJc h]
  induction kvs with
  | nil=>simp at h
  | cons p ps ih=>
   rw[lJp,lQs,lQs]
   by_cases hp:p.1=k
   ·rw[lJc hp]
    by_cases hj:k=j
    ·simp[hp,hj]
    ·have h1:¬ p.1=j:=fun z=>hj (hp.symm.trans z)
     simp only[h1,decide_false,hj,lKd]
     by_cases h2:(ps.any fun kv=>decide (kv.1=k))=true
     ·have:=ih h2;rw[lJa hj] at this;exact this
     ·have hm:ps.map (fun kv=>if kv.1=k then (kv.1,v) else kv)=ps:=by
       rw[List.map_congr_left (g:=id)];· simp
       intro a ha
       have:¬ a.1=k:=fun z=>h2 (List.any_eq_true.mpr ⟨a,ha,by simp[z]⟩)
       simp[this]
      rw[hm]
   ·rw[lJa hp]
    have h2:(ps.any fun kv=>decide (kv.1=k))=true:=by
     rw[lQr,lJt hp,Bool.false_or] at h;exact h
    have:=ih h2
    by_cases hj:p.1=j
    ·have:¬ k=j:=fun z=>hp (hj.trans z.symm)
     simp[hj,this]
    ·simp only[hj,decide_false];exact this
 ·rw[lJa h,List.find?_append]
  have hn:(kvs.find? fun kv=>decide (kv.1=j))=none\/∃p,(kvs.find? fun kv=>decide (kv.1=j))=some p:=by
   cases kvs.find? fun kv=>decide (kv.1=j) with
   | none=>exact .inl rfl
   | some p=>exact .inr ⟨p,rfl⟩
  by_cases hj:k=j
  ·subst hj
   have:(kvs.find? fun kv=>decide (kv.1=k))=none:=by
    rw[List.find?_eq_none]
    intro a ha z
    exact h (List.any_eq_true.mpr ⟨a,ha,z⟩)
   simp[this]
  ·rcases hn with e | ⟨p,e⟩
   ·simp[e,hj]
   ·simp[e,hj]
theorem qQ3 {κ:Type} [DecidableEq κ] (kvs:List (κ×T)) (k:κ) (v:T):(putT kvs k v).length<=kvs.length+1:=by
 unfold putT;split<;>simp
theorem qZg {G:Gp} {p:Addr} {kvs:List (L2.TKey×T)} {ys:List T} {ks:L2.TKey} (h:G p=some (.dct kvs)) (hk:jQh ys=some ks):dAt G (.ref p) (.tup ys)=some (valT kvs ks):=by simp only[dAt,h,hk]
theorem qYr {G:Gp} {p:Addr} {kvs:List (L2.TKey×T)} {ys:List T} {ks:L2.TKey} {t:T} (h:G p=some (.dct kvs)) (hk:jQh ys=some ks) (ht:valT kvs ks=some t):ixR G (.ref p) (.tup ys)=some t:=by
 simp only[ixR,seqT,h,asL,qZg h hk,ht]
theorem qQp {G:Gp} {p:Addr} {kvs:List (L2.TKey×T)} {ys:List T} {ks:L2.TKey} {v:T} (h:G p=some (.dct kvs)) (hk:jQh ys=some ks) (hz:kvs.length<sizeLine):setR G (.ref p) (.tup ys) v=some (gup G p (.dct (putT kvs ks v))):=by
 simp only[setR,h,hk,hz,lKp]
theorem jQs {W:Web} {r i:Nat} {e:Nat×Nat} (h:en W r i=some e):∃es,W[r]? =some es/\es[i]? =some e:=by
 unfold en at h
 cases e1:W[r]? with
 | none=>rw[e1] at h;cases h
 | some es=>rw[e1] at h;exact⟨es,rfl,h⟩
theorem kK8 {W:Web} {r i:Nat} {es:List (Nat×Nat)} {e:Nat×Nat} (h1:W[r]? =some es) (h2:es[i]? =some e):en W r i=some e:=by unfold en;rw[h1];exact h2
structure Joined (Hs W:Web):Prop where
 len:W.length=Hs.length
 row:∀(r:Nat) (hs:List (Nat×Nat)),Hs[r]? =some hs->∃es,W[r]? =some es/\es.length=hs.length
 to:∀r i t sd s j,en Hs r i=some (t,sd)->en Hs s j=some (t,sw sd)->en W r i=some (s,j)
theorem Joined.sym {Hs W:Web} (J:Joined Hs W) (ok:JoinOk Hs):Sym W:=by
 intro r i s j h
 obtain⟨es,h1,h2⟩:=jQs h
 have hr:r<Hs.length:=by rw[<-J.len];exact (lJi.mp h1).1
 obtain⟨es',h3,h4⟩:=J.row r _ (lJm hr)
 rw[h1] at h3;cases h3
 have hi:i<Hs[r].length:=by rw[<-h4];exact (lJi.mp h2).1
 have e1:en Hs r i=some (Hs[r][i]):=kK8 (lJm hr) (lJm hi)
 generalize Hs[r][i]=e0 at e1
 obtain⟨t,sd⟩:=e0
 obtain⟨hsd,r',i',e2⟩:=ok.part r i t sd e1
 have e3:=J.to r i t sd r' i' e1 e2
 rw[h] at e3
 cases e3
 refine J.to s j t (sw sd) r i e2 ?_
 rw[(sw_sw hsd).1];exact e1
open Classical in
def oth (Hs:Web) (e:Nat×Nat):Nat×Nat:=if h:∃p:Nat×Nat,en Hs p.1 p.2=some (e.1,sw e.2) then h.choose else (0,0)
theorem qV1 {Hs:Web} {e:Nat×Nat} {r i:Nat} (h:en Hs r i=some (e.1,sw e.2)):en Hs (oth Hs e).1 (oth Hs e).2=some (e.1,sw e.2):=by
 unfold oth
 have:∃p:Nat×Nat,en Hs p.1 p.2=some (e.1,sw e.2):=⟨(r,i),h⟩
 rw[dif_pos this];exact this.choose_spec
theorem kYp {Hs:Web} (ok:JoinOk Hs):Joined Hs (Hs.map (List.map (oth Hs))) where
 len:=by simp
 row:=fun r hs h=>⟨hs.map (oth Hs),by simp[h],by simp⟩
 to:=fun r i t sd s j h1 h2=>by
  obtain⟨es,q1,q2⟩:=jQs h1
  have:en (Hs.map (List.map (oth Hs))) r i=some (oth Hs (t,sd)):=kK8 (es:=es.map (oth Hs)) (by simp[q1]) (by simp[q2])
  rw[this]
  have h3:=qV1 (e:=(t,sd)) h2
  obtain⟨z1,z2⟩:=ok.inj _ _ _ _ _ h3 h2
  rw[<-z1,<-z2]
def jVs:Sp3:=fun xs G Q=>∃(h:Addr) (Hs:Web) (rs:List Addr),xs=[.ref h]/\RowsAt G h Hs rs/\JoinOk Hs/\∀G' W,Sub G G'->Joined Hs W->Q (encW W) G'
def kYz:List Str:=["_law_halves","_law_at","_law_room","_law_door","_law_half","_law_web_here","_law_doors","_law_tie","_law_side"]
noncomputable def jVx:TS3:=
 (tSeq (tAsg kUp (jJg 1))
 (tSeq (tFor (jQo (jJc (tCB rLen (jJc (tVar 0) tNil)) tNil)) (jJg 2) (tFor (kKy (jJc (tOp rIxF (tVar 0) (tVar 2)) tNil)) (gTup 2 (jJ3 (jJg 3) (jJ3 (jJg 4) gNil))) (tAsg (tTup (jJc (tVar 2) (jJc (tVar 3) tNil))) (gSub (tVar 1) (tVar 4) jXe))))
 (tSeq (tAsg (tLst tNil) (jJg 5))
 (tSeq (tFor (iSeq (tVar 0)) (jJg 6) (jVr (tBM "list" jKq (tVar 5) (jJc (tCB jKi (jJc (jQj [false,false,false,false,false,false,false,true,true] (iSeq (tVar 6)) (gTup 2 (jJ3 (jJg 7) (jJ3 (jJg 8) gNil))) jVl (tOp rIxF (tVar 1) (tTup (jJc (tVar 7) (jJc (tOp rIxF (tLst (jJc (tC (.int 1)) (jJc (tC (.int 0)) (jJc (tC (.int 2)) tNil)))) (tVar 8)) tNil))))) tNil)) tNil))))
 (tRet (tCB jKi (jJc (tVar 5) tNil)))))))
def Tab (Hs:Web) (kvs:List (L2.TKey×T)) (done:Nat->Nat->Prop):Prop:=∀r i e,en Hs r i=some e->done r i->valT kvs (keyE e)=some (encE (r,i))
theorem kKh {n i:Nat} {x:T} (h:(rngT 0 n)[i]? =some x):i<n/\x= .int i:=by
 unfold rngT at h
 rw[lKr] at h
 have hi:i<n:=by
  rcases lQn i n with z | z
  ·exact z
  ·rw[lKi (by simpa using z)] at h;cases h
 simp[hi] at h
 exact⟨hi,h.symm⟩
theorem jVb {n:Nat}:(rngT 0 n).length=n:=by simp[rngT]
theorem kKm:RdOk jVs jVx kYz:=by
 intro xs G Q h_;apply xe3 h_;clear h_;intro h Hs rs h_;apply ae3 h_;clear h_;intro q0_ ok kk
 obtain⟨hh,hlen,hrow⟩:=q0_
 show jVx _ [some (.ref h),none,none,none,none,none,none,none,none] G
 have hs:=sz
 have hL:=ok.len
 wp_walk using 1,jVx,kUp,jJz,jQo
 refine .inl fun d hd=> ?_
 have hhd:=jJj hh hd
 have hrl:(rs.map T.ref).length=Hs.length:=by simp[hlen]
 refine⟨rs.map T.ref,by simp only[seqT,jJu hhd,hh,asL],by rw[hrl];omega,by rw[hrl];omega,?_⟩
 rw[hrl,show ((Hs.length:Int)).toNat=Hs.length by omega]
 refine⟨fun r τ G'=>∃(v2 v3 v4:Option T) (kvs:List (L2.TKey×T)),τ=[some (.ref h),some (.ref d),v2,v3,v4,none,none,none,none]/\G' d=some (.dct kvs)/\kvs.length<=1000*r/\Tab Hs kvs (fun r' _=>r'<r)/\Sub G G',?_,?_,?_,?_⟩
 ·exact⟨none,none,none,[],rfl,jJh,lJu _,fun r i e _ z=>absurd z (lKv _),.new hd⟩
 ·intros;trivial
 ·intro r x τ G1 hx h_;apply xe4 h_;clear h_;intro v2 v3 v4 kvs h_;apply ae4 h_;clear h_;intro hdk hkl tab sb
  obtain⟨hr,rfl⟩:=kKh hx
  have hri:r<rs.length:=by omega
  obtain⟨hs',hH,hG⟩:=hrow r rs[r] (lJm hri)
  have hh1:=sb _ _ hh
  have hG1:=sb _ _ hG
  have hat:L2.atI (rs.map T.ref) (r:Int)=some (.ref rs[r]):=by rw[atN];simp[hri]
  have hrow1000:=ok.row r hs' hH
  wp_walk using 1,jJz,kKy,jKf hh1,hat
  refine⟨hs'.map encE,by simp only[jKc,hG1,asL],?_⟩
  refine⟨fun i τ G'=>∃(v3 v4:Option T) (kvs:List (L2.TKey×T)),τ=[some (.ref h),some (.ref d),some (.int r),v3,v4,none,none,none,none]/\G' d=some (.dct kvs)/\kvs.length<=1000*r+i/\Tab Hs kvs (fun r' i'=>r'<r\/(r'=r/\i'<i))/\Sub G G',?_,?_,?_,?_⟩
  ·exact⟨v3,v4,kvs,rfl,hdk,hkl,fun r' i' e he hd'=>tab r' i' e he (by rcases hd' with z | ⟨_,z⟩;exact z;exact absurd z (lKv _)),sb⟩
  ·intro i τ G' hi h_;apply xe3 h_;clear h_;intro v3 v4 kvs h_;apply ae4 h_;clear h_;intro h1 h2 h3 h4
   simp only[jKc,h4 _ _ hG,asL]
  ·intro i x τ G2 hx h_;apply xe3 h_;clear h_;intro v3 v4 kvs h_;apply ae4 h_;clear h_;intro h1 h2 h3 h4
   have hi:i<hs'.length:=by have:=(lJi.mp hx).1;simpa[jJ8] using this
   have hri2:(hs'.map encE)[i]? =some (encE hs'[i]):=by simp[hi]
   rw[jVd hri2] at hx
   cases hx
   have hz:kvs.length<sizeLine:=by omega
   wp_walk using 1,encE,qQp h1 kJx hz
   refine⟨by omega,?_⟩
   refine⟨putT kvs (keyE hs'[i]) (encE (r,i)),rfl,by have:=qQ3 kvs (keyE hs'[i]) (encE (r,i));omega,fun r' i' e he hd'=> ?_,h4.over hd⟩
   show valT (putT kvs (keyE hs'[i]) _) (keyE e)=_
   rw[qQg]
   have eri:en Hs r i=some hs'[i]:=kK8 hH (lJm hi)
   by_cases hk:keyE hs'[i]=keyE e
   ·rw[lJc hk]
    have:=qUu hk
    subst this
    obtain⟨z1,z2⟩:=ok.inj _ _ _ _ _ eri he
    subst z1;subst z2;rfl
   ·rw[lJa hk]
    refine h3 r' i' e he ?_
    rcases hd' with z | ⟨z1,z2⟩
    ·exact .inl z
    ·subst z1
     by_cases hii:i'=i
     ·subst hii;rw[eri] at he;cases he;exact absurd rfl hk
     ·exact .inr ⟨rfl,by omega⟩
  ·intro τ G' h_;apply xe3 h_;clear h_;intro v3 v4 kvs h_;apply ae4 h_;clear h_;intro h1 h2 h3 h4
   refine⟨some (.int r),v3,v4,rfl,kvs,h1,?_,fun r' i' e he hd'=>h3 r' i' e he ?_,h4⟩
   ·simp only[jJ8,lJg] at h2;omega
   ·rcases lQn r' r with z | z
    ·exact .inl z
    ·have:r'=r:=by omega
     subst this
     obtain⟨es,q1,q2⟩:=jQs he
     rw[hH] at q1;cases q1
     exact .inr ⟨rfl,by simpa[jJ8] using (lJi.mp q2).1⟩
 ·intro τ G1 h_;apply xe4 h_;clear h_;intro v2 v3 v4 kvs h_;apply ae4 h_;clear h_;intro hdk hkl tab sb
  rw[jVb] at tab
  wp_walk using 1,jJz,iSeq
  refine⟨lJu _,fun w hw=> ?_⟩
  have hdw:=jJj hdk hw
  have hhw:=jJj (sb _ _ hh) hw
  refine⟨rs.map T.ref,by simp only[seqT,jJu hhw,sb _ _ hh,asL],?_⟩
  refine⟨fun i τ G'=>∃(v6:Option T),τ=[some (.ref h),some (.ref d),v2,v3,v4,some (.ref w),v6,none,none]/\G' w=some (.lst ((Hs.take i).map fun hs=>encR (hs.map (oth Hs))))/\Sub G1 G',?_,?_,?_,?_⟩
  ·exact⟨none,rfl,by simp[jJh],.new hw⟩
  ·intro i τ G' hi h_;apply xe1 h_;clear h_;intro v6 h_;apply ae2 h_;clear h_;intro h1 h2
   simp only[seqT,h2 _ _ (sb _ _ hh),asL]
  ·intro i x τ G2 hx0 h_;apply xe1 h_;clear h_;intro v6 h_;apply ae2 h_;clear h_;intro h1 h2
   obtain⟨ra,hx,rfl⟩:=jKb hx0
   obtain⟨hs',hH,hG⟩:=hrow i ra hx
   have hG2:=h2 _ _ (sb _ _ hG)
   have hrow1000:=ok.row i hs' hH
   wp_walk using 1,iSeq,jK2 h1
   refine⟨hs'.map encE,jJl hG2,?_⟩
   refine jK9 (fun e=>encE (oth Hs e)) (by omega) (fun G' s=>jJl (s _ _ hG2)) ?_ ?_
   ·intro j e he G' K K0 s hk
    obtain⟨t,sd⟩:=e
    have hen:=kK8 hH he
    obtain⟨hsd,r',i',e2⟩:=ok.part _ _ _ _ hen
    have hv:=qV1 (e:=(t,sd)) e2
    have hr':(oth Hs (t,sd)).1<List.length Hs:=by obtain⟨es,q1,q2⟩:=jQs hv;exact (lJi.mp q1).1
    have ht:=tab _ _ _ hv hr'
    have hd3:=s _ _ (h2 _ _ hdk)
    wp_walk using 1,encE
    refine⟨by omega,fun p hp=> ?_⟩
    have hdp:=jJj hd3 hp
    have hsw:L2.atI [T.int 1,T.int 0,T.int 2] (sd:Int)=some (.int (sw sd:Int)):=by
     have:sd=0\/sd=1\/sd=2:=by omega
     rcases this with rfl | rfl | rfl<;>rw[atN]<;>rfl
    refine⟨_,hsw,by omega,_,qYr (ks:=[.inl (.inl (t:Int)),.inl (.inl (sw sd:Int))]) (by rw[jJu hdp];exact hd3) kJx ht,hk _ (.new hp)⟩
   ·intro D G3 hD h3 h4
    wp_walk using 1,jJl h3,h4 _ _ h1
    refine⟨by simp;omega,?_,((h2.trans h4).over hw)⟩
    rw[lQt,hH];simp[encR]
  ·intro τ G' h_;apply xe1 h_;clear h_;intro v6 h_;apply ae2 h_;clear h_;intro h1 h2
   wp_walk using 1,jJl h1
   have e1:(Hs.take (rs.map T.ref).length).map (fun hs=>encR (hs.map (oth Hs)))=(Hs.map (List.map (oth Hs))).map encR:=by
    rw[hrl,lVg,lKo];rfl
   rw[e1]
   exact kk G' _ (sb.trans h2) (kYp ok)
theorem BoxAt.mono {G:Gp} {b:Addr} {n m:Nat} (h:BoxAt G b n) (hm:n<=m):BoxAt G b m:=by
 obtain⟨x,y,z,h1,h2,h3,h4,h5,h6⟩:=h
 exact⟨x,y,z,h1,h2,h3,h4,h5,by omega⟩
theorem BoxAt.some {G:Gp} {b:Addr} {n:Nat} (h:BoxAt G b n):∃o,G b=some o:=by
 obtain⟨x,y,z,h1,_⟩:=h
 exact⟨_,h1⟩
theorem BoxAt.sub {G G':Gp} {b:Addr} {n:Nat} (h:BoxAt G b n) (s:Sub G G'):BoxAt G' b n:=by
 obtain⟨x,y,z,h1,h2,h3,h4,h5,h6⟩:=h
 exact⟨x,y,z,s _ _ h1,h2,h3,h4,h5,h6⟩
theorem BoxAt.gup {G:Gp} {b p:Addr} {n:Nat} {o:GO} (h:BoxAt G b n) (hp:b≠p):BoxAt (gup G p o) b n:=by
 obtain⟨x,y,z,h1,h2,h3,h4,h5,h6⟩:=h
 exact⟨x,y,z,by rw[jJu hp];exact h1,h2,h3,h4,h5,h6⟩
theorem Keep.sub {b:Addr} {G G':Gp} (h:Sub G G'):Keep b G G':=fun c o _ e=>h c o e
theorem Keep.over {b p:Addr} {G G':Gp} {o:GO} (h:Keep b G G') (hp:G p=none):Keep b G (L3.gup G' p o):=fun c u hc e=>by rw[jJu];exact h c u hc e;rintro rfl;rw[hp] at e;cases e
theorem RowsAt.keep {b:Addr} {G G':Gp} {h:Addr} {Hs:Web} {rs:List Addr} (s:Keep b G G') (hb:b∉h::rs) (x:RowsAt G h Hs rs):RowsAt G' h Hs rs:=by
 simp only[lJk,not_or] at hb
 exact⟨s _ _ (Ne.symm hb.1) x.1,x.2.1,fun i r e=>let ⟨hs,h1,h2⟩:=x.2.2 i r e;⟨hs,h1,s _ _ (by rintro rfl;exact hb.2 (lJo e)) h2⟩⟩
theorem RowsAt.set {G:Gp} {h:Addr} {Hs:Web} {rs:List Addr} {r:Nat} {a:Addr} {hs':List (Nat×Nat)} (x:RowsAt G h Hs rs) (hn:(h::rs).Nodup) (hr:rs[r]? =some a):RowsAt (gup G a (.lst (hs'.map encE))) h (Hs.set r hs') rs:=by
 rw[lK0] at hn
 have hrl:r<rs.length:=(lJi.mp hr).1
 refine⟨by rw[jJu];exact x.1;rintro rfl;exact hn.1 (lJo hr),by rw[lXa];exact x.2.1,fun i c e=> ?_⟩
 by_cases hi:i=r
 ·subst hi
  rw[hr] at e;cases e
  exact⟨hs',by rw[lQb];rw[<-x.2.1];exact hrl,jJh⟩
 ·obtain⟨hs,h1,h2⟩:=x.2.2 i c e
  refine⟨hs,by rw[lQp (Ne.symm hi)];exact h1,?_⟩
  rw[jJu];exact h2
  rintro rfl
  have hil:i<rs.length:=(lJi.mp e).1
  exact hi ((lX8 hil hn.2).mp (e.trans hr.symm))
def hv (n t:Nat) (p:Nat×Nat):List (Nat×Nat×Nat):=if p.2=n then [(p.1,t,2)] else [(p.1,t,0),(p.2,t,1)]
def hvs (P:List (Nat×Nat)) (n k:Nat):List (Nat×Nat×Nat):=(List.range k).flatMap fun t=>match P[t]? with
 | some p=>hv n t p
 | none=>[]
theorem jUn {P:List (Nat×Nat)} {n k:Nat} {p:Nat×Nat} (h:P[k]? =some p):hvs P n (k+1)=hvs P n k++hv n k p:=by
 unfold hvs
 rw[lKx,lX9]
 simp[h]
theorem jYb {n t:Nat} {p:Nat×Nat} {r t' s:Nat} (h:(r,t',s)∈hv n t p):t'=t/\s<=2/\((p.2=n/\s=2/\r=p.1)\/(p.2≠n/\s=0/\r=p.1)\/(p.2≠n/\s=1/\r=p.2)):=by
 unfold hv at h
 split at h
 ·rename_i hp;simp at h;obtain⟨rfl,rfl,rfl⟩:=h;exact⟨rfl,by omega,.inl ⟨hp,rfl,rfl⟩⟩
 ·rename_i hp;simp at h
  rcases h with ⟨rfl,rfl,rfl⟩ | ⟨rfl,rfl,rfl⟩
  ·exact⟨rfl,by omega,.inr (.inl ⟨hp,rfl,rfl⟩)⟩
  ·exact⟨rfl,by omega,.inr (.inr ⟨hp,rfl,rfl⟩)⟩
theorem jV2 {P:List (Nat×Nat)} {n k:Nat} {r t s:Nat} (h:(r,t,s)∈hvs P n k):∃p,P[t]? =some p/\t<k/\(r,t,s)∈hv n t p:=by
 unfold hvs at h
 rw[List.mem_flatMap] at h
 obtain⟨t',h1,h2⟩:=h
 cases e:P[t']? with
 | none=>rw[e] at h2;cases h2
 | some p=>
  rw[e] at h2
  have h2:(r,t,s)∈hv n t' p:=h2
  have ht:=(jYb h2).1
  subst ht
  exact⟨p,e,lKq.mp h1,h2⟩
theorem kXn {P:List (Nat×Nat)} {n k:Nat} {r t s:Nat} {p:Nat×Nat} (h:P[t]? =some p) (hk:t<k) (hm:(r,t,s)∈hv n t p):(r,t,s)∈hvs P n k:=by
 unfold hvs
 rw[List.mem_flatMap]
 exact⟨t,lKq.mpr hk,by rw[h];exact hm⟩
theorem jZx {P:List (Nat×Nat)} {n:Nat}:∀k,((hvs P n k).map fun x=>x.2).Nodup
 | 0=>by simp[hvs]
 | k+1=>by
  cases e:P[k]? with
  | none=>
   have:hvs P n (k+1)=hvs P n k:=by unfold hvs;rw[lKx,lX9];simp[e]
   rw[this];exact jZx k
  | some p=>
   rw[jUn e,lVy,lX0]
   refine⟨jZx k,by unfold hv;split<;>simp,?_⟩
   intro a ha b hb
   obtain⟨⟨r,t,s⟩,h1,rfl⟩:=lJl.mp ha
   obtain⟨⟨r',t',s'⟩,h2,rfl⟩:=lJl.mp hb
   obtain⟨_,_,h3,_⟩:=jV2 h1
   have h4:=(jYb h2).1
   intro z
   have:t=t':=lKg Prod.fst z
   omega
theorem kKz {P:List (Nat×Nat)} {n:Nat}:∀k,(hvs P n k).length<=2*k
 | 0=>by simp[hvs]
 | k+1=>by
  have ih:=kKz (P:=P) (n:=n) k
  cases e:P[k]? with
  | none=>
   have:hvs P n (k+1)=hvs P n k:=by unfold hvs;rw[lKx,lX9];simp[e]
   rw[this];omega
  | some p=>
   rw[jUn e,lKb]
   have:(hv n k p).length<=2:=by unfold hv;split<;>simp
   omega
structure HalfL (L:List (Nat×Nat×Nat)) (n:Nat) (Hs:Web):Prop where
 len:Hs.length=n
 perm:∀(r:Nat) (hs:List (Nat×Nat)),Hs[r]? =some hs->hs.Perm ((L.filter fun x=>x.1 == r).map fun x=>x.2)
theorem ins_perm {α:Type} {xs:List α} {k:Nat} {y:α}:(xs.take k++y::xs.drop k).Perm (xs++[y]):=by
 have h1:(xs.take k++y::xs.drop k).Perm (y::(xs.take k++xs.drop k)):=List.perm_middle
 rw[lKy] at h1
 exact h1.trans (lX7 (l₁:=[y]) (l₂:=xs))
theorem HalfL.ins {L:List (Nat×Nat×Nat)} {n:Nat} {Hs:Web} {r k:Nat} {hs:List (Nat×Nat)} {e:Nat×Nat} (h:HalfL L n Hs) (hr:Hs[r]? =some hs):HalfL (L++[(r,e)]) n (Hs.set r (hs.take k++e::hs.drop k)) where
 len:=by rw[lXa];exact h.len
 perm:=fun r' hs' h'=>by
  have hrl:r<Hs.length:=(lJi.mp hr).1
  rw[List.filter_append,lVy]
  by_cases hi:r'=r
  ·subst hi
   rw[lQb hrl] at h'
   cases h'
   have:=h.perm r' hs hr
   refine ins_perm.trans ?_
   simp
   exact this.append_right [e]
  ·rw[lQp (Ne.symm hi)] at h'
   have:=h.perm r' hs' h'
   have hne:¬ r=r':=fun z=>hi z.symm
   simp[hne]
   exact this
theorem HalfL.mem {L:List (Nat×Nat×Nat)} {n:Nat} {Hs:Web} {r i:Nat} {e:Nat×Nat} (h:HalfL L n Hs) (he:en Hs r i=some e):(r,e)∈L:=by
 obtain⟨es,h1,h2⟩:=jQs he
 have:=(h.perm r es h1).mem_iff.mp (lJo h2)
 obtain⟨⟨r',e'⟩,h3,rfl⟩:=lJl.mp this
 obtain⟨h4,h5⟩:=lVc.mp h3
 have:r'=r:=by simpa using h5
 subst this;exact h4
theorem HalfL.of {L:List (Nat×Nat×Nat)} {n:Nat} {Hs:Web} {r:Nat} {e:Nat×Nat} (h:HalfL L n Hs) (hr:r<n) (he:(r,e)∈L):∃i,en Hs r i=some e:=by
 have hrl:r<Hs.length:=by rw[h.len];exact hr
 have h1:Hs[r]? =some Hs[r]:=lJm hrl
 have:e∈Hs[r]:=(h.perm r _ h1).mem_iff.mpr (lJl.mpr ⟨(r,e),lVc.mpr ⟨he,by simp⟩,rfl⟩)
 obtain⟨i,hi⟩:=lJ6 this
 exact⟨i,kK8 h1 hi⟩
def kQe (P:List (Nat×Nat)) (n:Nat):Prop:=∀p,p∈P->p.1<n/\p.2<=n
theorem HalfL.ok {P:List (Nat×Nat)} {n:Nat} {Hs:Web} (h:HalfL (hvs P n P.length) n Hs) (hp:kQe P n) (hn:n<=1000) (hl:P.length<=500):JoinOk Hs where
 len:=by rw[h.len];exact hn
 row:=fun r hs hr=>by
  rw[(h.perm r hs hr).length_eq,lJg]
  have h1:=lYa (fun x:Nat×Nat×Nat=>x.1 == r) (hvs P n P.length)
  have h2:=kKz (P:=P) (n:=n) P.length
  omega
 inj:=fun r i r' i' e h1 h2=>by
  obtain⟨t,s⟩:=e
  obtain⟨p,q1,q2,q3⟩:=jV2 (h.mem h1)
  obtain⟨p',q1',q2',q3'⟩:=jV2 (h.mem h2)
  rw[q1] at q1';cases q1'
  have m1:=(jYb q3).2.2
  have m2:=(jYb q3').2.2
  have hrr:r=r':=by
   rcases m1 with ⟨a,b,c⟩ | ⟨a,b,c⟩ | ⟨a,b,c⟩<;>rcases m2 with ⟨a',b',c'⟩ | ⟨a',b',c'⟩ | ⟨a',b',c'⟩<;>omega
  subst hrr
  refine⟨rfl,?_⟩
  obtain⟨es,z1,z2⟩:=jQs h1
  obtain⟨es',z3,z4⟩:=jQs h2
  rw[z1] at z3;cases z3
  have nd:es.Nodup:=by
   rw[(h.perm r es z1).nodup_iff]
   exact (List.filter_sublist.map _).nodup (jZx _)
  exact (lX8 (lJi.mp z2).1 nd).mp (z2.trans z4.symm)
 part:=fun r i t s h1=>by
  obtain⟨p,q1,q2,q3⟩:=jV2 (h.mem h1)
  obtain⟨_,h2,m⟩:=jYb q3
  refine⟨h2,?_⟩
  have hpp:=hp p (lJo q1)
  rcases m with ⟨a,rfl,c⟩ | ⟨a,rfl,c⟩ | ⟨a,rfl,c⟩
  ·exact⟨r,i,h1⟩
  ·obtain⟨i',h3⟩:=h.of (r:=p.2) (e:=(t,1)) (by omega) (kXn q1 q2 (by unfold hv;rw[lJa a];simp))
   exact⟨p.2,i',h3⟩
  ·obtain⟨i',h3⟩:=h.of (r:=p.1) (e:=(t,0)) (by omega) (kXn q1 q2 (by unfold hv;rw[lJa a];simp))
   exact⟨p.1,i',h3⟩
def NumT (W:Web) (N:Nat):Prop:=∃t:Nat->Nat->Nat,∀r i e,en W r i=some e->t r i<N/\∀r' i' e',en W r' i'=some e'->t r' i'=t r i->(r',i')=(r,i)\/(r',i')=e
theorem NumT.mono {W:Web} {N M:Nat} (h:NumT W N) (hm:N<=M):NumT W M:=by
 obtain⟨t,ht⟩:=h
 exact⟨t,fun r i e he=>⟨lKe (ht r i e he).1 hm,(ht r i e he).2⟩⟩
def qJ8 (Hs:Web) (r i:Nat):Nat:=((en Hs r i).getD (0,0)).1
theorem qYc {P:List (Nat×Nat)} {n:Nat} {Hs W:Web} (h:HalfL (hvs P n P.length) n Hs) (ok:JoinOk Hs) (J:Joined Hs W):NumT W P.length:=by
 have half:∀r i e,en W r i=some e->∃t s,en Hs r i=some (t,s)/\en Hs e.1 e.2=some (t,sw s):=by
  intro r i e he
  obtain⟨es,h1,h2⟩:=jQs he
  have hr:r<Hs.length:=by rw[<-J.len];exact (lJi.mp h1).1
  obtain⟨es',h3,h4⟩:=J.row r _ (lJm hr)
  rw[h1] at h3;cases h3
  have hi:i<Hs[r].length:=by rw[<-h4];exact (lJi.mp h2).1
  have hh:en Hs r i=some Hs[r][i]:=by
   unfold en
   rw[lJm hr]
   exact lJm hi
  generalize Hs[r][i]=ts at hh
  obtain⟨t,s⟩:=ts
  obtain⟨_,r',i',hp⟩:=ok.part r i t s hh
  have:=J.to _ _ _ _ _ _ hh hp
  rw[he] at this;cases this
  exact⟨t,s,hh,hp⟩
 refine⟨qJ8 Hs,fun r i e he=> ?_⟩
 obtain⟨t,s,h1,h2⟩:=half r i e he
 have e1:qJ8 Hs r i=t:=by unfold qJ8;rw[h1];rfl
 obtain⟨p,q1,q2,q3⟩:=jV2 (h.mem h1)
 refine⟨by rw[e1];exact q2,fun r' i' e' he' ht=> ?_⟩
 obtain⟨t',s',h1',h2'⟩:=half r' i' e' he'
 have e1':qJ8 Hs r' i'=t':=by unfold qJ8;rw[h1'];rfl
 rw[e1,e1'] at ht
 subst ht
 obtain⟨p',q1',q2',q3'⟩:=jV2 (h.mem h1')
 rw[q1] at q1';cases q1'
 have m1:=(jYb q3).2.2
 have m2:=(jYb q3').2.2
 have cs:s'=s\/s'=sw s:=by
  rcases m1 with ⟨a,b,c⟩ | ⟨a,b,c⟩ | ⟨a,b,c⟩<;>rcases m2 with ⟨a',b',c'⟩ | ⟨a',b',c'⟩ | ⟨a',b',c'⟩<;>first | exact absurd a a' | exact absurd a' a | (subst b;subst b';first | exact .inl rfl | exact .inr rfl)
 rcases cs with z | z
 ·subst z
  obtain⟨z1,z2⟩:=ok.inj _ _ _ _ _ h1' h1
  exact .inl (by rw[z1,z2])
 ·subst z
  obtain⟨z1,z2⟩:=ok.inj _ _ _ _ _ h1' h2
  exact .inr (by rw[z1,z2])
structure Made (P:List (Nat×Nat)) (n:Nat) (W:Web):Prop where
 len:W.length=n
 sym:Sym W
 deg:∀(r:Nat) (es:List (Nat×Nat)),W[r]? =some es->es.length=((hvs P n P.length).filter fun x=>x.1 == r).length
 tie:∀p,p∈P->p.2<n->∃i j,en W p.1 i=some (p.2,j)
 num:NumT W P.length
theorem qYe {P:List (Nat×Nat)} {n:Nat} {Hs W:Web} (h:HalfL (hvs P n P.length) n Hs) (hp:kQe P n) (ok:JoinOk Hs) (J:Joined Hs W):Made P n W where
 len:=by rw[J.len,h.len]
 sym:=J.sym ok
 deg:=fun r es hr=>by
  have hrl:r<Hs.length:=by rw[<-J.len];exact (lJi.mp hr).1
  obtain⟨es',h1,h2⟩:=J.row r _ (lJm hrl)
  rw[hr] at h1;cases h1
  rw[h2,(h.perm r _ (lJm hrl)).length_eq,lJg]
 tie:=fun p hpm hpn=>by
  obtain⟨t,ht⟩:=lJ6 hpm
  have htl:t<P.length:=(lJi.mp ht).1
  have hne:¬ p.2=n:=by omega
  obtain⟨i,h1⟩:=h.of (r:=p.1) (e:=(t,0)) (hp p hpm).1 (kXn ht htl (by unfold hv;rw[lJa hne];simp))
  obtain⟨j,h2⟩:=h.of (r:=p.2) (e:=(t,1)) hpn (kXn ht htl (by unfold hv;rw[lJa hne];simp))
  exact⟨i,j,J.to _ _ _ _ _ _ h1 h2⟩
 num:=qYc h ok J
theorem Keep.none {b p:Addr} {G G':Gp} (h:Keep b G G') (hb:p≠b) (hp:G' p=none):G p=none:=by
 cases e:G p with
 | none=>rfl
 | some o=>rw[h p o hb e] at hp;cases hp
theorem qU0 {xs:List (Nat×Nat)} {k:Nat} {y:Nat×Nat}:insT (xs.map encE) k (encE y)=(xs.take k++y::xs.drop k).map encE:=by simp[insT,List.map_take,List.map_drop]
theorem HalfL.len_le {L:List (Nat×Nat×Nat)} {n:Nat} {Hs:Web} {r:Nat} {hs:List (Nat×Nat)} (h:HalfL L n Hs) (hr:Hs[r]? =some hs):hs.length<=L.length:=by
 rw[(h.perm r hs hr).length_eq,lJg];exact lYa _ _
theorem jZ4 {E:Ends3} {G G2:Gp} {b D p:Addr} {rs:List Addr} {n k m':Nat} {S:List (Nat×Nat)} {L:List (Nat×Nat×Nat)} {Hs:Web} {w1 w2 w5 w6 w8 w9:Option T}
  (h1:HalfL L n Hs) (h2:RowsAt G2 D Hs rs) (h3:BoxAt G2 b m') (h4:Keep b G G2) (hnd:(D::rs).Nodup) (hbn:b∉D::rs) (hfr:∀r,r∈D::rs->G r=none) (hp:G2 p=some (.lst (S.map encE))) (hpn:p∉D::rs) (hpb:p≠b) (hS:∀x,x∈S->x.1<n) (hm:m'+S.length<2^40) (hL:L.length+S.length<10000)
  (kk:∀G' Hs' v8 v9,HalfL (L++S.map fun x=>(x.1,k,x.2)) n Hs'->RowsAt G' D Hs' rs->BoxAt G' b (m'+S.length)->Keep b G G'->E.nx [some (.ref b),w1,w2,some (.ref D),some (.int k),w5,w6,some (.ref p),v8,v9] G'):
  qZq (gTup 2 (jJ3 (jJg 8) (jJ3 (jJg 9) gNil))) (jVr (tBM "list" kKr (tOp rIxF (tVar 3) (tVar 8)) (jJc (jJs jJr (jJc (tVar 0) (jJc (tOp jKe (tCB rLen (jJc (tOp rIxF (tVar 3) (tVar 8)) tNil)) (tC (T.int 1))) tNil))) (jJc (tTup (jJc (tVar 4) (jJc (tVar 9) tNil))) tNil)))) E
   [some (.ref b),w1,w2,some (.ref D),some (.int k),w5,w6,some (.ref p),w8,w9] (S.map encE) (fun G'=>seqT G' (.ref p)=some (S.map encE)) G2:=by
 have hs:=sz
 refine⟨fun j τ G'=>∃(v8 v9:Option T) (Hs:Web),τ=[some (.ref b),w1,w2,some (.ref D),some (.int k),w5,w6,some (.ref p),v8,v9]/\HalfL (L++(S.take j).map fun x=>(x.1,k,x.2)) n Hs/\RowsAt G' D Hs rs/\BoxAt G' b (m'+j)/\Keep b G G'/\G' p=some (.lst (S.map encE)),?_,?_,?_,?_⟩
 ·exact⟨w8,w9,Hs,rfl,by simpa using h1,h2,h3,h4,hp⟩
 ·intro j τ G' hj h_;apply xe3 h_;clear h_;intro v8 v9 Hs h_;apply ae5 h_;clear h_;intro i1 i2 i3 i4 i5
  exact jJl i5
 ·intro j x τ G' hx0 h_;apply xe3 h_;clear h_;intro v8 v9 Hs h_;apply ae5 h_;clear h_;intro i1 i2 i3 i4 i5
  obtain⟨⟨r,s⟩,hx,rfl⟩:=jKb hx0
  have hj:j<S.length:=(lJi.mp hx).1
  have hr:r<n:=hS _ (lJo hx)
  have hrl:r<rs.length:=by rw[i2.2.1,i1.len];exact hr
  have hra:rs[r]? =some rs[r]:=lJm hrl
  generalize rs[r]=a at hra
  obtain⟨hs',hh1,hh2⟩:=i2.2.2 r a hra
  have hat:L2.atI (rs.map T.ref) (r:Int)=some (.ref a):=by rw[atN];simp[hra]
  have hle:=i1.len_le hh1
  have hlt:(L++(S.take j).map fun x=>(x.1,k,x.2)).length<10000:=by simp;omega
  wp_walk using 1,encE,jKf i2.1,hat,jK2 hh2,jJl hh2,List.length_map
  refine⟨b,_,m'+j,rfl,i3,by omega,by omega,by omega,fun c G3 c0 c1 bx kp=> ?_⟩
  have ham:a∈D::rs:=lJ4 _ (lJo hra)
  have hab:a≠b:=by rintro rfl;exact hbn ham
  have hap:a≠p:=by rintro rfl;exact hpn ham
  have i2':=i2.keep kp hbn
  refine⟨by omega,hs'.map encE,c,rfl,kp _ _ hab hh2,c0,by simp;omega,by simp;omega,?_⟩
  rw[show T.tup [T.int (k:Int),T.int (s:Int)]=encE (k,s) from rfl,qU0]
  refine⟨Hs.set r (hs'.take c.toNat++(k,s)::hs'.drop c.toNat),?_,i2'.set hnd hra,?_,(i4.trans kp).over (hfr a ham),?_⟩
  ·have:=i1.ins (k:=c.toNat) (e:=(k,s)) hh1
   rw[lQt,hx,lVy,<-lJq]
   exact this
  ·exact bx.gup hab.symm
  ·rw[jJu hap.symm];exact kp _ _ hpb i5
 ·intro τ G' h_;apply xe3 h_;clear h_;intro v8 v9 Hs h_;apply ae5 h_;clear h_;intro i1 i2 i3 i4 i5
  rw[lJg] at i1 i3
  rw[lVg] at i1
  exact kk G' Hs v8 v9 i1 i2 i3 i4
theorem jXj {xs:List T}:(numT xs).length=xs.length:=by simp[numT]
noncomputable def jQ1:Sp3:=fun xs G Q=>∃(b pr:Addr) (P:List (Nat×Nat)) (n m:Nat),xs=[.ref b,.ref pr,.int n]/\BoxAt G b m/\m+2*P.length<2^40/\pr≠b/\G pr=some (.lst (P.map encE))/\kQe P n/\n<=1000/\P.length<=500/\∀W G',Made P n W->BoxAt G' b (m+2*P.length)->Keep b G G'->Q (encW W) G'
def kQf:List Str:=["_law_box_here","_law_pairs","_law_many","_law_halves","_law_tie","_law_one","_law_other","_law_sides","_law_room","_law_side"]
noncomputable def jQ3:TS3:=
 (tSeq (tAsg (jQj [false,false,false,false,false,false,false,false,true,false] (jQo (jJc (tVar 2) tNil)) (jJg 8) jVl (tLst tNil)) (jJg 3))
 (tSeq (tFor (kKy (jJc (tVar 1) tNil)) (gTup 2 (jJ3 (jJg 4) (jJ3 (gTup 2 (jJ3 (jJg 5) (jJ3 (jJg 6) gNil))) gNil))) (tSeq (tAsg (tIf (jJ0 (tOp rEqA (tVar 6) (tVar 2))) (tLst (jJc (tTup (jJc (tVar 5) (jJc (tC (.int 2)) tNil))) tNil)) (tLst (jJc (tTup (jJc (tVar 5) (jJc (tC (.int 0)) tNil))) (jJc (tTup (jJc (tVar 6) (jJc (tC (.int 1)) tNil))) tNil)))) (jJg 7))
 (tFor (iSeq (tVar 7)) (gTup 2 (jJ3 (jJg 8) (jJ3 (jJg 9) gNil))) (jVr (tBM "list" kKr (tOp rIxF (tVar 3) (tVar 8)) (jJc (jJs jJr (jJc (tVar 0) (jJc (tOp jKe (tCB rLen (jJc (tOp rIxF (tVar 3) (tVar 8)) tNil)) (tC (.int 1))) tNil))) (jJc (tTup (jJc (tVar 4) (jJc (tVar 9) tNil))) tNil)))))))
 (tRet (jJs jVs (jJc (tVar 3) tNil)))))
theorem jV9 {n:Nat}:rngT 0 n=(List.range n).map fun (k:Nat)=>T.int k:=by simp[rngT]
theorem jYh:RdOk jQ1 jQ3 kQf:=by
 intro xs G Q h_;apply xe5 h_;clear h_;intro b pr P n m h_;apply ae8 h_;clear h_;intro hb hm hpb hpr hP hn hPl kk
 show jQ3 _ [some (.ref b),some (.ref pr),some (.int n),none,none,none,none,none,none,none] G
 have hs:=sz
 wp_walk using 1,jQ3,jJz,jQo,kKy
 refine⟨by omega,by omega,?_⟩
 rw[show ((n:Int)).toNat=n by omega,jV9]
 refine jX5 (fun _=>[]) (by simp;omega) (fun _ _=>trivial) ?_ ?_
 ·intro i e he G' K K0 s hk
  wp_walk using 1,tSeq
  exact⟨lJu _,fun p hp=>hk p _ hp jJh (.new hp)⟩
 ·intro D rs G1 hD hD1 s1 hrl hnd hrs
  rw[lVh] at hrl
  obtain⟨bo,hbo⟩:=hb.some
  have hbn:b∉D::rs:=by
   intro z
   rw[lJk] at z
   rcases z with rfl | z
   ·rw[hD] at hbo;cases hbo
   ·obtain⟨j,hj⟩:=lJ6 z
    have hjl:j<rs.length:=(lJi.mp hj).1
    have:=(hrs j b j hj (by rw[lX4 (by omega)])).1
    rw[this] at hbo;cases hbo
  have hfr:∀r,r∈D::rs->G r=none:=by
   intro r z
   rw[lJk] at z
   rcases z with rfl | z
   ·exact hD
   ·obtain⟨j,hj⟩:=lJ6 z
    have hjl:j<rs.length:=(lJi.mp hj).1
    exact (hrs j r j hj (by rw[lX4 (by omega)])).1
  refine⟨P.map encE,by simp only[jKc,s1 _ _ hpr,asL],?_⟩
  refine⟨fun k τ G'=>∃(v4 v5 v6 v7 v8 v9:Option T) (Hs:Web),τ=[some (.ref b),some (.ref pr),some (.int n),some (.ref D),v4,v5,v6,v7,v8,v9]/\HalfL (hvs P n k) n Hs/\RowsAt G' D Hs rs/\BoxAt G' b (m+2*k)/\Keep b G G',?_,?_,?_,?_⟩
  ·refine⟨none,none,none,none,none,none,List.replicate n [],rfl,⟨by simp,?_⟩,⟨hD1,by simp[hrl],?_⟩,hb.sub s1,.sub s1⟩
   ·intro r hs' h
    have:hs'=[]:=by rw[List.getElem?_replicate] at h;split at h;cases h;rfl;cases h
    subst this;simp[hvs]
   ·intro i r h
    have hi:i<n:=by rw[<-hrl];exact (lJi.mp h).1
    exact⟨[],by simp[hi],(hrs i r i h (by simp[hi])).2⟩
  ·intro k τ G' hk h_;apply xe7 h_;clear h_;intro v4 v5 v6 v7 v8 v9 Hs h_;apply ae4 h_;clear h_;intro h1 h2 h3 h4
   simp only[jKc,h4 _ _ hpb hpr,asL]
  ·intro k x τ G2 hx h_;apply xe7 h_;clear h_;intro v4 v5 v6 v7 v8 v9 Hs h_;apply ae4 h_;clear h_;intro h1 h2 h3 h4
   have hk:k<P.length:=by have:=(lJi.mp hx).1;simpa[jXj] using this
   rw[jVd (x:=encE P[k]) (by simp[hk])] at hx
   cases hx
   generalize hpk:P[k]=p
   have hpe:P[k]? =some p:=by rw[lJm hk,hpk]
   obtain⟨a,c⟩:=p
   obtain⟨ha,hc⟩:=hP _ (lJo hpe)
   have ha:a<n:=ha
   have hc:c<=n:=hc
   wp_walk using 1,encE,rEqA,iSeq,jJz
   rw[show eqG G2 (T.int (c:Int)) (T.int (n:Int))=some (decide ((c:Int)=n)) from rfl]
   have hL:=kKz (P:=P) (n:=n) k
   refine⟨_,rfl,?_⟩
   have fresh:∀p,G2 p=none->p∉D::rs/\p≠b:=by
    intro p hp
    refine⟨fun z=> ?_,?_⟩
    ·rw[lJk] at z
     rcases z with rfl | z
     ·rw[h2.1] at hp;cases hp
     ·obtain⟨j,hj⟩:=lJ6 z
      obtain⟨_,_,q⟩:=h2.2.2 j p hj
      rw[q] at hp;cases hp
    ·rintro rfl
     obtain⟨o,ho⟩:=h3.some
     rw[ho] at hp;cases hp
   by_cases hcn:c=n
   ·rw[lJc (by simp[hcn])]
    refine⟨by omega,by omega,fun p hp=> ?_⟩
    obtain⟨f1,f2⟩:=fresh p hp
    refine jZ4 (S:=[(a,2)]) h1 (h2.sub (.new hp)) (h3.gup f2.symm) (h4.over (h4.none f2 hp)) hnd hbn hfr jJh f1 f2 (by simp[ha]) (by simp;omega) (by simp;omega) ?_
    intro G' Hs' v8 v9 i1 i2 i3 i4
    refine⟨_,_,_,_,_,_,rfl,Hs',?_,i2,i3.mono (by simp;omega),i4⟩
    rw[jUn hpe];unfold hv;rw[lJc hcn];exact i1
   ·rw[lJa (by simp;omega)]
    refine⟨by omega,by omega,by omega,fun p hp=> ?_⟩
    obtain⟨f1,f2⟩:=fresh p hp
    refine jZ4 (S:=[(a,0),(c,1)]) h1 (h2.sub (.new hp)) (h3.gup f2.symm) (h4.over (h4.none f2 hp)) hnd hbn hfr jJh f1 f2 (by simp;omega) (by simp;omega) (by simp;omega) ?_
    intro G' Hs' v8 v9 i1 i2 i3 i4
    refine⟨_,_,_,_,_,_,rfl,Hs',?_,i2,i3.mono (by simp;omega),i4⟩
    rw[jUn hpe];unfold hv;rw[lJa hcn];exact i1
  ·intro τ G' h_;apply xe7 h_;clear h_;intro v4 v5 v6 v7 v8 v9 Hs h_;apply ae4 h_;clear h_;intro h1 h2 h3 h4
   rw[jXj,lJg] at h1 h3
   wp_walk using 1,tSeq
   have ok:=h1.ok hP hn hPl
   refine⟨D,Hs,rs,rfl,h2,ok,fun G3 W s3 J=> ?_⟩
   exact kk W G3 (qYe h1 hP ok J) (h3.sub s3) (h4.trans (.sub s3))
def dgr (P:List (Nat×Nat)) (n r:Nat):Nat:=((hvs P n P.length).filter fun x=>x.1 == r).length
def jQc (n:Nat) (p:Nat×Nat):List Nat:=if p.2=n then [p.1] else [p.1,p.2]
theorem qJ5 {P Q:List (Nat×Nat)} {n:Nat}:∀k,k<=P.length->hvs (P++Q) n k=hvs P n k
 | 0,_=>rfl
 | k+1,h=>by
  have e:P[k]? =some P[k]:=lJm (by omega)
  rw[jUn e,jUn (p:=P[k]) (by rw[lK1 (by omega)];exact e),qJ5 k (by omega)]
theorem qU5 {P:List (Nat×Nat)} {n:Nat} {p:Nat×Nat}:hvs (P++[p]) n (P++[p]).length=hvs P n P.length++hv n P.length p:=by
 rw[lKb,List.length_singleton,jUn (p:=p) (by simp),qJ5 _ (lJh _)]
theorem hv_cnt {n t r:Nat} {p:Nat×Nat}:((hv n t p).filter fun x=>x.1 == r).length=(jQc n p).count r:=by
 unfold hv jQc
 split
 ·by_cases h:p.1=r<;>simp[h]
 ·by_cases h:p.1=r<;>by_cases h':p.2=r<;>simp[h,h',lXm]
theorem jY4 {P:List (Nat×Nat)} {n r:Nat} {p:Nat×Nat}:dgr (P++[p]) n r=dgr P n r+(jQc n p).count r:=by
 unfold dgr
 rw[qU5,List.filter_append,lKb,hv_cnt]
theorem qVa {L:List (Nat×Nat×Nat)} {k:Nat}:(L.filter fun x=>decide (x.1<k+1)).length=(L.filter fun x=>decide (x.1<k)).length+(L.filter fun x=>x.1 == k).length:=by
 induction L with
 | nil=>rfl
 | cons a as ih=>
  rw[lXm,lXm,lXm]
  rcases lX2 a.1 k with h | h | h
  ·have h1:a.1<k+1:=by omega
   have h2:¬ a.1=k:=by omega
   simp[h,h1,h2,ih];omega
  ·have h1:a.1<k+1:=by omega
   simp[h,ih];omega
  ·have h1:¬ a.1<k+1:=by omega
   have h2:¬ a.1=k:=by omega
   have h3:¬ a.1<k:=by omega
   simp[h1,h2,h3,ih]
theorem qV0 {L:List (Nat×Nat×Nat)} {d:Nat}:∀k,(∀r,r<k->d<=(L.filter fun x=>x.1 == r).length)->k*d<=(L.filter fun x=>decide (x.1<k)).length
 | 0,_=>by simp
 | k+1,h=>by
  rw[qVa,Nat.succ_mul]
  have h1:=qV0 k fun r hr=>h r (by omega)
  have h2:=h k (by omega)
  omega
theorem qKd {P:List (Nat×Nat)} {n d k:Nat} (hd:2<=d) (hk:P.length<k):∃r,r<k/\dgr P n r<d:=by
 apply lVa
 intro h
 have h1:∀r,r<k->d<=((hvs P n P.length).filter fun x=>x.1 == r).length:=fun r hr=>by
  rcases lQn (dgr P n r) d with z | z
  ·exact absurd ⟨r,hr,z⟩ h
  ·exact z
 have h2:=qV0 k h1
 have h3:=lYa (fun x:Nat×Nat×Nat=>decide (x.1<k)) (hvs P n P.length)
 have h4:=kKz (P:=P) (n:=n) P.length
 have h5:k*2<=k*d:=Nat.mul_le_mul_left k hd
 omega
theorem qVj {P:List (Nat×Nat)} {n k r:Nat} (h:∀p,p∈P->p.1<k/\p.2<k) (hr:k<=r):dgr P n r=0:=by
 unfold dgr
 rw[lVe,List.filter_eq_nil_iff]
 rintro⟨a,t,s⟩ hx
 obtain⟨p,h1,h2,h3⟩:=jV2 hx
 have h4:=h p (lJo h1)
 have h5:=(jYb h3).2.2
 simp
 omega
def jQq (n:Nat) (f:Nat->Nat):List T:=(List.range n).map fun r=>T.int (f r)
theorem kJ8 {n:Nat} {f:Nat->Nat} {r:Nat} (h:r<n):L2.atI (jQq n f) (r:Int)=some (.int (f r)):=by rw[atN];simp[jQq,h]
theorem kZa {n:Nat} {f:Nat->Nat}:(jQq n f).length=n:=by simp[jQq]
theorem kY9 {n:Nat} {f:Nat->Nat} {r v:Nat}:(jQq n f).set r (.int v)=jQq n fun x=>if x=r then v else f x:=by
 apply lVb
 intro i
 by_cases hi:i=r
 ·subst hi
  by_cases h:i<n
  ·rw[lQb (by simpa[jQq] using h)];simp[jQq,h]
  ·rw[lKi (by simp[jQq];omega),lKi (by simp[jQq];omega)]
 ·rw[lQp (Ne.symm hi)]
  by_cases h:i<n
  ·simp[jQq,h,hi]
  ·rw[lKi (by simp[jQq];omega),lKi (by simp[jQq];omega)]
theorem bump {E:Ends3} {G2:Gp} {u:Addr} {n:Nat} {f:Nat->Nat} {es:List Nat} {stay:Gp->Prop} {w0 w1 w2 w4 w5 w6 w7 w8 w9 w10 w11:Option T} (hu:G2 u=some (.lst (jQq n f))) (hst:∀G',(∀c,c≠u->G' c=G2 c)->stay G') (hes:∀e,e∈es->e<n)
  (kk:∀G' v7,G' u=some (.lst (jQq n fun r=>f r+es.count r))->(∀c,c≠u->G' c=G2 c)->E.nx [w0,w1,w2,some (.ref u),w4,w5,w6,v7,w8,w9,w10,w11] G'):
  qZq (jJg 7) (tAsg (tOp jKe (tOp rIxF (tVar 3) (tVar 7)) (tC (.int 1))) (gSub (tVar 3) (tVar 7) jXe)) E [w0,w1,w2,some (.ref u),w4,w5,w6,w7,w8,w9,w10,w11] (es.map fun e=>T.int (e:Nat)) stay G2:=by
 refine⟨fun j τ G'=>∃v7,τ=[w0,w1,w2,some (.ref u),w4,w5,w6,v7,w8,w9,w10,w11]/\G' u=some (.lst (jQq n fun r=>f r+(es.take j).count r))/\(∀c,c≠u->G' c=G2 c),?_,?_,?_,?_⟩
 ·exact⟨w7,rfl,by simpa using hu,fun _ _=>rfl⟩
 ·intro j τ G' hj h_;apply xe1 h_;clear h_;intro v7 h_;apply ae2 h_;clear h_;intro h1 h2
  exact hst G' h2
 ·intro j x τ G' hx0 h_;apply xe1 h_;clear h_;intro v7 h_;apply ae2 h_;clear h_;intro h1 h2
  obtain⟨e,hx,rfl⟩:=jKb hx0
  have he:=hes e (lJo hx)
  have hix:L2.ixN (jQq n fun r=>f r+(es.take j).count r).length (e:Int)=some e:=qJ1 (by rw[kZa];exact he)
  wp_walk using 1,jKf h1,kJ8 he,kKg h1 hix
  refine⟨?_,fun c hc=>by rw[jJu hc];exact h2 c hc⟩
  rw[show T.int (((f e+(es.take j).count e:Nat):Int)+1)=T.int ((f e+(es.take j).count e+1:Nat):Int) by simp,kY9]
  congr 1
  funext r
  rw[lQt,hx,Option.toList_some,List.count_append]
  by_cases hr:r=e
  ·subst hr;simp;omega
  ·have:¬ e=r:=fun z=>hr z.symm
   simp[hr,this]
 ·intro τ G' h_;apply xe1 h_;clear h_;intro v7 h_;apply ae2 h_;clear h_;intro h1 h2
  rw[lJg,lVg] at h1
  exact kk G' v7 h1 h2
structure WebOk (n d:Nat) (W:Web):Prop where
 len:W.length=n
 sym:Sym W
 deg:∀(r:Nat) (es:List (Nat×Nat)),W[r]? =some es->es.length<=d
 low:∀r,1<=r->r<n->∃i a j,en W r i=some (a,j)/\a<r
structure POk (P:List (Nat×Nat)) (n d k:Nat):Prop where
 ok:kQe P n
 deg:∀r,r<n->dgr P n r<=d
 low:∀r,1<=r->r<k->∃p,p∈P/\p.2=r/\p.1<r
theorem POk.web {P:List (Nat×Nat)} {n d:Nat} {W:Web} (h:POk P n d n) (m:Made P n W):WebOk n d W where
 len:=m.len
 sym:=m.sym
 deg:=fun r es hr=>by
  rw[m.deg r es hr];exact h.deg r (by rw[<-m.len];exact (lJi.mp hr).1)
 low:=fun r h1 h2=>by
  obtain⟨p,q1,q2,q3⟩:=h.low r h1 h2
  obtain⟨i,j,q4⟩:=m.tie p q1 (by omega)
  have:=m.sym _ _ _ _ q4
  rw[q2] at this
  exact⟨j,p.1,i,this,q3⟩
noncomputable def jYx:Sp3:=fun xs G Q=>∃(b:Addr) (n d m:Nat),xs=[.ref b,.int n,.int d]/\BoxAt G b m/\m+300<2^40/\1<=n/\n<=24/\2<=d/\d<=100/\∀W G',WebOk n d W->NumT W (2*n)->BoxAt G' b (m+300)->Keep b G G'->Q (encW W) G'
def qZo:List Str:=["_law_box_here","_law_many","_law_most","_law_used","_law_pairs","_law_room","_law_free","_law_end","_law_turn","_law_pair","_law_ends_here","_law_one"]
noncomputable def kKp:TS3:=
 (tSeq (tAsg (tOp jZn (tLst (jJc (tC (.int 0)) tNil)) (tVar 1)) (jJg 3))
 (tSeq (tAsg (tLst tNil) (jJg 4))
 (tSeq (tFor (qYy (jJc (tC (.int 1)) (jJc (tVar 1) tNil))) (jJg 5) (tSeq (tAsg (jQj [false,false,false,false,false,false,false,false,false,false,false,true] (jQo (jJc (tVar 5) tNil)) (jJg 11) (jJ0 (tOp rLt (tOp rIxF (tVar 3) (tVar 11)) (tVar 2))) (tVar 11)) (jJg 6))
 (tSeq (jVr (tBM "list" jKq (tVar 4) (jJc (tTup (jJc (tOp rIxF (tVar 6) (jJs jJr (jJc (tVar 0) (jJc (tCB rLen (jJc (tVar 6) tNil)) tNil)))) (jJc (tVar 5) tNil))) tNil)))
 (tFor (iSeq (tOp rIxF (tVar 4) (tUn rNeg (tC (.int 1))))) (jJg 7) (tAsg (tOp jKe (tOp rIxF (tVar 3) (tVar 7)) (tC (.int 1))) (gSub (tVar 3) (tVar 7) jXe))))))
 (tSeq (tFor (jQo (jJc (jJs jJr (jJc (tVar 0) (jJc (tOp jKe (tVar 1) (tC (.int 2))) tNil))) tNil)) (jJg 8) (tSeq (tAsg (tTup (jJc (jJs jJr (jJc (tVar 0) (jJc (tVar 1) tNil))) (jJc (jJs jJr (jJc (tVar 0) (jJc (tOp jKe (tVar 1) (tC (.int 1))) tNil))) tNil))) (jJg 9))
 (tSeq (tAsg (jQj [false,false,false,false,false,false,false,true,false,false,false,false] (iSeq (tVar 9)) (jJg 7) (jJ0 (tOp rLt (tVar 7) (tVar 1))) (tVar 7)) (jJg 10))
 (tIfS (jJ0 (tCB rAll (jJc (jQj [false,false,false,false,false,false,false,true,false,false,false,false] (iSeq (tVar 10)) (jJg 7) jVl (tOp rLeF (tOp jKe (tOp rIxF (tVar 3) (tVar 7)) (tBM "list" kZ9 (tVar 10) (jJc (tVar 7) tNil))) (tVar 2))) tNil))) (tSeq (jVr (tBM "list" jKq (tVar 4) (jJc (tVar 9) tNil)))
 (tFor (iSeq (tVar 10)) (jJg 7) (tAsg (tOp jKe (tOp rIxF (tVar 3) (tVar 7)) (tC (.int 1))) (gSub (tVar 3) (tVar 7) jXe)))) jKs))))
 (tRet (jJs jQ1 (jJc (tVar 0) (jJc (tVar 4) (jJc (tVar 1) tNil)))))))))
theorem qQu {n:Nat}:(List.replicate n [T.int 0]).flatten=jQq n fun _=>0:=by
 have:(List.replicate n [T.int 0]).flatten=List.replicate n (T.int 0):=by
  induction n with
  | zero=>rfl
  | succ n ih=>rw[lVr,lXb,ih];rfl
 rw[this]
 apply lVb
 intro i
 by_cases h:i<n
 ·simp[jQq,h]
 ·rw[lKi (by simp;omega),lKi (by simp[jQq];omega)]
theorem kZy {lo n:Nat}:rngT lo n=(List.range n).map fun (k:Nat)=>T.int ((lo+k:Nat):Int):=by simp[rngT]
theorem qZh {es:List Nat} {r:Nat}:(es.map fun e=>T.int (e:Nat)).countP (fun z=>eqT z (.int r))=es.count r:=by
 rw[List.countP_map,List.count]
 congr 1
 funext e
 simp only[eqT,Function.comp]
 by_cases h:e=r
 ·subst h;simp
 ·have h2:¬ (e:Int)=r:=by omega
  rw[beq_eq_false_iff_ne.mpr h,beq_eq_false_iff_ne.mpr h2]
theorem kQ7 {es:List Nat}:(es.map fun e=>T.int (e:Nat)).all jXo=true:=by
 rw[List.all_map,lQf];intros;rfl
theorem jXr {α:Type} {f:α->Bool}:∀ {es:List α},kV0 (es.map fun e=>T.bl (f e))=some (es.all f)
 | []=>rfl
 | e::es=>by rw[lJp,kV0,jXr,lQ2]
theorem kYd:RdOk jYx kKp qZo:=by
 intro xs G Q h_;apply xe4 h_;clear h_;intro b n d m h_;apply ae7 h_;clear h_;intro hb hm hn1 hn2 hd1 hd2 kk
 show kKp _ [some (.ref b),some (.int n),some (.int d),none,none,none,none,none,none,none,none,none] G
 have hs:=sz
 wp_walk using 1,kKp,jJz,jQo,qYy
 refine⟨by omega,fun z hz=> ?_⟩
 have e1:mulR (gup G z (GO.lst [T.int 0])) (.ref z) (.int n)=some (.newL (jQq n fun _=>0)):=by
  rw[<-qQu]
  simp only[mulR,jJh];rw[lJc];congr;refine⟨?_,?_,?_⟩<;>simp<;>omega
 wp_walk using 1,e1
 intro u hu
 obtain⟨huz,hu0⟩:=jVi hu
 refine⟨lJu _,fun pr hpr=> ?_⟩
 obtain⟨hpu,hpr1⟩:=jVi hpr
 obtain⟨hpz,hpr0⟩:=jVi hpr1
 obtain⟨bo,hbo⟩:=hb.some
 have hbu:=jJj hbo hu0
 have hbp:=jJj hbo hpr0
 have hbz:=jJj hbo hz
 refine⟨by omega,by omega,by omega,by omega,?_⟩
 rw[show ((n:Int)-1).toNat=n-1 by omega,show rngT 1 (n-1)=rngT ((1:Nat):Int) (n-1) from rfl,kZy]
 let J1:Nat->St3->Gp->Prop:=fun k τ G'=>∃(v5 v6 v7:Option T) (P:List (Nat×Nat)),τ=[some (.ref b),some (.int n),some (.int d),some (.ref u),some (.ref pr),v5,v6,v7,none,none,none,none]/\P.length=k/\POk P n d (k+1)/\(∀p,p∈P->p.1<k+1/\p.2<k+1)/\G' u=some (.lst (jQq n (dgr P n)))/\G' pr=some (.lst (P.map encE))/\BoxAt G' b (m+k)/\Keep b G G'
 refine⟨J1,?_,?_,?_,?_⟩
 ·refine xi4 none none none [] rfl ⟨rfl,⟨by intro p h;simp at h,fun r _=>by simp[dgr,hvs],fun r h1 h2=>by omega⟩,by intro p h;simp at h,by rw[jJu hpu.symm,jJh];rfl,jJh,((hb.gup hbz).gup hbu).gup hbp,(((Keep.new hz).over hu0).over hpr0)⟩
 ·intros;trivial
 ·intro k x τ G1 hx0 h_;apply xe4 h_;clear h_;intro v5 v6 v7 P h_;apply ae7 h_;clear h_;intro hPl hP hlt hgu hgp hbx hkp
  obtain⟨e,hx,rfl⟩:=jKb hx0
  obtain⟨hk,rfl⟩:k<n-1/\k=e:=by
   rw[lJi] at hx;obtain⟨q1,q2⟩:=hx;simp at q1 q2;exact⟨q1,q2⟩
  wp_walk using 1,iSeq,jQo,jJz
  refine⟨by omega,by omega,?_⟩
  rw[show (((1+k:Nat)):Int).toNat=1+k by omega,jV9]
  refine jUq (fun r=>if dgr P n r<d then some (T.int (r:Nat)) else none) (by simp;omega) (fun _ _=>trivial) ?_ ?_
  ·intro i r hr G2 K K0 s2 hK hK0
   obtain⟨hr1,rfl⟩:i<1+k/\i=r:=by
    rw[lJi] at hr;obtain⟨q1,q2⟩:=hr;simp at q1 q2;exact⟨q1,q2⟩
   wp_walk using 1,jKf (s2 _ _ hgu),kJ8 (show i<n by omega)
   by_cases hdg:dgr P n i<d
   ·rw[lJc (by omega)]
    exact hK _ _ (by rw[lJc hdg]) (.refl _)
   ·rw[lJa (by omega)]
    exact hK0 (by rw[lJa hdg]) _ (.refl _)
  ·intro fr G2 hfr hfr2 s2
   obtain⟨F,hF1,hF2⟩:∃F:List Nat,(List.range (1+k)).filterMap (fun r=>if dgr P n r<d then some (T.int (r:Nat)) else none)=F.map (fun r=>T.int (r:Nat))/\F=(List.range (1+k)).filter fun r=>decide (dgr P n r<d):=by
    refine⟨_,?_,rfl⟩
    generalize List.range (1+k)=l
    induction l with
    | nil=>rfl
    | cons a as ih=>
     rw[lQa,lXm]
     by_cases h:dgr P n a<d<;>simp[h,ih]
   rw[hF1] at hfr2
   have hFl:F.length<=1+k:=by rw[hF2];have:=lYa (fun r=>decide (dgr P n r<d)) (List.range (1+k));rw[lVh] at this;exact this
   have hF0:1<=F.length:=by
    obtain⟨r,q1,q2⟩:=qKd (P:=P) (n:=n) (d:=d) (k:=1+k) hd1 (by omega)
    have:r∈F:=by rw[hF2,lVc];exact⟨lKq.mpr q1,by simpa using q2⟩
    exact List.length_pos_of_mem this
   have hgp2:=s2 _ _ hgp
   wp_walk using 1,jK2 hgp2,jJl hfr2,List.length_map
   refine⟨b,_,m+k,rfl,hbx.sub s2,by omega,by omega,by omega,fun c G3 c0 c1 bx kp=> ?_⟩
   have hfb:fr≠b:=by rintro rfl;obtain⟨o,ho⟩:=hbx.some;rw[ho] at hfr;cases hfr
   have hcF:c.toNat<F.length:=by omega
   have hca:L2.atI (F.map fun r=>T.int (r:Nat)) c=some (.int (F[c.toNat]:Nat)):=by rw[atZ c0];simp[hcF]
   have hmem:F[c.toNat]∈F:=List.getElem_mem hcF
   generalize F[c.toNat]=a at hca hmem
   rw[hF2,lVc] at hmem
   have ha1:a<1+k:=lKq.mp hmem.1
   have ha2:dgr P n a<d:=by simpa using hmem.2
   have hgp3:=kp _ _ hbp.symm hgp2
   have hgu3:=kp _ _ hbu.symm (s2 _ _ hgu)
   wp_walk using 1,jKf (kp _ _ hfb hfr2),hca,hgp3
   refine⟨by omega,by simp;omega,_,qK4,[T.int (a:Nat),T.int ((1+k:Nat):Int)],rfl,?_⟩
   have hne:u≠pr:=hpu.symm
   have hE:jQc n (a,1+k)=[a,1+k]:=by unfold jQc;rw[lJa (show ¬ (1+k)=n by omega)]
   refine bump (es:=[a,1+k]) (n:=n) (f:=dgr P n) (by rw[jJu hne];exact hgu3) (fun _ _=>rfl) (by simp;omega) ?_
   intro G4 v7 hu4 hk4
   have hlt':∀p,p∈P++[(a,1+k)]->p.1<k+1+1/\p.2<k+1+1:=by
    intro p hp
    rw[lJx,lJ1] at hp
    rcases hp with hp | rfl
    ·have:=hlt p hp;omega
    ·exact⟨by show a<_;omega,by show 1+k<_;omega⟩
   refine xi4 _ _ _ (P++[(a,1+k)]) rfl ⟨by simp[hPl],⟨?_,?_,?_⟩,hlt',?_,?_,?_,?_⟩
   ·intro p hp
    have:=hlt' p hp;omega
   ·intro r hr
    rw[jY4,hE]
    have h0:=hP.deg r hr
    have hz1:=qVj (n:=n) (r:=1+k) hlt (by omega)
    by_cases h1:r=a
    ·subst h1
     have:¬ 1+k=r:=by omega
     simp[this];omega
    ·have h1':¬ a=r:=fun z=>h1 z.symm
     by_cases h2:1+k=r
     ·subst h2;simp[h1'];omega
     ·simp[h1',h2];omega
   ·intro r h1 h2
    by_cases h3:r<k+1
    ·obtain⟨p,q1,q2⟩:=hP.low r h1 h3
     exact⟨p,lKa _ q1,q2⟩
    ·exact⟨(a,1+k),by simp,by show 1+k=r;omega,by show a<r;omega⟩
   ·rw[hu4,show (fun r=>dgr P n r+List.count r [a,1+k])=dgr (P++[(a,1+k)]) n from funext fun r=>by rw[jY4,hE]]
   ·rw[hk4 pr hpu,jJh];simp[encE]
   ·obtain⟨x,y,w,z1,z2⟩:=bx
    exact⟨x,y,w,by rw[hk4 b hbu,jJu hbp];exact z1,z2⟩
   ·intro c o hc he
    have hcu:=jJj he hu0
    have hcp:=jJj he hpr0
    rw[hk4 c hcu,jJu hcp]
    exact kp _ _ hc (s2 _ _ (hkp _ _ hc he))
 ·intro τ G1 h_;apply xe4 h_;clear h_;intro v5 v6 v7 P h_;apply ae7 h_;clear h_;intro hPl hP hlt hgu hgp hbx hkp
  rw[lJg,lVh] at hPl hP hbx
  rw[show n-1+1=n by omega] at hP
  wp_walk using 1,jJz,jQo
  refine⟨b,_,m+(n-1),rfl,hbx,by omega,by omega,by omega,fun q G2 q0 q1 bx kp=> ?_⟩
  refine⟨q,rfl,by omega,by omega,?_⟩
  let J2:Nat->St3->Gp->Prop:=fun k τ G'=>∃(v7 v8 v9 v10 v11:Option T) (P:List (Nat×Nat)),τ=[some (.ref b),some (.int n),some (.int d),some (.ref u),some (.ref pr),v5,v6,v7,v8,v9,v10,v11]/\P.length+1<=n+k/\POk P n d n/\G' u=some (.lst (jQq n (dgr P n)))/\G' pr=some (.lst (P.map encE))/\BoxAt G' b (m+n+2*k)/\Keep b G G'
  refine⟨J2,?_,?_,?_,?_⟩
  ·exact xi6 _ _ _ _ _ P rfl ⟨by omega,hP,kp _ _ hbu.symm hgu,kp _ _ hbp.symm hgp,bx.mono (by omega),hkp.trans kp⟩
  ·intros;trivial
  ·intro k x τ G3 hx0 h_;apply xe6 h_;clear h_;intro v7 v8 v9 v10 v11 P h_;apply ae6 h_;clear h_;intro hPl hP hgu hgp hbx hkp
   have hk:k<q.toNat:=by have:=(lJi.mp hx0).1;rw[jVb] at this;exact this
   wp_walk using 1,jJz,iSeq
   refine⟨b,_,_,rfl,hbx,by omega,by omega,by omega,fun c G4 c0 c1 bx4 kp4=> ?_⟩
   refine⟨b,_,_,rfl,bx4,by omega,by omega,by omega,fun e G5 e0 e1 bx5 kp5=> ?_⟩
   obtain⟨a,rfl⟩:=lQh c0
   obtain⟨y,rfl⟩:=lQh e0
   have ha:a<n:=by omega
   have hy:y<=n:=by omega
   have kp35:=kp4.trans kp5
   have hgu5:=kp35 _ _ hbu.symm hgu
   have hgp5:=kp35 _ _ hbp.symm hgp
   refine⟨by omega,?_⟩
   have hEn:∀e',e'∈jQc n (a,y)->e'<n:=by
    intro e' he'
    unfold jQc at he'
    split at he'<;>simp at he'<;>simp at * <;>omega
   have hEl:(jQc n (a,y)).length<=2:=by unfold jQc;split<;>simp
   refine jUq (es:=[a,y]) (enc:=fun r:Nat=>T.int r) (fun r=>if r<n then some (T.int (r:Nat)) else none) (by simp;omega) (fun _ _=>trivial) ?_ ?_
   ·intro i r hr G6 K K0 s6 hK hK0
    wp_walk using 1,tSeq
    by_cases hrn:r<n
    ·rw[lJc (by omega)]
     exact hK _ _ (by rw[lJc hrn]) (.refl _)
    ·rw[lJa (by omega)]
     exact hK0 (by rw[lJa hrn]) _ (.refl _)
   ·intro en G6 hen hen6 s6
    have hEE:List.filterMap (fun r=>if r<n then some (T.int (r:Nat)) else none) [a,y]=(jQc n (a,y)).map fun r=>T.int (r:Nat):=by
     unfold jQc
     by_cases hyn:y=n
     ·simp[ha,hyn]
     ·have:y<n:=by omega
      simp[ha,hyn,this]
    rw[hEE] at hen6
    refine⟨_,jJl hen6,?_⟩
    refine jK9 (fun r=>T.bl (decide (dgr P n r+(jQc n (a,y)).count r<=d))) (by omega) (fun G' s=>jJl (s _ _ hen6)) ?_ ?_
    ·intro i r hr G7 K K0 s7 hK
     have hrn:=hEn r (lJo hr)
     wp_walk using 1,jKf (s7 _ _ (s6 _ _ hgu5)),kJ8 hrn,jK2 (s7 _ _ hen6),kZ9,s7 _ _ hen6,rLeF
     refine⟨rfl,kQ7,?_⟩
     rw[qZh,show decide (((dgr P n r:Nat):Int)+((jQc n (a,y)).count r:Nat)<=(d:Nat))=decide (dgr P n r+(jQc n (a,y)).count r<=d) from decide_eq_decide.mpr (by omega)]
     exact hK _ (.refl _)
    ·intro al G7 hal hal7 s7
     refine⟨al,_,_,rfl,hal7,jXr,_,rfl,?_⟩
     have s57:=s6.trans s7
     have hgp7:=s57 _ _ hgp5
     have hgu7:=s57 _ _ hgu5
     have henp:en≠pr:=(jJj hgp5 hen).symm
     have henu:en≠u:=(jJj hgu5 hen).symm
     have hkp7:Keep b G G7:=(hkp.trans kp35).trans (.sub s57)
     split
     ·rename_i hall
      rw[lQf] at hall
      refine⟨by rw[jK2 hgp7];trivial,_,hgp7,by simp;omega,_,jJl (by rw[jJu henp];exact s7 _ _ hen6),?_⟩
      refine bump (es:=jQc n (a,y)) (n:=n) (f:=dgr P n) (by rw[jJu hpu.symm];exact hgu7) (fun G' hG'=>jJl (by rw[hG' _ henu,jJu henp];exact s7 _ _ hen6)) hEn ?_
      intro G8 w7 hu8 hk8
      refine xi6 _ _ _ _ _ (P++[(a,y)]) rfl ⟨by simp;omega,⟨?_,?_,?_⟩,?_,?_,?_,?_⟩
      ·intro p hp
       rw[lJx,lJ1] at hp
       rcases hp with hp | rfl
       ·exact hP.ok p hp
       ·exact⟨ha,hy⟩
      ·intro r hr
       rw[jY4]
       by_cases hm:r∈jQc n (a,y)
       ·simpa using hall r hm
       ·rw[List.count_eq_zero_of_not_mem hm];exact hP.deg r hr
      ·intro r h1 h2
       obtain⟨p,q1,q2⟩:=hP.low r h1 h2
       exact⟨p,lKa _ q1,q2⟩
      ·rw[hu8,show (fun r=>dgr P n r+List.count r (jQc n (a,y)))=dgr (P++[(a,y)]) n from funext fun r=>by rw[jY4]]
      ·rw[hk8 pr hpu,jJh];simp[encE]
      ·obtain⟨x1,y1,w,z1,z2⟩:=(bx5.sub s57).mono (show m+n+2*k+1+1<=m+n+2*(k+1) by omega)
       exact⟨x1,y1,w,by rw[hk8 b hbu,jJu hbp];exact z1,z2⟩
      ·intro c o hc he
       have hcu:=jJj he hu0
       have hcp:=jJj he hpr0
       rw[hk8 c hcu,jJu hcp]
       exact hkp7 _ _ hc he
     ·exact xi6 _ _ _ _ _ P rfl ⟨by omega,hP,hgu7,hgp7,(bx5.sub s57).mono (by omega),hkp7⟩
  ·intro τ G3 h_;apply xe6 h_;clear h_;intro v7 v8 v9 v10 v11 P h_;apply ae6 h_;clear h_;intro hPl hP hgu hgp hbx hkp
   rw[jVb] at hPl hbx
   wp_walk using 1,tSeq
   refine⟨b,pr,P,n,_,rfl,hbx,by omega,hbp.symm,hgp,hP.ok,by omega,by omega,fun W G4 mw bx4 kp4=> ?_⟩
   exact kk W G4 (hP.web mw) (mw.num.mono (by omega)) (bx4.mono (by omega)) (hkp.trans kp4)
def Conn (W:Web):Prop:=∀S:Nat->Prop,S 0->(∀r i s j,S r->en W r i=some (s,j)->S s)->∀r,r<W.length->S r
theorem WebOk.conn {n d:Nat} {W:Web} (h:WebOk n d W):Conn W:=by
 intro S h0 hst r
 induction r using Nat.strongRecOn with
 | ind r ih=>
  intro hr
  by_cases hz:r=0
  ·subst hz;exact h0
  ·obtain⟨i,a,j,q1,q2⟩:=h.low r (by omega) (by rw[<-h.len];exact hr)
   exact hst a j r i (ih a q2 (by omega)) (h.sym _ _ _ _ q1)
theorem en_lt {W:Web} {r i:Nat} {e:Nat×Nat} (h:en W r i=some e):r<W.length:=by
 obtain⟨es,h1,h2⟩:=jQs h
 exact (lJi.mp h1).1
structure Fine (W:Web):Prop where
 len:W.length<=1000
 row:∀(r:Nat) (es:List (Nat×Nat)),W[r]? =some es->es.length<=1000
 rng:∀r i s j,en W r i=some (s,j)->s<W.length
theorem jKy {W:Web} {r:Nat} {es:List (Nat×Nat)} (h:W[r]? =some es):L2.atI (W.map encR) (r:Int)=some (encR es):=by rw[atN];simp[h]
theorem kK7 {es:List (Nat×Nat)} {i:Nat} {e:Nat×Nat} (h:es[i]? =some e):L2.atI (es.map encE) (i:Int)=some (encE e):=by rw[atN];simp[h]
theorem kQo {n k:Nat} {x:T} (h:(rngT 0 n)[k]? =some x):k<n/\x= .int (k:Nat):=kKh h
def leE (a b:Nat×Nat):Bool:=HT.lexLe [(a.1:Int),(a.2:Int)] [(b.1:Int),(b.2:Int)]
theorem kVn {a b:Nat×Nat}:leE a b=true↔(a.1<b.1\/(a.1=b.1/\a.2<=b.2)):=by
 unfold leE
 rw[HT.lexLe_cons,HT.lexLe_cons,HT.lexLe_nil]
 by_cases h1:a.1=b.1
 ·rw[lJc (by omega)]
  by_cases h2:a.2=b.2
  ·rw[lJc (by omega)];simp;omega
  ·rw[lJa (by omega)];simp;omega
 ·rw[lJa (by omega)];simp;omega
abbrev Tie:=(Nat×Nat)×(Nat×Nat)
def encT (x:Tie):T:= .tup [encE x.1,encE x.2]
def jUx (r:Nat) (es:List (Nat×Nat)) (i:Nat):Option Tie:=match es[i]? with
 | some e=>if leE (r,i) e=true then some ((r,i),e) else none
 | none=>none
def rowE (W:Web) (r:Nat):List Tie:=match W[r]? with
 | some es=>(List.range es.length).filterMap (jUx r es)
 | none=>[]
def jJv (W:Web):List Tie:=(List.range W.length).flatMap (rowE W)
theorem jVk {r i:Nat} {es:List (Nat×Nat)} {x:Tie} (h:jUx r es i=some x):x.1=(r,i)/\es[i]? =some x.2/\leE x.1 x.2=true:=by
 unfold jUx at h
 split at h
 ·rename_i e he
  split at h
  ·rename_i hl;cases h;exact⟨rfl,he,hl⟩
  ·cases h
 ·cases h
theorem endsL_mem {W:Web} {x:Tie}:x∈jJv W↔en W x.1.1 x.1.2=some x.2/\leE x.1 x.2=true:=by
 obtain⟨⟨r,i⟩,e⟩:=x
 unfold jJv
 rw[List.mem_flatMap]
 constructor
 ·rintro⟨r',h1,h2⟩
  unfold rowE at h2
  split at h2
  ·rename_i es hes
   rw[lQq] at h2
   obtain⟨i',h3,h4⟩:=h2
   obtain⟨q1,q2,q3⟩:=jVk h4
   cases q1
   exact⟨kK8 hes q2,q3⟩
  ·cases h2
 ·rintro⟨h1,h2⟩
  obtain⟨es,q1,q2⟩:=jQs h1
  refine⟨r,lKq.mpr (lJi.mp q1).1,?_⟩
  unfold rowE
  rw[q1]
  show _∈List.filterMap _ _
  rw[lQq]
  refine⟨i,lKq.mpr (lJi.mp q2).1,?_⟩
  have q2:es[i]? =some e:=q2
  unfold jUx
  rw[q2]
  show (if leE (r,i) e=true then _ else _)=_
  rw[lJc h2]
theorem pw_fm {α β:Type} {f:α->Option β} {R:β->β->Prop} {xs:List α} (hx:xs.Nodup) (h:∀a a' b b',a≠a'->f a=some b->f a'=some b'->R b b'):(xs.filterMap f).Pairwise R:=by
 rw[List.pairwise_filterMap]
 exact hx.imp fun hne b hb b' hb'=>h _ _ b b' hne hb hb'
theorem jV3 {W:Web}:(jJv W).Nodup:=by
 unfold jJv
 have h:∀l:List Nat,l.Nodup->(l.flatMap (rowE W)).Nodup:=by
  intro l hl
  induction l with
  | nil=>exact lXx
  | cons a as ih=>
   rw[lK0] at hl
   rw[List.flatMap_cons,lX0]
   refine⟨?_,ih hl.2,?_⟩
   ·unfold rowE
    split
    ·refine pw_fm List.nodup_range ?_
     rintro i i' x x' hne hx hx' rfl
     have q1:=(jVk hx).1
     have q2:=(jVk hx').1
     rw[q1] at q2;cases q2;exact hne rfl
    ·exact lXx
   ·intro x hx y hy
    rintro rfl
    rw[List.mem_flatMap] at hy
    obtain⟨a',h1,h2⟩:=hy
    have fst:∀r,x∈rowE W r->x.1.1=r:=by
     intro r hr
     unfold rowE at hr
     split at hr
     ·rw[lQq] at hr
      obtain⟨i,_,h4⟩:=hr
      rw[(jVk h4).1]
     ·cases hr
    have:a=a':=(fst a hx).symm.trans (fst a' h2)
    subst this;exact hl.1 h1
 exact h _ List.nodup_range
def jKw:Sp3:=fun xs G Q=>∃W:Web,xs=[encW W]/\Fine W/\∀p G',G p=none->G' p=some (.lst ((jJv W).map encT))->(jJv W).length<=1000000->Sub G G'->Q (.ref p) G'
def qVr:List Str:=["_law_web_here","_law_found","_law_room","_law_door"]
noncomputable def jZm:TS3:=
 (tSeq (tAsg (tLst tNil) (jJg 1))
 (tSeq (tFor (jQo (jJc (tCB rLen (jJc (tVar 0) tNil)) tNil)) (jJg 2) (tFor (jQo (jJc (tCB rLen (jJc (tOp rIxF (tVar 0) (tVar 2)) tNil)) tNil)) (jJg 3) (tIfS (jJ0 (tOp rLeF (tTup (jJc (tVar 2) (jJc (tVar 3) tNil))) (tOp rIxF (tOp rIxF (tVar 0) (tVar 2)) (tVar 3)))) (jVr (tBM "list" jKq (tVar 1) (jJc (tTup (jJc (tTup (jJc (tVar 2) (jJc (tVar 3) tNil))) (jJc (tOp rIxF (tOp rIxF (tVar 0) (tVar 2)) (tVar 3)) tNil))) tNil))) jKs)))
 (tRet (tVar 1))))
theorem kU3:RdOk jKw jZm qVr:=by
 intro xs G Q h_;apply xe1 h_;clear h_;intro W h_;apply ae2 h_;clear h_;intro fine kk
 show jZm _ [some (.tup (W.map encR)),none,none,none] G
 have hs:=sz
 have hl:=fine.len
 wp_walk using 1,jZm,jJz,jQo,List.length_map
 refine⟨lJu _,fun p hp=>⟨by omega,by omega,?_⟩⟩
 rw[show ((W.length:Int)).toNat=W.length by omega]
 refine⟨fun k τ G'=>∃(v2 v3:Option T),τ=[some (.tup (W.map encR)),some (.ref p),v2,v3]/\G' p=some (.lst (((List.range k).flatMap (rowE W)).map encT))/\((List.range k).flatMap (rowE W)).length<=1000*k/\Sub G G',?_,?_,?_,?_⟩
 ·exact⟨none,none,rfl,jJh,lJu _,.new hp⟩
 ·intros;trivial
 ·intro k x τ G1 hx h_;apply xe2 h_;clear h_;intro v2 v3 h_;apply ae3 h_;clear h_;intro h1 h2 h3
  obtain⟨hk,rfl⟩:=kQo hx
  have hW:W[k]? =some W[k]:=lJm hk
  generalize W[k]=es at hW
  have hes:=fine.row k es hW
  wp_walk using 1,jJz,jQo,jKy hW,encR,List.length_map
  refine⟨by omega,by omega,?_⟩
  rw[show ((es.length:Int)).toNat=es.length by omega]
  refine⟨fun i τ G'=>∃(v3:Option T),τ=[some (.tup (W.map encR)),some (.ref p),some (.int k),v3]/\G' p=some (.lst (((List.range k).flatMap (rowE W)++(List.range i).filterMap (jUx k es)).map encT))/\((List.range k).flatMap (rowE W)++(List.range i).filterMap (jUx k es)).length<=1000*k+i/\Sub G G',?_,?_,?_,?_⟩
  ·exact⟨v3,rfl,by simpa using h1,by simpa using h2,h3⟩
  ·intros;trivial
  ·intro i x τ G2 hx h_;apply xe1 h_;clear h_;intro v3 h_;apply ae3 h_;clear h_;intro i1 i2 i3
   obtain⟨hi,rfl⟩:=kQo hx
   have hE:es[i]? =some es[i]:=lJm hi
   generalize es[i]=e at hE
   wp_walk using 1,rLeF,jKy hW,encR,kK7 hE,encE,jK2 i1,i1
   refine⟨by omega,?_⟩
   have hle:HT.lexLe [(k:Int),(i:Int)] [(e.1:Int),(e.2:Int)]=leE (k,i) e:=rfl
   rw[hle]
   by_cases hc:leE (k,i) e=true
   ·have hcell:jUx k es i=some ((k,i),e):=by unfold jUx;rw[hE];show (if _ then _ else _)=_;rw[lJc hc]
    rw[lJc hc]
    refine⟨by omega,by omega,by rw[lJg];omega,?_,?_,i3.over hp⟩
    ·rw[lKx,lQu];simp[hcell,encT,encE]
    ·rw[lKx,lQu,lKb,lKb]
     rw[lKb] at i2
     simp[hcell] at i2 ⊢; omega
   ·have hcell:jUx k es i=none:=by unfold jUx;rw[hE];show (if _ then _ else _)=_;rw[lJa hc]
    rw[lJa hc]
    refine⟨?_,?_,i3⟩
    ·rw[lKx,lQu];simp[hcell]
    ·rw[lKx,lQu];simp[hcell];simp at i2;omega
  ·intro τ G' h_;apply xe1 h_;clear h_;intro v3 h_;apply ae3 h_;clear h_;intro i1 i2 i3
   rw[jVb] at i1 i2
   have e1:(List.range (k+1)).flatMap (rowE W)=(List.range k).flatMap (rowE W)++(List.range es.length).filterMap (jUx k es):=by
    rw[lKx,lX9]
    congr 1
    simp[rowE,hW]
   refine⟨_,_,rfl,by rw[e1];exact i1,by rw[e1];omega,i3⟩
 ·intro τ G1 h_;apply xe2 h_;clear h_;intro v2 v3 h_;apply ae3 h_;clear h_;intro h1 h2 h3
  rw[jVb] at h1 h2
  wp_walk using 1,tSeq
  exact kk p G1 hp h1 (by show ((List.range W.length).flatMap (rowE W)).length<=_;omega) h3
def jJ4 (F:List Nat):List T:=F.map fun e=>T.int (e:Nat)
theorem qU1 {F:List Nat} {r:Nat}:inT (.int r) (jJ4 F)=F.contains r:=by
 unfold inT jJ4
 rw[List.any_map,List.contains_eq_any_beq]
 congr 1
 funext e
 simp only[Function.comp,eqT]
 by_cases h:e=r
 ·subst h;simp
 ·have h2:¬ (e:Int)=r:=by omega
  have h3:¬ r=e:=fun z=>h z.symm
  rw[beq_eq_false_iff_ne.mpr h3,beq_eq_false_iff_ne.mpr h2]
theorem qU2 {G:Gp} {p:Addr} {F:List Nat} {r:Nat} (h:G p=some (.lst (jJ4 F))):inR G (.int r) (.ref p)=some (F.contains r):=by
 unfold inR
 rw[jJl h]
 show (if _ then _ else _)=_
 rw[lJc ⟨rfl,kQ7⟩,qU1]
theorem jQx:∀ {n:Nat} {F:List Nat} (hn:F.Nodup) (hl:∀x,x∈F->x<n),F.length<=n
 | 0,F,hn,hl=>by
  cases F with
  | nil=>exact lJh _
  | cons a as=>exact absurd (hl a (lJz)) (lKv _)
 | n+1,F,hn,hl=>by
  have h1:=jQx (n:=n) (hn.erase n) (fun x hx=>by
   rw[hn.mem_erase_iff] at hx
   have:=hl x hx.2;omega)
  by_cases h:n∈F
  ·rw[List.length_erase_of_mem h] at h1;omega
  ·rw[List.erase_of_not_mem h] at h1;omega
def Closed (W:Web) (S:Nat->Prop):Prop:=∀r i s j,S r->en W r i=some (s,j)->S s
structure Found (W:Web) (r0:Nat) (F:List Nat):Prop where
 nd:F.Nodup
 lt:∀x,x∈F->x<W.length
 got:∀S,S r0->Closed W S->∀x,x∈F->S x
def vis (F:List Nat) (es:List (Nat×Nat)):List Nat:=es.foldl (fun F e=>if F.contains e.1=true then F else F++[e.1]) F
def row (W:Web) (r:Nat):List (Nat×Nat):=(W[r]?).getD []
theorem kQn {W:Web} {r:Nat} {es:List (Nat×Nat)} (h:W[r]? =some es):row W r=es:=by unfold row;rw[h];rfl
theorem jYq {F:List Nat} {es:List (Nat×Nat)} {j:Nat} {e:Nat×Nat} (h:es[j]? =some e):vis F (es.take (j+1))=if (vis F (es.take j)).contains e.1=true then vis F (es.take j) else vis F (es.take j)++[e.1]:=by
 unfold vis
 rw[lQt,h,lYo];rfl
def bfsN (W:Web):Nat->Nat->List Nat->List Nat
 | 0,_,F=>F
 | n+1,k,F=>match F[k]? with
  | some r=>bfsN W n (k+1) (vis F (row W r))
  | none=>F
def bfs (W:Web) (r:Nat):List Nat:=bfsN W W.length 0 [r]
theorem jZ8 {W:Web} {n k:Nat} {F:List Nat} (h:F.length<=k):bfsN W n k F=F:=by
 cases n with
 | zero=>rfl
 | succ n=>rw[bfsN,lKi h]
theorem jZ7 {W:Web} {n k r:Nat} {F:List Nat} (h:F[k]? =some r):bfsN W (n+1) k F=bfsN W n (k+1) (vis F (row W r)):=by rw[bfsN,h]
noncomputable def jQu:Sp3:=fun xs G Q=>∃(W:Web) (r0:Nat),xs=[encW W,.int r0]/\Fine W/\r0<W.length/\∀p G' F,G p=none->G' p=some (.lst (jJ4 F))->Found W r0 F->F=bfs W r0->Sub G G'->Q (.ref p) G'
def kV2:List Str:=["_law_web_here","_law_room","_law_found","_law_at","_law_other","_law_door"]
noncomputable def jU2:TS3:=
 (tSeq (tAsg (tLst (jJc (tVar 1) tNil)) (jJg 2))
 (tSeq (tAsg (tC (.int 0)) (jJg 3))
 (tSeq (kQk (jJ0 (tOp rLt (tVar 3) (tCB rLen (jJc (tVar 2) tNil)))) (tSeq (tFor (iSeq (tOp rIxF (tVar 0) (tOp rIxF (tVar 2) (tVar 3)))) (gTup 2 (jJ3 (jJg 4) (jJ3 (jJg 5) gNil))) (tIfS (jJ0 (tOp jVc (tVar 4) (tVar 2))) (jVr (tBM "list" jKq (tVar 2) (jJc (tVar 4) tNil))) jKs))
 (tAsg (tOp jKe (tVar 3) (tC (.int 1))) (jJg 3))))
 (tRet (tVar 2)))))
theorem kJf:RdOk jQu jU2 kV2:=by
 intro xs G Q h_;apply xe2 h_;clear h_;intro W r0 h_;apply ae3 h_;clear h_;intro fine hr0 kk
 show jU2 _ [some (.tup (W.map encR)),some (.int r0),none,none,none,none] G
 have hs:=sz
 have hl:=fine.len
 wp_walk using 1,jU2,kQk,jJz
 refine⟨by omega,fun p hp=> ?_⟩
 refine⟨fun m τ G'=>∃(at':Nat) (v4 v5:Option T) (F:List Nat),τ=[some (.tup (W.map encR)),some (.int r0),some (.ref p),some (.int at'),v4,v5]/\G' p=some (.lst (jJ4 F))/\Found W r0 F/\Sub G G'/\bfs W r0=bfsN W (W.length-at') at' F/\m=W.length-at',⟨_,0,none,none,[r0],rfl,jJh,⟨by simp,by simpa using hr0,fun S h0 _ x hx=>by rw[lJ1] at hx;rw[hx];exact h0⟩,.new hp,rfl,rfl⟩,?_⟩
 intro m τ G1 h_;apply xe4 h_;clear h_;intro at' v4 v5 F h_;apply ae5 h_;clear h_;intro h1 h2 h3 hB e4_
 subst e4_
 wp_walk using 1,iSeq,jJl h1,jKf h1
 have hFl:=jQx h2.nd h2.lt
 split
 ·rename_i hc
  have hat:at'<F.length:=by rw[jJ4,lJg] at hc;omega
  have hF:F[at']? =some F[at']:=lJm hat
  have hfm:F[at']∈F:=List.getElem_mem hat
  generalize F[at']=r at hF hfm
  have hrW:=h2.lt r hfm
  have hW:W[r]? =some W[r]:=lJm hrW
  generalize W[r]=es at hW
  have hatI:L2.atI (jJ4 F) (at':Int)=some (.int r):=by rw[atN];simp[jJ4,hF]
  wp_walk using 1,hatI,jKy hW,encR
  refine⟨fun τ G'=>∃(v4 v5:Option T) (F:List Nat),τ=[some (.tup (W.map encR)),some (.int r0),some (.ref p),some (.int ((at'+1:Nat):Int)),v4,v5]/\G' p=some (.lst (jJ4 F))/\Found W r0 F/\Sub G G'/\bfs W r0=bfsN W (W.length-(at'+1)) (at'+1) F,?_,?_⟩
  ·intro τ' G' h_;apply xe3 h_;clear h_;intro v4 v5 F' h_;apply ae4 h_;clear h_;intro i1 i2 i3 iB
   exact⟨W.length-(at'+1),by omega,at'+1,v4,v5,rfl,F',i1,i2,i3,iB,rfl⟩
  ·refine⟨fun j τ G'=>∃(v4 v5:Option T) (F':List Nat),τ=[some (.tup (W.map encR)),some (.int r0),some (.ref p),some (.int at'),v4,v5]/\G' p=some (.lst (jJ4 F'))/\r∈F'/\Found W r0 F'/\Sub G G'/\F'=vis F (es.take j),?_,?_,?_,?_⟩
   ·exact⟨v4,v5,F,rfl,h1,hfm,h2,h3,rfl⟩
   ·intros;trivial
   ·intro j x τ G2 hx0 h_;apply xe3 h_;clear h_;intro v4 v5 F0 h_;apply ae5 h_;clear h_;intro i1 i2 i3 i4 iB
    obtain⟨⟨s,t⟩,hx,rfl⟩:=jKb hx0
    have hen:=kK8 hW hx
    wp_walk using 1,encE,jVc,qU2 i1,jK2 i1,i1
    by_cases hm:s∈F0
    ·rw[lJa (by simp[hm])]
     exact⟨F0,rfl,i2,i3,i4,by rw[jYq hx,<-iB,lJc (by simpa using hm)]⟩
    ·rw[lJc (by simp[hm])]
     have hFl:=jQx i3.nd i3.lt
     refine⟨by rw[jJ4,lJg];omega,F0++[s],by simp[jJ4],lKa _ i2,⟨?_,?_,?_⟩,i4.over hp,by rw[jYq hx,<-iB,lJa (by simpa using hm)]⟩
     ·rw[lX0];exact⟨i3.nd,by simp,fun a ha b hb=>by rw[lJ1] at hb;subst hb;rintro rfl;exact hm ha⟩
     ·intro x hx
      rw[lJx,lJ1] at hx
      rcases hx with hx | rfl
      ·exact i3.lt x hx
      ·exact fine.rng _ _ _ _ hen
     ·intro S h0 hc x hx
      rw[lJx,lJ1] at hx
      rcases hx with hx | rfl
      ·exact i3.got S h0 hc x hx
      ·exact hc _ _ _ _ (i3.got S h0 hc r i2) hen
   ·intro τ G' h_;apply xe3 h_;clear h_;intro v4 v5 F0 h_;apply ae5 h_;clear h_;intro i1 i2 i3 i4 iB
    wp_walk using 1,tSeq
    refine⟨by simp,F0,i1,i3,i4,?_⟩
    rw[lJg,lVg] at iB
    rw[hB,show W.length-at'=W.length-(at'+1)+1 by omega,jZ7 hF,kQn hW,<-iB]
 ·rename_i hc
  exact kk p G1 F hp h1 h2 (by rw[hB,jZ8 (by rw[jJ4,lJg] at hc;omega)]) h3
theorem kZj {W:Web} {t:Nat} {x:Tie} (h:(jJv W)[t]? =some x):en W x.1.1 x.1.2=some x.2/\leE x.1 x.2=true:=endsL_mem.mp (lJo h)
def cl (M:List (List T)) (x i:Nat):Option T:=(M[x]?).bind fun ts=>ts[i]?
def put (M:List (List T)) (x i:Nat) (v:T):List (List T):=match M[x]? with
 | some ts=>M.set x (ts.set i v)
 | none=>M
def dec:T->Nat×Nat
 | .tup [.int a,.int b]=>(a.toNat,b.toNat)
 | _=>(0,0)
theorem qKr {e:Nat×Nat}:dec (encE e)=e:=by obtain⟨a,b⟩:=e;simp[encE,dec]
theorem jZ2 {G:Gp} {e f:Nat×Nat}:eqG G (encE e) (encE f)=some (decide (e=f)):=by
 obtain⟨a,b⟩:=e;obtain⟨c,d⟩:=f
 rw[show eqG G (encE (a,b)) (encE (c,d))=some (eqT (encE (a,b)) (encE (c,d))) from rfl]
 congr 1
 simp only[encE,eqT,eqTs,Bool.and_true]
 by_cases h1:a=c
 ·by_cases h2:b=d
  ·simp[h1,h2]
  ·have:¬ (b:Int)=d:=by omega
   simp[h1,h2,this]
 ·have:¬ (a:Int)=c:=by omega
  simp[h1,this]
theorem jZ1 {G:Gp} {a c:Nat}:eqG G (.int a) (.int c)=some (decide (a=c)):=by
 rw[show eqG G (.int a) (.int c)=some (eqT (.int a) (.int c)) from rfl]
 congr 1
 simp only[eqT]
 by_cases h1:a=c
 ·simp[h1]
 ·have:¬ (a:Int)=c:=by omega
  simp[h1,this]
theorem WebOk.fine {n d:Nat} {W:Web} (h:WebOk n d W) (h2:n<=24) (h3:d<=6):Fine W:=⟨by rw[h.len];omega,fun r es hr=>by have:=h.deg r es hr;omega,fun r i s j he=>en_lt (h.sym _ _ _ _ he)⟩
theorem kXy {W:Web} {N:Nat} (sym:Sym W) (h:NumT W N):(jJv W).length<=N:=by
 obtain⟨t,ht⟩:=h
 have nd:((jJv W).map fun x=>t x.1.1 x.1.2).Nodup:=by
  rw[List.Nodup,lQ7]
  refine List.Pairwise.imp_of_mem (fun {x y} hx hy hxy e=> ?_) jV3
  obtain⟨x1,x2⟩:=endsL_mem.mp hx
  obtain⟨y1,y2⟩:=endsL_mem.mp hy
  have two:y.1=x.1->False:=by
   intro z
   rw[z,x1] at y1
   exact hxy (Prod.ext z.symm (lJn y1))
  rcases (ht _ _ _ x1).2 _ _ _ y1 e.symm with z | z
  ·exact two z
  ·have hb:en W x.2.1 x.2.2=some x.1:=sym _ _ _ _ x1
   rw[show y.1=x.2 from z] at y1 y2
   rw[hb] at y1
   have ey:x.1=y.2:=lJn y1
   rw[<-ey] at y2
   rw[kVn] at x2 y2
   have:x.1=x.2:=Prod.ext (by omega) (by omega)
   exact two (by rw[show y.1=x.2 from z,this])
 have:=jQx nd (n:=N) (fun v hv=>by
  obtain⟨x,hx,rfl⟩:=lJl.mp hv
  exact (ht _ _ _ (endsL_mem.mp hx).1).1)
 simpa using this
def absZ (v:Int):Int:=if v<0 then -v else v
def boxT (v k:Int):List T:=[.int (if 10^18<=absZ v then absZ v else 0),.int ((v%2147483647+7919*k+11)*48271%2147483629),.int 0]
theorem qZj {G:Gp} {b:Addr} {v k:Int} (h:G b=some (.lst (boxT v k))):BoxAt G b 0:=by
 refine⟨_,_,_,h,by unfold absZ;split<;>split<;>omega,lVv _ (by decide),?_,Int.le_refl _,by simp⟩
 have:=lVw ((v%2147483647+7919*k+11)*48271) (b:=2147483629) (by decide)
 omega
noncomputable def kKd:Sp3:=fun xs G Q=>∃(c:Addr) (ns:List Int) (k:Nat),xs=[.ref c,.int k]/\G c=some (.lst (jQb ns))/\ns.length<=63/\∀p G',G p=none->G' p=some (.lst (boxT (ns.getD k 0) k))->Sub G G'->Q (.ref p) G'
def qZp:List Str:=["_law_script","_law_k","_law_cell","_law_digits"]
noncomputable def kKq:TS3:=
 (tSeq (tAsg (tIf (jJ0 (tOp rLt (tVar 1) (tCB rLen (jJc (tVar 0) tNil)))) (tOp rIxF (tVar 0) (tVar 1)) (tC (.int 0))) (jJg 2))
 (tSeq (tAsg (tIf (jJ0 (tOp rGe (tCB rAbs (jJc (tVar 2) tNil)) (tOp rPow (tC (.int 10)) (tC (.int 18))))) (tCB rAbs (jJc (tVar 2) tNil)) (tC (.int 0))) (jJg 3))
 (tRet (tLst (jJc (tVar 3) (jJc (tOp rMod (tOp jZn (tOp jKe (tOp jKe (tOp rMod (tVar 2) (tC (.int 2147483647))) (tOp jZn (tC (.int 7919)) (tVar 1))) (tC (.int 11))) (tC (.int 48271))) (tC (.int 2147483629))) (jJc (tC (.int 0)) tNil)))))))
theorem kYe:RdOk kKd kKq qZp:=by
 intro xs G Q h_;apply xe3 h_;clear h_;intro c ns k h_;apply ae3 h_;clear h_;intro hc hl kk
 show kKq _ [some (.ref c),some (.int k),none,none] G
 have hs:=sz
 have fin:∀v:Int,v=ns.getD k 0->∀x,x=(if 10^18<=absZ v then absZ v else 0)->0<(2147483647:Int)/\L2.CMul 7919 k/\L2.CMul (v%2147483647+7919*k+11) 48271/\0<(2147483629:Int)/\3<=sizeLine/\∀p,G p=none->Q (.ref p) (gup G p (.lst [.int x,.int ((v%2147483647+7919*k+11)*48271%2147483629),.int 0])):=by
  rintro v rfl x rfl
  exact⟨by decide,.inl (by decide),.inr (by decide),by decide,by omega,fun p hp=>kk p _ hp jJh (.new hp)⟩
 have both:∀v:Int,v=ns.getD k 0->(if (10:Int)^Int.toNat 18<=(if v<0 then -v else v) then (0<(2147483647:Int)/\L2.CMul 7919 k/\L2.CMul (v%2147483647+7919*k+11) 48271/\0<(2147483629:Int)/\3<=sizeLine/\∀p,G p=none->Q (.ref p) (gup G p (.lst [.int (if v<0 then -v else v),.int ((v%2147483647+7919*k+11)*48271%2147483629),.int 0]))) else (0<(2147483647:Int)/\L2.CMul 7919 k/\L2.CMul (v%2147483647+7919*k+11) 48271/\0<(2147483629:Int)/\3<=sizeLine/\∀p,G p=none->Q (.ref p) (gup G p (.lst [.int 0,.int ((v%2147483647+7919*k+11)*48271%2147483629),.int 0])))):=by
  intro v hv
  by_cases h:10^18<=absZ v
  ·rw[lJc (show (10:Int)^Int.toNat 18<=(if v<0 then -v else v) from h)]
   exact fin v hv _ (by rw[lJc h];rfl)
  ·rw[lJa (show ¬ (10:Int)^Int.toNat 18<=(if v<0 then -v else v) from h)]
   exact fin v hv _ (by rw[lJa h])
 wp_walk using 1,kKq,jJl hc,List.length_map,jKf hc
 by_cases hk:k<ns.length
 ·rw[lJc (by omega)]
  have hv:ns[k]? =some ns[k]:=lJm hk
  have hg:ns[k]=ns.getD k 0:=by rw[List.getD,hv];rfl
  have b:=both ns[k] hg
  refine⟨.int ns[k],by rw[atN,lKr,hv];rfl,_,rfl,⟨by decide,by decide,by decide⟩,?_⟩
  generalize ns[k]=v at b
  by_cases h:(10:Int)^Int.toNat 18<=(if v<0 then -v else v)
  ·rw[lJc h] at b ⊢
   exact⟨v,rfl,v,rfl,b⟩
  ·rw[lJa h] at b ⊢
   exact⟨v,rfl,b⟩
 ·rw[lJa (by omega)]
  exact⟨⟨by decide,by decide,by decide⟩,both 0 (by rw[List.getD,lKi (by omega)];rfl)⟩
noncomputable def jUk:Sp3:=fun xs G Q=>∃(ns:List Int) (m:Int),xs=[.scr (jQb ns),.int m]/\ns.length<=63/\1<=m/\m<=63/\∀D rs G',G D=none->G' D=some (.lst (rs.map T.ref))->rs.length<=63->(D::rs).Nodup->(∀r,r∈rs->BoxAt G' r 0)->Sub G G'->Q (.ref D) G'
def kY0:List Str:=["_law_script","_law_many","_law_cells","_law_k","_law_cell"]
noncomputable def jVy:TS3:=
 (tSeq (tAsg (tCB jZp (jJc (tSl rSlF (tVar 0) jQ0 (jYe (tVar 1))) tNil)) (jJg 2))
 (tSeq (tFor (kKy (jJc (tSl rSlF (tVar 0) (jYe (tVar 1)) (jYe (tC (.int 63)))) tNil)) (gTup 2 (jJ3 (jJg 3) (jJ3 (jJg 4) gNil))) (tAsg (tOp jKe (tOp rIxF (tVar 2) (tOp rMod (tVar 3) (tVar 1))) (tOp jZn (tVar 4) (tOp jKe (tVar 3) (tC (.int 2))))) (gSub (tVar 2) (tOp rMod (tVar 3) (tVar 1)) jXe)))
 (tRet (jQj [false,false,false,true,false] (jQo (jJc (tCB rMax (jJc (tC (.int 1)) (jJc (tCB rLen (jJc (tVar 2) tNil)) tNil))) tNil)) (jJg 3) jVl (jJs kKd (jJc (tVar 2) (jJc (tVar 3) tNil)))))))
theorem kKn:RdOk jUk jVy kY0:=by
 intro xs G Q h_;apply xe2 h_;clear h_;intro ns m h_;apply ae4 h_;clear h_;intro hl hm1 hm2 kk
 show jVy _ [some (.scr (jQb ns)),some (.int m),none,none,none] G
 have hs:=sz
 wp_walk using 1,jVy,tSl,rSlF,slR,jQ0,jYe,jZp,jZo,jJz,kKy
 intro p hp p1 hp1
 obtain⟨hpp,hp10⟩:=jVi hp1
 intro q hq
 obtain⟨hq1,hq2⟩:=jVi hq
 obtain⟨hqp,hq0⟩:=jVi hq2
 obtain⟨cs,hcs,lcs⟩:∃cs:List Int,cutT (jQb ns) none (some m)=jQb cs/\cs.length=min m.toNat ns.length:=by
  refine⟨ns.take (min m.toNat ns.length),?_,by simp⟩
  simp only[cutT,HT.sIx,lJg,lXl,Nat.sub_zero]
  rw[lJa (by omega)]
  simp[List.map_take]
 obtain⟨rs,hrs,lrs⟩:∃rs:List Int,cutT (jQb ns) (some m) (some 63)=jQb rs/\(rs.length<=63/\(0<rs.length->m.toNat<=ns.length)):=by
  refine⟨(ns.drop (min m.toNat ns.length)).take (min 63 ns.length-min m.toNat ns.length),?_,?_,?_⟩
  ·simp only[cutT,HT.sIx,lJg]
   simp only[show ¬ m<0 by omega,show ¬ (63:Int)<0 by decide,lKd]
   simp[List.map_take,List.map_drop]
  ·simp;omega
  ·simp;omega
 rw[hcs,hrs]
 refine⟨jQb rs,by simp only[jKc,jJh,asL],?_⟩
 refine⟨fun i τ G'=>∃(v3 v4:Option T) (ms:List Int),τ=[some (.scr (jQb ns)),some (.int m),some (.ref p1),v3,v4]/\G' p1=some (.lst (jQb ms))/\ms.length=cs.length/\G' q=some (.lst (jQb rs))/\Sub G G',?_,?_,?_,?_⟩
 ·refine⟨none,none,cs,rfl,by rw[jJu hq1.symm,jJh],rfl,jJh,(((Sub.new hp).over hp10).over hq0)⟩
 ·intro i τ G' hi h_;apply xe3 h_;clear h_;intro v3 v4 ms h_;apply ae4 h_;clear h_;intro h1 h2 h3 h4
  simp only[jKc,h3,asL]
 ·intro i x τ G' hx h_;apply xe3 h_;clear h_;intro v3 v4 ms h_;apply ae4 h_;clear h_;intro h1 h2 h3 h4
  have hi:i<rs.length:=by have:=(lJi.mp hx).1;simpa[jJ8] using this
  have hri:(jQb rs)[i]? =some (.int rs[i]):=by simp[hi]
  rw[jVd hri] at hx
  cases hx
  have hml:=lrs.2 (by omega)
  have hk0:(0:Int)<=(i:Int)%m:=lVv _ (by omega)
  have hk1:(i:Int)%m<m:=lVw _ (by omega)
  have hk:((i:Int)%m).toNat<ms.length:=by omega
  have hat:L2.atI (jQb ms) ((i:Int)%m)=some (.int ms[((i:Int)%m).toNat]):=by rw[atZ hk0];simp[hk]
  have hix:L2.ixN (jQb ms).length ((i:Int)%m)=some ((i:Int)%m).toNat:=ixZ hk0 (by simp;omega)
  wp_walk using 1,jKf h1,hat,kKg h1 hix
  refine⟨by omega,.inr ⟨by omega,by omega⟩,by omega,?_⟩
  exact⟨ms.set ((i:Int)%m).toNat (ms[((i:Int)%m).toNat]+rs[i]*((i:Int)+2)),by simp[jQb,List.map_set],by simpa using h2,by rw[jJu hq1];exact h3,h4.over hp10⟩
 ·intro τ G' h_;apply xe3 h_;clear h_;intro v3 v4 ms h_;apply ae4 h_;clear h_;intro h1 h2 h3 h4
  have hm:ms.length<=63:=by omega
  wp_walk using 1,jQo,rMax,jJl h1
  obtain⟨N,hN,hN2⟩:∃N:Nat,(if ((jQb ms).length:Int)>1 then ((jQb ms).length:Int) else 1)=(N:Int)/\N<=63:=by
   refine⟨(if ((jQb ms).length:Int)>1 then ((jQb ms).length:Int) else 1).toNat,?_,?_⟩<;>rw[lJg]<;>split<;>omega
  rw[hN]
  refine⟨by omega,by omega,?_⟩
  rw[show ((N:Nat):Int).toNat=N by omega,jV9]
  refine jX5 (fun k:Nat=>boxT (ms.getD k 0) k) (by simp;omega) (fun _ _=>trivial) ?_ ?_
  ·intro i k hk G2 K K0 s hK
   wp_walk using 1,tSeq
   exact⟨p1,ms,k,rfl,s _ _ h1,hm,fun p G4 hp h4 s4=>hK p G4 hp h4 s4⟩
  ·intro E rs G2 hE hE2 s2 hrl hnd hrs
   rw[lVh] at hrl
   refine kk E rs G2 (h4.none hE) hE2 (by omega) hnd (fun r hr=> ?_) (h4.trans s2)
   obtain⟨j,hj⟩:=lJ6 hr
   have hjl:j<rs.length:=(lJi.mp hj).1
   exact qZj (hrs j r j hj (by rw[lX4 (by omega)])).2
theorem kUm {kvs:List (L2.Key×T)} {k:L2.Key}:(valT kvs k).isSome=true↔k∈kvs.map Prod.fst:=by
 unfold valT
 rw[Option.isSome_map,List.find?_isSome,lJl]
 exact⟨fun ⟨a,h1,h2⟩=>⟨a,h1,by simpa using h2⟩,fun ⟨a,h1,h2⟩=>⟨a,h1,by simpa using h2⟩⟩
def keyN (x:Nat):L2.Key:= .inl (x:Nat)
theorem kXk {F:List Nat} {x:Nat}:keyN x∈F.map keyN↔x∈F:=by
 rw[lJl]
 refine⟨fun ⟨a,ha,e⟩=> ?_,fun h=>⟨x,h,rfl⟩⟩
 have e1:(Sum.inl (a:Int):L2.Key)=Sum.inl (x:Int):=e
 have:(a:Int)=x:=by injection e1
 have:a=x:=by omega
 exact this▸ha
theorem qYv {G:Gp} {d:Addr} {kvs:List (L2.Key×T)} {F:List Nat} {x:Nat} (h:G d=some (.dck kvs)) (hk:kvs.map Prod.fst=F.map keyN):inR G (.int (x:Nat)) (.ref d)=some (decide (x∈F)):=by
 have e1:seqT G (.ref d)=none:=by simp only[seqT,h];rfl
 have e2:dAt G (.ref d) (.int (x:Nat))=some (valT kvs (keyN x)):=by simp only[dAt,h,jUv];rfl
 unfold inR
 simp only[e1,e2]
 congr 1
 rw[Bool.eq_iff_iff,kUm,hk,kXk];simp
theorem qQ2 {kvs:List (L2.Key×T)} {k:L2.Key} {v:T} (h:k∉kvs.map Prod.fst):putT kvs k v=kvs++[(k,v)]:=by
 unfold putT
 rw[lJa]
 rw[List.any_eq_true]
 rintro⟨a,ha,e⟩
 exact h (lJl.mpr ⟨a,ha,by simpa using e⟩)
theorem qQq {G:Gp} {d:Addr} {kvs:List (L2.Key×T)} {x:Nat} {v:T} (h:G d=some (.dck kvs)) (hz:kvs.length<sizeLine):setR G (.ref d) (.int (x:Nat)) v=some (gup G d (.dck (putT kvs (keyN x) v))):=by
 simp only[setR,h,jUv]
 rw[lJc hz];rfl
theorem kKv {xs:List T} {j:Nat} {y:T} (h:(numT xs)[j]? =some y):∃x,xs[j]? =some x/\y= .tup [.int j,x]:=by
 have hj:j<xs.length:=by have:=(lJi.mp h).1;rwa [jJ8] at this
 refine⟨xs[j],lJm hj,?_⟩
 rw[jVd (lJm hj)] at h
 cases h;rfl
theorem qQk {G G':Gp} (h:Sub G G') {p:Addr} (hp:G' p=none):G p=none:=by
 cases e:G p with
 | none=>rfl
 | some o=>rw[h _ _ e] at hp;cases hp
structure OkD (d:Nat) (x:T):Prop where
 tr:tree x=true
 lay:(td x).canLay0=true
 dep:(td x).depth<=d
 eq:eqT x x=true
theorem okD_int {i:Int}:OkD 0 (.int i):=⟨rfl,rfl,Nat.le_of_eq (by simp[td,PyData.depth]),by simp[eqT]⟩
theorem kVf {d:Nat}:∀xs:List T,(∀x,x∈xs->OkD d x)->jQd xs=true/\PyData.canLayAll0 (tds xs)=true/\PyData.depthAll (tds xs)<=d/\eqTs xs xs=true
 | [],_=>⟨rfl,by simp[tds,PyData.canLayAll0],by simp[tds,PyData.depthAll],rfl⟩
 | x::xs,h=>by
  obtain⟨a1,a2,a3,a4⟩:=kVf xs fun y hy=>h y (lJ4 _ hy)
  obtain⟨b1,b2,b3,b4⟩:=h x (lJz ..)
  refine⟨?_,?_,?_,?_⟩
  ·show (tree x&&jQd xs)=true;rw[a1,b1];rfl
  ·rw[tds,PyData.canLayAll0,a2,b2];rfl
  ·rw[tds,PyData.depthAll];omega
  ·show (eqT x x&&eqTs xs xs)=true;rw[a4,b4];rfl
theorem jV0 {d:Nat} {xs:List T} (h:∀x,x∈xs->OkD d x):OkD (d+1) (.tup xs):=by
 obtain⟨a1,a2,a3,a4⟩:=kVf xs h
 exact⟨a1,by rw[td,PyData.canLay0];exact a2,by rw[td,PyData.depth];omega,a4⟩
theorem okD_web {W:Web}:OkD 3 (encW W):=by
 refine jV0 fun x hx=> ?_
 obtain⟨es,_,rfl⟩:=lJl.mp hx
 refine jV0 fun x hx=> ?_
 obtain⟨e,_,rfl⟩:=lJl.mp hx
 refine jV0 fun x hx=> ?_
 simp only[lJr,lJk,lJ0] at hx
 rcases hx with rfl | rfl<;>exact okD_int
theorem OkD.mono {d d':Nat} {x:T} (h:OkD d x) (l:d<=d'):OkD d' x:=⟨h.tr,h.lay,lKf h.dep l,h.eq⟩
theorem qUa {w:List Nat}:OkD 1 (.tup (jJ4 w)):=jV0 fun x hx=>by
 obtain⟨e,_,rfl⟩:=lJl.mp hx;exact okD_int
theorem qX9 {xs:List T} (h:∀x,x∈xs->OkD 40 x):kK6 xs=true:=by
 obtain⟨a1,a2,a3,_⟩:=kVf xs h
 unfold kK6
 rw[a1,a2,lJ3 (show (PyData.list (tds xs)).depth<=50 by rw[PyData.depth];omega)];rfl
theorem vis_sub {F:List Nat} {es:List (Nat×Nat)}:(∃E,vis F es=F++E)/\(∀e,e∈es->e.1∈vis F es)/\(∀x,x∈vis F es->x∈F\/∃e,e∈es/\e.1=x)/\(F.Nodup->(vis F es).Nodup):=by
 induction es generalizing F with
 | nil=>exact⟨⟨[],by simp[vis]⟩,by simp,fun x h=> .inl h,fun h=>h⟩
 | cons e es ih=>
  have hv:vis F (e::es)=vis (if F.contains e.1=true then F else F++[e.1]) es:=rfl
  rw[hv]
  by_cases h:F.contains e.1=true
  ·rw[lJc h]
   obtain⟨⟨E,i1⟩,i2,i3,i4⟩:=ih (F:=F)
   refine⟨⟨E,i1⟩,fun d hd=> ?_,fun x hx=> ?_,i4⟩
   ·rcases (lJk.mp hd) with rfl | hde
    ·rw[i1];exact lKa _ (by simpa using h)
    ·exact i2 d hde
   ·rcases i3 x hx with h | ⟨d,hd,e⟩
    ·exact .inl h
    ·exact .inr ⟨d,lJ4 _ hd,e⟩
  ·rw[lJa h]
   obtain⟨⟨E,i1⟩,i2,i3,i4⟩:=ih (F:=F++[e.1])
   refine⟨⟨e.1::E,by rw[i1];simp⟩,fun d hd=> ?_,fun x hx=> ?_,fun hn=>i4 ?_⟩
   ·rcases (lJk.mp hd) with rfl | hde
    ·rw[i1];exact lKa _ (by simp)
    ·exact i2 d hde
   ·rcases i3 x hx with h | ⟨d,hd,e'⟩
    ·rcases (lJx.mp h) with h | hs
     ·exact .inl h
     ·exact .inr ⟨e,lJz ..,(lJ1.mp hs).symm⟩
    ·exact .inr ⟨d,lJ4 _ hd,e'⟩
   ·rw[lX0]
    exact⟨hn,by simp,fun a ha b hb=>by rw[lJ1] at hb;subst hb;rintro rfl;exact h (by simpa using ha)⟩
structure Bfs (W:Web) (k:Nat) (F:List Nat):Prop where
 nd:F.Nodup
 lt:∀x,x∈F->x<W.length
 near:∀(i x:Nat) (e:Nat×Nat),i<k->F[i]? =some x->e∈row W x->e.1∈F
theorem qXy {W:Web} {x:Nat} {e:Nat×Nat} (h:e∈row W x):∃i,en W x i=some e:=by
 unfold row at h
 cases hW:W[x]? with
 | none=>rw[hW] at h;simp at h
 | some es=>
  rw[hW] at h
  obtain⟨i,hi⟩:=lJ6 (show e∈es from h)
  exact⟨i,kK8 hW hi⟩
theorem Bfs.step {W:Web} (f:Fine W) {k r:Nat} {F:List Nat} (h:Bfs W k F) (hr:F[k]? =some r):Bfs W (k+1) (vis F (row W r)):=by
 obtain⟨⟨E,e1⟩,e2,e3,e4⟩:=vis_sub (F:=F) (es:=row W r)
 refine⟨e4 h.nd,fun x hx=> ?_,fun i x e hi hx he=> ?_⟩
 ·rcases e3 x hx with hx | ⟨e,he,rfl⟩
  ·exact h.lt x hx
  ·obtain⟨i,hi⟩:=qXy he
   exact f.rng _ _ e.1 e.2 hi
 ·have hkl:k<F.length:=(lJi.mp hr).1
  have hx':F[i]? =some x:=by rw[e1,lK1 (by omega)] at hx;exact hx
  rcases lQw (lQ6 hi) with h1 | rfl
  ·rw[e1];exact lKa _ (h.near i x e h1 hx' he)
  ·rw[hr] at hx';cases hx';exact e2 e he
theorem Bfs.run {W:Web} (f:Fine W):∀(n k:Nat) (F:List Nat),Bfs W k F->W.length<=n+k->k<=F.length->(∃E,bfsN W n k F=F++E)/\Bfs W (bfsN W n k F).length (bfsN W n k F)
 | 0,k,F,h,hl,hk=>by
  have hF:=jQx h.nd h.lt
  have:k=F.length:=by omega
  subst this
  exact⟨⟨[],by simp[bfsN]⟩,h⟩
 | n+1,k,F,h,hl,hk=>by
  rcases lQn k F.length with hlt | hge
  ·have hr:F[k]? =some F[k]:=lJm hlt
   rw[jZ7 hr]
   obtain⟨⟨E,e1⟩,e2,e3,e4⟩:=vis_sub (F:=F) (es:=row W F[k])
   obtain⟨⟨E',h1⟩,h2⟩:=Bfs.run f n (k+1) _ (h.step f hr) (by omega) (by rw[e1,lKb];omega)
   exact⟨⟨E++E',by rw[h1,e1,lJq]⟩,h2⟩
  ·have:k=F.length:=by omega
   subst this
   rw[jZ8 (lJh _)]
   exact⟨⟨[],by simp⟩,h⟩
theorem bfs_ok {W:Web} (f:Fine W) {r:Nat} (hr:r<W.length):(∃E,bfs W r=r::E)/\Bfs W (bfs W r).length (bfs W r):=
 Bfs.run f W.length 0 [r] ⟨by simp,by simpa using hr,fun i x e hi=>absurd hi (lKv _)⟩ (by omega) (by simp)
structure Order (W:Web) (r:Nat) (F:List Nat):Prop where
 nd:F.Nodup
 lt:∀x,x∈F->x<W.length
 all:∀x,x<W.length->x∈F
 first:F[0]? =some r
theorem qK2 {W:Web} (f:Fine W) (sym:Sym W) (c:Conn W) {r:Nat} (hr:r<W.length):Order W r (bfs W r):=by
 obtain⟨⟨E,e1⟩,h⟩:=bfs_ok f hr
 have cl:∀x i s j,x∈bfs W r->en W x i=some (s,j)->s∈bfs W r:=by
  intro x i s j hx he
  obtain⟨k,hk⟩:=lJ6 hx
  have hkl:=(lJi.mp hk).1
  refine h.near k x (s,j) hkl hk ?_
  have he':=he
  unfold en at he'
  cases hW:W[x]? with
  | none=>rw[hW] at he';cases he'
  | some es=>rw[hW] at he';rw[kQn hW];exact lJo (show es[i]? =_ from he')
 have hrF:r∈bfs W r:=by rw[e1];exact lJz ..
 have h0:0∈bfs W r:=c (fun x=>x∈bfs W r->0∈bfs W r) (fun h=>h) (fun x i s j hx he hs=>hx (cl s j x i hs (sym _ _ _ _ he))) r hr hrF
 exact⟨h.nd,h.lt,fun x hx=>c (fun x=>x∈bfs W r) h0 (fun x i s j h he=>cl x i s j h he) x hx,by rw[e1];rfl⟩
theorem kX0:∀(n:Nat) (F:List Nat),(∀x,x<n->x∈F)->n<=F.length
 | 0,_,_=>lJu _
 | n+1,F,h=>by
  have hn:=h n (Nat.lt_succ_self _)
  have h1:=kX0 n (F.erase n) fun x hx=>(List.mem_erase_of_ne (by omega)).mpr (h x (by omega))
  rw[List.length_erase_of_mem hn] at h1
  have:=List.length_pos_of_mem hn
  omega
theorem Order.len {W:Web} {r:Nat} {F:List Nat} (h:Order W r F):F.length=W.length:=by
 have h1:=jQx h.nd h.lt
 exact Nat.le_antisymm h1 (kX0 _ _ h.all)
theorem vis_lt {W:Web} (f:Fine W) {F:List Nat} {x:Nat} {es:List (Nat×Nat)} (hx:W[x]? =some es) (hF:∀y,y∈F->y<W.length) (j:Nat):∀y,y∈vis F (es.take j)->y<W.length:=by
 intro y hy
 rcases (vis_sub (F:=F) (es:=es.take j)).2.2.1 y hy with h | ⟨e,he,rfl⟩
 ·exact hF y h
 ·obtain⟨i,hi⟩:=lJ6 (lQi he)
  exact f.rng x i e.1 e.2 (kK8 hx hi)
noncomputable def jQe:Sp3:=fun xs G Q=>∃(W:Web) (r0:Nat),xs=[encW W,.int r0]/\Fine W/\r0<W.length/\∀d G' kvs,G d=none->G' d=some (.dck kvs)->kvs.map Prod.fst=(bfs W r0).map keyN->Sub G G'->Q (.ref d) G'
def kJb:List Str:=["web","room","comings","level","further","here","door","end"]
noncomputable def jQg:TS3:=
 (tSeq (tAsg (kZn (tVar 1) (tC .non)) (jJg 2))
 (tSeq (tAsg (tLst (jJc (tVar 1) tNil)) (jJg 3))
 (tSeq (kQk (tTru rTru (tVar 3)) (tSeq (tAsg (tLst tNil) (jJg 4))
 (tSeq (tFor (iSeq (tVar 3)) (jJg 5) (tFor (iEnT (jJc (tOp rIxF (tVar 0) (tVar 5)) tNil)) (gTup 2 (jJ3 (jJg 6) (jJ3 (jJg 7) gNil))) (tIfS (jJ0 (tOp jVc (tOp rIxF (tVar 7) (tC (.int 0))) (tVar 2))) (tSeq (tAsg (tTup (jJc (tVar 5) (jJc (tVar 6) tNil))) (gSub (tVar 2) (tOp rIxF (tVar 7) (tC (.int 0))) jXe))
 (jVr (tBM "list" jKq (tVar 4) (jJc (tOp rIxF (tVar 7) (tC (.int 0))) tNil)))) jKs)))
 (tAsg (tVar 4) (jJg 3)))))
 (tRet (tVar 2)))))
theorem jXd:RdOk jQe jQg kJb:=by
 intro xs G Q h_;apply xe2 h_;clear h_;intro W r0 h_;apply ae3 h_;clear h_;intro fine hr0 kk
 show jQg _ [some (.tup (W.map encR)),some (.int r0),none,none,none,none,none,none] G
 have hs:=sz
 have hl:=fine.len
 wp_walk using 1,jQg,kQk,jJz,kZn,iSeq,iEnT
 intro d hd
 refine⟨keyN r0,rfl,by omega,fun l hl0=> ?_⟩
 have hdl:d≠l:=jJj (jJh (G:=G) (a:=d) (o:= .dck [(keyN r0,T.non)])) hl0
 refine⟨fun m τ G'=>∃(a:Nat) (l:Addr) (v4 v5 v6 v7:Option T) (F:List Nat) (kvs:List (L2.Key×T)),τ=[some (.tup (W.map encR)),some (.int r0),some (.ref d),some (.ref l),v4,v5,v6,v7]/\d≠l/\G l=none/\G' d=some (.dck kvs)/\kvs.map Prod.fst=F.map keyN/\G' l=some (.lst (jJ4 (F.drop a)))/\a<=F.length/\Bfs W a F/\bfs W r0=bfsN W (W.length-a) a F/\Sub G G'/\m=W.length-a,?_,?_⟩
 ·refine⟨_,0,l,none,none,none,none,[r0],[(keyN r0,T.non)],rfl,hdl,?_,?_,rfl,jJh,lJu _,⟨by simp,by simpa using hr0,fun i x e hi=>absurd hi (lKv _)⟩,rfl,(Sub.new hd).trans (.new hl0),rfl⟩
  ·rw[jJu hdl.symm] at hl0;exact hl0
  ·rw[jJu hdl];exact jJh
 intro m τ G1 h_;apply xe8 h_;clear h_;intro a l v4 v5 v6 v7 F kvs h_;apply ae10 h_;clear h_;intro hdl hl0 h1 hk h2 haF hB hb hs1 e9_
 subst e9_
 have hFl:=jQx hB.nd hB.lt
 wp_walk using 1,h2
 split
 ·rename_i hne
  have haF':a<F.length:=by
   rcases lQn a F.length with z | z
   ·exact z
   ·rw[lVj z] at hne;simp[jJ4] at hne
  refine⟨fun τ' G'=>∃(l':Addr) (v4 v5 v6 v7:Option T) (F':List Nat) (kvs':List (L2.Key×T)),τ'=[some (.tup (W.map encR)),some (.int r0),some (.ref d),some (.ref l'),v4,v5,v6,v7]/\d≠l'/\G l'=none/\G' d=some (.dck kvs')/\kvs'.map Prod.fst=F'.map keyN/\G' l'=some (.lst (jJ4 (F'.drop F.length)))/\F.length<=F'.length/\Bfs W F.length F'/\bfs W r0=bfsN W (W.length-F.length) F.length F'/\Sub G G',?_,by omega,fun p hp=> ?_⟩
  ·intro τ' G' h_;apply xe7 h_;clear h_;intro l' v4 v5 v6 v7 F' kvs' h_;apply ae9 h_;clear h_;intro i1 i2 i3 i4 i5 i6 i7 i8 i9
   exact⟨W.length-F.length,by omega,F.length,l',v4,v5,v6,v7,rfl,i1,i2,F',kvs',i3,i4,i5,i6,i7,i8,i9,rfl⟩
  ·have hpd:d≠p:=jJj h1 hp
   have hpl:l≠p:=jJj h2 hp
   have hp0:=qQk hs1 hp
   refine⟨jJ4 (F.drop a),jJl (by rw[jJu hpl];exact h2),?_⟩
   refine⟨fun i τ G'=>∃(v5 v6 v7:Option T) (F':List Nat) (kvs':List (L2.Key×T)),τ=[some (.tup (W.map encR)),some (.int r0),some (.ref d),some (.ref l),some (.ref p),v5,v6,v7]/\G' d=some (.dck kvs')/\kvs'.map Prod.fst=F'.map keyN/\G' l=some (.lst (jJ4 (F.drop a)))/\G' p=some (.lst (jJ4 (F'.drop F.length)))/\(∃E,F'=F++E)/\Bfs W (a+i) F'/\bfs W r0=bfsN W (W.length-(a+i)) (a+i) F'/\Sub G G',?_,?_,?_,?_⟩
   ·exact⟨v5,v6,v7,F,kvs,rfl,by rw[jJu hpd];exact h1,hk,by rw[jJu hpl];exact h2,by rw[List.drop_length];exact jJh,⟨[],by simp⟩,hB,hb,hs1.trans (.new hp)⟩
   ·intro i τ G' hi h_;apply xe5 h_;clear h_;intro v5 v6 v7 F' kvs' h_;apply ae8 h_;clear h_;intro j1 jk j2 j3 jE jB jb js
    exact jJl j2
   ·intro i y τ G2 hy h_;apply xe5 h_;clear h_;intro v5 v6 v7 F' kvs' h_;apply ae8 h_;clear h_;intro j1 jk j2 j3 q4_ jB jb js
    obtain⟨E,jE⟩:=q4_
    obtain⟨x,hx,rfl⟩:=jKb hy
    rw[lXk] at hx
    have hai:a+i<F.length:=(lJi.mp hx).1
    have hx':F'[a+i]? =some x:=by rw[jE,lK1 hai];exact hx
    have hxW:=jB.lt x (lJo hx')
    have hW:W[x]? =some W[x]:=lJm hxW
    generalize W[x]=es at hW
    wp_walk using 1,iEnT,jKy hW,encR,jJz
    refine⟨fun j τ G'=>∃(v6 v7:Option T) (F2:List Nat) (kvs2:List (L2.Key×T)),τ=[some (.tup (W.map encR)),some (.int r0),some (.ref d),some (.ref l),some (.ref p),some (.int x),v6,v7]/\G' d=some (.dck kvs2)/\kvs2.map Prod.fst=F2.map keyN/\G' l=some (.lst (jJ4 (F.drop a)))/\G' p=some (.lst (jJ4 (F2.drop F.length)))/\F2=vis F' (es.take j)/\Sub G G',?_,?_,?_,?_⟩
    ·exact⟨v6,v7,F',kvs',rfl,j1,jk,j2,j3,rfl,js⟩
    ·intros;trivial
    ·intro j y τ G3 hy h_;apply xe4 h_;clear h_;intro v6 v7 F2 kvs2 h_;apply ae6 h_;clear h_;intro q1 qk q2 q3 q4 q5
     obtain⟨z,hz,rfl⟩:=kKv hy
     obtain⟨e,he,rfl⟩:=jKb hz
     have hF2n:F2.Nodup:=by rw[q4];exact vis_sub.2.2.2 jB.nd
     have hF2l:∀y,y∈F2->y<W.length:=by rw[q4];exact vis_lt fine hW jB.lt j
     have hF2:=jQx hF2n hF2l
     have hkl:kvs2.length=F2.length:=by have:=lKg List.length qk;simpa using this
     have hFF:F.length<=F2.length:=by
      obtain⟨⟨E',e1⟩,_⟩:=vis_sub (F:=F') (es:=es.take j)
      rw[q4,e1,jE];simp only[lKb];omega
     wp_walk using 1,encE,jVc,qYv q1 qk
     by_cases hm:e.1∈F2
     ·rw[lJa (by simp[hm])]
      exact⟨F2,kvs2,q1,qk,q2,q3,by rw[jYq he,<-q4,lJc (by simpa using hm)],q5⟩
     ·rw[lJc (by simp[hm])]
      wp_walk using 1,qQq q1 (show kvs2.length<sizeLine by omega)
      have hgp:gup G3 d (.dck (putT kvs2 (keyN e.1) (.tup [.int x,.int j]))) p=some (.lst (jJ4 (F2.drop F.length))):=by rw[jJu hpd.symm];exact q3
      refine⟨by omega,by rw[jK2 hgp];trivial,_,hgp,by simp[jJ4];omega,F2++[e.1],kvs2++[(keyN e.1,.tup [.int x,.int j])],?_,?_,?_,?_,?_,?_⟩
      ·rw[jJu hpd,jJh,qQ2 (by rw[qk,kXk];exact hm)]
      ·rw[lVy,lVy,qk];rfl
      ·rw[jJu hpl,jJu hdl.symm];exact q2
      ·rw[lYm hFF];simp[jJ4]
      ·rw[jYq he,<-q4,lJa (by simpa using hm)]
      ·exact (q5.over hd).over hp0
    ·intro τ G3 h_;apply xe4 h_;clear h_;intro v6 v7 F2 kvs2 h_;apply ae6 h_;clear h_;intro q1 qk q2 q3 q4 q5
     rw[jJ8,lJg,lVg] at q4
     obtain⟨⟨E',e1⟩,_⟩:=vis_sub (F:=F') (es:=es)
     refine⟨_,_,_,rfl,F2,kvs2,q1,qk,q2,q3,⟨E++E',by rw[q4,e1,jE,lJq]⟩,?_,?_,q5⟩
     ·have:=jB.step fine hx'
      rw[kQn hW,<-q4] at this
      exact this
     ·rw[jb,show W.length-(a+i)=W.length-(a+(i+1))+1 by omega,jZ7 hx',kQn hW,<-q4];rfl
   ·intro τ G2 h_;apply xe5 h_;clear h_;intro v5 v6 v7 F' kvs' h_;apply ae8 h_;clear h_;intro j1 jk j2 j3 q4_ jB jb js
    obtain⟨E,jE⟩:=q4_
    have hlen:(jJ4 (F.drop a)).length=F.length-a:=by simp[jJ4]
    rw[hlen,show a+(F.length-a)=F.length by omega] at jB jb
    wp_walk using 1,tSeq
    exact⟨hpd,hp0,F',kvs',j1,jk,j3,by rw[jE,lKb];omega,jB,jb,js⟩
 ·rename_i hne
  have he:F.length<=a:=by
   have:jJ4 (F.drop a)=[]:=by simpa using hne
   have:=lKg List.length this
   simp[jJ4] at this;omega
  rw[jZ8 he] at hb
  exact kk d G1 kvs hd h1 (by rw[hk,hb]) hs1
theorem kVa {β:Type} {enc:β->T}:∀(ts:List T) (P:Nat->β->Prop),(∀(i:Nat) t,ts[i]? =some t->∃b,t=enc b/\P i b)->∃bs:List β,ts=bs.map enc/\∀(i:Nat) b,bs[i]? =some b->P i b
 | [],_,_=>⟨[],rfl,fun i b h=>by simp at h⟩
 | t::ts,P,h=>by
  obtain⟨b,rfl,hb⟩:=h 0 t rfl
  obtain⟨bs,rfl,h2⟩:=kVa ts (fun i=>P (i+1)) fun i t hi=>h (i+1) t hi
  refine⟨b::bs,rfl,fun i c hc=> ?_⟩
  cases i with
  | zero=>cases hc;exact hb
  | succ i=>exact h2 i c hc
def kKc:Sp3:=fun xs G Q=>∃W:Web,xs=[encW W]/\Fine W/\∀p G',G p=none->G' p=some (.lst ((jJv W).map encT))->(jJv W).length<=1000000->Sub G G'->Q (.ref p) G'
def N_ties:List Str:=["web","told","room","ends","door","end"]
noncomputable def kU4:TS3:=
 (tSeq (tAsg (tLst tNil) (jJg 1))
 (tSeq (tFor (iEnT (jJc (tVar 0) tNil)) (gTup 2 (jJ3 (jJg 2) (jJ3 (jJg 3) gNil))) (tFor (iEnT (jJc (tVar 3) tNil)) (gTup 2 (jJ3 (jJg 4) (jJ3 (jJg 5) gNil))) (tIfS (jJ0 (tOp rLeF (tTup (jJc (tVar 2) (jJc (tVar 4) tNil))) (tVar 5))) (jVr (tBM "list" jKq (tVar 1) (jJc (tTup (jJc (tTup (jJc (tVar 2) (jJc (tVar 4) tNil))) (jJc (tVar 5) tNil))) tNil))) jKs)))
 (tRet (tVar 1))))
theorem kZ1:RdOk kKc kU4 N_ties:=by
 intro xs G Q h_;apply xe1 h_;clear h_;intro W h_;apply ae2 h_;clear h_;intro fine kk
 show kU4 _ [some (.tup (W.map encR)),none,none,none,none,none] G
 have hs:=sz
 have hl:=fine.len
 wp_walk using 1,kU4,jJz,iEnT
 refine⟨lJu _,fun p hp=> ?_⟩
 let J1:Nat->St3->Gp->Prop:=fun k τ G'=>∃(v2 v3 v4 v5:Option T),τ=[some (.tup (W.map encR)),some (.ref p),v2,v3,v4,v5]/\G' p=some (.lst (((List.range k).flatMap (rowE W)).map encT))/\((List.range k).flatMap (rowE W)).length<=1000*k/\Sub G G'
 refine⟨J1,?_,?_,?_,?_⟩
 ·exact xi4 _ _ _ _ rfl ⟨jJh,lJu _,.new hp⟩
 ·intros;trivial
 ·intro k x τ G1 hx h_;apply xe4 h_;clear h_;intro v2 v3 v4 v5 h_;apply ae3 h_;clear h_;intro h1 h2 h3
  obtain⟨z,hz,rfl⟩:=kKv hx
  obtain⟨es,hW,rfl⟩:=jKb hz
  have hk:k<W.length:=(lJi.mp hW).1
  have hes:=fine.row k es hW
  wp_walk using 1,jJz,iEnT,encR
  let J2:Nat->St3->Gp->Prop:=fun i τ G'=>∃(v4 v5:Option T),τ=[some (.tup (W.map encR)),some (.ref p),some (.int k),some (.tup (es.map encE)),v4,v5]/\G' p=some (.lst (((List.range k).flatMap (rowE W)++(List.range i).filterMap (jUx k es)).map encT))/\((List.range k).flatMap (rowE W)++(List.range i).filterMap (jUx k es)).length<=1000*k+i/\Sub G G'
  refine⟨J2,?_,?_,?_,?_⟩
  ·exact xi2 _ _ rfl ⟨by simpa using h1,by simpa using h2,h3⟩
  ·intros;trivial
  ·intro i x τ G2 hx h_;apply xe2 h_;clear h_;intro v4 v5 h_;apply ae3 h_;clear h_;intro i1 i2 i3
   obtain⟨z,hz,rfl⟩:=kKv hx
   obtain⟨e,hE,rfl⟩:=jKb hz
   have hi:i<es.length:=(lJi.mp hE).1
   wp_walk using 1,rLeF,encE,jK2 i1,i1
   refine⟨by omega,?_⟩
   have hle:HT.lexLe [(k:Int),(i:Int)] [(e.1:Int),(e.2:Int)]=leE (k,i) e:=rfl
   rw[hle]
   by_cases hc:leE (k,i) e=true
   ·have hcell:jUx k es i=some ((k,i),e):=by unfold jUx;rw[hE];show (if _ then _ else _)=_;rw[lJc hc]
    rw[lJc hc]
    refine⟨by omega,by omega,by rw[lJg];omega,xi2 _ _ rfl ⟨?_,?_,i3.over hp⟩⟩
    ·rw[jJh,lKx,lQu];simp[hcell,encT,encE]
    ·rw[lKx,lQu,lKb,lKb]
     rw[lKb] at i2
     simp[hcell] at i2 ⊢; omega
   ·have hcell:jUx k es i=none:=by unfold jUx;rw[hE];show (if _ then _ else _)=_;rw[lJa hc]
    rw[lJa hc]
    refine xi2 _ _ rfl ⟨?_,?_,i3⟩
    ·rw[lKx,lQu];simp[hcell];simpa using i1
    ·rw[lKx,lQu];simp[hcell];simp at i2;omega
  ·intro τ G' h_;apply xe2 h_;clear h_;intro v4 v5 h_;apply ae3 h_;clear h_;intro i1 i2 i3
   rw[jXj,lJg] at i1 i2
   have e1:(List.range (k+1)).flatMap (rowE W)=(List.range k).flatMap (rowE W)++(List.range es.length).filterMap (jUx k es):=by
    rw[lKx,lX9]
    congr 1
    simp[rowE,hW]
   exact xi4 _ _ _ _ rfl ⟨by rw[e1];exact i1,by rw[e1];omega,i3⟩
 ·intro τ G1 h_;apply xe4 h_;clear h_;intro v2 v3 v4 v5 h_;apply ae3 h_;clear h_;intro h1 h2 h3
  rw[jXj,lJg] at h1 h2
  wp_walk using 1,tSeq
  exact kk p G1 hp h1 (by show ((List.range W.length).flatMap (rowE W)).length<=_;omega) h3
theorem en_put {U:Web} {x i:Nat} {ts:List (Nat×Nat)} {v:Nat×Nat} (h:U[x]? =some ts) (hi:i<ts.length) (x' i':Nat):en (U.set x (ts.set i v)) x' i'=if x'=x/\i'=i then some v else en U x' i':=by
 have hxl:=(lJi.mp h).1
 unfold en
 by_cases hx:x'=x
 ·subst hx
  rw[lQb hxl,h,lQ8,lQ8]
  by_cases hi':i'=i
  ·subst hi';rw[lJc ⟨rfl,rfl⟩,lQb hi]
  ·rw[lJa fun z=>hi' z.2,lQp (Ne.symm hi')]
 ·rw[lJa fun z=>hx z.1,lQp (Ne.symm hx)]
theorem jZb {xs ys:List T} {G:Gp} {Q:VK3} (h:xs.length+ys.length<=sizeLine) (q:Q (.tup (xs++ys)) G):kKs (.tup xs) (.tup ys) G Q:=by
 cases xs with
 | nil=>exact .inr ⟨ys,rfl,rfl,q⟩
 | cons c xs=>exact .inl ⟨.val (.tup (c::xs++ys)),by have:xs.length+1+ys.length<=sizeLine:=h;simp[addR,this],q⟩
theorem qXh {i j:Int} {G:Gp} {Q:VK3} (q:Q (.int (i+j)) G):kKs (.int i) (.int j) G Q:= .inl ⟨.val (.int (i+j)),rfl,q⟩
theorem qXf {xs:List T} {c:Nat}:cutT xs none (some (c:Int))=xs.take c:=by
 unfold cutT
 rw[HT.sIx_none,HT.sIx_nat,lXl,Nat.sub_zero]
 by_cases h:c<=xs.length
 ·rw[Nat.min_eq_left h]
 ·rw[Nat.min_eq_right (by omega),lQg (lJh _),lQg (by omega)]
theorem kK9 {xs:List T} {c:Nat}:cutT xs (some (c:Int)) none=xs.drop c:=by
 unfold cutT
 rw[HT.sIx_none,HT.sIx_nat]
 by_cases h:c<=xs.length
 ·rw[Nat.min_eq_left h,lQg (by rw[lVq];exact lJh _)]
 ·rw[Nat.min_eq_right (by omega)];simp;omega
theorem qJb {α:Type} {xs:List α} {i:Nat} {v:α} (h:i<xs.length):xs.take i++[v]++xs.drop (i+1)=xs.set i v:=by
 rw[List.set_eq_take_append_cons_drop,lJc h];simp
def pt (W:Web) (a e:Nat×Nat):Web:=W.set a.1 ((row W a.1).set a.2 e)
def Dr (W:Web) (a:Nat×Nat):Prop:=∃f,en W a.1 a.2=some f
theorem Dr.at {W:Web} {a:Nat×Nat} (h:Dr W a):W[a.1]? =some (row W a.1)/\a.2<(row W a.1).length/\a.1<W.length:=by
 obtain⟨f,h⟩:=h
 obtain⟨es,h1,h2⟩:=jQs h
 rw[kQn h1]
 exact⟨h1,(lJi.mp h2).1,(lJi.mp h1).1⟩
theorem qX1 {W:Web} {a e:Nat×Nat} (h:Dr W a) (x i:Nat):en (pt W a e) x i=if x=a.1/\i=a.2 then some e else en W x i:=en_put h.at.1 h.at.2.1 x i
theorem Dr.pt {W:Web} {a b e:Nat×Nat} (h:Dr W b) (ha:Dr W a):Dr (pt W a e) b:=by
 unfold Dr;rw[qX1 ha]
 split
 ·exact⟨e,rfl⟩
 ·exact h
theorem kJq {W:Web} {a e:Nat×Nat}:(pt W a e).length=W.length:=by unfold pt;rw[lXa]
theorem Fine.pt {W:Web} {a e:Nat×Nat} (f:Fine W) (ha:Dr W a) (he:e.1<W.length):Fine (pt W a e) where
 len:=by rw[kJq];exact f.len
 row:=fun r es h=>by
  have h:(W.set a.1 ((_root_.W.row W a.1).set a.2 e))[r]? =some es:=h
  by_cases hr:r=a.1
  ·subst hr
   rw[lQb ha.at.2.2] at h;cases h
   rw[lXa];exact f.row _ _ ha.at.1
  ·rw[lQp (Ne.symm hr)] at h;exact f.row _ _ h
 rng:=fun r i s j h=>by
  rw[kJq]
  rw[qX1 ha] at h
  split at h
  ·cases h;exact he
  ·exact f.rng _ _ _ _ h
def jUi:Sp3:=fun xs G Q=>∃(W:Web) (a e:Nat×Nat),xs=[encW W,encE a,encE e]/\Fine W/\Dr W a/\∀G',Sub G G'->Q (encW (pt W a e)) G'
def kYx:List Str:=["web","start","end","ends","changed"]
noncomputable def jVv:TS3:=
 (tSeq (tAsg (tOp rIxF (tVar 0) (tOp rIxF (tVar 1) (tC (.int 0)))) (jJg 3))
 (tSeq (tAsg (tOp kKs (tOp kKs (tSl rSlF (tVar 3) jQ0 (jYe (tOp rIxF (tVar 1) (tC (.int 1))))) (tTup (jJc (tVar 2) tNil))) (tSl rSlF (tVar 3) (jYe (tOp kKs (tOp rIxF (tVar 1) (tC (.int 1))) (tC (.int 1)))) jQ0)) (jJg 4))
 (tRet (tOp kKs (tOp kKs (tSl rSlF (tVar 0) jQ0 (jYe (tOp rIxF (tVar 1) (tC (.int 0))))) (tTup (jJc (tVar 4) tNil))) (tSl rSlF (tVar 0) (jYe (tOp kKs (tOp rIxF (tVar 1) (tC (.int 0))) (tC (.int 1)))) jQ0)))))
theorem kKk:RdOk jUi jVv kYx:=by
 intro xs G Q h_;apply xe3 h_;clear h_;intro W a e h_;apply ae3 h_;clear h_;intro fine hd kk
 show jVv _ [some (.tup (W.map encR)),some (encE a),some (encE e),none,none] G
 have hs:=sz
 have hl:=fine.len
 obtain⟨h1,h2,h3⟩:=hd.at
 have h4:=fine.row _ _ h1
 wp_walk using 1,jVv,tSl,rSlF,slR,jQ0,jYe,encE,encR,jKy h1,qXf,kK9
 have er:T.tup (((row W a.1).map encE).take a.2++[T.tup [.int (e.1:Nat),.int (e.2:Nat)]]++((row W a.1).map encE).drop (a.2+1))=encR ((row W a.1).set a.2 e):=by
  rw[qJb (by rw[lJg];exact h2),encR,List.map_set];rfl
 have ew:T.tup ((W.map encR).take a.1++[encR ((row W a.1).set a.2 e)]++(W.map encR).drop (a.1+1))=encW (pt W a e):=by
  rw[qJb (by rw[lJg];exact h3),encW,pt,List.map_set]
 refine⟨by omega,jZb (by simp;omega) (qXh ⟨_,rfl,?_⟩)⟩
 rw[show (a.2:Int)+1=((a.2+1:Nat):Int) by omega,kK9]
 refine jZb (by simp;omega) ⟨by omega,?_⟩
 rw[er]
 refine jZb (by simp;omega) (qXh ⟨_,rfl,?_⟩)
 rw[show (a.1:Int)+1=((a.1+1:Nat):Int) by omega,kK9]
 refine jZb (by simp;omega) ?_
 rw[ew]
 exact kk G (.refl _)
def tie2 (W:Web) (p q:Nat×Nat):Web:=pt (pt W p q) q p
def jUh:Sp3:=fun xs G Q=>∃(W:Web) (p q:Nat×Nat),xs=[encW W,encE p,encE q]/\Fine W/\Dr W p/\Dr W q/\∀G',Sub G G'->Q (encW (tie2 W p q)) G'
def kYw:List Str:=["web","one","other"]
noncomputable def jVu:TS3:=
 (tRet (jJs jUi (jJc (jJs jUi (jJc (tVar 0) (jJc (tVar 1) (jJc (tVar 2) tNil)))) (jJc (tVar 2) (jJc (tVar 1) tNil)))))
theorem kKj:RdOk jUh jVu kYw:=by
 intro xs G Q h_;apply xe3 h_;clear h_;intro W p q h_;apply ae4 h_;clear h_;intro fine hp hq kk
 show jVu _ [some (encW W),some (encE p),some (encE q)] G
 wp_walk using 1,jVu
 exact⟨W,p,q,rfl,fine,hp,fun G1 s1=>⟨_,q,p,rfl,fine.pt hp hq.at.2.2,hq.pt hp,fun G2 s2=>kk G2 (s1.trans s2)⟩⟩
theorem jYt {W:Web} {p q:Nat×Nat}:(tie2 W p q).length=W.length:=by unfold tie2;rw[kJq,kJq]
theorem Fine.tie2 {W:Web} {p q:Nat×Nat} (f:Fine W) (hp:Dr W p) (hq:Dr W q):Fine (tie2 W p q):=(f.pt hp hq.at.2.2).pt (hq.pt hp) (by rw[kJq];exact hp.at.2.2)
theorem Dr.tie2 {W:Web} {p q a:Nat×Nat} (h:Dr W a) (hp:Dr W p) (hq:Dr W q):Dr (tie2 W p q) a:=(h.pt hp).pt (hq.pt hp)
def fo (s:Tie) (ab:Nat):Nat×Nat:=if ab=0 then s.1 else s.2
def la (s:Tie) (ab:Nat):Nat×Nat:=if ab=0 then s.2 else s.1
def crs (W:Web) (f s:Tie) (ab:Nat):Web:=tie2 (tie2 W f.1 (la s ab)) (fo s ab) f.2
def dueT (W:Web) (f s:Tie) (ab:Nat):T:=if decide (f.1=f.2)=decide (s.1=s.2)/\(bfs (crs W f s ab) 0).length=W.length then encW (crs W f s ab) else .non
structure Two (W:Web) (f s:Tie) (ab:Nat):Prop where
 fine:Fine W
 w1:1<=W.length
 f1:Dr W f.1
 f2:Dr W f.2
 s1:Dr W s.1
 s2:Dr W s.2
 ab:ab<=1
theorem Two.fo {W:Web} {f s:Tie} {ab:Nat} (h:Two W f s ab):Dr W (fo s ab):=by
 show Dr W (if ab=0 then s.1 else s.2)
 split;exact h.s1;exact h.s2
theorem Two.la {W:Web} {f s:Tie} {ab:Nat} (h:Two W f s ab):Dr W (la s ab):=by
 show Dr W (if ab=0 then s.2 else s.1)
 split;exact h.s2;exact h.s1
theorem Two.crs {W:Web} {f s:Tie} {ab:Nat} (h:Two W f s ab):Fine (crs W f s ab):=(h.fine.tie2 h.f1 h.la).tie2 (h.fo.tie2 h.f1 h.la) (h.f2.tie2 h.f1 h.la)
theorem kQa {W:Web} {f s:Tie} {ab:Nat}:(crs W f s ab).length=W.length:=by unfold crs;rw[jYt,jYt]
theorem qKk {G:Gp} {a b:Bool}:eqG G (.bl a) (.bl b)=some (decide (a=b)):=by
 rw[show eqG G (.bl a) (.bl b)=some (eqT (.bl a) (.bl b)) from rfl];cases a<;>cases b<;>rfl
def jQ8:Sp3:=fun xs G Q=>∃(W:Web) (f s:Tie) (ab:Nat),xs=[encW W,encT f,encT s,.int ab]/\Two W f s ab/\∀G',Sub G G'->Q (dueT W f s ab) G'
def qQa:List Str:=["web","first","second","about","former","latter","told"]
noncomputable def jXx:TS3:=
 (tSeq (tIfS (jJ0 (tOp rNeA (tOp rEqA (tOp rIxF (tVar 1) (tC (.int 0))) (tOp rIxF (tVar 1) (tC (.int 1)))) (tOp rEqA (tOp rIxF (tVar 2) (tC (.int 0))) (tOp rIxF (tVar 2) (tC (.int 1)))))) (tRet (tC .non)) jKs)
 (tSeq (tAsg (tOp rIxF (tVar 2) (tVar 3)) (jJg 4))
 (tSeq (tAsg (tOp rIxF (tVar 2) (tOp rSub (tC (.int 1)) (tVar 3))) (jJg 5))
 (tSeq (tAsg (jJs jUh (jJc (jJs jUh (jJc (tVar 0) (jJc (tOp rIxF (tVar 1) (tC (.int 0))) (jJc (tVar 5) tNil)))) (jJc (tVar 4) (jJc (tOp rIxF (tVar 1) (tC (.int 1))) tNil)))) (jJg 6))
 (tRet (tIf (jJ0 (tOp rEqA (tCB qQ0 (jJc (jJs jQe (jJc (tVar 6) (jJc (tC (.int 0)) tNil))) tNil)) (tCB qQ0 (jJc (tVar 6) tNil)))) (tVar 6) (tC .non)))))))
theorem kQt:RdOk jQ8 jXx qQa:=by
 intro xs G Q h_;apply xe4 h_;clear h_;intro W f s ab h_;apply ae2 h_;clear h_;intro tw kk
 show jXx _ [some (encW W),some (encT f),some (encT s),some (.int ab),none,none,none] G
 have hs:=sz
 obtain⟨f1,f2⟩:=f
 obtain⟨s1,s2⟩:=s
 have a1:L2.atI [encE s1,encE s2] (ab:Int)=some (encE (fo (s1,s2) ab)):=by
  have:=tw.ab
  rcases (by omega:ab=0\/ab=1) with rfl | rfl<;>rfl
 have a2:L2.atI [encE s1,encE s2] (1-(ab:Int))=some (encE (la (s1,s2) ab)):=by
  have:=tw.ab
  rcases (by omega:ab=0\/ab=1) with rfl | rfl<;>rfl
 wp_walk using 1,jXx,rEqA,rNeA,qQ0,encT,a1,a2
 refine⟨_,jZ2,_,jZ2,_,qKk,?_⟩
 by_cases he:decide (f1=f2)=decide (s1=s2)
 ·rw[lJa (by rw[lJ3 he];decide)]
  refine⟨W,f1,_,rfl,tw.fine,tw.f1,tw.la,fun G1 q1=>⟨_,_,_,rfl,tw.fine.tie2 tw.f1 tw.la,tw.fo.tie2 tw.f1 tw.la,tw.f2.tie2 tw.f1 tw.la,fun G2 q2=>⟨crs W (f1,f2) (s1,s2) ab,0,rfl,tw.crs,by rw[kQa];exact tw.w1,fun d G3 kvs hd hG3 hk q3=> ?_⟩⟩⟩
  have hkl:kvs.length=(bfs (crs W (f1,f2) (s1,s2) ab) 0).length:=by
   have:=lKg List.length hk
   rw[lJg,lJg] at this;exact this
  have hlen:lenG G3 (.ref d)=some kvs.length:=by simp only[lenG,hG3]
  have hlen2:lenG G3 (encW (crs W (f1,f2) (s1,s2) ab))=some W.length:=by show some ((crs W (f1,f2) (s1,s2) ab).map encR).length=_;rw[lJg,kQa]
  refine⟨_,hlen,_,hlen2,_,jZ1,?_⟩
  have q4:=(q1.trans q2).trans q3
  unfold dueT at kk
  by_cases hb:kvs.length=W.length
  ·rw[lJc ⟨he,by rw[<-hkl];exact hb⟩] at kk
   rw[lJc (lJ3 hb)]
   exact kk G3 q4
  ·rw[lJa fun z=>hb (by rw[hkl];exact z.2)] at kk
   rw[lJa (by simpa using hb)]
   exact kk G3 q4
 ·rw[lJc (by rw[lJt he])]
  unfold dueT at kk
  rw[lJa fun z=>he z.1] at kk
  exact kk G (.refl _)
theorem jKu {W:Web} {i j ab:Nat} {f s:Tie} (fine:Fine W) (sym:Sym W) (h1:1<=W.length) (hi:(jJv W)[i]? =some f) (hj:(jJv W)[j]? =some s) (ha:ab<=1):Two W f s ab:=by
 have e1:=(kZj hi).1
 have e2:=(kZj hj).1
 exact⟨fine,h1,⟨_,e1⟩,⟨_,sym _ _ _ _ e1⟩,⟨_,e2⟩,⟨_,sym _ _ _ _ e2⟩,ha⟩
structure Asked (W:Web) (i j ab:Nat) (f s:Tie):Prop where
 fine:Fine W
 sym:Sym W
 w1:1<=W.length
 hi:(jJv W)[i]? =some f
 hj:(jJv W)[j]? =some s
 ab:ab<=1
noncomputable def jQ7:SpX:=fun xs G Q R=>∃(W:Web) (i j ab:Nat) (f s:Tie),xs=[encW W,.int i,.int j,.int ab]/\Asked W i j ab f s/\(jK6 (dueT W f s ab)=false->∀G',Sub G G'->Q (dueT W f s ab) G')/\(jK6 (dueT W f s ab)=true->∀G',Sub G G'->R "NoWeb" G')
theorem kQz:qVs jQ7:=by
 rintro xs G Q Q' R R' hQ hR ⟨W,i,j,ab,f,s,h1,h2,h3,h4⟩
 exact⟨W,i,j,ab,f,s,h1,h2,fun o G' s=>hQ _ _ (h3 o G' s),fun o G' s=>hR _ _ (h4 o G' s)⟩
theorem kQi {W:Web} {i:Nat} {f:Tie} (h:(jJv W)[i]? =some f):L2.atI ((jJv W).map encT) (i:Int)=some (encT f):=by rw[atN];simp[h]
def qK9:List Str:=["web","one","other","about","known","told"]
noncomputable def jXw (R:XK3):TS3:=
 (tSeq (tAsg (jJs kKc (jJc (tVar 0) tNil)) (jJg 4))
 (tSeq (tAsg (jJs jQ8 (jJc (tVar 0) (jJc (tOp rIxF (tVar 4) (tVar 1)) (jJc (tOp rIxF (tVar 4) (tVar 2)) (jJc (tVar 3) tNil))))) (jJg 5))
 (tSeq (tIfS (jJ0 (tOp rIsN (tVar 5) (tC .non))) (kUo R "NoWeb") jKs)
 (tRet (tVar 5)))))
theorem kQs:∀xs G Q R,jQ7 xs G Q R->jXw R {nx:=fun _ G'=>Q .non G',rt:=Q} (jK0 qK9 xs) G:=by
 intro xs G Q R h_;apply xe6 h_;clear h_;intro W i j ab f s h_;apply ae3 h_;clear h_;intro as kk kr
 show jXw _ _ [some (encW W),some (.int i),some (.int j),some (.int ab),none,none] G
 wp_walk using 1,jXw,kUo
 refine⟨W,rfl,as.fine,fun p G1 hp hG1 _ q1=> ?_⟩
 wp_walk using 1,jKf hG1,kQi as.hi,kQi as.hj
 refine⟨W,f,s,ab,rfl,jKu as.fine as.sym as.w1 as.hi as.hj as.ab,fun G2 q2=> ?_⟩
 have key:if jK6 (dueT W f s ab)=true then R "NoWeb" G2 else Q (dueT W f s ab) G2:=by
  split
  ·rename_i hn;exact kr hn G2 (q1.trans q2)
  ·rename_i hn;exact kk (by simpa using hn) G2 (q1.trans q2)
 exact key
def IsC (W:Web) (V:Web):Prop:=∃(i j:Nat) (f s:Tie) (ab:Nat),i<j/\(jJv W)[i]? =some f/\(jJv W)[j]? =some s/\ab<=1/\dueT W f s ab=encW V
def Told (W:Web) (acc:List T) (P:Nat->Nat->Prop):Prop:=∀t,t∈acc↔∃(i j:Nat) (f s:Tie) (ab:Nat),P i j/\i<j/\(jJv W)[i]? =some f/\(jJv W)[j]? =some s/\ab<=1/\t=dueT W f s ab
theorem Told.two {W:Web} {acc:List T} {P P':Nat->Nat->Prop} {i j:Nat} {f s:Tie} (h:Told W acc P) (hij:i<j) (hi:(jJv W)[i]? =some f) (hj:(jJv W)[j]? =some s) (hP:∀i' j',i'<j'->(P' i' j'↔P i' j'\/(i'=i/\j'=j))):Told W (acc++[dueT W f s 0]++[dueT W f s 1]) P':=by
 intro t
 rw[lJx,lJx,lJ1,lJ1,h t]
 constructor
 ·rintro ((⟨i',j',f',s',ab,h1,h2,h3⟩ | rfl) | rfl)
  ·exact⟨i',j',f',s',ab,(hP i' j' h2).mpr (.inl h1),h2,h3⟩
  ·exact⟨i,j,f,s,0,(hP i j hij).mpr (.inr ⟨rfl,rfl⟩),hij,hi,hj,by decide,rfl⟩
  ·exact⟨i,j,f,s,1,(hP i j hij).mpr (.inr ⟨rfl,rfl⟩),hij,hi,hj,by decide,rfl⟩
 ·rintro⟨i',j',f',s',ab,h1,h2,h3,h4,h5,h6⟩
  rcases (hP i' j' h2).mp h1 with z | ⟨rfl,rfl⟩
  ·exact .inl (.inl ⟨i',j',f',s',ab,z,h2,h3,h4,h5,h6⟩)
  ·rw[hi] at h3;cases h3
   rw[hj] at h4;cases h4
   rcases (by omega:ab=0\/ab=1) with rfl | rfl
   ·exact .inl (.inr h6)
   ·exact .inr h6
theorem kVj {α β:Type} {f:α->β} (h:∀x y,f x=f y->x=y):∀ {a b:List α},a.map f=b.map f->a=b
 | [],[],_=>rfl
 | [],_::_,e=>by cases e
 | _::_,[],e=>by cases e
 | x::a,y::b,e=>by
  rw[lJp,lJp,lVz] at e
  rw[h x y e.1,kVj h e.2]
theorem jV5 (V V':Web) (h:encW V=encW V'):V=V':=by
 refine kVj (f:=encR) (fun x y e=> ?_) (T.tup.inj h)
 refine kVj (f:=encE) (fun x y e=> ?_) (T.tup.inj e)
 have:=lKg dec e
 rwa [qKr,qKr] at this
theorem qKp {W:Web} {f s:Tie} {ab:Nat} (tw:Two W f s ab):dueT W f s ab= .non\/∃V,dueT W f s ab=encW V/\Fine V/\V.length=W.length:=by
 unfold dueT
 split
 ·exact .inr ⟨_,rfl,tw.crs,kQa⟩
 ·exact .inl rfl
noncomputable def jQ2:Sp3:=fun xs G Q=>∃W:Web,xs=[encW W]/\Fine W/\Sym W/\1<=W.length/\(jJv W).length<=18/\∀p (Vs:List Web) G',G p=none->G' p=some (.lst (Vs.map encW))->Vs.length<=306->(∀V,V∈Vs↔IsC W V)->(∀V,V∈Vs->Fine V/\V.length=W.length)->Sub G G'->Q (.ref p) G'
def kQg:List Str:=["web","known","told","place","second","first","other"]
noncomputable def jQ4:TS3:=
 (tSeq (tAsg (jJs kKc (jJc (tVar 0) tNil)) (jJg 1))
 (tSeq (tAsg (tLst tNil) (jJg 2))
 (tSeq (tFor (kKy (jJc (tVar 1) tNil)) (gTup 2 (jJ3 (jJg 3) (jJ3 (jJg 4) gNil))) (tFor (iSeq (tSl rSlF (tVar 1) jQ0 (jYe (tVar 3)))) (jJg 5) (tSeq (jVr (tBM "list" jKq (tVar 2) (jJc (jJs jQ8 (jJc (tVar 0) (jJc (tVar 5) (jJc (tVar 4) (jJc (tC (.int 0)) tNil))))) tNil)))
 (jVr (tBM "list" jKq (tVar 2) (jJc (jJs jQ8 (jJc (tVar 0) (jJc (tVar 5) (jJc (tVar 4) (jJc (tC (.int 1)) tNil))))) tNil))))))
 (tRet (jQj [false,false,false,false,false,false,true] (iSeq (tVar 2)) (jJg 6) (jJ0 (tOp kU8 (tVar 6) (tC .non))) (tVar 6))))))
theorem jYi:RdOk jQ2 jQ4 kQg:=by
 intro xs G Q h_;apply xe1 h_;clear h_;intro W h_;apply ae5 h_;clear h_;intro fine sym hw1 h9 kk
 show jQ4 _ [some (encW W),none,none,none,none,none,none] G
 have hs:=sz
 wp_walk using 1,jQ4,jJz,kKy
 refine⟨W,rfl,fine,fun e G1 he hG1 _ s1=> ?_⟩
 wp_walk using 1,tSeq
 refine⟨lJu _,fun a ha=> ?_⟩
 have hea:e≠a:=jJj hG1 ha
 have lt:∀G' a xs,G' a=some (.lst xs)->jKc G' (.ref a)=some xs:=fun G' a xs h=>by rw[show jKc G' (.ref a)=asL (G' a) from rfl,h];rfl
 refine⟨(jJv W).map encT,lt _ _ _ (by rw[jJu hea];exact hG1),?_⟩
 let J1:Nat->St3->Gp->Prop:=fun j τ G'=>∃(v3 v4 v5:Option T) (acc:List T),τ=[some (encW W),some (.ref e),some (.ref a),v3,v4,v5,none]/\G' a=some (.lst acc)/\acc.length<=j*(j-1)/\Told W acc (fun _ j'=>j'<j)/\G' e=some (.lst ((jJv W).map encT))/\Sub G1 G'
 refine⟨J1,?_,?_,?_,?_⟩
 ·refine xi4 _ _ _ [] rfl ⟨jJh,lJu _,fun t=>⟨fun h=>(by cases h),fun h=> ?_⟩,by rw[jJu hea];exact hG1,.new ha⟩
  obtain⟨i,j,f,s,ab,h,_⟩:=h
  exact absurd h (lKv _)
 ·intro j τ G' hj h_;apply xe4 h_;clear h_;intro v3 v4 v5 acc h_;apply ae5 h_;clear h_;intro h1 h2 h3 h4 h5
  exact lt _ _ _ h4
 ·intro j y τ G2 hy h_;apply xe4 h_;clear h_;intro v3 v4 v5 acc h_;apply ae5 h_;clear h_;intro h1 h2 h3 h4 h5
  obtain⟨z,hz,rfl⟩:=kKv hy
  obtain⟨s,hj,rfl⟩:=jKb hz
  have hjl:j<(jJv W).length:=(lJi.mp hj).1
  wp_walk using 1,jJz,iSeq,tSl,jQ0,jYe,rSlF,slR,h4,qXf
  intro p hp
  have hap:a≠p:=jJj h1 hp
  have hep:e≠p:=jJj h4 hp
  have haG1:G1 a=none:=ha
  let J2:Nat->St3->Gp->Prop:=fun i τ G'=>∃(v5:Option T) (acc:List T),τ=[some (encW W),some (.ref e),some (.ref a),some (.int j),some (encT s),v5,none]/\G' a=some (.lst acc)/\acc.length<=j*(j-1)+2*i/\Told W acc (fun i' j'=>j'<j\/(j'=j/\i'<i))/\G' e=some (.lst ((jJv W).map encT))/\G' p=some (.lst (List.take j ((jJv W).map encT)))/\Sub G1 G'
  have hjj:j*(j-1)<=306:=lKf (Nat.mul_le_mul (show j<=18 by omega) (show j-1<=17 by omega)) (by decide)
  refine⟨J2,?_,?_,?_,?_⟩
  ·exact xi2 _ acc rfl ⟨by rw[jJu hap];exact h1,h2,fun t=>by rw[h3 t];simp,by rw[jJu hep];exact h4,jJh,h5.trans (.new hp)⟩
  ·intro i τ G' hi h_;apply xe2 h_;clear h_;intro v5 acc h_;apply ae6 h_;clear h_;intro i1 i2 i3 i4 i5 i6
   exact jJl i5
  ·intro i y τ G3 hy h_;apply xe2 h_;clear h_;intro v5 acc h_;apply ae6 h_;clear h_;intro i1 i2 i3 i4 i5 i6
   have hij:i<j:=by
    have:=(lJi.mp hy).1
    rw[lQc] at this;omega
   rw[List.getElem?_take_of_lt hij] at hy
   obtain⟨f,hf,rfl⟩:=jKb hy
   wp_walk using 1,jK2 i1
   refine⟨W,f,s,0,rfl,jKu fine sym hw1 hf hj (by decide),fun G4 q4=> ?_⟩
   have i14:=q4 _ _ i1
   refine⟨acc,i14,by omega,?_⟩
   wp_walk using 1,kZc
   refine⟨W,f,s,1,rfl,jKu fine sym hw1 hf hj (by decide),fun G5 q5=> ?_⟩
   have i15:=q5 _ _ jJh
   refine⟨_,i15,by rw[lKb];simp;omega,?_⟩
   have other:∀q o,q≠a->G3 q=some o->gup G5 a (.lst (acc++[dueT W f s 0]++[dueT W f s 1])) q=some o:=fun q o hq h=>by
    rw[jJu hq];exact q5 _ _ (by rw[jJu hq];exact q4 _ _ h)
   refine xi2 _ _ rfl ⟨jJh,by simp;omega,i3.two hij hf hj fun i' j' h=>by omega,other _ _ hea i4,other _ _ hap.symm i5,fun q o h=>other q o (fun z=>by rw[z,haG1] at h;cases h) (i6 _ _ h)⟩
  ·intro τ G3 h_;apply xe2 h_;clear h_;intro v5 acc h_;apply ae6 h_;clear h_;intro i1 i2 i3 i4 i5 i6
   rw[lQc,lJg,Nat.min_eq_left (by omega)] at i2 i3
   refine xi4 _ _ _ acc rfl ⟨i1,?_,fun t=> ?_,i4,i6⟩
   ·show acc.length<=(j+1)*j
    rw[Nat.succ_mul]
    cases j with
    | zero=>omega
    | succ j=>rw[Nat.succ_sub_one] at i2;rw[Nat.mul_succ];omega
   ·rw[i3 t]
    constructor
    ·rintro⟨i',j',f,s,ab,h,h2,h3⟩
     exact⟨i',j',f,s,ab,by omega,h2,h3⟩
    ·rintro⟨i',j',f,s,ab,h,h2,h3⟩
     exact⟨i',j',f,s,ab,by omega,h2,h3⟩
 ·intro τ G2 h_;apply xe4 h_;clear h_;intro v3 v4 v5 acc h_;apply ae5 h_;clear h_;intro h1 h2 h3 h4 h5
  wp_walk using 1,iSeq,jJl h1,kU8
  have e0:acc.map (fun t:T=>t)=acc:=by simp
  refine (show jYd _ _ _ _ _ (acc.map fun t=>t) _ G2 Q->jYd _ _ _ _ _ acc _ G2 Q from fun h=>by rwa [e0] at h) ?_
  have hn:(numT ((jJv W).map encT)).length=(jJv W).length:=by rw[jXj,lJg]
  rw[hn] at h2 h3
  have h306:acc.length<=306:=lKf h2 (lKf (Nat.mul_le_mul h9 (show (jJv W).length-1<=17 by omega)) (by decide))
  refine jUq (fun t=>if jK6 t=true then none else some t) (by omega) (fun G' s=>jJl (s _ _ h1)) ?_ ?_
  ·intro i t ht G' K K0 s hK hK0
   wp_walk using 1,kU8
   have key:if jK6 t=false then K t G' else K0 G':=by
    cases hc:jK6 t with
    | true=>rw[lJa (by decide)];exact hK0 (by rw[lJc hc]) _ (.refl _)
    | false=>rw[lJc rfl];exact hK _ _ (by rw[lJa (by rw[hc];decide)]) (.refl _)
   exact key
  ·intro D G3 hD hD3 s3
   have mem:∀t,t∈acc.filterMap (fun t=>if jK6 t=true then none else some t)↔t∈acc/\jK6 t=false:=by
    intro t
    rw[lQq]
    constructor
    ·rintro⟨x,hx,e⟩
     by_cases hc:jK6 x=true
     ·rw[lJc hc] at e;cases e
     ·rw[lJa hc] at e;cases e;exact⟨hx,by simpa using hc⟩
    ·rintro⟨hx,hc⟩
     exact⟨t,hx,by rw[lJa (by rw[hc];decide)]⟩
   obtain⟨Vs,eV,hV⟩:=kVa (enc:=encW) (acc.filterMap (fun t=>if jK6 t=true then none else some t)) (fun _ V=>Fine V/\V.length=W.length) fun i t ht=>by
    obtain⟨m1,m2⟩:=(mem t).mp (lJo ht)
    obtain⟨i,j,f,s,ab,_,_,hi,hj,hab,rfl⟩:=(h3 t).mp m1
    rcases qKp (jKu fine sym hw1 hi hj hab) with z | ⟨V,z,z2⟩
    ·rw[z] at m2;cases m2
    ·exact⟨V,z,z2⟩
   refine kk D Vs G3 ((s1.trans h5).none hD) (by rw[hD3,eV]) ?_ (fun V=> ?_) (fun V hv=> ?_) ((s1.trans h5).trans s3)
   ·have:=lKg List.length eV
    rw[lJg] at this
    rw[<-this]
    exact lKf (lYt _ _) h306
   ·constructor
    ·intro hv
     have:encW V∈Vs.map encW:=lVl hv
     rw[<-eV] at this
     obtain⟨i,j,f,s,ab,_,a1,a2,a3,a4,a5⟩:=(h3 _).mp ((mem _).mp this).1
     exact⟨i,j,f,s,ab,a1,a2,a3,a4,a5.symm⟩
    ·rintro⟨i,j,f,s,ab,a1,a2,a3,a4,a5⟩
     have:encW V∈Vs.map encW:=by
      rw[<-eV]
      exact (mem _).mpr ⟨(h3 _).mpr ⟨i,j,f,s,ab,(lJi.mp a3).1,a1,a2,a3,a4,a5.symm⟩,rfl⟩
     obtain⟨V',hV',e⟩:=lJl.mp this
     rw[<-jV5 _ _ e];exact hV'
   ·obtain⟨i,hi⟩:=lJ6 hv
    exact hV i V hi
def jQl (r:Nat) (es:List (Nat×Nat)):Nat:=(es.getLast?.map Prod.fst).getD r
def goW (W:Web) (r:Nat) (ds:List Nat):Option (List (Nat×Nat)):=ds.foldl (fun o d=>o.bind fun es=>(en W (jQl r es) d).map fun e=>es++[e]) (some [])
theorem kK0 {W:Web} {r d:Nat} {ds:List Nat}:goW W r (ds++[d])=(goW W r ds).bind fun es=>(en W (jQl r es) d).map fun e=>es++[e]:=by
 unfold goW;rw[lYo];rfl
theorem qU9 {W:Web} {r:Nat} {ds ds':List Nat} (h:goW W r ds=none):goW W r (ds++ds')=none:=by
 unfold goW at h ⊢
 rw[lYo,h]
 induction ds' with
 | nil=>rfl
 | cons a as ih=>exact ih
theorem jVg {r:Nat} {es:List (Nat×Nat)} {e:Nat×Nat}:jQl r (es++[e])=e.1:=by simp[jQl]
theorem qXt {α:Type} {P:List α->Prop} (h0:P []) (h1:∀ds d,P ds->P (ds++[d])) (ds:List α):P ds:=by
 have:∀l:List α,P l.reverse:=by
  intro l
  induction l with
  | nil=>exact h0
  | cons a as ih=>rw[List.reverse_cons];exact h1 _ _ ih
 have h:=this ds.reverse
 rwa [List.reverse_reverse] at h
theorem kXp {W:Web} (f:Fine W) {r:Nat} (hr:r<W.length):∀ {ds:List Nat} {es:List (Nat×Nat)},goW W r ds=some es->jQl r es<W.length/\es.length=ds.length/\∀e,e∈es->e.1<W.length:=by
 intro ds
 refine qXt (P:=fun ds=>∀ {es:List (Nat×Nat)},goW W r ds=some es->jQl r es<W.length/\es.length=ds.length/\∀e,e∈es->e.1<W.length) ?_ ?_ ds
 ·intro es h;cases h;exact⟨hr,rfl,fun e he=>by cases he⟩
 ·intro ds d ih es h
  rw[kK0] at h
  cases e1:goW W r ds with
  | none=>rw[e1] at h;cases h
  | some es1=>
   rw[e1] at h
   obtain⟨a1,a2,a3⟩:=ih e1
   simp only[lQ8] at h
   cases e2:en W (jQl r es1) d with
   | none=>rw[e2] at h;cases h
   | some e=>
    rw[e2] at h;cases h
    have he:=f.rng _ _ e.1 e.2 e2
    refine⟨by rw[jVg];exact he,by simp[a2],fun x hx=> ?_⟩
    rw[lJx,lJ1] at hx
    rcases hx with hx | rfl
    ·exact a3 x hx
    ·exact he
theorem kXo {W:Web} {r i d:Nat} {ds:List Nat} (hd:ds[i]? =some d):goW W r (ds.take (i+1))=(goW W r (ds.take i)).bind fun es=>(en W (jQl r es) d).map fun e=>es++[e]:=by
 rw[lQt,hd];exact kK0
theorem qY3 {W:Web} {r i d:Nat} {ds:List Nat} {es:List (Nat×Nat)} (hd:ds[i]? =some d) (h:goW W r (ds.take i)=some es) (hn:en W (jQl r es) d=none):goW W r ds=none:=by
 have:goW W r (ds.take (i+1))=none:=by rw[kXo hd,h];simp[hn]
 have h2:=qU9 (ds':=ds.drop (i+1)) this
 rwa [lKy] at h2
noncomputable def jVa:Sp3:=fun xs G Q=>∃(W:Web) (r:Nat) (x:T) (ds:List Nat),xs=[encW W,.int r,x]/\Fine W/\r<W.length/\seqT G x=some (jJ4 ds)/\ds.length<=1000/\∀G',Sub G G'->(goW W r ds=none->Q .non G')/\(∀es p,goW W r ds=some es->G p=none->G' p=some (.lst (es.map encE))->Q (.ref p) G')
def qK8:List Str:=["web","room","way","ends","here","door","end"]
noncomputable def jXv:TS3:=
 (tSeq (tAsg (tLst tNil) (jJg 3))
 (tSeq (tAsg (tVar 1) (jJg 4))
 (tSeq (tFor (iSeq (tVar 2)) (jJg 5) (tSeq (tIfS (tNot (jJ0 (kZo rLeF rLt (tC (.int 0)) (tVar 5) (tCB rLen (jJc (tOp rIxF (tVar 0) (tVar 4)) tNil))))) (tRet (tC .non)) jKs)
 (tSeq (tAsg (tOp rIxF (tOp rIxF (tVar 0) (tVar 4)) (tVar 5)) (jJg 6))
 (tSeq (jVr (tBM "list" jKq (tVar 3) (jJc (tVar 6) tNil)))
 (tAsg (tOp rIxF (tVar 6) (tC (.int 0))) (jJg 4))))))
 (tRet (tVar 3)))))
theorem jV8 {W:Web} {r:Nat} (hr:r<W.length):∃es,W[r]? =some es/\∀d,en W r d=es[d]? :=⟨W[r],lJm hr,fun d=>by unfold en;rw[lJm hr];rfl⟩
theorem kQr:RdOk jVa jXv qK8:=by
 intro xs G Q h_;apply xe4 h_;clear h_;intro W r x ds h_;apply ae5 h_;clear h_;intro fine hr hx hdl kk
 show jXv _ [some (.tup (W.map encR)),some (.int r),some x,none,none,none,none] G
 have hs:=sz
 wp_walk using 1,jXv,jJz,iSeq
 refine⟨lJu _,fun p hp=> ?_⟩
 refine⟨jJ4 ds,(Sub.new hp).seq hx,?_⟩
 refine⟨fun i τ G'=>∃(v5 v6:Option T) (es:List (Nat×Nat)),τ=[some (.tup (W.map encR)),some (.int r),some x,some (.ref p),some (.int (jQl r es:Nat)),v5,v6]/\goW W r (ds.take i)=some es/\G' p=some (.lst (es.map encE))/\Sub G G',?_,?_,?_,?_⟩
 ·exact⟨none,none,[],rfl,rfl,jJh,.new hp⟩
 ·intro i τ G' hi h_;apply xe3 h_;clear h_;intro v5 v6 es h_;apply ae3 h_;clear h_;intro h1 h2 h3
  exact h3.seq hx
 ·intro i y τ G1 hy h_;apply xe3 h_;clear h_;intro v5 v6 es h_;apply ae3 h_;clear h_;intro h1 h2 h3
  obtain⟨d,hd,rfl⟩:=jKb hy
  have hi:i<ds.length:=(lJi.mp hd).1
  obtain⟨b1,b2,b3⟩:=kXp fine hr h1
  obtain⟨row,hrow,hen⟩:=jV8 b1
  have hrl:=fine.row _ _ hrow
  rw[lQc] at b2
  have hatR:=jKy hrow
  wp_walk using 1,kZo,rLeF,hatR,encR,List.length_map
  rw[lJc (by omega)]
  by_cases hdr:d<row.length
  ·have hed:row[d]? =some row[d]:=lJm hdr
   generalize row[d]=e at hed
   have heR:=kK7 hed
   wp_walk using 1,heR,show decide ((d:Int)<(row.length:Int))=true by simp;omega,encE,jK2 h2,h2,List.length_map
   refine⟨by omega,_,_,es++[e],by rw[jVg],rfl,rfl,?_,by simp[encE],h3.over hp⟩
   rw[kXo hd,h1]
   simp[hen,hed]
  ·have hnone:row[d]? =none:=lKi (by omega)
   wp_walk using 1,show decide ((d:Int)<(row.length:Int))=false by simp;omega
   exact (kk G1 h3).1 (qY3 hd h1 (by rw[hen];exact hnone))
 ·intro τ G1 h_;apply xe3 h_;clear h_;intro v5 v6 es h_;apply ae3 h_;clear h_;intro h1 h2 h3
  wp_walk using 1,tSeq
  have e1:(jJ4 ds).length=ds.length:=by simp[jJ4]
  rw[e1,lVg] at h1
  exact (kk G1 h3).2 es p h1 hp h2
abbrev Stp:=Nat×Nat×Nat
abbrev jVn:=Nat×List Stp
def jZ3 (s:Stp):T:= .tup [.int s.1,.int s.2.1,.int s.2.2]
def jX3 (S:jVn):T:= .tup [.int S.1,.tup (S.2.map jZ3)]
def dg (W:Web) (r:Nat):Nat:=((W[r]?).getD []).length
theorem kQ9 {W:Web} {r:Nat} {es:List (Nat×Nat)} (h:W[r]? =some es):dg W r=es.length:=by rw[dg,h];rfl
def FitR (W:Web):Nat->List Stp->Prop
 | _,[]=>True
 | r,s::ss=>∃e,en W r s.1=some e/\e.2=s.2.1/\dg W e.1=s.2.2/\FitR W e.1 ss
def Fit (W:Web) (r:Nat) (S:jVn):Prop:=dg W r=S.1/\FitR W r S.2
theorem kK1 {W:Web} {r:Nat}:∀(ds:List Nat) (pre:List (Nat×Nat)),ds.foldl (fun o d=>o.bind fun es=>(en W (jQl r es) d).map fun e=>es++[e]) (some pre)=(goW W (jQl r pre) ds).map (pre++ ·)
 | [],pre=>by simp[goW]
 | d::ds,pre=>by
  unfold goW
  rw[lXc,(lXc)]
  simp only[lQ8]
  rw[show jQl (jQl r pre) []=jQl r pre from rfl]
  cases e:en W (jQl r pre) d with
  | none=>
   have hn:∀(q:Nat) (l:List Nat),l.foldl (fun o d=>o.bind fun es=>(en W (jQl q es) d).map fun e=>es++[e]) none=none:=by
    intro q l
    induction l with
    | nil=>rfl
    | cons a l ih=>exact ih
   simp only[Option.map_none]
   rw[hn,hn];rfl
  | some x=>
   simp only[lVf,lXw]
   rw[kK1 ds (pre++[x]),jVg]
   have:=kK1 (W:=W) (r:=jQl r pre) ds [x]
   rw[this,Option.map_map]
   rw[show jQl (jQl r pre) [x]=x.1 from rfl]
   congr 1;funext l;simp
theorem kXq {W:Web} {r d:Nat} {ds:List Nat}:goW W r (d::ds)=(en W r d).bind fun e=>(goW W e.1 ds).map (e:: ·):=by
 unfold goW
 rw[lXc]
 simp only[lQ8]
 rw[show jQl r []=r from rfl]
 cases e:en W r d with
 | none=>
  have hn:∀(l:List Nat),l.foldl (fun o d=>o.bind fun es=>(en W (jQl r es) d).map fun e=>es++[e]) none=none:=by
   intro l
   induction l with
   | nil=>rfl
   | cons a l ih=>exact ih
  exact hn ds
 | some x=>
  have:=kK1 (W:=W) (r:=r) ds [x]
  rw[show jQl r [x]=x.1 from rfl] at this
  exact this
theorem kK4 {W:Web}:∀(ss:List Stp) (r:Nat),FitR W r ss↔∃es,goW W r (ss.map (·.1))=some es/\es.map (fun e=>(e.2,dg W e.1))=ss.map fun s=>(s.2.1,s.2.2)
 | [],r=>⟨fun _=>⟨[],rfl,rfl⟩,fun _=>trivial⟩
 | s::ss,r=>by
  rw[lJp,kXq]
  constructor
  ·rintro⟨e,h1,h2,h3,h4⟩
   obtain⟨es,g1,g2⟩:=(kK4 ss e.1).mp h4
   exact⟨e::es,by rw[h1,lQ8,g1];rfl,by rw[lJp,lJp,g2,h2,h3]⟩
  ·rintro⟨es,g1,g2⟩
   cases h:en W r s.1 with
   | none=>rw[h] at g1;cases g1
   | some e=>
    rw[h,lQ8] at g1
    cases h2:goW W e.1 (ss.map (·.1)) with
    | none=>rw[h2] at g1;cases g1
    | some fs=>
     rw[h2] at g1
     cases g1
     rw[lJp,lJp,lVz,Prod.mk.injEq] at g2
     exact⟨e,h,g2.1.1,g2.1.2,(kK4 ss e.1).mpr ⟨fs,h2,g2.2⟩⟩
theorem okD_non:OkD 0 .non:=⟨rfl,rfl,Nat.le_of_eq (by simp[td,PyData.depth]),by simp[eqT]⟩
theorem okD_enc {e:Nat×Nat}:OkD 1 (encE e):=qUa (w:=[e.1,e.2])
theorem kXu {G:Gp} {x y:T} {d:Nat} (hx:OkD d x) (hy:OkD d y) (hd:d<=50) (hr:∀p,x≠ .ref p):eqG G x y=some (eqT x y):=by
 have ok:∀ {z:T},OkD d z->eqOk z=true:=fun {z} h=>by
  unfold eqOk
  rw[h.tr,h.lay,lJ3 (show (td z).depth<=50 by have:=h.dep;omega)];rfl
 have:eqG G x y=if eqOk x=true/\eqOk y=true then some (eqT x y) else none:=by
  cases x with
  | ref p=>exact absurd rfl (hr p)
  | _=>rfl
 rw[this,lJc ⟨ok hx,ok hy⟩]
theorem qY9 {e f:Nat×Nat}:eqT (encE e) (encE f)=decide (e=f):=by
 have:=jZ2 (G:=fun _=>none) (e:=e) (f:=f)
 rw[kXu okD_enc okD_enc (by decide) (fun p z=>by cases z)] at this
 exact lJn this
theorem jZ0:∀ {a b:List (Nat×Nat)},eqTs (a.map encE) (b.map encE)=decide (a=b)
 | [],[]=>rfl
 | [],_::_=>by simp[eqTs]
 | _::_,[]=>by simp[eqTs]
 | x::a,y::b=>by
  rw[lJp,lJp,eqTs,qY9,jZ0]
  simp
def qQs (S:jVn):T:= .tup (.int S.1::S.2.map fun s=>encE (s.2.1,s.2.2))
noncomputable def kUs:Sp3:=fun xs G Q=>∃(W:Web) (r:Nat) (x:T) (ds:List Nat),xs=[encW W,.int r,x]/\Fine W/\r<W.length/\seqT G x=some (jJ4 ds)/\ds.length<=1000/\∀t G',(t=(match goW W r ds with | none=> .non | some es=> .tup (.int (dg W r:Nat)::es.map fun e=>encE (e.2,dg W e.1))))->Sub G G'->Q t G'
def N_seen:List Str:=["web","room","way","ends","end"]
noncomputable def kU5:TS3:=
 (tSeq (tAsg (jJs jVa (jJc (tVar 0) (jJc (tVar 1) (jJc (tVar 2) tNil)))) (jJg 3))
 (tSeq (tIfS (jJ0 (tOp rIsN (tVar 3) (tC .non))) (tRet (tC .non)) jKs)
 (tRet (tCB jKi (jJc (tOp jKe (tLst (jJc (tCB rLen (jJc (tOp rIxF (tVar 0) (tVar 1)) tNil)) tNil)) (jQj [false,false,false,false,true] (iSeq (tVar 3)) (jJg 4) jVl (tTup (jJc (tOp rIxF (tVar 4) (tC (.int 1))) (jJc (tCB rLen (jJc (tOp rIxF (tVar 0) (tOp rIxF (tVar 4) (tC (.int 0)))) tNil)) tNil))))) tNil)))))
theorem kZ2:RdOk kUs kU5 N_seen:=by
 intro xs G Q h_;apply xe4 h_;clear h_;intro W r x ds h_;apply ae5 h_;clear h_;intro fine hr hx hdl kk
 show kU5 _ [some (.tup (W.map encR)),some (.int r),some x,none,none] G
 have hs:=sz
 wp_walk using 1,kU5
 refine⟨W,r,x,ds,rfl,fine,hr,hx,hdl,fun G1 s1=>⟨fun hn=> ?_,fun es p he hp hp1=> ?_⟩⟩
 ·wp_walk using 1,tSeq
  exact kk _ G1 (by rw[hn]) s1
 ·obtain⟨b1,b2,b3⟩:=kXp fine hr he
  obtain⟨row,hrow,hen⟩:=jV8 hr
  wp_walk using 1,iSeq,hp1,jKy hrow,encR,List.length_map
  refine⟨by omega,fun q hq=> ?_⟩
  have hpq:=jJj hp1 hq
  refine⟨es.map encE,jJl (by rw[jJu hpq];exact hp1),?_⟩
  refine jK9 (fun e=>encE (e.2,dg W e.1)) (by omega) (fun G' s=>jJl (s _ _ (by rw[jJu hpq];exact hp1))) ?_ ?_
  ·intro i e hei G2 K K0 s hk
   obtain⟨row',hrow',_⟩:=jV8 (b3 e (lJo hei))
   wp_walk using 1,encE,jKy hrow',encR,List.length_map
   refine⟨by omega,?_⟩
   rw[kQ9 hrow'] at hk
   exact hk G2 (.refl _)
  ·intro D G2 hD h1 h2
   have hq2:=h2 _ _ (jJh (G:=G1) (a:=q) (o:= .lst [T.int (row.length:Nat)]))
   refine⟨_,jZc hq2 h1 (by simp;omega),?_⟩
   rw[jZz]
   intro u hu
   refine⟨_,jYy,?_⟩
   exact kk _ _ (by rw[he,kQ9 hrow];rfl) (((s1.trans (.new hq)).trans h2).trans (.new hu))
def jZf:Sp3:=fun xs G Q=>∃S:jVn,xs=[jX3 S]/\S.2.length<=1000/\∀G',Sub G G'->Q (.tup (jJ4 (S.2.map (·.1)))) G'
def qVo:List Str:=["story","step"]
noncomputable def jZj:TS3:=
 (tRet (tCB jKi (jJc (jQj [false,true] (iSeq (tOp rIxF (tVar 0) (tC (.int 1)))) (jJg 1) jVl (tOp rIxF (tVar 1) (tC (.int 0)))) tNil)))
theorem kU0:RdOk jZf jZj qVo:=by
 intro xs G Q h_;apply xe1 h_;clear h_;intro S h_;apply ae2 h_;clear h_;intro hl kk
 show jZj _ [some (.tup [.int S.1,.tup (S.2.map jZ3)]),none] G
 have hs:=sz
 wp_walk using 1,jZj,iSeq
 refine jK9 (es:=S.2) (enc:=jZ3) (fun s=>T.int (s.1:Nat)) (by omega) (fun _ _=>trivial) ?_ ?_
 ·intro i s hi G' K K0 sb hk
  wp_walk using 1,jZ3
  exact hk G' (.refl _)
 ·intro D G1 hD h1 s1
  refine⟨_,jJl h1,?_⟩
  have:=kk G1 s1
  rw[jJ4,lKo] at this
  exact this
def jXs:Sp3:=fun xs G Q=>∃S:jVn,xs=[jX3 S]/\S.2.length<=1000/\∀G',Sub G G'->Q (qQs S) G'
def qK6:List Str:=["story","step"]
noncomputable def jXt:TS3:=
 (tRet (tCB jKi (jJc (tOp jKe (tLst (jJc (tOp rIxF (tVar 0) (tC (.int 0))) tNil)) (jQj [false,true] (iSeq (tOp rIxF (tVar 0) (tC (.int 1)))) (jJg 1) jVl (tTup (jJc (tOp rIxF (tVar 1) (tC (.int 1))) (jJc (tOp rIxF (tVar 1) (tC (.int 2))) tNil))))) tNil)))
theorem kQp:RdOk jXs jXt qK6:=by
 intro xs G Q h_;apply xe1 h_;clear h_;intro S h_;apply ae2 h_;clear h_;intro hl kk
 show jXt _ [some (.tup [.int S.1,.tup (S.2.map jZ3)]),none] G
 have hs:=sz
 wp_walk using 1,jXt,iSeq
 refine⟨by omega,fun q hq=> ?_⟩
 refine jK9 (es:=S.2) (enc:=jZ3) (fun s=>encE (s.2.1,s.2.2)) (by omega) (fun _ _=>trivial) ?_ ?_
 ·intro i s hi G' K K0 sb hk
  wp_walk using 1,jZ3
  exact⟨by omega,hk G' (.refl _)⟩
 ·intro D G1 hD h1 s1
  have hq2:=s1 _ _ (jJh (G:=G) (a:=q) (o:= .lst [T.int (S.1:Nat)]))
  refine⟨_,jZc hq2 h1 (by simp;omega),?_⟩
  rw[jZz]
  intro u hu
  exact⟨_,jYy,kk _ (((Sub.new hq).trans s1).trans (.new hu))⟩
theorem kKu {n:Nat} {ps:List (Nat×Nat)}:OkD 2 (.tup (.int (n:Nat)::ps.map encE)):=jV0 fun x hx=>by
 rcases (lJk.mp hx) with rfl | hx
 ·exact okD_int.mono (by decide)
 ·obtain⟨e,_,rfl⟩:=lJl.mp hx;exact okD_enc
theorem qVb {n m:Nat} {ps qs:List (Nat×Nat)}:eqT (.tup (.int (n:Nat)::ps.map encE)) (.tup (.int (m:Nat)::qs.map encE))=decide (n=m/\ps=qs):=by
 show (eqT (.int n) (.int m)&&eqTs (ps.map encE) (qs.map encE))=_
 rw[jZ0]
 have:eqT (.int (n:Nat)) (.int (m:Nat))=decide (n=m):=by
  by_cases h:n=m
  ·subst h;simp[eqT]
  ·have h2:¬ (n:Int)=m:=by omega
   rw[lJt h];simpa[eqT] using h2
 rw[this];simp
noncomputable def kUt:Sp3:=fun xs G Q=>∃(W:Web) (r:Nat) (S:jVn),xs=[encW W,.int r,jX3 S]/\Fine W/\r<W.length/\S.2.length<=1000/\∀(b:Bool) G',(b=true↔Fit W r S)->Sub G G'->Q (.bl b) G'
def N_fits:List Str:=["web","room","story"]
noncomputable def kU7:TS3:=
 (tRet (tOp rEqA (jJs kUs (jJc (tVar 0) (jJc (tVar 1) (jJc (jJs jZf (jJc (tVar 2) tNil)) tNil)))) (jJs jXs (jJc (tVar 2) tNil))))
theorem kZ3:RdOk kUt kU7 N_fits:=by
 intro xs G Q h_;apply xe3 h_;clear h_;intro W r S h_;apply ae4 h_;clear h_;intro fine hr hl kk
 show kU7 _ [some (encW W),some (.int r),some (jX3 S)] G
 wp_walk using 1,kU7,rEqA
 refine⟨S,rfl,hl,fun G1 s1=>⟨W,r,_,S.2.map (·.1),rfl,fine,hr,rfl,by simpa using hl,fun t G2 ht s2=>⟨S,rfl,hl,fun G3 s3=> ?_⟩⟩⟩
 have sb:=(s1.trans s2).trans s3
 cases hg:goW W r (S.2.map (·.1)) with
 | none=>
  rw[hg] at ht
  subst ht
  refine⟨false,?_,kk false G3 ⟨(fun z=>by cases z),fun h=> ?_⟩ sb⟩
  ·rw[kXu (d:=2) (okD_non.mono (by decide)) (by unfold qQs;rw[show (S.2.map fun s=>encE (s.2.1,s.2.2))=(S.2.map fun s=>(s.2.1,s.2.2)).map encE by rw[lKo];rfl];exact kKu) (by decide) (fun p z=>by cases z)];rfl
  ·obtain⟨es,h1,_⟩:=(kK4 S.2 r).mp h.2
   rw[hg] at h1;cases h1
 | some es=>
  rw[hg] at ht
  replace ht:t= .tup (.int (dg W r:Nat)::es.map fun e=>encE (e.2,dg W e.1)):=ht
  subst ht
  have e1:(es.map fun e=>encE (e.2,dg W e.1))=(es.map fun e=>(e.2,dg W e.1)).map encE:=by rw[lKo];rfl
  have e2:(S.2.map fun s=>encE (s.2.1,s.2.2))=(S.2.map fun s=>(s.2.1,s.2.2)).map encE:=by rw[lKo];rfl
  refine⟨_,kXu (d:=2) (by rw[e1];exact kKu) (by unfold qQs;rw[e2];exact kKu) (by decide) (fun p z=>by cases z),kk _ G3 ?_ sb⟩
  unfold qQs
  rw[e1,e2,qVb,lKw,Fit,kK4]
  constructor
  ·rintro⟨h1,h2⟩;exact⟨h1,es,hg,h2⟩
  ·rintro⟨h1,fs,h2,h3⟩
   rw[hg] at h2;cases h2;exact⟨h1,h3⟩
def jU0 (W:Web) (ds:List Nat) (es:List (Nat×Nat)):List Stp:=(ds.zip es).map fun p=>(p.1,p.2.2,dg W p.2.1)
theorem kUr {W:Web} {ds:List Nat} {es:List (Nat×Nat)}:(jU0 W ds es).length<=ds.length:=by
 simp[jU0];omega
noncomputable def jUj:Sp3:=fun xs G Q=>∃(W:Web) (r:Nat) (x:T) (ds:List Nat) (es:List (Nat×Nat)),xs=[encW W,.int r,x]/\Fine W/\r<W.length/\(x= .tup (jJ4 ds)\/jKc G x=some (jJ4 ds))/\ds.length<=1000/\goW W r ds=some es/\∀G',Sub G G'->Q (jX3 (dg W r,jU0 W ds es)) G'
def kYy:List Str:=["web","room","way","steps","door","end"]
noncomputable def jVw:TS3:=
 (tSeq (tAsg (jQj [false,false,false,false,true,true] (qYx (jJc (tVar 2) (jJc (jJs jVa (jJc (tVar 0) (jJc (tVar 1) (jJc (tVar 2) tNil)))) tNil))) (gTup 2 (jJ3 (jJg 4) (jJ3 (jJg 5) gNil))) jVl (tTup (jJc (tVar 4) (jJc (tOp rIxF (tVar 5) (tC (.int 1))) (jJc (tCB rLen (jJc (tOp rIxF (tVar 0) (tOp rIxF (tVar 5) (tC (.int 0)))) tNil)) tNil))))) (jJg 3))
 (tRet (tTup (jJc (tCB rLen (jJc (tOp rIxF (tVar 0) (tVar 1)) tNil)) (jJc (tCB jKi (jJc (tVar 3) tNil)) tNil)))))
theorem jZt {G G':Gp} {x:T} {xs:List T} (s:Sub G G') (h:jKc G x=some xs):jKc G' x=some xs:=by
 cases x with
 | ref p=>exact (by rw[show jKc G' (.ref p)=asL (G' p) from rfl,s _ _ (jQz h)];rfl)
 | _=>exact h
theorem kUw {G:Gp} {x:T} {xs:List T} (h:jKc G x=some xs):seqT G x=some xs:=by
 cases x with
 | ref p=>exact jJl (jQz h)
 | scr ys=>exact h
 | _=>cases h
theorem kKl:RdOk jUj jVw kYy:=by
 intro xs G Q h_;apply xe5 h_;clear h_;intro W r x ds es h_;apply ae6 h_;clear h_;intro fine hr hx hdl hg kk
 show jVw _ [some (.tup (W.map encR)),some (.int r),some x,none,none,none] G
 have hs:=sz
 obtain⟨b1,b2,b3⟩:=kXp fine hr hg
 obtain⟨row,hrow,hen⟩:=jV8 hr
 wp_walk using 1,jVw,qYx
 refine⟨W,r,x,ds,rfl,fine,hr,?_,hdl,fun G1 s1=>⟨(fun hn=>by rw[hg] at hn;cases hn),fun es' p he hp hp1=> ?_⟩⟩
 ·rcases hx with rfl | hx
  ·rfl
  ·exact kUw hx
 rw[hg] at he;cases he
 have hlp:jKc G1 (.ref p)=some (es.map encE):=by rw[show jKc G1 (.ref p)=asL (G1 p) from rfl,hp1];rfl
 have hx1:x= .tup (jJ4 ds)\/jKc G1 x=some (jJ4 ds):=hx.imp_right fun h=>jZt s1 h
 refine⟨jJ4 ds,es.map encE,hlp,hx1,?_⟩
 have hzip:zipT (jJ4 ds) (es.map encE)=(ds.zip es).map fun p=>T.tup [.int (p.1:Nat),encE p.2]:=by
  unfold zipT jJ4
  rw[List.zip_map,lKo];rfl
 rw[hzip]
 refine jK9 (es:=ds.zip es) (enc:=fun p=>T.tup [.int (p.1:Nat),encE p.2]) (fun p=>jZ3 (p.1,p.2.2,dg W p.2.1)) (by simp;omega) (fun G' s=>⟨jZt s hlp,hx1.imp_right fun h=>jZt s h⟩) ?_ ?_
 ·intro i p hi G' K K0 s hk
  have hm:p.2∈es:=(List.of_mem_zip (lJo hi)).2
  obtain⟨row',hrow',_⟩:=jV8 (b3 p.2 hm)
  wp_walk using 1,encE,jKy hrow',encR,List.length_map
  refine⟨by omega,?_⟩
  rw[kQ9 hrow'] at hk
  exact hk G' (.refl _)
 ·intro D G2 hD h1 s2
  wp_walk using 1,jKy hrow,encR,List.length_map
  refine⟨_,jJl h1,by omega,?_⟩
  have:=kk G2 (s1.trans s2)
  rw[jX3,kQ9 hrow,jU0,lKo] at this
  exact this
def PlN:Nat->T->Prop
 | 0,t=>∃i,t= .int i
 | n+1,t=>(∃i,t= .int i)\/∃ts,t= .tup ts/\ts.length<=6000/\∀u,u∈ts->PlN n u
noncomputable def AL:Nat->Gp->T->T->Prop
 | 0,_,x,y=>x=y/\PlN 0 x
 | n+1,G,x,y=>(x= .non/\y= .non)\/(x=y/\PlN (n+1) x)\/∃(p q:Addr) (ts:List T),x= .ref p/\y= .ref q/\G p=some (.lst ts)/\G q=some (.lst ts)/\ts.length<=6000/\∀u,u∈ts->PlN n u
def jZg (n:Nat):Sp3:=fun xs G Q=>∃x y,xs=[x,y]/\AL n G x y/\∀G',Sub G G'->Q (.bl true) G'
section
variable (jQ6:Sp3)
def jUe:List Str:=["_law_found","_law_due","_law_one","_law_other"]
noncomputable def jKr:TS3:=
 (tSeq (tIfS (jJ0 (tCB rIsi (jJc (tVar 1) (jJc (tTup (jJc (tC (.ty "list")) (jJc (tC (.ty "tuple")) tNil))) tNil)))) (tSeq (tIfS (tOr (tNot (jJ0 (tCB rIsi (jJc (tVar 0) (jJc (tTup (jJc (tC (.ty "list")) (jJc (tC (.ty "tuple")) tNil))) tNil))))) (jJ0 (tOp rNeA (tCB rIsi (jJc (tVar 0) (jJc (tC (.ty "list")) tNil))) (tCB rIsi (jJc (tVar 1) (jJc (tC (.ty "list")) tNil)))))) (tRet (tC (.bl false))) jKs)
 (tRet (kX7 (tOp rEqA (tCB rLen (jJc (tVar 0) tNil)) (tCB rLen (jJc (tVar 1) tNil))) (tCB rAll (jJc (jQj [false,false,true,true] (qU4 (jJc (tVar 0) (jJc (tVar 1) tNil))) (gTup 2 (jJ3 (jJg 2) (jJ3 (jJg 3) gNil))) jVl (jJs jQ6 (jJc (tVar 2) (jJc (tVar 3) tNil)))) tNil))))) jKs)
 (tSeq (tIfS (tOr (jJ0 (tOp rIsN (tVar 1) (tC .non))) (jJ0 (tCB rIsi (jJc (tVar 1) (jJc (tC (.ty "str")) tNil))))) (tRet (kX7 (tOp rEqA (tVar 0) (tVar 1)) (tOp rEqA (tCB rIsi (jJc (tVar 0) (jJc (tC (.ty "str")) tNil))) (tCB rIsi (jJc (tVar 1) (jJc (tC (.ty "str")) tNil)))))) jKs)
 (tRet (kX7 (tCB rIsi (jJc (tVar 0) (jJc (tC (.ty "int")) tNil))) (kX7 (tOp rEqA (tCB rIsi (jJc (tVar 0) (jJc (tC (.ty "bool")) tNil))) (tCB rIsi (jJc (tVar 1) (jJc (tC (.ty "bool")) tNil)))) (tOp rEqA (tVar 0) (tVar 1)))))))
end
theorem isi_ib {G:Gp} {i:Int}:isiT G (.int i) (.ty "bool")=some false:=rfl
theorem isi_il {G:Gp} {i:Int}:isiT G (.int i) (.tup [.ty "list",.ty "tuple"])=some false:=rfl
theorem isi_ii {G:Gp} {i:Int}:isiT G (.int i) (.ty "int")=some true:=rfl
theorem isi_is {G:Gp} {i:Int}:isiT G (.int i) (.ty "str")=some false:=rfl
theorem qYt {G:Gp} {ts:List T}:isiT G (.tup ts) (.tup [.ty "list",.ty "tuple"])=some true:=rfl
theorem isi_tl {G:Gp} {ts:List T}:isiT G (.tup ts) (.ty "list")=some false:=rfl
theorem kXv {G:Gp} {a:Bool}:eqG G (.bl a) (.bl a)=some true:=by
 rw[show eqG G (.bl a) (.bl a)=some (eqT (.bl a) (.bl a)) from rfl]
 simp[eqT]
theorem kVu {G:Gp} {a:Int}:eqG G (.int a) (.int a)=some true:=by
 rw[show eqG G (.int a) (.int a)=some (eqT (.int a) (.int a)) from rfl]
 simp[eqT]
theorem qJ3 {G:Gp} {p:Addr} {ts:List T} (h:G p=some (.lst ts)):isiT G (.ref p) (.tup [.ty "list",.ty "tuple"])=some true:=by simp only[isiT,kJd,h];rfl
theorem qV8 {G:Gp} {p:Addr} {ts:List T} (h:G p=some (.lst ts)):isiT G (.ref p) (.ty "list")=some true:=by simp only[isiT,kJd,h];rfl
theorem jXc (sp:Sp3):∀xs G Q,jZg 0 xs G Q->jKr sp {nx:=fun _ G'=>Q .non G',rt:=Q} (jK0 jUe xs) G:=by
 intro xs G Q h_;apply xe2 h_;clear h_;intro t t' h_;apply ae2 h_;clear h_;intro ht kk
 obtain⟨rfl,ht⟩:=ht
 show jKr _ _ [some t,some t,none,none] G
 have hs:=sz
 obtain⟨i,rfl⟩:=ht
 wp_walk using 1,jKr,rIsi,rEqA,rIsN,kVu,kXv,isi_ib,isi_il,isi_ii,isi_is
 exact⟨by omega,kk G (.refl _)⟩
theorem kV3 {ts:List T}:zipT ts ts=ts.map fun t=>T.tup [t,t]:=by
 unfold zipT
 induction ts with
 | nil=>rfl
 | cons a as ih=>rw[lVs,lJp,ih];rfl
theorem al_in {n:Nat} {G:Gp} {u:T} (h:PlN n u):AL n G u u:=by
 cases n with
 | zero=>exact⟨rfl,h⟩
 | succ n=>exact .inr (.inl ⟨rfl,h⟩)
theorem jQw (n:Nat):∀xs G Q,jZg (n+1) xs G Q->jKr (jZg n) {nx:=fun _ G'=>Q .non G',rt:=Q} (jK0 jUe xs) G:=by
 intro xs G Q h_;apply xe2 h_;clear h_;intro x y h_;apply ae2 h_;clear h_;intro ht kk
 rcases ht with ⟨rfl,rfl⟩ | ⟨rfl,h | ⟨ts,rfl,hl,hts⟩⟩ | ⟨p,q,ts,rfl,rfl,hp,hq,hl,hts⟩
 ·rw[show jK0 jUe [.non,.non]=[some .non,some .non,none,none] from rfl]
  have hs:=sz
  wp_walk using 1,jKr,rIsi,rEqA,rIsN
  refine⟨by omega,false,rfl,?_⟩
  rw[lJa (by decide)]
  refine⟨true,rfl,?_⟩
  rw[lJc rfl]
  exact⟨false,rfl,false,rfl,true,kXv,kk G (.refl _)⟩
 ·exact jXc _ _ _ _ ⟨x,x,rfl,⟨rfl,h⟩,kk⟩
 ·rw[show jK0 jUe [.tup ts,.tup ts]=[some (.tup ts),some (.tup ts),none,none] from rfl]
  have hs:=sz
  wp_walk using 1,jKr,rIsi,rEqA,rNeA,qU4,qYt,isi_tl,kXv,kVu
  refine⟨by omega,by omega,ts,ts,.inl ⟨rfl,rfl,?_⟩⟩
  rw[kV3]
  refine jK9 (fun _=>T.bl true) (by omega) (fun _ _=>trivial) ?_ ?_
  ·intro i t ht G' K K0 s hk
   wp_walk using 1,tSeq
   exact⟨t,t,rfl,al_in (hts t (lJo ht)),fun G4 s4=>hk G4 s4⟩
  ·intro D G' hD h1 h2
   refine⟨D,_,_,rfl,h1,jXr (f:=fun _=>true),?_⟩
   rw[lQf.mpr (fun _ _=>rfl)]
   exact kk G' h2
 ·rw[show jK0 jUe [.ref p,.ref q]=[some (.ref p),some (.ref q),none,none] from rfl]
  have hs:=sz
  have lp:∀G' a,Sub G G'->G a=some (.lst ts)->jKc G' (.ref a)=some ts:=fun G' a s h=>by rw[show jKc G' (.ref a)=asL (G' a) from rfl,s _ _ h];rfl
  wp_walk using 1,jKr,rIsi,rEqA,rNeA,qU4,qJ3 hp,qJ3 hq,qV8 hp,qV8 hq,kXv,kVu,jJl hp,jJl hq
  refine⟨by omega,by omega,ts,ts,.inr ⟨lp G p (.refl _) hp,lp G q (.refl _) hq,?_⟩⟩
  rw[kV3]
  refine jK9 (fun _=>T.bl true) (by omega) (fun G' s=>⟨lp G' p s hp,lp G' q s hq⟩) ?_ ?_
  ·intro i t ht G' K K0 s hk
   wp_walk using 1,tSeq
   exact⟨t,t,rfl,al_in (hts t (lJo ht)),fun G4 s4=>hk G4 s4⟩
  ·intro D G' hD h1 h2
   refine⟨D,_,_,rfl,h1,jXr (f:=fun _=>true),?_⟩
   rw[lQf.mpr (fun _ _=>rfl)]
   exact kk G' h2
theorem pl_int {n:Nat} {i:Int}:PlN n (.int i):=by
 cases n with
 | zero=>exact⟨i,rfl⟩
 | succ n=>exact .inl ⟨i,rfl⟩
abbrev jQ6:=jZg 4
def keyR (es:List (Nat×Nat)):List L2.K1:=es.map fun p=> .inr [.inl (p.1:Int),.inl (p.2:Int)]
def keyW (V:Web):L2.TKey:=V.map fun es=> .inr (keyR es)
theorem kQd {α K:Type} {f:T->Option K} {enc:α->T} {g:α->K} (h:∀a,f (enc a)=some (g a)):∀l:List α,allK f (l.map enc)=some (l.map g)
 | []=>rfl
 | a::l=>by
  rw[lJp,lJp]
  unfold allK
  rw[h a,kQd h l]
theorem keysW (V:Web):jQh (V.map encR)=some (keyW V):=kQd (fun es=>by
 show (allK key1 _).map Sum.inr=_
 rw[kQd (g:=fun p:Nat×Nat=>(.inr [.inl (p.1:Int),.inl (p.2:Int)]:L2.K1)) fun p=>rfl];rfl) V
theorem qQl {V:Web} (h:1<=V.length):SKey false (V.map encR) (keyW V):=by
 refine⟨keysW V,?_,?_⟩
 ·cases V with
  | nil=>cases h
  | cons a V=>rfl
 ·show (keyW V).all _=true
  rw[lQf]
  intro k hk
  obtain⟨es,_,rfl⟩:=lJl.mp hk
  show (keyR es).all _=true
  rw[lQf]
  intro k hk
  obtain⟨p,_,rfl⟩:=lJl.mp hk
  rfl
theorem jY0 {α K:Type} [DecidableEq K] {lt:K->K->Option Bool} {f:α->K} (h:∀a b,(lt (f a) (f b)).isSome=true):∀a b:List α,(L3.lexLt lt (a.map f) (b.map f)).isSome=true
 | [],[]=>rfl
 | [],_::_=>rfl
 | _::_,[]=>rfl
 | x::a,y::b=>by
  rw[lJp,lJp]
  unfold L3.lexLt
  split
  ·exact jY0 h a b
  ·exact h x y
theorem qX3 (p q:Nat×Nat):(L3.lexLt ltI [.inl (p.1:Int),.inl (p.2:Int)] [.inl (q.1:Int),.inl (q.2:Int)]).isSome=true:=
 jY0 (lt:=ltI) (f:=fun i:Nat=>(.inl (i:Int):L2.Key)) (fun i j=>rfl) [p.1,p.2] [q.1,q.2]
theorem row_lt (es fs:List (Nat×Nat)):(L3.lexLt (ltS ltI) (keyR es) (keyR fs)).isSome=true:=
 jY0 (lt:=ltS ltI) (f:=fun p:Nat×Nat=>(.inr [.inl (p.1:Int),.inl (p.2:Int)]:L2.K1)) (fun p q=>qX3 p q) es fs
theorem web_lt (V V':Web):(ltK (keyW V) (keyW V')).isSome=true:=
 jY0 (lt:=ltS (ltS ltI)) (f:=fun es=>(.inr (keyR es):L2.K2)) (fun es fs=>row_lt es fs) V V'
theorem jVf {K:Type} [DecidableEq K] {lt:K->K->Option Bool}:∀a:List K,L3.lexLt lt a a=some false
 | []=>rfl
 | x::a=>by unfold L3.lexLt;rw[lJc rfl];exact jVf a
theorem kZb:∀ {a b:List L2.TKey},a.Pairwise (fun x y=>ltK x y=some true)->b.Pairwise (fun x y=>ltK x y=some true)->(∀x,x∈a↔x∈b)->a=b
 | [],[],_,_,_=>rfl
 | [],y::b,_,_,h=>by have:=(h y).mpr (lJz ..);cases this
 | x::a,[],_,_,h=>by have:=(h x).mp (lJz ..);cases this
 | x::a,y::b,ha,hb,h=>by
  rw[List.pairwise_cons] at ha hb
  have no:∀z:L2.TKey,ltK z z≠some true:=fun z e=>by rw[show ltK z z=some false from jVf z] at e;cases e
  have e:x=y:=by
   rcases lJk.mp ((h x).mp (lJz ..)) with e | hx
   ·exact e
   ·rcases lJk.mp ((h y).mpr (lJz ..)) with e | hy
    ·exact e.symm
    ·exact absurd (kVp (ha.1 y hy) (hb.1 x hx)) (no x)
  subst e
  rw[kZb ha.2 hb.2 fun z=>⟨fun hz=> ?_,fun hz=> ?_⟩]
  ·rcases lJk.mp ((h z).mp (lJ4 _ hz)) with e | q
   ·subst e;exact absurd (ha.1 z hz) (no z)
   ·exact q
  ·rcases lJk.mp ((h z).mpr (lJ4 _ hz)) with e | q
   ·subst e;exact absurd (hb.1 z hz) (no z)
   ·exact q
theorem kQ1:∀ {a b:List (List T×L2.TKey)},(∀e,e∈a->jQh e.1=some e.2)->(∀e,e∈b->jQh e.1=some e.2)->a.map (·.2)=b.map (·.2)->a=b
 | [],[],_,_,_=>rfl
 | [],_::_,_,_,e=>by cases e
 | _::_,[],_,_,e=>by cases e
 | x::a,y::b,ha,hb,e=>by
  rw[lJp,lJp,lVz] at e
  have h1:=ha x (lJz ..)
  have h2:=hb y (lJz ..)
  rw[e.1] at h1
  rw[show x=y from Prod.ext (kJw h1 h2) e.1,kQ1 (fun e h=>ha e (lJ4 _ h)) (fun e h=>hb e (lJ4 _ h)) e.2]
theorem kUy {xs xs' ys ys':List T} {kys kys':List (List T×L2.TKey)} (h:Rising xs ys kys) (h':Rising xs' ys' kys') (hm:∀t,t∈xs↔t∈xs'):ys=ys':=by
 have sub:∀ {xs xs' ys ys':List T} {kys kys':List (List T×L2.TKey)},Rising xs ys kys->Rising xs' ys' kys'->(∀t,t∈xs->t∈xs')->∀k,k∈kys.map (·.2)->k∈kys'.map (·.2):=by
  intro xs xs' ys ys' kys kys' h h' hm k hk
  obtain⟨e,he,rfl⟩:=lJl.mp hk
  have:T.tup e.1∈ys:=by rw[h.eq];exact lVl he
  have:=(h'.mem _).mpr (hm _ ((h.mem _).mp this))
  rw[h'.eq] at this
  obtain⟨e',he',ee⟩:=lJl.mp this
  have k1:=h'.keys e' he'
  rw[T.tup.inj ee,h.keys e he] at k1
  exact lJl.mpr ⟨e',he',(lJn k1).symm⟩
 have u1:=h.up
 have u2:=h'.up
 rw[h.eq,h'.eq,kQ1 h.keys h'.keys (kZb (by rw[lQ7];exact u1) (by rw[lQ7];exact u2) fun k=>⟨sub h h' (fun t=>(hm t).mp) k,sub h' h (fun t=>(hm t).mpr) k⟩)]
theorem kYc {Us:List Web} {ys:List T} {kys:List (List T×L2.TKey)} (h:Rising (Us.map encW) ys kys):ys.length<=Us.length:=by
 have nd:(kys.map (·.2)).Nodup:=by
  rw[List.Nodup,lQ7]
  refine h.up.imp fun {x y} z e=> ?_
  rw[e,show ltK y.2 y.2=some false from jVf y.2] at z;cases z
 have sb:(kys.map (·.2)) ⊆ Us.map keyW:=fun k hk=>by
  obtain⟨e,he,rfl⟩:=lJl.mp hk
  have:T.tup e.1∈ys:=by rw[h.eq];exact lVl he
  obtain⟨V,hV,e2⟩:=lJl.mp ((h.mem _).mp this)
  have k1:=h.keys e he
  rw[<-T.tup.inj e2,keysW] at k1
  exact lJl.mpr ⟨V,hV,lJn k1⟩
 have:=nd.length_le_of_subset sb
 rw[h.eq,lJg]
 simpa using this
structure Due (W:Web) (r:Nat) (S:jVn) (ts:List T):Prop where
 ex:∃(Us:List Web) (kys:List (List T×L2.TKey)),Rising (Us.map encW) ts kys/\∀V,V∈Us↔(V=W\/IsC W V)/\Fit V r S
 fine:∀t,t∈ts->∃V,t=encW V/\Fine V
 len:ts.length<=310
theorem Due.uniq {W:Web} {r:Nat} {S:jVn} {ts ts':List T} (h:Due W r S ts) (h':Due W r S ts'):ts=ts':=by
 obtain⟨Us,kys,a1,a2⟩:=h.ex
 obtain⟨Us',kys',b1,b2⟩:=h'.ex
 refine kUy a1 b1 fun t=>⟨fun ht=> ?_,fun ht=> ?_⟩
 ·obtain⟨V,hV,rfl⟩:=lJl.mp ht
  exact lVl ((b2 V).mpr ((a2 V).mp hV))
 ·obtain⟨V,hV,rfl⟩:=lJl.mp ht
  exact lVl ((a2 V).mpr ((b2 V).mp hV))
theorem qKo {W:Web} {r:Nat} {S:jVn} {Vs Us:List Web} {D:Addr} {G:Gp} {K:Addr->List T->Prop} (hw:1<=W.length) (hl:Vs.length<=308) (hm:∀V,V∈Vs↔V=W\/IsC W V) (hf:∀V,V∈Vs->Fine V/\V.length=W.length) (hU:Us=Vs.filter fun V=> @decide (Fit V r S) (Classical.propDecidable _)) (hD:G D=some (.lst (Us.map encW))) (kk:∀p ts,G p=none->Due W r S ts->K p ts):
  ∃(b:Bool) (tks:List (List T×L2.TKey)),jKc G (.ref D)=some (tks.map fun e:List T×L2.TKey=> .tup e.1)/\(∃us:List L2.TKey,us.length<400/\∀e,e∈tks->e.2∈us)/\(∀e,e∈tks->SKey b e.1 e.2)/\(∀e,e∈tks->∀e',e'∈tks->(ltK e.2 e'.2).isSome=true)/\∀(p:Addr) (ys:List T) (kys:List (List T×L2.TKey)),G p=none->Rising (tks.map fun e=> .tup e.1) ys kys->K p ys:=by
 have hUm:∀V,V∈Us↔(V=W\/IsC W V)/\Fit V r S:=fun V=>by rw[hU,lVc,hm];simp
 have hUl:Us.length<=308:=by rw[hU];exact lKf (lYa _ _) hl
 have hUf:∀V,V∈Us->Fine V/\V.length=W.length:=fun V hV=>hf V (by rw[hU] at hV;exact (lVc.mp hV).1)
 have e0:((Us.map fun V=>(V.map encR,keyW V)).map fun e:List T×L2.TKey=>T.tup e.1)=Us.map encW:=by rw[lKo];rfl
 refine⟨false,Us.map fun V=>(V.map encR,keyW V),?_,⟨Us.map keyW,by rw[lJg];omega,fun e he=> ?_⟩,fun e he=> ?_,fun e he e' he'=> ?_,fun p ys kys hp ris=> ?_⟩
 ·rw[show jKc G (.ref D)=asL (G D) from rfl,hD,e0];rfl
 ·obtain⟨V,hV,rfl⟩:=lJl.mp he
  exact lVl hV
 ·obtain⟨V,hV,rfl⟩:=lJl.mp he
  exact qQl (by rw[(hUf V hV).2];exact hw)
 ·obtain⟨V,hV,rfl⟩:=lJl.mp he
  obtain⟨V',hV',rfl⟩:=lJl.mp he'
  exact web_lt V V'
 ·rw[e0] at ris
  refine kk p ys hp ⟨⟨Us,kys,ris,hUm⟩,fun t ht=> ?_,by have:=kYc ris;omega⟩
  obtain⟨V,hV,rfl⟩:=lJl.mp ((ris.mem t).mp ht)
  exact⟨V,rfl,(hUf V hV).1⟩
theorem qVz {W:Web} (f:Fine W):PlN 3 (encW W):=by
 refine .inr ⟨_,rfl,by have:=f.len;rw[lJg];omega,fun u hu=> ?_⟩
 obtain⟨es,hes,rfl⟩:=lJl.mp hu
 obtain⟨r,hr⟩:=lJ6 hes
 refine .inr ⟨_,rfl,by have:=f.row r es hr;rw[lJg];omega,fun u hu=> ?_⟩
 obtain⟨e,_,rfl⟩:=lJl.mp hu
 refine .inr ⟨_,rfl,by simp,fun u hu=> ?_⟩
 simp only[lJr,lJk,lJ0] at hu
 rcases hu with rfl | rfl<;>exact pl_int
theorem jXn {α β:Type} {p:α->Bool} {f:α->β}:∀l:List α,l.filterMap (fun r=>if p r=true then some (f r) else none)=(l.filter p).map f
 | []=>rfl
 | a::l=>by
  rw[lQa,lXm]
  by_cases h:p a=true
  ·rw[lJc h,lJc h,lJp,jXn l]
  ·rw[lJa h,lJa h,jXn l]
noncomputable def fitB (r:Nat) (S:jVn) (V:Web):Bool:= @decide (Fit V r S) (Classical.propDecidable _)
theorem fitB_iff {r:Nat} {S:jVn} {V:Web}:fitB r S V=true↔Fit V r S:=by unfold fitB;simp
noncomputable def jQt:Sp3:=fun xs G Q=>∃(W:Web) (r:Nat) (S:jVn),xs=[encW W,.int r,jX3 S]/\Fine W/\Sym W/\(jJv W).length<=18/\r<W.length/\S.2.length<=1000/\∀p ts G',G p=none->G' p=some (.lst ts)->Due W r S ts->Sub G G'->Q (.ref p) G'
def kV1:List Str:=["web","room","story","other"]
noncomputable def jU1:TS3:=
 (tRet (jZe (jJc (jQj [false,false,false,true] (iSeq (tOp jKe (tLst (jJc (tVar 0) tNil)) (jJs jQ2 (jJc (tVar 0) tNil)))) (jJg 3) (jJ0 (jJs kUt (jJc (tVar 3) (jJc (tVar 1) (jJc (tVar 2) tNil))))) (tVar 3)) tNil)))
theorem kJe:RdOk jQt jU1 kV1:=by
 intro xs G Q h_;apply xe3 h_;clear h_;intro W r S h_;apply ae6 h_;clear h_;intro fine sym h9 hr hl kk
 show jU1 _ [some (encW W),some (.int r),some (jX3 S),none] G
 have hs:=sz
 wp_walk using 1,jU1,jZe,iSeq
 refine⟨by omega,fun q hq=>⟨W,rfl,fine,sym,by omega,h9,fun a Vs G1 ha hG1 hVl hVm hVf s1=> ?_⟩⟩
 have hq1:=s1 _ _ (jJh (G:=G) (a:=q) (o:= .lst [encW W]))
 refine⟨_,jZc hq1 hG1 (by simp;omega),?_⟩
 rw[jZz]
 intro u hu
 have em:[encW W]++Vs.map encW=(W::Vs).map encW:=rfl
 rw[em]
 refine⟨_,jYy,?_⟩
 have hm:∀V,V∈W::Vs↔V=W\/IsC W V:=fun V=>by rw[lJk,hVm]
 have hf:∀V,V∈W::Vs->Fine V/\V.length=W.length:=fun V hV=>by
  rcases (lJk.mp hV) with rfl | hV
  ·exact⟨fine,rfl⟩
  ·exact hVf V hV
 have hu2:∀G',Sub (gup G1 u (.lst ((W::Vs).map encW))) G'->seqT G' (.ref u)=some ((W::Vs).map encW):=fun G' s=>jJl (s _ _ jJh)
 refine jUq (fun V=>if fitB r S V=true then some (encW V) else none) (by simp;omega) hu2 ?_ ?_
 ·intro i V hV G2 K K0 s2 hK hK0
  have hf:=hf V (lJo hV)
  wp_walk using 1,tSeq
  refine⟨V,r,S,rfl,hf.1,by omega,hl,fun b G3 hb s3=>⟨b,rfl,?_⟩⟩
  by_cases h:fitB r S V=true
  ·rw[lJc (hb.mpr (fitB_iff.mp h))]
   exact hK _ _ (by rw[lJc h]) s3
  ·rw[lJa fun z=>h (fitB_iff.mpr (hb.mp z))]
   exact hK0 (by rw[lJa h]) _ s3
 ·intro D G2 hD hD2 s2
  rw[jXn] at hD2
  have sG:Sub G G2:=(((Sub.new hq).trans s1).trans (.new hu)).trans s2
  exact qKo (by omega) (by simp;omega) hm hf rfl hD2 fun p ts hp du=>kk p ts _ (sG.none hp) jJh du (sG.trans (.new hp))
theorem kY7 {U V:Web} (hl:U.length=V.length) (h:∀r i,en U r i=en V r i):U=V:=by
 apply lVb
 intro r
 by_cases hr:r<U.length
 ·have h1:U[r]? =some U[r]:=lJm hr
  have h2:V[r]? =some (V[r]'(by omega)):=lJm (by omega)
  rw[h1,h2]
  congr 1
  apply lVb
  intro i
  have:=h r i
  unfold en at this
  rw[h1,h2] at this
  exact this
 ·rw[lKi (by omega),lKi (by omega)]
def ent (W:Web) (e:Nat×Nat):Option (Nat×Nat):=en W e.1 e.2
theorem qVy {W:Web} {a e:Nat×Nat} (h:Dr W a) (x:Nat×Nat):ent (pt W a e) x=if x=a then some e else ent W x:=by
 unfold ent
 rw[qX1 h]
 by_cases c:x=a
 ·rw[lJc c,lJc (by rw[c];exact⟨rfl,rfl⟩)]
 ·rw[lJa c,lJa fun z=>c (Prod.ext z.1 z.2)]
theorem jYu {W:Web} {p q:Nat×Nat} (hp:Dr W p) (hq:Dr W q) (x:Nat×Nat):ent (tie2 W p q) x=if x=q then some p else if x=p then some q else ent W x:=by
 unfold tie2
 rw[qVy (hq.pt hp),qVy hp]
theorem kZk {W:Web} {p q:Nat×Nat} (hp:Dr W p) (hq:Dr W q):tie2 W p q=tie2 W q p:=by
 refine kY7 (by rw[jYt,jYt]) fun r i=> ?_
 show ent _ (r,i)=ent _ (r,i)
 rw[jYu hp hq,jYu hq hp]
 by_cases c:(r,i)=q
 ·rw[lJc c]
  by_cases c':(r,i)=p
  ·rw[lJc c',<-c,<-c']
  ·rw[lJa c',lJc c]
 ·rw[lJa c,lJa c]
structure IsX (W V:Web) (a b c d:Nat×Nat):Prop where
 len:V.length=W.length
 to:∀x,ent V x=if x=b then some c else if x=c then some b else if x=d then some a else if x=a then some d else ent W x
theorem IsX.uniq {W V V':Web} {a b c d:Nat×Nat} (h:IsX W V a b c d) (h':IsX W V' a b c d):V=V':=
 kY7 (by rw[h.len,h'.len]) fun r i=>(h.to (r,i)).trans (h'.to (r,i)).symm
structure Four (W:Web) (a b c d:Nat×Nat):Prop where
 ab:ent W a=some b
 ba:ent W b=some a
 cd:ent W c=some d
 dc:ent W d=some c
 ac:a≠c
 ad:a≠d
 bc:b≠c
 bd:b≠d
theorem Four.rev {W:Web} {a b c d:Nat×Nat} (h:Four W a b c d):Four W a b d c:=⟨h.ab,h.ba,h.dc,h.cd,h.ad,h.ac,h.bd,h.bc⟩
theorem Four.swap {W:Web} {a b c d:Nat×Nat} (h:Four W a b c d):Four W c d a b:=⟨h.cd,h.dc,h.ab,h.ba,h.ac.symm,h.bc.symm,h.ad.symm,h.bd.symm⟩
theorem IsX.swap {W V:Web} {a b c d:Nat×Nat} (f:Four W a b c d) (h:IsX W V a b c d) (e:a=b↔c=d):IsX W V c d a b:=by
 refine⟨h.len,fun x=> ?_⟩
 rw[h.to]
 have:=f.ac;have:=f.ad;have:=f.bc;have:=f.bd
 by_cases h1:x=a<;>by_cases h2:x=b<;>by_cases h3:x=c<;>by_cases h4:x=d<;>simp_all
theorem IsX.rev {W V:Web} {a b c d:Nat×Nat} (f:Four W a b c d) (h:IsX W V a b c d) (e:a=b↔c=d):IsX W V b a d c:=by
 refine⟨h.len,fun x=> ?_⟩
 rw[h.to]
 have:=f.ac;have:=f.ad;have:=f.bc;have:=f.bd
 by_cases h1:x=a<;>by_cases h2:x=b<;>by_cases h3:x=c<;>by_cases h4:x=d<;>simp_all
theorem IsX.undo {W V:Web} {a b c d:Nat×Nat} (f:Four W a b c d) (h:IsX W V a b c d) (e:a≠b) (e':c≠d):Four V a d c b/\IsX V W a d c b:=by
 have h1:=f.ac;have h2:=f.ad;have h3:=f.bc;have h4:=f.bd
 have f1:=f.ab;have f2:=f.ba;have f3:=f.cd;have f4:=f.dc
 refine⟨⟨?_,?_,?_,?_,h1,e,e'.symm,h4.symm⟩,h.len.symm,fun x=> ?_⟩
 ·rw[h.to,lJa e,lJa h1,lJa h2,lJc rfl]
 ·rw[h.to,lJa h4.symm,lJa e'.symm,lJc rfl]
 ·rw[h.to,lJa h3.symm,lJc rfl]
 ·rw[h.to,lJc rfl]
 ·rw[h.to]
  by_cases g1:x=a<;>by_cases g2:x=b<;>by_cases g3:x=c<;>by_cases g4:x=d<;>simp_all
theorem sym_ent {W:Web}:Sym W↔∀x y,ent W x=some y->ent W y=some x:=⟨fun h x y e=>h _ _ _ _ e,fun h r i s j e=>h (r,i) (s,j) e⟩
theorem IsX.sym {W V:Web} {a b c d:Nat×Nat} (f:Four W a b c d) (h:IsX W V a b c d) (e:a=b↔c=d) (sym:Sym W):Sym V:=by
 rw[sym_ent] at sym ⊢
 intro x y hy
 rw[h.to] at hy ⊢
 have h1:=f.ac;have h2:=f.ad;have h3:=f.bc;have h4:=f.bd
 have f1:=f.ab;have f2:=f.ba;have f3:=f.cd;have f4:=f.dc
 by_cases g1:x=b
 ·rw[lJc g1] at hy;cases hy
  rw[lJa h3.symm,lJc rfl,g1]
 rw[lJa g1] at hy
 by_cases g2:x=c
 ·rw[lJc g2] at hy;cases hy
  rw[lJc rfl,g2]
 rw[lJa g2] at hy
 by_cases g3:x=d
 ·rw[lJc g3] at hy;cases hy
  have:a≠b:=fun z=>g2 (g3.trans (e.mp z).symm)
  rw[lJa this,lJa h1,lJa h2,lJc rfl,g3]
 rw[lJa g3] at hy
 by_cases g4:x=a
 ·rw[lJc g4] at hy;cases hy
  have:c≠d:=fun z=>g1 (g4.trans (e.mpr z))
  rw[lJa h4.symm,lJa this.symm,lJc rfl,g4]
 rw[lJa g4] at hy
 have z:=sym _ _ hy
 have n1:y≠b:=fun z'=>by rw[z',f2] at z;exact g4 (lJn z).symm
 have n2:y≠c:=fun z'=>by rw[z',f3] at z;exact g3 (lJn z).symm
 have n3:y≠d:=fun z'=>by rw[z',f4] at z;exact g2 (lJn z).symm
 have n4:y≠a:=fun z'=>by rw[z',f1] at z;exact g1 (lJn z).symm
 rw[lJa n1,lJa n2,lJa n3,lJa n4,z]
theorem IsX.num {W V:Web} {a b c d:Nat×Nat} {N:Nat} (f:Four W a b c d) (h:IsX W V a b c d) (e:a=b↔c=d) (sym:Sym W) (nt:NumT W N):NumT V N:=by
 obtain⟨t,ht⟩:=nt
 have sv:=sym_ent.mp (h.sym f e sym)
 have h1:=f.ac;have h2:=f.ad;have h3:=f.bc;have h4:=f.bd
 have key:∀x y,ent W x=some y->t x.1 x.2<N/\∀x' y',ent W x'=some y'->t x'.1 x'.2=t x.1 x.2->x'=x\/x'=y:=fun x y hx=>⟨(ht _ _ _ hx).1,fun x' y' hx' hh=>(ht _ _ _ hx).2 _ _ _ hx' hh⟩
 have ka:=key _ _ f.ab
 have kc:=key _ _ f.cd
 have eq1:t b.1 b.2=t a.1 a.2->True:=fun _=>trivial
 let u:Nat×Nat->Nat:=fun x=>if x=a\/x=d then t a.1 a.2 else if x=b\/x=c then t c.1 c.2 else t x.1 x.2
 have old:∀x y,ent V x=some y->x≠a->x≠b->x≠c->x≠d->ent W x=some y:=fun x y hx n1 n2 n3 n4=>by
  rw[h.to,lJa n2,lJa n3,lJa n4,lJa n1] at hx;exact hx
 refine⟨fun r i=>u (r,i),fun r i y hy=> ?_⟩
 have hy:ent V (r,i)=some y:=hy
 show u (r,i)<N/\∀r' i' y',en V r' i'=some y'->u (r',i')=u (r,i)->(r',i')=(r,i)\/(r',i')=y
 generalize (r,i)=x at hy ⊢
 refine⟨?_,fun r' i' y' hy' hu=> ?_⟩
 ·simp only[u]
  split
  ·exact ka.1
  ·split
   ·exact kc.1
   ·rename_i n1 n2
    exact (key x y (old x y hy (fun z=>n1 (.inl z)) (fun z=>n2 (.inl z)) (fun z=>n2 (.inr z)) fun z=>n1 (.inr z))).1
 ·have hy':ent V (r',i')=some y':=hy'
  generalize (r',i')=x' at hy' hu ⊢
  have va:ent V a=some d:=by
   rw[h.to]
   by_cases z:a=b
   ·rw[lJc z,e.mp z]
   ·rw[lJa z,lJa h1,lJa h2,lJc rfl]
  have vb:ent V b=some c:=by rw[h.to,lJc rfl]
  have vd:=sv _ _ va
  have vc:=sv _ _ vb
  have tw:∀p q,ent V p=some q->∀x x' y,ent V x=some y->(x=p\/x=q)->(x'=p\/x'=q)->x'=x\/x'=y:=fun p q hp x x' y hx g1 g2=>by
   have hq:=sv _ _ hp
   rcases g1 with rfl | rfl<;>rcases g2 with rfl | rfl
   ·exact .inl rfl
   ·rw[hp] at hx;cases hx;exact .inr rfl
   ·rw[hq] at hx;cases hx;exact .inr rfl
   ·exact .inl rfl
  have cross:∀x y,ent V x=some y->x≠a->x≠b->x≠c->x≠d->t x.1 x.2≠t a.1 a.2/\t x.1 x.2≠t c.1 c.2:=fun x y hx n1 n2 n3 n4=>by
   have hw:=old x y hx n1 n2 n3 n4
   (refine⟨fun z=> ?_,fun z=> ?_⟩)
   ·rcases ka.2 _ _ hw z with g | g
    ·exact n1 g
    ·exact n2 g
   ·rcases kc.2 _ _ hw z with g | g
    ·exact n3 g
    ·exact n4 g
  have acn:t a.1 a.2≠t c.1 c.2:=fun z=>by
   rcases kc.2 _ _ f.ab z with g | g
   ·exact h1 g
   ·exact h2 g
  simp only[u] at hu
  by_cases p1:x=a\/x=d
  ·rw[lJc p1] at hu
   by_cases p2:x'=a\/x'=d
   ·exact tw a d va x x' y hy p1 p2
   ·rw[lJa p2] at hu
    by_cases p3:x'=b\/x'=c
    ·rw[lJc p3] at hu;exact absurd hu.symm acn
    ·rw[lJa p3] at hu
     exact absurd hu (cross x' y' hy' (fun z=>p2 (.inl z)) (fun z=>p3 (.inl z)) (fun z=>p3 (.inr z)) fun z=>p2 (.inr z)).1
  ·rw[lJa p1] at hu
   by_cases q1:x=b\/x=c
   ·rw[lJc q1] at hu
    by_cases p2:x'=a\/x'=d
    ·rw[lJc p2] at hu;exact absurd hu acn
    ·rw[lJa p2] at hu
     by_cases p3:x'=b\/x'=c
     ·exact tw b c vb x x' y hy q1 p3
     ·rw[lJa p3] at hu
      exact absurd hu (cross x' y' hy' (fun z=>p2 (.inl z)) (fun z=>p3 (.inl z)) (fun z=>p3 (.inr z)) fun z=>p2 (.inr z)).2
   ·rw[lJa q1] at hu
    have cx:=cross x y hy (fun z=>p1 (.inl z)) (fun z=>q1 (.inl z)) (fun z=>q1 (.inr z)) fun z=>p1 (.inr z)
    by_cases p2:x'=a\/x'=d
    ·rw[lJc p2] at hu;exact absurd hu.symm cx.1
    ·rw[lJa p2] at hu
     by_cases p3:x'=b\/x'=c
     ·rw[lJc p3] at hu;exact absurd hu.symm cx.2
     ·rw[lJa p3] at hu
      exact (key x y (old x y hy (fun z=>p1 (.inl z)) (fun z=>q1 (.inl z)) (fun z=>q1 (.inr z)) fun z=>p1 (.inr z))).2 x' y' (old x' y' hy' (fun z=>p2 (.inl z)) (fun z=>p3 (.inl z)) (fun z=>p3 (.inr z)) fun z=>p2 (.inr z)) hu
theorem qVk {W:Web} {f s:Tie} {ab:Nat} (h:Two W f s ab):IsX W (crs W f s ab) f.1 f.2 (fo s ab) (la s ab):=by
 refine⟨kQa,fun x=> ?_⟩
 unfold crs
 rw[jYu (h.fo.tie2 h.f1 h.la) (h.f2.tie2 h.f1 h.la),jYu h.f1 h.la]
theorem kVt {W:Web} {f s:Tie} (sym:Sym W) (hf:f∈jJv W) (hs:s∈jJv W) (hne:f≠s):Four W f.1 f.2 s.1 s.2:=by
 obtain⟨f1,f2⟩:=endsL_mem.mp hf
 obtain⟨s1,s2⟩:=endsL_mem.mp hs
 have f3:ent W f.2=some f.1:=sym _ _ _ _ f1
 have s3:ent W s.2=some s.1:=sym _ _ _ _ s1
 have f1:ent W f.1=some f.2:=f1
 have s1:ent W s.1=some s.2:=s1
 have same:f.1=s.1->False:=fun z=>by
  rw[z,s1] at f1
  exact hne (Prod.ext z (lJn f1).symm)
 have crossd:f.1=s.2->False:=fun z=>by
  rw[z,s3] at f1
  have e2:=lJn f1
  rw[z,<-e2] at f2
  rw[kVn] at f2 s2
  exact same (z.trans (Prod.ext (by omega) (by omega)))
 refine⟨f1,f3,s1,s3,same,crossd,fun z=> ?_,fun z=> ?_⟩
 ·rw[z,s1] at f3
  exact crossd (lJn f3).symm
 ·rw[z,s3] at f3
  exact same (lJn f3).symm
theorem qY6 {W:Web} {f s:Tie} {ab:Nat} (h:Four W f.1 f.2 s.1 s.2):Four W f.1 f.2 (fo s ab) (la s ab):=by
 unfold fo la
 split
 ·exact h
 ·exact h.rev
theorem loop_ab {s:Tie} {ab:Nat}:fo s ab=la s ab↔s.1=s.2:=by
 unfold fo la
 split
 ·exact Iff.rfl
 ·exact eq_comm
theorem Two.swap {W:Web} {f s:Tie} {ab:Nat} (h:Two W f s ab):Two W s f ab:=⟨h.fine,h.w1,h.s1,h.s2,h.f1,h.f2,h.ab⟩
theorem qKn {W:Web} {f s:Tie} {ab:Nat} (tw:Two W f s ab) (h:Four W f.1 f.2 s.1 s.2):dueT W f s ab=dueT W s f ab:=by
 unfold dueT
 by_cases c:decide (f.1=f.2)=decide (s.1=s.2)
 ·have e:f.1=f.2↔s.1=s.2:=by simpa using c
  have x1:=qVk tw
  have x2:=qVk tw.swap
  have:crs W f s ab=crs W s f ab:=by
   rcases (by have:=tw.ab;omega:ab=0\/ab=1) with rfl | rfl
   ·exact (x1.swap h e).uniq x2
   ·exact ((x1.swap h.rev (e.trans eq_comm)).rev h.rev.swap (e.trans eq_comm).symm).uniq x2
  rw[this,c]
 ·rw[lJa fun z=>c z.1,lJa fun z=>c z.1.symm]
structure Crossed (W V:Web) (N:Nat):Prop where
 fine:Fine V
 sym:Sym V
 len:V.length=W.length
 num:NumT V N
theorem isC_ok {W V:Web} {N:Nat} {i j:Nat} {f s:Tie} {ab:Nat} (fine:Fine W) (sym:Sym W) (w1:1<=W.length) (nt:NumT W N) (hne:i≠j) (hi:(jJv W)[i]? =some f) (hj:(jJv W)[j]? =some s) (hab:ab<=1) (h:dueT W f s ab=encW V):Crossed W V N/\((bfs W 0).length=W.length->f.1≠f.2->IsC V W):=by
 have tw:=jKu fine sym w1 hi hj hab
 have hfs:f≠s:=fun z=>by
  subst z
  have:=(lX8 (lJi.mp hi).1 jV3).mp (hi.trans hj.symm)
  exact hne this
 have f4:=kVt sym (lJo hi) (lJo hj) hfs
 have fA:Four W f.1 f.2 (fo s ab) (la s ab):=qY6 f4
 unfold dueT at h
 split at h
 ·rename_i cc
  have e:f.1=f.2↔s.1=s.2:=by simpa using cc.1
  have eA:f.1=f.2↔fo s ab=la s ab:=e.trans loop_ab.symm
  have hV:=jV5 _ _ h
  have x1:=qVk tw
  rw[hV] at x1
  have fV:Fine V:=by have:=tw.crs;rwa [hV] at this
  have sV:=x1.sym fA eA sym
  refine⟨⟨fV,sV,x1.len,x1.num fA eA sym nt⟩,fun hb hl=> ?_⟩
  have hl2:fo s ab≠la s ab:=fun z=>hl (eA.mpr z)
  obtain⟨g4,gx⟩:=x1.undo fA hl hl2
  generalize fo s ab=c at *
  generalize la s ab=d at *
  generalize f.1=a at *
  generalize f.2=b at *
  have tie:∀p q,ent V p=some q->ent V q=some p->∃z:Tie,z∈jJv V/\(z=(p,q)\/z=(q,p)):=fun p q h1 h2=>by
   by_cases hl:leE p q=true
   ·exact⟨(p,q),endsL_mem.mpr ⟨h1,hl⟩,.inl rfl⟩
   ·refine⟨(q,p),endsL_mem.mpr ⟨h2,?_⟩,.inr rfl⟩
    rw[kVn] at hl ⊢; simp only at hl ⊢; omega
  obtain⟨z,z1,z2⟩:=tie a d g4.ab g4.ba
  obtain⟨y,y1,y2⟩:=tie c b g4.cd g4.dc
  have zy:z≠y:=fun w=>by
   subst w
   rcases z2 with z2 | z2<;>rcases y2 with y2 | y2<;>(rw[z2] at y2;have q1:=lKg Prod.fst y2;have q2:=lKg Prod.snd y2;simp only at q1 q2;first | exact g4.ac q1 | exact g4.ad q1 | exact g4.bc q1 | exact g4.bd q1)
  have v1:1<=V.length:=by rw[x1.len];exact w1
  obtain⟨k,hk⟩:=lJ6 z1
  obtain⟨l,hl'⟩:=lJ6 y1
  have main:∃ab',ab'<=1/\dueT V z y ab'=encW W:=by
   have fin:∀ab',ab'<=1->z.1≠z.2->y.1≠y.2->IsX V W z.1 z.2 (fo y ab') (la y ab')->∃ab',ab'<=1/\dueT V z y ab'=encW W:=fun ab' hab' n1 n2 hx=>by
    have tv:=jKu fV sV v1 hk hl' hab'
    refine⟨ab',hab',?_⟩
    unfold dueT
    have:=(qVk tv).uniq hx
    rw[this,lJc ⟨by rw[lJt n1,lJt n2],by rw[hb,x1.len]⟩]
   have gr:=gx.rev g4 ⟨fun z=>absurd z fA.ad,fun z=>absurd z fA.bc.symm⟩
   rcases z2 with rfl | rfl<;>rcases y2 with rfl | rfl
   ·exact fin 0 (by decide) fA.ad fA.bc.symm gx
   ·exact fin 1 (by decide) fA.ad fA.bc gx
   ·exact fin 1 (by decide) fA.ad.symm fA.bc.symm gr
   ·exact fin 0 (by decide) fA.ad.symm fA.bc gr
  obtain⟨ab',hab',hd⟩:=main
  have kl:k≠l:=fun w=>by
   subst w
   rw[hk] at hl';exact zy (lJn hl')
  rcases Nat.lt_or_gt_of_ne kl with w | w
  ·exact⟨k,l,z,y,ab',w,hk,hl',hab',hd⟩
  ·refine⟨l,k,y,z,ab',w,hl',hk,hab',?_⟩
   rw[<-hd]
   exact (qKn (jKu fV sV v1 hk hl' hab') (kVt sV z1 y1 zy)).symm
 ·cases h
def kUk:List Str:=["_law_web_here","_law_one","_law_other","_law_about","_law_a","_law_b","_law_c","_law_d","_law_made","_law_end","_law_back","_law_told","_law_ends_here"]
noncomputable def jUm:TS3:=
 (tSeq (tAsg (tOp rIxF (jJs jKw (jJc (tVar 0) tNil)) (tVar 1)) (gTup 2 (jJ3 (jJg 4) (jJ3 (jJg 5) gNil))))
 (tSeq (tAsg (tOp rIxF (jJs jKw (jJc (tVar 0) tNil)) (tVar 2)) (gTup 2 (jJ3 (jJg 6) (jJ3 (jJg 7) gNil))))
 (tSeq (tIfS (jJ0 (tOp rNeA (tOp rEqA (tVar 4) (tVar 5)) (tOp rEqA (tVar 6) (tVar 7)))) (tRet (tC .non)) jKs)
 (tSeq (tIfS (jJ0 (tOp rEqA (tVar 3) (tC (.int 1)))) (tPar 6 7 (jJc (tVar 7) (jJc (tVar 6) tNil))) jKs)
 (tSeq (tAsg (jQj [false,false,false,false,false,false,false,false,false,false,false,false,true] (iSeq (tVar 0)) (jJg 12) jVl (tCB jZp (jJc (tVar 12) tNil))) (jJg 8))
 (tSeq (tFor (iSeq (tTup (jJc (tTup (jJc (tVar 4) (jJc (tVar 7) tNil))) (jJc (tTup (jJc (tVar 7) (jJc (tVar 4) tNil))) (jJc (tTup (jJc (tVar 5) (jJc (tVar 6) tNil))) (jJc (tTup (jJc (tVar 6) (jJc (tVar 5) tNil))) tNil)))))) (gTup 2 (jJ3 (jJg 9) (jJ3 (jJg 10) gNil))) (tAsg (tVar 10) (gSub (tOp rIxF (tVar 8) (tOp rIxF (tVar 9) (tC (.int 0)))) (tOp rIxF (tVar 9) (tC (.int 1))) jXe)))
 (tSeq (tAsg (tCB jKi (jJc (jQj [false,false,false,false,false,false,false,false,false,false,false,false,true] (iSeq (tVar 8)) (jJg 12) jVl (tCB jKi (jJc (tVar 12) tNil))) tNil)) (jJg 11))
 (tRet (tIf (jJ0 (tOp rEqA (tCB rLen (jJc (jJs jQu (jJc (tVar 11) (jJc (tC (.int 0)) tNil))) tNil)) (tCB rLen (jJc (tVar 11) tNil)))) (tVar 11) (tC .non))))))))))
noncomputable def kZ4:TS3:=(tSeq (tAsg (jQj [false,false,false,false,false,false,false,false,false,false,false,false,true] (iSeq (tVar 0)) (jJg 12) jVl (tCB jZp (jJc (tVar 12) tNil))) (jJg 8))
 (tSeq (tFor (iSeq (tTup (jJc (tTup (jJc (tVar 4) (jJc (tVar 7) tNil))) (jJc (tTup (jJc (tVar 7) (jJc (tVar 4) tNil))) (jJc (tTup (jJc (tVar 5) (jJc (tVar 6) tNil))) (jJc (tTup (jJc (tVar 6) (jJc (tVar 5) tNil))) tNil)))))) (gTup 2 (jJ3 (jJg 9) (jJ3 (jJg 10) gNil))) (tAsg (tVar 10) (gSub (tOp rIxF (tVar 8) (tOp rIxF (tVar 9) (tC (.int 0)))) (tOp rIxF (tVar 9) (tC (.int 1))) jXe)))
 (tSeq (tAsg (tCB jKi (jJc (jQj [false,false,false,false,false,false,false,false,false,false,false,false,true] (iSeq (tVar 8)) (jJg 12) jVl (tCB jKi (jJc (tVar 12) tNil))) tNil)) (jJg 11))
 (tRet (tIf (jJ0 (tOp rEqA (tCB rLen (jJc (jJs jQu (jJc (tVar 11) (jJc (tC (.int 0)) tNil))) tNil)) (tCB rLen (jJc (tVar 11) tNil)))) (tVar 11) (tC .non))))))
theorem qQx:jUm=tSeq (tAsg (tOp rIxF (jJs jKw (jJc (tVar 0) tNil)) (tVar 1)) (gTup 2 (jJ3 (jJg 4) (jJ3 (jJg 5) gNil)))) (tSeq (tAsg (tOp rIxF (jJs jKw (jJc (tVar 0) tNil)) (tVar 2)) (gTup 2 (jJ3 (jJg 6) (jJ3 (jJg 7) gNil)))) (tSeq (tIfS (jJ0 (tOp rNeA (tOp rEqA (tVar 4) (tVar 5)) (tOp rEqA (tVar 6) (tVar 7)))) (tRet (tC .non)) jKs) (tSeq (tIfS (jJ0 (tOp rEqA (tVar 3) (tC (.int 1)))) (tPar 6 7 (jJc (tVar 7) (jJc (tVar 6) tNil))) jKs) kZ4))):=rfl
theorem rowsT {V:Web} {rs:List Addr} (hl:rs.length=V.length):rs.map T.ref=(V.zip rs).map fun x=>T.ref x.2:=by
 rw[show (fun x:List (Nat×Nat)×Addr=>T.ref x.2)=T.ref∘Prod.snd from rfl,<-lKo,List.map_snd_zip]
 omega
theorem kY6 {W:Web} {a b c d:Nat×Nat} {v1 v2 v3:Option T} {G:Gp} {Q:VK3} (fine:Fine W) (hw:1<=W.length) (ha:Dr W a) (hb:Dr W b) (hc:Dr W c) (hd:Dr W d) (kk:∀G',Sub G G'->Q (if (bfs (tie2 (tie2 W a d) b c) 0).length=W.length then encW (tie2 (tie2 W a d) b c) else .non) G'):
  kZ4 {nx:=fun _ G'=>Q .non G',rt:=Q} [some (encW W),v1,v2,v3,some (encE a),some (encE b),some (encE c),some (encE d),none,none,none,none,none] G:=by
 have hs:=sz
 have hl:=fine.len
 wp_walk using 1,kZ4,jJz,iSeq,rEqA,jZp,jZo,encW
 refine jX5 (enc:=encR) (fun es=>es.map encE) (by omega) (fun _ _=>trivial) ?_ ?_
 ·intro i es hes G1 K K0 s1 hK
  wp_walk using 1,jZp,jZo,encR
  exact fun p hp=>hK p _ hp jJh (.new hp)
 ·intro D rs G1 hD hD1 s1 hrl hnd hrs
  refine⟨by omega,by omega,by omega,by omega,by omega,?_⟩
  let es:List ((Nat×Nat)×(Nat×Nat)):=[(a,d),(d,a),(b,c),(c,b)]
  let stp:Web->(Nat×Nat)×(Nat×Nat)->Web:=fun U x=>pt U x.1 x.2
  have hfr:∀r,r∈rs->G r=none:=fun r hr=>by
   obtain⟨k,hk⟩:=lJ6 hr
   have hkl:k<W.length:=by rw[<-hrl];exact (lJi.mp hk).1
   exact (hrs k r _ hk (lJm hkl)).1
  let J1:Nat->St3->Gp->Prop:=fun k τ G'=>∃(v9 v10:Option T) (U:Web),τ=[some (T.tup (W.map encR)),v1,v2,v3,some (encE a),some (encE b),some (encE c),some (encE d),some (T.ref D),v9,v10,none,none]/\U=(es.take k).foldl stp W/\(∀x,x∈es->Dr U x.1/\Dr U x.2)/\Fine U/\U.length=W.length/\RowsAt G' D U rs/\Sub G G'
  refine⟨J1,?_,?_,?_,?_⟩
  ·refine⟨none,none,W,rfl,rfl,fun x hx=> ?_,fine,rfl,⟨hD1,hrl,fun i r hi=> ?_⟩,s1⟩
   ·simp only[es,lJk,lJr,lJ0] at hx
    rcases hx with rfl | rfl | rfl | rfl
    ·exact⟨ha,hd⟩
    ·exact⟨hd,ha⟩
    ·exact⟨hb,hc⟩
    ·exact⟨hc,hb⟩
   ·have hiW:i<W.length:=by rw[<-hrl];exact (lJi.mp hi).1
    exact⟨_,lJm hiW,(hrs i r _ hi (lJm hiW)).2⟩
  ·intros;trivial
  ·intro k y τ G2 hy h_;apply xe3 h_;clear h_;intro v9 v10 U h_;apply ae6 h_;clear h_;intro hU hdr fU hUl hR s2
   have hy:(es.map fun x=>T.tup [encE x.1,encE x.2])[k]? =some y:=hy
   obtain⟨x,hx,rfl⟩:=jKb hy
   obtain⟨d1,d2⟩:=hdr x (lJo hx)
   obtain⟨w1,w2,w3⟩:=d1.at
   have hrr:x.1.1<rs.length:=by rw[hR.2.1];exact w3
   have hra:rs[x.1.1]? =some rs[x.1.1]:=lJm hrr
   generalize rs[x.1.1]=r at hra
   obtain⟨hs',hh1,hh2⟩:=hR.2.2 _ r hra
   rw[w1] at hh1;cases hh1
   have hat:L2.atI (rs.map T.ref) (x.1.1:Int)=some (.ref r):=by rw[atN];simp[hra]
   have hix:L2.ixN ((row U x.1.1).map encE).length (x.1.2:Int)=some x.1.2:=qJ1 (by rw[lJg];exact w2)
   wp_walk using 1,encE,jKf hR.1,hat,kKg hh2 hix
   have hrm:=lJo hra
   have e1:((row U x.1.1).map encE).set x.1.2 (encE x.2)=((row U x.1.1).set x.1.2 x.2).map encE:=by rw[List.map_set]
   rw[show T.tup [T.int (x.2.1:Nat),T.int (x.2.2:Nat)]=encE x.2 from rfl,e1]
   refine⟨_,_,pt U x.1 x.2,rfl,?_,fun z hz=>⟨(hdr z hz).1.pt d1,(hdr z hz).2.pt d1⟩,fU.pt d1 d2.at.2.2,by rw[kJq];exact hUl,hR.set hnd hra,s2.over (hfr r hrm)⟩
   rw[lQt,hx,lYo,<-hU];rfl
  ·intro τ G2 h_;apply xe3 h_;clear h_;intro v9 v10 U h_;apply ae6 h_;clear h_;intro hU hdr fU hUl hR s2
   have hU:U=tie2 (tie2 W a d) b c:=hU
   wp_walk using 1,rEqA,iSeq,jJl hR.1
   rw[rowsT hR.2.1]
   refine jK9 (fun x=>encR x.1) (by rw[List.length_zip];omega) (fun G' s=>by rw[<-rowsT hR.2.1];exact jJl (s _ _ hR.1)) ?_ ?_
   ·intro k x hx G3 K K0 s3 hK
    rw[lXd] at hx
    obtain⟨hs',h1,h2⟩:=hR.2.2 k x.2 hx.2
    rw[hx.1] at h1;cases h1
    wp_walk using 1,jJl (s3 _ _ h2)
    exact hK G3 (.refl _)
   ·intro E G3 hE hE3 s3
    have e2:(U.zip rs).map (fun x=>encR x.1)=U.map encR:=by
     rw[show (fun x:List (Nat×Nat)×Addr=>encR x.1)=encR∘Prod.fst from rfl,<-lKo,List.map_fst_zip]
     have:=hR.2.1;omega
    rw[e2] at hE3
    refine⟨_,jJl hE3,U,0,rfl,fU,by omega,fun q G4 F hq hq4 _ hF s4=> ?_⟩
    have e3:(jJ4 F).length=(bfs U 0).length:=by rw[jJ4,lJg,hF]
    refine⟨_,jJl hq4,?_⟩
    rw[e3,lJg]
    refine⟨_,jZ1,?_⟩
    have k4:=kk G4 ((s2.trans s3).trans s4)
    rw[<-hU] at k4
    by_cases hb:(bfs U 0).length=W.length
    ·rw[lJc (lJ3 (by rw[hb,hUl]))]
     rw[lJc hb] at k4;exact k4
    ·rw[lJa (by rw[hUl];simpa using hb)]
     rw[lJa hb] at k4;exact k4
def jQk:Sp3:=fun xs G Q=>∃(W:Web) (i j ab:Nat) (f s:Tie),xs=[encW W,.int i,.int j,.int ab]/\Asked W i j ab f s/\∀G',Sub G G'->Q (dueT W f s ab) G'
theorem jZi:RdOk jQk jUm kUk:=by
 intro xs G Q h_;apply xe6 h_;clear h_;intro W i j ab f s h_;apply ae2 h_;clear h_;intro as kk
 show jUm _ [some (encW W),some (.int i),some (.int j),some (.int ab),none,none,none,none,none,none,none,none,none] G
 have hs:=sz
 have tw:=jKu as.fine as.sym as.w1 as.hi as.hj as.ab
 rw[qQx]
 wp_walk using 1,rEqA,rNeA
 refine⟨W,rfl,as.fine,fun p G1 hp hG1 _ q1=> ?_⟩
 wp_walk using 1,jKf hG1,kQi as.hi,encT
 refine⟨W,rfl,as.fine,fun p2 G2 hp2 hG2 _ q2=> ?_⟩
 wp_walk using 1,jKf hG2,kQi as.hj,encT,jZ2,qKk
 by_cases hp:decide (f.1=f.2)=decide (s.1=s.2)
 ·rw[lJa (by simpa using hp)]
  have kk2:∀G',Sub G2 G'->Q (if (bfs (tie2 (tie2 W f.1 (la s ab)) f.2 (fo s ab)) 0).length=W.length then encW (tie2 (tie2 W f.1 (la s ab)) f.2 (fo s ab)) else .non) G':=fun G' q=>by
   have:=kk G' ((q1.trans q2).trans q)
   rw[kZk (tw.f2.tie2 tw.f1 tw.la) (tw.fo.tie2 tw.f1 tw.la)]
   unfold dueT crs at this
   by_cases hb:(bfs (tie2 (tie2 W f.1 (la s ab)) (fo s ab) f.2) 0).length=W.length
   ·rw[lJc ⟨hp,hb⟩] at this;rw[lJc hb];exact this
   ·rw[lJa fun z=>hb z.2] at this;rw[lJa hb];exact this
  rcases (by have:=as.ab;omega:ab=0\/ab=1) with rfl | rfl
  ·exact⟨false,rfl,by rw[lJa (by decide)];exact kY6 as.fine as.w1 tw.f1 tw.f2 tw.s1 tw.s2 kk2⟩
  ·exact⟨true,rfl,by rw[lJc rfl];exact kY6 as.fine as.w1 tw.f1 tw.f2 tw.s2 tw.s1 kk2⟩
 ·rw[lJc (by simpa using hp)]
  have:=kk G2 (q1.trans q2)
  unfold dueT at this
  rw[lJa fun z=>hp z.1] at this
  exact this
theorem Told.to {W:Web} {acc:List T} {P P':Nat->Nat->Prop} (h:Told W acc P) (e:∀i j,i<j->(P i j↔P' i j)):Told W acc P':=fun t=>by
 rw[h t]
 constructor
 ·rintro⟨i,j,f,s,ab,h1,h2,h3⟩
  exact⟨i,j,f,s,ab,(e i j h2).mp h1,h2,h3⟩
 ·rintro⟨i,j,f,s,ab,h1,h2,h3⟩
  exact⟨i,j,f,s,ab,(e i j h2).mpr h1,h2,h3⟩
noncomputable def jKo:Sp3:=fun xs G Q=>∃W:Web,xs=[encW W]/\Fine W/\Sym W/\1<=W.length/\(jJv W).length<=18/\∀p (Vs:List Web) G',G p=none->G' p=some (.lst (Vs.map encW))->Vs.length<=307->(∀V,V∈Vs↔V=W\/IsC W V)->(∀V,V∈Vs->Fine V/\V.length=W.length)->Sub G G'->Q (.ref p) G'
def kJa:List Str:=["_law_web_here","_law_many","_law_found","_law_one","_law_other","_law_about","_law_made"]
noncomputable def jQf:TS3:=
 (tSeq (tAsg (tCB rLen (jJc (jJs jKw (jJc (tVar 0) tNil)) tNil)) (jJg 1))
 (tSeq (tAsg (tLst (jJc (tVar 0) tNil)) (jJg 2))
 (tSeq (tFor (jQo (jJc (tVar 1) tNil)) (jJg 3) (tFor (jQo (jJc (tVar 3) tNil)) (jJg 4) (tAsg (tOp jKe (tVar 2) (jQj [false,false,false,false,false,true,false] (jQo (jJc (tC (.int 2)) tNil)) (jJg 5) jVl (jJs jQk (jJc (tVar 0) (jJc (tVar 3) (jJc (tVar 4) (jJc (tVar 5) tNil))))))) (jJg 2))))
 (tRet (jQj [false,false,false,false,false,false,true] (iSeq (tVar 2)) (jJg 6) (jJ0 (tOp kU8 (tVar 6) (tC .non))) (tVar 6))))))
theorem jXb:RdOk jKo jQf kJa:=by
 intro xs G Q h_;apply xe1 h_;clear h_;intro W h_;apply ae5 h_;clear h_;intro fine sym hw1 h9 kk
 show jQf _ [some (encW W),none,none,none,none,none,none] G
 have hs:=sz
 wp_walk using 1,jQf,jJz,jQo,iSeq
 refine⟨W,rfl,fine,fun e G1 he hG1 _ s1=> ?_⟩
 wp_walk using 1,jJl hG1,List.length_map
 refine⟨by omega,fun a0 ha0=>⟨by omega,by omega,?_⟩⟩
 rw[show (((jJv W).length:Nat):Int).toNat=(jJv W).length by omega,jV9]
 let J1:Nat->St3->Gp->Prop:=fun j τ G'=>∃(v3 v4:Option T) (a:Addr) (acc:List T),τ=[some (encW W),some (.int ((jJv W).length:Nat)),some (.ref a),v3,v4,none,none]/\G' a=some (.lst (encW W::acc))/\acc.length<=j*(j-1)/\Told W acc (fun _ j'=>j'<j)/\Sub G1 G'
 refine⟨J1,?_,?_,?_,?_⟩
 ·refine xi4 _ _ _ [] rfl ⟨jJh,lJu _,fun t=>⟨fun h=>(by cases h),fun h=> ?_⟩,.new ha0⟩
  obtain⟨i,j,f,s,ab,h,_⟩:=h
  exact absurd h (lKv _)
 ·intros;trivial
 ·intro j y τ G2 hy h_;apply xe4 h_;clear h_;intro v3 v4 a acc h_;apply ae4 h_;clear h_;intro h1 h2 h3 h5
  obtain⟨j',hj',rfl⟩:=jKb hy
  obtain⟨hjl,rfl⟩:j<(jJv W).length/\j=j':=by
   obtain⟨q1,q2⟩:=lJi.mp hj';simp at q1 q2;exact⟨q1,q2⟩
  have hj:(jJv W)[j]? =some (jJv W)[j]:=lJm hjl
  generalize (jJv W)[j]=s at hj
  have hjj:j*(j-1)<=306:=lKf (Nat.mul_le_mul (show j<=18 by omega) (show j-1<=17 by omega)) (by decide)
  wp_walk using 1,jJz,jQo
  refine⟨by omega,by omega,?_⟩
  rw[show ((j:Nat):Int).toNat=j by omega,jV9]
  let J2:Nat->St3->Gp->Prop:=fun i τ G'=>∃(v4:Option T) (a:Addr) (acc:List T),τ=[some (encW W),some (.int ((jJv W).length:Nat)),some (.ref a),some (.int j),v4,none,none]/\G' a=some (.lst (encW W::acc))/\acc.length<=j*(j-1)+2*i/\Told W acc (fun i' j'=>j'<j\/(j'=j/\i'<i))/\Sub G1 G'
  refine⟨J2,?_,?_,?_,?_⟩
  ·exact xi3 _ a acc rfl ⟨h1,h2,h3.to fun i' j' _=>by omega,h5⟩
  ·intros;trivial
  ·intro i y τ G3 hy h_;apply xe3 h_;clear h_;intro v4 a acc h_;apply ae4 h_;clear h_;intro i1 i2 i3 i6
   obtain⟨i',hi',rfl⟩:=jKb hy
   obtain⟨hij,rfl⟩:i<j/\i=i':=by
    obtain⟨q1,q2⟩:=lJi.mp hi';simp at q1 q2;exact⟨q1,q2⟩
   have hf:(jJv W)[i]? =some (jJv W)[i]:=lJm (by omega)
   generalize (jJv W)[i]=f at hf
   have hne:f≠s:=fun z=>by
    subst z
    have:=(lX8 (lJi.mp hf).1 jV3).mp (hf.trans hj.symm)
    omega
   have f4:=kVt sym (lJo hf) (lJo hj) hne
   wp_walk using 1,jQo
   refine⟨by omega,?_⟩
   refine⟨by decide,?_⟩
   refine jK9 (es:=[0,1]) (enc:=fun x:Nat=>T.int x) (fun ab=>dueT W s f ab) (by simp;omega) (fun _ _=>trivial) ?_ ?_
   ·intro i' x hx G4 K K0 s4 hK
    have hx1:x<=1:=by
     have:=lJo hx
     simp only[lJk,lJr,lJ0] at this;omega
    wp_walk using 1,tSeq
    exact⟨W,j,i,x,s,f,rfl,⟨fine,sym,hw1,hj,hf,hx1⟩,fun G' q=>hK G' q⟩
   ·intro D G4 hD hD4 s4
    refine⟨_,jZc (s4 _ _ i1) hD4 (by simp;omega),?_⟩
    rw[jZz]
    intro p hp
    have e1:∀ab,ab<=1->dueT W s f ab=dueT W f s ab:=fun ab hab=>(qKn (jKu fine sym hw1 hf hj hab) f4).symm
    refine xi3 _ p (acc++[dueT W f s 0]++[dueT W f s 1]) rfl ⟨?_,by simp;omega,i3.two hij hf hj fun i' j' h=>by omega,(i6.trans s4).trans (.new hp)⟩
    rw[jJh]
    simp[e1 0 (by decide),e1 1 (by decide)]
  ·intro τ G3 h_;apply xe3 h_;clear h_;intro v4 a acc h_;apply ae4 h_;clear h_;intro i1 i2 i3 i6
   rw[lJg,lVh] at i2 i3
   refine xi4 _ _ a acc rfl ⟨i1,?_,i3.to fun i' j' _=>by omega,i6⟩
   show acc.length<=(j+1)*j
   rw[Nat.succ_mul]
   cases j with
   | zero=>omega
   | succ j=>rw[Nat.succ_sub_one] at i2;rw[Nat.mul_succ];omega
 ·intro τ G2 h_;apply xe4 h_;clear h_;intro v3 v4 a acc h_;apply ae4 h_;clear h_;intro h1 h2 h3 h5
  wp_walk using 1,iSeq,jJl h1,kU8
  have e0:(encW W::acc).map (fun t:T=>t)=encW W::acc:=by simp
  refine (show jYd _ _ _ _ _ ((encW W::acc).map fun t=>t) _ G2 Q->jYd _ _ _ _ _ (encW W::acc) _ G2 Q from fun h=>by rwa [e0] at h) ?_
  rw[lJg,lVh] at h2 h3
  have h72:(encW W::acc).length<=307:=by
   rw[lKm]
   exact Nat.succ_le_succ (lKf h2 (lKf (Nat.mul_le_mul h9 (show (jJv W).length-1<=17 by omega)) (by decide)))
  refine jUq (fun t=>if jK6 t=true then none else some t) (by omega) (fun G' s=>jJl (s _ _ h1)) ?_ ?_
  ·intro i t ht G' K K0 s hK hK0
   wp_walk using 1,kU8
   have key:if jK6 t=false then K t G' else K0 G':=by
    cases hc:jK6 t with
    | true=>rw[lJa (by decide)];exact hK0 (by rw[lJc hc]) _ (.refl _)
    | false=>rw[lJc rfl];exact hK _ _ (by rw[lJa (by rw[hc];decide)]) (.refl _)
   exact key
  ·intro D G3 hD hD3 s3
   have mem:∀t,t∈(encW W::acc).filterMap (fun t=>if jK6 t=true then none else some t)↔t∈encW W::acc/\jK6 t=false:=by
    intro t
    rw[lQq]
    constructor
    ·rintro⟨x,hx,e⟩
     by_cases hc:jK6 x=true
     ·rw[lJc hc] at e;cases e
     ·rw[lJa hc] at e;cases e;exact⟨hx,by simpa using hc⟩
    ·rintro⟨hx,hc⟩
     exact⟨t,hx,by rw[lJa (by rw[hc];decide)]⟩
   obtain⟨Vs,eV,hV⟩:=kVa (enc:=encW) ((encW W::acc).filterMap (fun t=>if jK6 t=true then none else some t)) (fun _ V=>Fine V/\V.length=W.length) fun i t ht=>by
    obtain⟨m1,m2⟩:=(mem t).mp (lJo ht)
    rcases (lJk.mp m1) with rfl | m1
    ·exact⟨W,rfl,fine,rfl⟩
    obtain⟨i,j,f,s,ab,_,_,hi,hj,hab,rfl⟩:=(h3 t).mp m1
    rcases qKp (jKu fine sym hw1 hi hj hab) with z | ⟨V,z,z2⟩
    ·rw[z] at m2;cases m2
    ·exact⟨V,z,z2⟩
   refine kk D Vs G3 ((s1.trans h5).none hD) (by rw[hD3,eV]) ?_ (fun V=> ?_) (fun V hv=> ?_) ((s1.trans h5).trans s3)
   ·have:=lKg List.length eV
    rw[lJg] at this
    rw[<-this]
    exact lKf (lYt _ _) h72
   ·constructor
    ·intro hv
     have:encW V∈Vs.map encW:=lVl hv
     rw[<-eV] at this
     rcases lJk.mp ((mem _).mp this).1 with e | m1
     ·exact .inl (jV5 _ _ e)
     obtain⟨i,j,f,s,ab,_,a1,a2,a3,a4,a5⟩:=(h3 _).mp m1
     exact .inr ⟨i,j,f,s,ab,a1,a2,a3,a4,a5.symm⟩
    ·rintro (rfl | ⟨i,j,f,s,ab,a1,a2,a3,a4,a5⟩)
     ·have h0:encW V∈Vs.map encW:=by rw[<-eV];exact (mem _).mpr ⟨lJz ..,rfl⟩
      obtain⟨V',hV',e⟩:=lJl.mp h0
      rw[<-jV5 _ _ e];exact hV'
     have:encW V∈Vs.map encW:=by
      rw[<-eV]
      exact (mem _).mpr ⟨lJ4 _ ((h3 _).mpr ⟨i,j,f,s,ab,(lJi.mp a3).1,a1,a2,a3,a4,a5.symm⟩),rfl⟩
     obtain⟨V',hV',e⟩:=lJl.mp this
     rw[<-jV5 _ _ e];exact hV'
   ·obtain⟨i,hi⟩:=lJ6 hv
    exact hV i V hi
noncomputable def jV6:Sp3:=fun xs G Q=>∃(W:Web) (r:Nat) (S:jVn),xs=[encW W,.int r,jX3 S]/\Fine W/\r<W.length/\S.2.length<=1000/\∀(b:Bool) G',(b=true↔Fit W r S)->Sub G G'->Q (.bl b) G'
def qVq:List Str:=["_law_web_here","_law_room","_law_story","_law_door","_law_came","_law_many"]
noncomputable def jZl:TS3:=
 (tSeq (tIfS (jJ0 (tOp rNeA (tCB rLen (jJc (tOp rIxF (tVar 0) (tVar 1)) tNil)) (tOp rIxF (tVar 2) (tC (.int 0))))) (tRet (tC (.bl false))) jKs)
 (tSeq (tFor (iSeq (tOp rIxF (tVar 2) (tC (.int 1)))) (gTup 3 (jJ3 (jJg 3) (jJ3 (jJg 4) (jJ3 (jJg 5) gNil)))) (tSeq (tIfS (tOr (jJ0 (tOp rGe (tVar 3) (tCB rLen (jJc (tOp rIxF (tVar 0) (tVar 1)) tNil)))) (jJ0 (tOp rNeA (tOp rIxF (tOp rIxF (tOp rIxF (tVar 0) (tVar 1)) (tVar 3)) (tC (.int 1))) (tVar 4)))) (tRet (tC (.bl false))) jKs)
 (tSeq (tAsg (tOp rIxF (tOp rIxF (tOp rIxF (tVar 0) (tVar 1)) (tVar 3)) (tC (.int 0))) (jJg 1))
 (tIfS (jJ0 (tOp rNeA (tCB rLen (jJc (tOp rIxF (tVar 0) (tVar 1)) tNil)) (tVar 5))) (tRet (tC (.bl false))) jKs))))
 (tRet (tC (.bl true)))))
theorem kU2:RdOk jV6 jZl qVq:=by
 intro xs G Q h_;apply xe3 h_;clear h_;intro W r S h_;apply ae4 h_;clear h_;intro fine hr hl kk
 show jZl _ [some (.tup (W.map encR)),some (.int r),some (.tup [.int S.1,.tup (S.2.map jZ3)]),none,none,none] G
 have hs:=sz
 obtain⟨row,hrow,hen⟩:=jV8 hr
 wp_walk using 1,jZl,jJz,iSeq,rNeA,jKy hrow,encR,List.length_map
 refine⟨_,jZ1,?_⟩
 by_cases h0:row.length=S.1
 ·rw[lJa (by simpa using h0)]
  have hf:Fit W r S↔FitR W r S.2:=⟨fun h=>h.2,fun h=>⟨by rw[kQ9 hrow];exact h0,h⟩⟩
  let J1:Nat->St3->Gp->Prop:=fun i τ G'=>∃(q:Nat) (v3 v4 v5:Option T),τ=[some (.tup (W.map encR)),some (.int (q:Nat)),some (.tup [.int S.1,.tup (S.2.map jZ3)]),v3,v4,v5]/\q<W.length/\(Fit W r S↔FitR W q (S.2.drop i))/\Sub G G'
  refine⟨J1,?_,?_,?_,?_⟩
  ·exact xi4 r _ _ _ rfl ⟨hr,hf,.refl _⟩
  ·intros;trivial
  ·intro i y τ G1 hy h_;apply xe4 h_;clear h_;intro q v3 v4 v5 h_;apply ae3 h_;clear h_;intro hq hi s1
   obtain⟨s,hsi,rfl⟩:=jKb hy
   have hil:i<S.2.length:=(lJi.mp hsi).1
   have hdrop:S.2.drop i=s::S.2.drop (i+1):=by
    rw[lYl hil]
    rw[lJm hil] at hsi;cases hsi;rfl
   rw[hdrop] at hi
   obtain⟨row1,hrow1,hen1⟩:=jV8 hq
   have hr1:=fine.row _ _ hrow1
   wp_walk using 1,jZ3,rNeA,jKy hrow1,encR,List.length_map
   by_cases hd:s.1<row1.length
   ·rw[lJa (by omega)]
    have hed:row1[s.1]? =some row1[s.1]:=lJm hd
    generalize row1[s.1]=e at hed
    have he:en W q s.1=some e:=by rw[hen1];exact hed
    have he1:=fine.rng _ _ e.1 e.2 he
    obtain⟨row2,hrow2,hen2⟩:=jV8 he1
    wp_walk using 1,kK7 hed,encE,jKy hrow2,encR,List.length_map
    refine⟨_,jZ1,?_⟩
    by_cases h1:e.2=s.2.1
    ·rw[lJa (by simpa using h1)]
     refine⟨_,jZ1,?_⟩
     by_cases h2:row2.length=s.2.2
     ·rw[lJa (by simpa using h2)]
      refine xi4 e.1 _ _ _ rfl ⟨he1,hi.trans ⟨fun ⟨e',a1,a2,a3,a4⟩=> ?_,fun a4=>⟨e,he,h1,by rw[kQ9 hrow2];exact h2,a4⟩⟩,s1⟩
      rw[he] at a1;cases a1;exact a4
     ·rw[lJc (by simpa using h2)]
      refine kk false _ ⟨fun z=>(by cases z),fun h=> ?_⟩ s1
      obtain⟨e',a1,a2,a3,a4⟩:=hi.mp h
      rw[he] at a1;cases a1
      rw[kQ9 hrow2] at a3;exact absurd a3 h2
    ·rw[lJc (by simpa using h1)]
     refine kk false _ ⟨fun z=>(by cases z),fun h=> ?_⟩ s1
     obtain⟨e',a1,a2,a3,a4⟩:=hi.mp h
     rw[he] at a1;cases a1;exact absurd a2 h1
   ·rw[lJc (by omega)]
    refine kk false _ ⟨fun z=>(by cases z),fun h=> ?_⟩ s1
    obtain⟨e,h1,_⟩:=hi.mp h
    rw[hen1,lKi (by omega)] at h1;cases h1
  ·intro τ G1 h_;apply xe4 h_;clear h_;intro q v3 v4 v5 h_;apply ae3 h_;clear h_;intro hq hi s1
   rw[lJg,List.drop_length] at hi
   wp_walk using 1,tSeq
   exact kk true _ ⟨fun _=>hi.mpr trivial,fun _=>rfl⟩ s1
 ·rw[lJc (by simpa using h0)]
  exact kk false _ ⟨fun z=>(by cases z),fun h=>absurd (by have:=h.1;rw[kQ9 hrow] at this;exact this) h0⟩ (.refl _)
noncomputable def jKh:Sp3:=fun xs G Q=>∃(b:Addr) (W:Web) (r n:Nat),xs=[.ref b,encW W,.int r]/\BoxAt G b n/\n+100<2^40/\Fine W/\r<W.length/\∀ds es G',goW W r ds=some es->ds.length<=60->BoxAt G' b (n+100)->Keep b G G'->Q (.tup (jJ4 ds)) G'
def jYo:List Str:=["_law_box_here","_law_web_here","_law_room","_law_way","_law_turn"]
noncomputable def jK5:TS3:=
 (tSeq (tAsg (tLst tNil) (jJg 3))
 (tSeq (tFor (jQo (jJc (tOp rIxF (tLst (jJc (jJs jJr (jJc (tVar 0) (jJc (tC (.int 9)) tNil))) (jJc (jJs jJr (jJc (tVar 0) (jJc (tC (.int 31)) tNil))) tNil))) (jJs jJr (jJc (tVar 0) (jJc (tC (.int 2)) tNil)))) tNil)) (jJg 4) (tIfS (jJ0 (tOp rNeA (tOp rIxF (tVar 1) (tVar 2)) (tTup tNil))) (tSeq (jVr (tBM "list" jKq (tVar 3) (jJc (jJs jJr (jJc (tVar 0) (jJc (tCB rLen (jJc (tOp rIxF (tVar 1) (tVar 2)) tNil)) tNil))) tNil)))
 (tAsg (tOp rIxF (tOp rIxF (tOp rIxF (tVar 1) (tVar 2)) (tOp rIxF (tVar 3) (tUn rNeg (tC (.int 1))))) (tC (.int 0))) (jJg 2))) jKs))
 (tRet (tCB jKi (jJc (tVar 3) tNil)))))
theorem jVt:RdOk jKh jK5 jYo:=by
 intro xs G Q h_;apply xe4 h_;clear h_;intro b W r n h_;apply ae5 h_;clear h_;intro hb hn fine hr kk
 show jK5 _ [some (.ref b),some (.tup (W.map encR)),some (.int r),none,none] G
 have hs:=sz
 obtain⟨bo,hbo⟩:=hb.some
 wp_walk using 1,jK5,jJz,jQo
 refine⟨by omega,fun p hp=> ?_⟩
 have hbp:=jJj hbo hp
 refine⟨b,9,n,rfl,hb.gup hbp,by omega,by decide,by decide,fun x G1 x0 x1 b1 k1=> ?_⟩
 refine⟨b,31,n+1,rfl,b1,by omega,by decide,by decide,fun y G2 y0 y1 b2 k2=> ?_⟩
 refine⟨by omega,fun l hl=> ?_⟩
 obtain⟨bo2,hbo2⟩:=b2.some
 have hbl:=jJj hbo2 hl
 refine⟨b,2,n+2,rfl,b2.gup hbl,by omega,by decide,by decide,fun z G3 z0 z1 b3 k3=> ?_⟩
 have hl3:=k3 _ _ hbl.symm jJh
 obtain⟨m,hm,hm2⟩:∃m:Nat,ixR G3 (.ref l) (.int z)=some (.int m)/\m<=30:=by
  rw[jKf hl3]
  rcases (by omega:z=0\/z=1) with rfl | rfl
  ·exact⟨x.toNat,by rw[show ((x.toNat:Nat):Int)=x by omega];rfl,by omega⟩
  ·exact⟨y.toNat,by rw[show ((y.toNat:Nat):Int)=y by omega];rfl,by omega⟩
 have K3:Keep b (gup G p (.lst [])) G3:=((k1.trans k2).trans (.new hl)).trans k3
 refine⟨_,hm,m,rfl,by omega,by omega,?_⟩
 rw[show ((m:Nat):Int).toNat=m by omega]
 let J1:Nat->St3->Gp->Prop:=fun i τ G'=>∃(v4:Option T) (ds:List Nat) (es:List (Nat×Nat)),τ=[some (.ref b),some (.tup (W.map encR)),some (.int (jQl r es:Nat)),some (.ref p),v4]/\goW W r ds=some es/\ds.length<=i/\G' p=some (.lst (jJ4 ds))/\BoxAt G' b (n+3+i)/\Keep b G G'
 refine⟨J1,?_,?_,?_,?_⟩
 ·exact xi3 none [] [] rfl ⟨rfl,lJu _,K3 _ _ hbp.symm jJh,b3,(Keep.new hp).trans K3⟩
 ·intros;trivial
 ·intro i y' τ G4 hy h_;apply xe3 h_;clear h_;intro v4 ds es h_;apply ae5 h_;clear h_;intro h1 h2 h3 h4 h5
  obtain⟨hi,rfl⟩:=kKh hy
  obtain⟨c1,c2,c3⟩:=kXp fine hr h1
  obtain⟨row,hrow,hen⟩:=jV8 c1
  have hrl:=fine.row _ _ hrow
  wp_walk using 1,rNeA,jKy hrow,encR,List.length_map
  have okr:OkD 3 (.tup (row.map encE)):=(jV0 (d:=2) fun x hx=>by obtain⟨e,_,rfl⟩:=lJl.mp hx;exact okD_enc.mono (by decide)).mono (by decide)
  have ok0:OkD 3 (.tup []):=(jV0 (d:=2) fun x hx=>by cases hx).mono (by decide)
  have hq:eqG G4 (.tup (row.map encE)) (.tup [])=some (decide (row=[])):=by
   rw[kXu okr ok0 (by decide) (fun p z=>by cases z)]
   congr 1
   exact jZ0 (a:=row) (b:=[])
  refine⟨by omega,_,hq,?_⟩
  by_cases h0:row=[]
  ·rw[lJa (by simpa using h0)]
   exact xi3 _ ds es rfl ⟨h1,by omega,h3,h4.mono (by omega),h5⟩
  ·rw[lJc (by simpa using h0)]
   have hrp:1<=row.length:=List.length_pos_iff.mpr h0
   refine⟨by rw[jK2 h3];trivial,b,row.length,n+3+i,rfl,h4,by omega,by omega,by omega,fun d G5 d0 d1 b5 k5=> ?_⟩
   obtain⟨d,rfl⟩:=lQh d0
   have hd:d<row.length:=by omega
   have hed:row[d]? =some row[d]:=lJm hd
   generalize row[d]=e at hed
   have h35:=k5 _ _ hbp.symm h3
   refine⟨_,h35,by rw[jJ4,lJg];omega,_,qK4,encE e,kK7 hed,.int (e.1:Nat),rfl,?_⟩
   refine xi3 _ (ds++[d]) (es++[e]) (by rw[jVg]) ⟨?_,by simp;omega,by rw[jJh];simp[jJ4],(b5.gup hbp).mono (by omega),fun c o hc ho=> ?_⟩
   ·rw[kK0,h1,lQ8,hen,hed];rfl
   ·rw[jJu (jJj ho hp)];exact k5 _ _ hc (h5 _ _ hc ho)
 ·intro τ G4 h_;apply xe3 h_;clear h_;intro v4 ds es h_;apply ae5 h_;clear h_;intro h1 h2 h3 h4 h5
  rw[jVb] at h2 h4
  wp_walk using 1,tSeq
  exact⟨_,jJl h3,kk ds es G4 h1 (by omega) (h4.mono (by omega)) h5⟩
theorem pl_up:∀ {n:Nat} {t:T},PlN n t->PlN (n+1) t
 | 0,t,h=> .inl h
 | n+1,t,h=>by
  rcases h with h | ⟨ts,h1,h2,h3⟩
  ·exact .inl h
  ·exact .inr ⟨ts,h1,h2,fun u hu=>pl_up (h3 u hu)⟩
structure Wrong (W V:Web) (back:Bool):Prop where
 ok:Crossed W V 18
 undone:back=true->V=W\/IsC V W
noncomputable def jU9:Sp3:=fun xs G Q=>∃(b:Addr) (W:Web) (n:Nat),xs=[.ref b,encW W]/\BoxAt G b n/\n+100<2^40/\Crossed W W 18/\1<=W.length/\(bfs W 0).length=W.length/\∀V back G',Wrong W V back->BoxAt G' b (n+100)->Keep b G G'->Q (.tup [encW V,.bl back]) G'
def qK7:List Str:=["_law_box_here","_law_web_here","_law_many","_law_one","_law_other","_law_about","_law_due","_law_found","_law_tie"]
noncomputable def jXu:TS3:=
 (tSeq (tAsg (tCB rLen (jJc (jJs jKw (jJc (tVar 1) tNil)) tNil)) (jJg 2))
 (tSeq (tIfS (jJ0 (tOp rLt (tVar 2) (tC (.int 2)))) (tRet (tTup (jJc (tVar 1) (jJc (tC (.bl true)) tNil)))) jKs)
 (tSeq (tAsg (jJs jJr (jJc (tVar 0) (jJc (tVar 2) tNil))) (jJg 3))
 (tSeq (tAsg (tOp rMod (tOp jKe (tOp jKe (tVar 3) (tC (.int 1))) (jJs jJr (jJc (tVar 0) (jJc (tOp rSub (tVar 2) (tC (.int 1))) tNil)))) (tVar 2)) (jJg 4))
 (tSeq (tAsg (jJs jJr (jJc (tVar 0) (jJc (tC (.int 2)) tNil))) (jJg 5))
 (tSeq (tAsg (jJs jQk (jJc (tVar 1) (jJc (tVar 3) (jJc (tVar 4) (jJc (tVar 5) tNil))))) (jJg 6))
 (tSeq (tAsg (tC .non) (jJg 7))
 (tSeq (qXo ["NoWeb"] (qXp (qXq jQ7 (jJc (tVar 1) (jJc (tVar 3) (jJc (tVar 4) (jJc (tVar 5) tNil))))) 7) (tAsg (tC .non) (jJg 7)))
 (tSeq (tIfS (tNot (jJ0 (jJs jQ6 (jJc (tVar 7) (jJc (tVar 6) tNil))))) (tRet (tTup (jJc (tC .non) (jJc (tC (.bl false)) tNil)))) jKs)
 (tSeq (tIfS (jJ0 (tOp rIsN (tVar 7) (tC .non))) (tRet (tTup (jJc (tVar 1) (jJc (tC (.bl true)) tNil)))) jKs)
 (tSeq (tAsg (tOp rIxF (jJs jKw (jJc (tVar 1) tNil)) (tVar 3)) (jJg 8))
 (tRet (tTup (jJc (tVar 7) (jJc (tOp rNeA (tOp rIxF (tVar 8) (tC (.int 0))) (tOp rIxF (tVar 8) (tC (.int 1)))) tNil)))))))))))))))
theorem kQq:RdOk jU9 jXu qK7:=by
 intro xs G Q h_;apply xe3 h_;clear h_;intro b W n h_;apply ae6 h_;clear h_;intro hb hn ok w1 hbf kk
 show jXu _ [some (.ref b),some (encW W),none,none,none,none,none,none,none] G
 have hs:=sz
 have h18:=kXy ok.sym ok.num
 wp_walk using 1,jXu,qXo,qXp,qXq,rNeA
 refine⟨W,rfl,ok.fine,fun e G1 he hG1 _ s1=> ?_⟩
 wp_walk using 1,jJl hG1,List.length_map
 have fin0:∀G' k,BoxAt G' b (n+k)->k<=100->Keep b G G'->Q (.tup [encW W,.bl true]) G':=fun G' k b' hk k'=>kk W true G' ⟨ok,fun _=> .inl rfl⟩ (b'.mono (by omega)) k'
 by_cases h2:(jJv W).length<2
 ·rw[lJc (by omega)]
  exact⟨by omega,fin0 G1 0 (hb.sub s1) (by decide) (.sub s1)⟩
 rw[lJa (by omega)]
 refine⟨b,_,n,rfl,hb.sub s1,by omega,by omega,by omega,fun x1 G2 x10 x11 b2 k2=> ?_⟩
 obtain⟨one,rfl⟩:=lQh x10
 wp_walk using 1,tSeq
 refine⟨b,_,n+1,rfl,b2,by omega,by omega,by omega,fun x2 G3 x20 x21 b3 k3=> ?_⟩
 obtain⟨ot,rfl⟩:=lQh x20
 have hone:one<(jJv W).length:=by omega
 have hoth:(one+1+ot)%(jJv W).length<(jJv W).length:=lVx _ (by omega)
 have hne:one≠(one+1+ot)%(jJv W).length:=by
  rcases lQn (one+1+ot) (jJv W).length with c | c
  ·rw[Nat.mod_eq_of_lt c];omega
  ·rw[Nat.mod_eq_sub_mod c,Nat.mod_eq_of_lt (by omega)];omega
 refine⟨.val (.int ((one:Int)+1+ot)),rfl,_,rfl,by omega,?_⟩
 rw[show ((one:Int)+1+(ot:Int))%((jJv W).length:Int)=(((one+1+ot)%(jJv W).length:Nat):Int) by simp]
 refine⟨b,2,n+2,rfl,b3,by omega,by decide,by decide,fun x3 G4 x30 x31 b4 k4=> ?_⟩
 obtain⟨ab,rfl⟩:=lQh x30
 have hab:ab<=1:=by omega
 have hi:(jJv W)[one]? =some (jJv W)[one]:=lJm hone
 have hj:(jJv W)[(one+1+ot)%(jJv W).length]? =some (jJv W)[(one+1+ot)%(jJv W).length]:=lJm hoth
 generalize (one+1+ot)%(jJv W).length=two at *
 generalize (jJv W)[one]=f at hi
 generalize (jJv W)[two]=s at hj
 have as:Asked W one two ab f s:=⟨ok.fine,ok.sym,w1,hi,hj,hab⟩
 have K4:Keep b G G4:=(((Keep.sub s1).trans k2).trans k3).trans k4
 refine⟨W,one,two,ab,f,s,rfl,as,fun G5 q5=> ?_⟩
 have cr:∀(Q':VK3) (R':XK3),(jK6 (dueT W f s ab)=false->∀G',Sub G5 G'->Q' (dueT W f s ab) G')->(jK6 (dueT W f s ab)=true->∀G',Sub G5 G'->R' "NoWeb" G')->jQ7 [encW W,.int one,.int two,.int ab] G5 Q' R':=fun Q' R' h1 h2=>⟨W,one,two,ab,f,s,rfl,as,h1,h2⟩
 have hd:=qKp (jKu ok.fine ok.sym w1 hi hj hab)
 have hx:∀V,dueT W f s ab=encW V->Crossed W V 18/\((bfs W 0).length=W.length->f.1≠f.2->IsC V W):=fun V h=>isC_ok ok.fine ok.sym w1 ok.num hne hi hj hab h
 generalize dueT W f s ab=u at cr hd hx ⊢
 rcases hd with rfl | ⟨V,rfl,fV,lV⟩
 ·refine cr _ _ (fun z=>by cases z) fun _ G6 q6=>⟨lJ1.mpr rfl,fun a ha=> ?_⟩
  refine⟨_,_,rfl,.inl ⟨rfl,rfl⟩,fun G7 q7=>⟨true,rfl,?_⟩⟩
  rw[lJa (by decide)]
  have S7:=(q5.trans q6).trans ((Sub.new ha).trans q7)
  exact⟨by omega,fin0 G7 3 (b4.sub S7) (by decide) (K4.trans (.sub S7))⟩
 ·refine cr _ _ (fun _ G6 q6=> ?_) fun z=>by cases z
  refine⟨_,_,rfl,.inr (.inl ⟨rfl,pl_up (qVz fV)⟩),fun G7 q7=>⟨true,rfl,?_⟩⟩
  rw[lJa (by decide)]
  change (if (false:Bool)=true then _ else _)
  rw[lJa (by decide)]
  refine⟨W,rfl,ok.fine,fun e8 G8 he8 hG8 _ s8=> ?_⟩
  have S8:=((q5.trans q6).trans q7).trans s8
  refine⟨_,by rw[jKf hG8];exact kQi hi,_,rfl,_,rfl,_,jZ2,by omega,?_⟩
  refine kk V _ G8 ⟨(hx V rfl).1,fun hbk=> .inr ((hx V rfl).2 hbf (by simpa using hbk))⟩ ((b4.sub S8).mono (by omega)) (K4.trans (.sub S8))
def qZn:List Str:=["_law_script","_law_box_here","_law_many","_law_web_here","_law_room","_law_story","_law_wrong_here","_law_back","_law_chart","_law_due","_law_found","_law_made"]
noncomputable def kZ6:TS3:=
 (tSeq (tFor (iSeq (jJs jUk (jJc (tVar 0) (jJc (tC (.int 8)) tNil)))) (jJg 1) (tSeq (tAsg (tIf (jJ0 (tOp rGt (jJs jJr (jJc (tVar 1) (jJc (tC (.int 8)) tNil))) (tC (.int 0)))) (tOp jKe (tC (.int 1)) (jJs jJr (jJc (tVar 1) (jJc (tC (.int 6)) tNil)))) (tOp jKe (tC (.int 7)) (jJs jJr (jJc (tVar 1) (jJc (tC (.int 3)) tNil))))) (jJg 2))
 (tSeq (tAsg (jJs jYx (jJc (tVar 1) (jJc (tVar 2) (jJc (tOp jKe (tC (.int 2)) (jJs jJr (jJc (tVar 1) (jJc (tC (.int 3)) tNil)))) tNil)))) (jJg 3))
 (tSeq (tAsg (jJs jJr (jJc (tVar 1) (jJc (tVar 2) tNil))) (jJg 4))
 (tSeq (tAsg (jJs jUj (jJc (tVar 3) (jJc (tVar 4) (jJc (jJs jKh (jJc (tVar 1) (jJc (tVar 3) (jJc (tVar 4) tNil)))) tNil)))) (jJg 5))
 (tSeq (tAsg (jJs jU9 (jJc (tVar 1) (jJc (tVar 3) tNil))) (gTup 2 (jJ3 (jJg 6) (jJ3 (jJg 7) gNil))))
 (tSeq (tIfS (jJ0 (tOp rIsN (tVar 6) (tC .non))) (tRet (tC (.bl false))) jKs)
 (tFor (iSeq (tTup (jJc (tVar 6) (jJc (tVar 3) tNil)))) (jJg 8) (tSeq (tAsg (jZe (jJc (jQj [false,false,false,false,false,false,false,false,false,false,false,true] (iSeq (jJs jKo (jJc (tVar 8) tNil))) (jJg 11) (jJ0 (jJs jV6 (jJc (tVar 11) (jJc (tVar 4) (jJc (tVar 5) tNil))))) (tVar 11)) tNil)) (jJg 9))
 (tSeq (tAsg (jJs jQt (jJc (tVar 8) (jJc (tVar 4) (jJc (tVar 5) tNil)))) (jJg 10))
 (tIfS (tOr (tNot (jJ0 (jJs jQ6 (jJc (tVar 10) (jJc (tVar 9) tNil))))) (tAnd (tTru rTru (tVar 7)) (jJ0 (tOp kU9 (tVar 3) (tVar 10))))) (tRet (tC (.bl false))) jKs)))))))))))
 (tRet (tC (.bl true))))
noncomputable def kU6:TS3:=(tFor (iSeq (tTup (jJc (tVar 6) (jJc (tVar 3) tNil)))) (jJg 8) (tSeq (tAsg (jZe (jJc (jQj [false,false,false,false,false,false,false,false,false,false,false,true] (iSeq (jJs jKo (jJc (tVar 8) tNil))) (jJg 11) (jJ0 (jJs jV6 (jJc (tVar 11) (jJc (tVar 4) (jJc (tVar 5) tNil))))) (tVar 11)) tNil)) (jJg 9))
 (tSeq (tAsg (jJs jQt (jJc (tVar 8) (jJc (tVar 4) (jJc (tVar 5) tNil)))) (jJg 10))
 (tIfS (tOr (tNot (jJ0 (jJs jQ6 (jJc (tVar 10) (jJc (tVar 9) tNil))))) (tAnd (tTru rTru (tVar 7)) (jJ0 (tOp kU9 (tVar 3) (tVar 10))))) (tRet (tC (.bl false))) jKs))))
noncomputable def kKo:TS3:=(tSeq (tAsg (jJs jYx (jJc (tVar 1) (jJc (tVar 2) (jJc (tOp jKe (tC (.int 2)) (jJs jJr (jJc (tVar 1) (jJc (tC (.int 3)) tNil)))) tNil)))) (jJg 3))
 (tSeq (tAsg (jJs jJr (jJc (tVar 1) (jJc (tVar 2) tNil))) (jJg 4))
 (tSeq (tAsg (jJs jUj (jJc (tVar 3) (jJc (tVar 4) (jJc (jJs jKh (jJc (tVar 1) (jJc (tVar 3) (jJc (tVar 4) tNil)))) tNil)))) (jJg 5))
 (tSeq (tAsg (jJs jU9 (jJc (tVar 1) (jJc (tVar 3) tNil))) (gTup 2 (jJ3 (jJg 6) (jJ3 (jJg 7) gNil))))
 (tSeq (tIfS (jJ0 (tOp rIsN (tVar 6) (tC .non))) (tRet (tC (.bl false))) jKs)
 kU6)))))
theorem kZ5:kZ6=tSeq (tFor (iSeq (jJs jUk (jJc (tVar 0) (jJc (tC (.int 8)) tNil)))) (jJg 1) (tSeq (tAsg (tIf (jJ0 (tOp rGt (jJs jJr (jJc (tVar 1) (jJc (tC (.int 8)) tNil))) (tC (.int 0)))) (tOp jKe (tC (.int 1)) (jJs jJr (jJc (tVar 1) (jJc (tC (.int 6)) tNil)))) (tOp jKe (tC (.int 7)) (jJs jJr (jJc (tVar 1) (jJc (tC (.int 3)) tNil))))) (jJg 2)) kKo)) (tRet (tC (.bl true))):=rfl
theorem okD_eq {z:T} (h:OkD 40 z):eqOk z=true:=by
 unfold eqOk
 rw[h.tr,h.lay,lJ3 (show (td z).depth<=50 by have:=h.dep;omega)];rfl
theorem kZl:∀ {xs:List T} {x:T},x∈xs->td x∈tds xs
 | y::ys,x,h=>by
  show td x∈td y::tds ys
  rcases (lJk.mp h) with rfl | h
  ·exact lJz ..
  ·exact lJ4 _ (kZl h)
theorem qZk {ts:List T} {W:Web} (h:encW W∈ts):((tds ts).any fun z=>PyData.eqv z (td (encW W)))=true:=by
 rw[List.any_eq_true]
 have o:=okD_web (W:=W)
 exact⟨_,kZl h,by rw[qY8 _ _ o.tr o.tr];exact o.eq⟩
theorem Due.has {W V:Web} {r:Nat} {S:jVn} {ts:List T} (h:Due W r S ts) (hv:V=W\/IsC W V) (hf:Fit V r S):encW V∈ts:=by
 obtain⟨Us,kys,a1,a2⟩:=h.ex
 exact (a1.mem _).mpr (lVl ((a2 V).mpr ⟨hv,hf⟩))
theorem charts {E:Ends3} {W V:Web} {r:Nat} {S:jVn} {back:Bool} {b:Addr} {v0 v1 v2 v8 v9 v10:Option T} {G:Gp} (okW:Crossed W W 18) (w1:1<=W.length) (wr:Wrong W V back) (hr:r<W.length) (hS:S.2.length<=1000) (hf:Fit W r S) (kk:∀v8 v9 v10 G',Sub G G'->E.nx [v0,v1,v2,some (encW W),some (.int r),some (jX3 S),some (encW V),some (.bl back),v8,v9,v10,none] G'):
  kU6 E [v0,v1,v2,some (encW W),some (.int r),some (jX3 S),some (encW V),some (.bl back),v8,v9,v10,none] G:=by
 have hs:=sz
 wp_walk using 1,kU6,jJz,iSeq,jZe
 refine⟨by omega,?_⟩
 let J1:Nat->St3->Gp->Prop:=fun i τ G'=>∃(v8 v9 v10:Option T),τ=[v0,v1,v2,some (encW W),some (.int r),some (jX3 S),some (encW V),some (.bl back),v8,v9,v10,none]/\Sub G G'
 refine⟨J1,?_,?_,?_,?_⟩
 ·exact xi3 _ _ _ rfl (.refl _)
 ·intros;trivial
 ·intro i y τ G1 hy h_;apply xe3 h_;clear h_;intro v8 v9 v10 s1
  have hy:([V,W].map encW)[i]? =some y:=hy
  obtain⟨U,hU,rfl⟩:=jKb hy
  obtain⟨okU,bk⟩:Crossed W U 18/\(back=true->W=U\/IsC U W):=by
   have:=lJo hU
   simp only[lJk,lJr,lJ0] at this
   rcases this with rfl | rfl
   ·exact⟨wr.ok,fun h=>(wr.undone h).imp Eq.symm id⟩
   ·exact⟨okW,fun _=> .inl rfl⟩
  have hUl:=okU.len
  have h18:=kXy okU.sym okU.num
  wp_walk using 1,iSeq,jZe
  refine⟨U,rfl,okU.fine,okU.sym,by omega,h18,fun q Vs G2 hq hG2 hVl hVm hVf s2=>⟨_,jJl hG2,?_⟩⟩
  refine jUq (fun V=>if fitB r S V=true then some (encW V) else none) (by omega) (fun G' s=>jJl (s _ _ hG2)) ?_ ?_
  ·intro i X hX G3 K K0 s3 hK hK0
   have hf:=hVf X (lJo hX)
   wp_walk using 1,tSeq
   refine⟨X,r,S,rfl,hf.1,by omega,hS,fun b G4 hb s4=>⟨b,rfl,?_⟩⟩
   by_cases h:fitB r S X=true
   ·rw[lJc (hb.mpr (fitB_iff.mp h))]
    exact hK _ _ (by rw[lJc h]) s4
   ·rw[lJa fun z=>h (fitB_iff.mpr (hb.mp z))]
    exact hK0 (by rw[lJa h]) _ s4
  ·intro D G3 hD hD3 s3
   rw[jXn] at hD3
   refine qKo (W:=U) (r:=r) (S:=S) (by omega) (by omega) hVm hVf rfl hD3 fun d ts hd du=> ?_
   refine⟨U,r,S,rfl,okU.fine,okU.sym,h18,by omega,hS,fun p ts' G5 hp hp5 du' s5=> ?_⟩
   cases du.uniq du'
   have hd5:=s5 _ _ (jJh (G:=G3) (a:=d) (o:= .lst ts))
   have hlen:=du.len
   have S5:Sub G G5:=((s1.trans (s2.trans s3)).trans (.new hd)).trans s5
   refine⟨.ref p,.ref d,rfl,.inr (.inr ⟨p,d,ts,rfl,rfl,hp5,hd5,by omega,fun u hu=> ?_⟩),fun G6 s6=>⟨true,rfl,?_⟩⟩
   ·obtain⟨X,rfl,fX⟩:=du.fine u hu
    exact qVz fX
   rw[lJa (by decide)]
   have fin:J1 (i+1) [v0,v1,v2,some (encW W),some (.int r),some (jX3 S),some (encW V),some (.bl back),some (encW U),some (.ref d),some (.ref p),none] G6:=xi3 _ _ _ rfl (S5.trans s6)
   by_cases hbk:back=true
   ·rw[lJc hbk]
    refine⟨p,ts,rfl,s6 _ _ hp5,okD_eq (okD_web.mono (by decide)),qX9 fun x hx=> ?_,_,rfl,?_⟩
    ·obtain⟨X,rfl,_⟩:=du.fine x hx;exact okD_web.mono (by decide)
    ·rw[qZk (du.has (bk hbk) hf),lJa (by decide)];exact fin
   ·rw[lJa hbk];exact fin
 ·intro τ G1 h_;apply xe3 h_;clear h_;intro v8 v9 v10 s1
  exact kk _ _ _ _ s1
theorem kXs {W:Web}:∀ {ds:List Nat} {es:List (Nat×Nat)} {r:Nat},goW W r ds=some es->FitR W r (jU0 W ds es)
 | [],es,r,_=>trivial
 | d::ds,es,r,h=>by
  rw[kXq] at h
  cases he:en W r d with
  | none=>rw[he] at h;cases h
  | some e=>
   rw[he,lQ8] at h
   cases hg:goW W e.1 ds with
   | none=>rw[hg] at h;cases h
   | some es'=>
    rw[hg] at h;cases h
    exact⟨e,he,rfl,rfl,kXs hg⟩
theorem qUq {E:Ends3} {b:Addr} {n:Nat} {v0 v3 v4 v5 v6 v7 v8 v9 v10:Option T} {G:Gp} (hb:BoxAt G b 2) (h1:1<=n) (h2:n<=9) (kk:∀v3 v4 v5 v6 v7 v8 v9 v10 G',Keep b G G'->E.nx [v0,some (.ref b),some (.int n),v3,v4,v5,v6,v7,v8,v9,v10,none] G'):
  kKo E [v0,some (.ref b),some (.int n),v3,v4,v5,v6,v7,v8,v9,v10,none] G:=by
 have hs:=sz
 wp_walk using 1,kKo
 refine⟨b,3,2,rfl,hb,by decide,by decide,by decide,fun x G1 x0 x1 b1 k1=> ?_⟩
 obtain⟨x,rfl⟩:=lQh x0
 wp_walk using 1,tSeq
 refine⟨b,n,2+x,3,by simp,b1,by decide,h1,by omega,by omega,by omega,fun W G2 ok nt b2 k2=> ?_⟩
 have fW:=ok.fine (by omega) (by omega)
 have okW:Crossed W W 18:=⟨fW,ok.sym,rfl,nt.mono (by omega)⟩
 have hW:=ok.len
 have hbf:(bfs W 0).length=W.length:=(qK2 fW ok.sym ok.conn (by omega)).len
 refine⟨b,n,_,rfl,b2,by decide,by omega,by omega,fun r G3 r0 r1 b3 k3=> ?_⟩
 obtain⟨r,rfl⟩:=lQh r0
 have hrn:r<W.length:=by omega
 wp_walk using 1,tSeq
 refine⟨b,W,r,_,rfl,b3,by decide,fW,hrn,fun ds es G4 hgo hdl b4 k4=> ?_⟩
 refine⟨W,r,_,ds,es,rfl,fW,hrn,.inl rfl,by omega,hgo,fun G5 s5=> ?_⟩
 have hSl:(jU0 W ds es).length<=60:=lKf kUr hdl
 have hfit:Fit W r (dg W r,jU0 W ds es):=⟨rfl,kXs hgo⟩
 generalize hSe:((dg W r,jU0 W ds es):jVn)=S at hfit ⊢
 have hS2:S.2.length<=1000:=by rw[<-hSe];exact lKf hSl (by decide)
 refine⟨b,W,_,rfl,b4.sub s5,by decide,okW,by omega,hbf,fun V back G6 wr b6 k6=> ?_⟩
 wp_walk using 1,tSeq
 change (if (false:Bool)=true then _ else _)
 rw[lJa (by decide)]
 exact charts (b:=b) okW (by omega) wr hrn hS2 hfit fun v8 v9 v10 G' s=>kk _ _ _ _ _ _ _ _ _ ((((((k1.trans k2).trans k3).trans k4).trans (.sub s5)).trans k6).trans (.sub s))
def kZr:Sp3:=fun xs G Q=>∃ns:List Int,xs=[.scr (jQb ns)]/\ns.length<=63/\∀G',Q (.bl true) G'
theorem qQw:RdOk kZr kZ6 qZn:=by
 intro xs G Q h_;apply xe1 h_;clear h_;intro ns h_;apply ae2 h_;clear h_;intro hns kk
 rw[show jK0 qZn [.scr (jQb ns)]=[some (.scr (jQb ns)),none,none,none,none,none,none,none,none,none,none,none] from rfl,kZ5]
 have hs:=sz
 wp_walk using 1,jJz,iSeq
 refine⟨ns,8,rfl,hns,by decide,by decide,fun D rs G1 hD hD1 hl hnd hbx s1=>⟨_,jJl hD1,?_⟩⟩
 rw[lK0] at hnd
 let J1:Nat->St3->Gp->Prop:=fun i τ G'=>∃(v1 v2 v3 v4 v5 v6 v7 v8 v9 v10:Option T),τ=[some (.scr (jQb ns)),v1,v2,v3,v4,v5,v6,v7,v8,v9,v10,none]/\G' D=some (.lst (rs.map T.ref))/\∀(j:Nat) (r:Addr),i<=j->rs[j]? =some r->BoxAt G' r 0
 refine⟨J1,?_,?_,?_,?_⟩
 ·exact xi10 _ _ _ _ _ _ _ _ _ _ rfl ⟨hD1,fun j r _ hj=>hbx r (lJo hj)⟩
 ·intro i τ G' hi h_;apply xe10 h_;clear h_;intro v1 v2 v3 v4 v5 v6 v7 v8 v9 v10 h_;apply ae2 h_;clear h_;intro h1 h2
  exact jJl h1
 ·intro i y τ G2 hy h_;apply xe10 h_;clear h_;intro v1 v2 v3 v4 v5 v6 v7 v8 v9 v10 h_;apply ae2 h_;clear h_;intro h1 h2
  obtain⟨b,hbi,rfl⟩:=jKb hy
  have hb2:=h2 i b (lJh _) hbi
  have hbm:=lJo hbi
  have hbD:b≠D:=fun e=>hnd.1 (e▸hbm)
  have go:∀(n:Nat) G3,BoxAt G3 b 2->1<=n->n<=9->Keep b G2 G3->kKo {nx:=J1 (i+1),rt:=Q,bk:=tRet (tC (.bl true)) {nx:=fun _ G'=>Q .non G',rt:=Q},ct:=J1 (i+1)} [some (.scr (jQb ns)),some (.ref b),some (.int n),v3,v4,v5,v6,v7,v8,v9,v10,none] G3:=fun n G3 b3 n1 n2 k3=>by
   refine qUq b3 n1 n2 fun w3 w4 w5 w6 w7 w8 w9 w10 G4 k4=> ?_
   have K9:=k3.trans k4
   refine xi10 _ _ _ _ _ _ _ _ _ _ rfl ⟨K9 _ _ hbD.symm h1,fun j r' hj hr'=> ?_⟩
   have hne:r'≠b:=fun e=>by
    subst e
    have hjl:j<rs.length:=(lJi.mp hr').1
    have:=(lX8 hjl hnd.2).mp (hr'.trans hbi.symm)
    omega
   obtain⟨x,y,z,e1,e2⟩:=h2 j r' (by omega) hr'
   exact⟨x,y,z,K9 _ _ hne e1,e2⟩
  wp_walk using 1,tSeq
  refine⟨b,8,0,rfl,hb2,by decide,by decide,by decide,fun z G3 z0 z1 b3 k3=> ?_⟩
  refine⟨z,rfl,?_⟩
  split
  ·refine⟨b,6,1,rfl,b3,by decide,by decide,by decide,fun a G4 a0 a1 b4 k4=>⟨.val (.int (1+a)),rfl,?_⟩⟩
   obtain⟨a,rfl⟩:=lQh a0
   have:=go (1+a) G4 b4 (by omega) (by omega) (k3.trans k4)
   rw[show ((1+a:Nat):Int)=1+(a:Int) by omega] at this
   exact this
  ·refine⟨b,3,1,rfl,b3,by decide,by decide,by decide,fun a G4 a0 a1 b4 k4=>⟨.val (.int (7+a)),rfl,?_⟩⟩
   obtain⟨a,rfl⟩:=lQh a0
   have:=go (7+a) G4 b4 (by omega) (by omega) (k3.trans k4)
   rw[show ((7+a:Nat):Int)=7+(a:Int) by omega] at this
   exact this
 ·intro τ G2 h_;apply xe10 h_;clear h_;intro v1 v2 v3 v4 v5 v6 v7 v8 v9 v10 h_;apply ae2 h_;clear h_;intro h1 h2
  wp_walk using 1,tSeq
  exact kk G2
end W
namespace W
open PySem PySem.Spec PyProof.Rows L2 L3
theorem ln1 {α:Type} {us:List α} {C:List α->Prop} (h:us.length=1) (k:∀a0,C [a0]):C us:=by
 obtain⟨a0,us,rfl⟩:=lQx h
 replace h:=lQy h
 cases lVe.mp h
 exact k a0
theorem ln2 {α:Type} {us:List α} {C:List α->Prop} (h:us.length=2) (k:∀a0 a1,C [a0,a1]):C us:=by
 obtain⟨a0,us,rfl⟩:=lQx h
 replace h:=lQy h
 obtain⟨a1,us,rfl⟩:=lQx h
 replace h:=lQy h
 cases lVe.mp h
 exact k a0 a1
theorem ln3 {α:Type} {us:List α} {C:List α->Prop} (h:us.length=3) (k:∀a0 a1 a2,C [a0,a1,a2]):C us:=by
 obtain⟨a0,us,rfl⟩:=lQx h
 replace h:=lQy h
 obtain⟨a1,us,rfl⟩:=lQx h
 replace h:=lQy h
 obtain⟨a2,us,rfl⟩:=lQx h
 replace h:=lQy h
 cases lVe.mp h
 exact k a0 a1 a2
theorem ln4 {α:Type} {us:List α} {C:List α->Prop} (h:us.length=4) (k:∀a0 a1 a2 a3,C [a0,a1,a2,a3]):C us:=by
 obtain⟨a0,us,rfl⟩:=lQx h
 replace h:=lQy h
 obtain⟨a1,us,rfl⟩:=lQx h
 replace h:=lQy h
 obtain⟨a2,us,rfl⟩:=lQx h
 replace h:=lQy h
 obtain⟨a3,us,rfl⟩:=lQx h
 replace h:=lQy h
 cases lVe.mp h
 exact k a0 a1 a2 a3
def top (i:Nat):Stmt:=PySem.Challenge.pw_stonewalker_k90_whole_put_right.main.body.getD i (.Pass ⟨0,0,0,0⟩)
def FnAt (K:PySem.W.Frag) (mg:Str->Option Value) (x:Str) (i:Nat):Prop:=∃f fd,mg x=some (.ref f)/\Fun K x x (top i) f fd
structure Txt (K:PySem.W.Frag) (mg:Str->Option Value):Prop where
 n_abs:mg "abs"=none
 n_all:mg "all"=none
 n_bool:mg "bool"=none
 n_enumerate:mg "enumerate"=none
 n_int:mg "int"=none
 n_isinstance:mg "isinstance"=none
 n_len:mg "len"=none
 n_list:mg "list"=none
 n_max:mg "max"=none
 n_range:mg "range"=none
 n_set:mg "set"=none
 n_sorted:mg "sorted"=none
 n_str:mg "str"=none
 n_tuple:mg "tuple"=none
 n_zip:mg "zip"=none
 x_NoWeb:ExC K mg "NoWeb"
 t_NoWeb:∀cn,cn∈(["NoWeb"]:List Str)->ExSub K mg cn "NoWeb" true
 f_first_comings:FnAt K mg "first_comings" 4
 f_ties:FnAt K mg "ties" 5
 f_ends_on:FnAt K mg "ends_on" 6
 f_seen:FnAt K mg "seen" 7
 f_story_of:FnAt K mg "story_of" 9
 f_way_of:FnAt K mg "way_of" 10
 f_seen_in:FnAt K mg "seen_in" 11
 f_fits:FnAt K mg "fits" 12
 f_with_end:FnAt K mg "with_end" 14
 f_with_tie:FnAt K mg "with_tie" 15
 f_by_ties:FnAt K mg "by_ties" 16
 f_crossed:FnAt K mg "crossed" 17
 f_all_crossed:FnAt K mg "all_crossed" 18
 f_put_right:FnAt K mg "put_right" 19
 f_l_box:FnAt K mg "_law_box" 21
 f_l_take:FnAt K mg "_law_take" 22
 f_l_alike:FnAt K mg "_law_alike" 23
 f_l_folded:FnAt K mg "_law_folded" 24
 f_l_joined:FnAt K mg "_law_joined" 25
 f_l_doors_put:FnAt K mg "_law_doors_put" 26
 f_l_web:FnAt K mg "_law_web" 27
 f_l_ends:FnAt K mg "_law_ends" 28
 f_l_reached:FnAt K mg "_law_reached" 29
 f_l_crossing:FnAt K mg "_law_crossing" 30
 f_l_all_crossed:FnAt K mg "_law_all_crossed" 31
 f_l_fits:FnAt K mg "_law_fits" 32
 f_l_possible_way:FnAt K mg "_law_possible_way" 33
 f_l_wrong:FnAt K mg "_law_wrong" 34
 f_law:FnAt K mg "law" 35
variable {P:Program} {w:World} {K:PySem.W.Frag} {mg:Str->Option Value} {base:Heap}
theorem cal3 {x:Str} {i k:Nat} {N ps:List Str} {sp:Sp3} {t:TS3} (F:FnAt K mg x i) (h:∀xs G Q,sp xs G Q->t {nx:=fun _ G'=>Q .non G',rt:=Q} (jK0 N xs) G)
  (d:∀(f:Addr) (cdv:Value) (A:Around) (outer:List Env) (s:Shared) (H:Hp) (E:XK),Room k (A.deeper (envOfC x (jJq (top i)) s.heap.objs.size f cdv))->(A.deeper (envOfC x (jJq (top i)) s.heap.objs.size f cdv)).units+20<cLine->N.Nodup->PSs3 (cxOf CX0 P w K mg base N x (jJq (top i)) f cdv A outer s H E).nox (jK7 (top i)) t)
  (S:FnScope N ps (jJq (top i)):=by exact⟨rfl,rfl,rfl,by decide +kernel,rfl,by decide +kernel,by decide +kernel⟩)
  (b:∀(kV doc pm:Value) (an:Option Addr) (cdv ct:Value) (us:List Value),us.length=ps.length->bindArgs (PySem.W.fnOf x x (jU7 (top i)) (jK7 (top i)) (jJq (top i)) .none kV doc pm an cdv ct) ⟨us,[]⟩=pure (ps.zip us):=by (intro _ _ _ _ _ _ us hl;first | (apply ln1 hl;intros;rfl) | (apply ln2 hl;intros;rfl) | (apply ln3 hl;intros;rfl) | (apply ln4 hl;intros;rfl)))
  (m:Mono sp:=by (intro xs G Q Q' hq;(repeat' (first | (refine Exists.imp fun _=> ?_) | (refine And.imp_right ?_)));intro k;intros;apply hq;apply k<;>assumption))
  (n:∀xs G Q,sp xs G Q->xs.length=ps.length:=by (intro xs G Q h;repeat (first | exact (lKg List.length h.1).trans rfl | obtain⟨_,h⟩:=h))):Cal P w K mg base (k+1) x ps sp:=by
 obtain⟨f,fd,a,F⟩:=F
 exact⟨⟨f,fd,fn3 F S fun cdv A outer s H E hr=>⟨t,d f cdv A outer s H E hr (qYz hr) S.nd,h⟩,a,F.kp,F.binds b⟩,m,n⟩
theorem calX3 {x:Str} {i k:Nat} {N ps:List Str} {sp:SpX} {t:XK3->TS3} (F:FnAt K mg x i) (h:∀xs G Q R,sp xs G Q R->t R {nx:=fun _ G'=>Q .non G',rt:=Q} (jK0 N xs) G)
  (d:∀(f:Addr) (cdv:Value) (A:Around) (outer:List Env) (s:Shared) (H:Hp) (E:XK) (R:XK3),Room k (A.deeper (envOfC x (jJq (top i)) s.heap.objs.size f cdv))->(A.deeper (envOfC x (jJq (top i)) s.heap.objs.size f cdv)).units+20<cLine->N.Nodup->XR (cxOf (CXX P w) P w K mg base N x (jJq (top i)) f cdv A outer s H E) R->PSs3 (cxOf (CXX P w) P w K mg base N x (jJq (top i)) f cdv A outer s H E) (jK7 (top i)) (t R))
  (m:qVs sp) (S:FnScope N ps (jJq (top i)):=by exact⟨rfl,rfl,rfl,by decide +kernel,rfl,by decide +kernel,by decide +kernel⟩)
  (b:∀(kV doc pm:Value) (an:Option Addr) (cdv ct:Value) (us:List Value),us.length=ps.length->bindArgs (PySem.W.fnOf x x (jU7 (top i)) (jK7 (top i)) (jJq (top i)) .none kV doc pm an cdv ct) ⟨us,[]⟩=pure (ps.zip us):=by (intro _ _ _ _ _ _ us hl;first | (apply ln1 hl;intros;rfl) | (apply ln2 hl;intros;rfl) | (apply ln3 hl;intros;rfl) | (apply ln4 hl;intros;rfl)))
  (n:∀xs G Q R,sp xs G Q R->xs.length=ps.length:=by (intro xs G Q R h;repeat (first | exact (lKg List.length h.1).trans rfl | obtain⟨_,h⟩:=h))):CalX P w K mg base (k+1) x ps sp:=by
 obtain⟨f,fd,a,F⟩:=F
 exact⟨⟨f,fd,fnX F S fun cdv A outer s H E R hr hx=>⟨t R,d f cdv A outer s H E R hr (qYz hr) S.nd hx,fun xs G Q=>h xs G Q R⟩,a,F.kp,F.binds b⟩,m,n⟩
theorem cal0 {x:Str} {i k:Nat} {ps:List Str} (F:FnAt K mg x i) (b:∀(kV doc pm:Value) (an:Option Addr) (cdv ct:Value) (us:List Value),us.length=ps.length->bindArgs (PySem.W.fnOf x x (jU7 (top i)) (jK7 (top i)) (jJq (top i)) .none kV doc pm an cdv ct) ⟨us,[]⟩=pure (ps.zip us):=by (intro _ _ _ _ _ _ us hl;first | (apply ln1 hl;intros;rfl) | (apply ln2 hl;intros;rfl) | (apply ln3 hl;intros;rfl) | (apply ln4 hl;intros;rfl))):Cal P w K mg base k x ps (fun _ _ _=>False):=by
 obtain⟨f,fd,a,F⟩:=F
 refine⟨⟨f,fd,⟨fun vs H Q E h=>h.1,?_⟩,a,F.kp,F.binds b⟩,fun _ _ _ _ _ h=>h,fun _ _ _ h=>h.elim⟩
 intros
 rename_i h
 exact absurd h (by rintro⟨_,_,_,_,_,h⟩;exact h)
theorem jYk (T:Txt K mg):Cal P w K mg base 1 "first_comings" ["web","room"] jQe:=
 cal3 T.f_first_comings jXd fun _ _ _ _ _ _ _ hr hu nd=>
  (jJd (jJx (i:=2) nd (qZc (jJb 1) jU6))
   (jJd (jJx (i:=3) nd (jQ5 (jJa (jJb 1) jJe)))
   (jJd (kZv lJ2 (t_tru kZi (jJb 3)) (jJd (jJx (i:=4) nd (jQ5 jJe))
   (jJd (jK4 lJ2 rfl (jQn (jJb 3)) (jJm (i:=5) nd) (jJi (jK4 lJ2 rfl (qYw rfl T.n_enumerate rfl (jJa (e_ix (ix_F hu) (jJb 0) (jJb 5) (fun _ _=>rfl)) jJe)) (jUw rfl (jJt (jJm (i:=6) nd) (jJt (jJm (i:=7) nd) jK1))) (jJi (s_if (jKn (kQx hu) (e_ix (ix_F hu) (jJb 7) jJk (fun _ _=>rfl)) (jJb 2) (jJn _)) (jJd (jYf (jKj (jJa (jJb 5) (jJa (jJb 6) jJe))) (kK2 (jJb 2) (e_ix (ix_F hu) (jJb 7) jJk (fun _ _=>rfl)) (s_F hu)))
   (jJi (jUt (e_bm lK3 lQk lQl jKp (jJb 4) (jJa (e_ix (ix_F hu) (jJb 7) jJk (fun _ _=>rfl)) jJe))))) jKd)))))
   (jJi (jJx (i:=3) nd (jJb 4))))))
   (jJi (jJ6 (jJb 2))))))
theorem qJm (T:Txt K mg):Cal P w K mg base 1 "ties" ["web"] kKc:=
 cal3 T.f_ties kZ1 fun _ _ _ _ _ _ _ hr hu nd=>
  (jJd (jJx (i:=1) nd (jQ5 jJe))
   (jJd (jK4 lJ2 rfl (qYw rfl T.n_enumerate rfl (jJa (jJb 0) jJe)) (jUw rfl (jJt (jJm (i:=2) nd) (jJt (jJm (i:=3) nd) jK1))) (jJi (jK4 lJ2 rfl (qYw rfl T.n_enumerate rfl (jJa (jJb 3) jJe)) (jUw rfl (jJt (jJm (i:=4) nd) (jJt (jJm (i:=5) nd) jK1))) (jJi (s_if (jKn (qUc hu) (jKj (jJa (jJb 2) (jJa (jJb 4) jJe))) (jJb 5) (jJn _)) (jJi (jUt (e_bm lK3 lQk lQl jKp (jJb 1) (jJa (jKj (jJa (jKj (jJa (jJb 2) (jJa (jJb 4) jJe))) (jJa (jJb 5) jJe))) jJe)))) jKd)))))
   (jJi (jJ6 (jJb 1)))))
theorem kJt (T:Txt K mg):Cal P w K mg base 1 "ends_on" ["web","room","way"] jVa:=
 cal3 T.f_ends_on kQr (fun _ _ _ _ _ _ _ hr hu nd=>
  (jJd (jJx (i:=3) nd (jQ5 jJe))
   (jJd (jJx (i:=4) nd (jJb 1))
   (jJd (jK4 lJ2 rfl (jQn (jJb 2)) (jJm (i:=5) nd) (jJd (s_if (qQi (qXn (qUc hu) o_lt jJk (jJb 5) (jJp jQp (by rfl) T.n_len lJ9 (jJa (e_ix (ix_F hu) (jJb 0) (jJb 4) (fun _ _=>rfl)) jJe)))) (jJi (jJ6 jU6)) jKd)
   (jJd (jJx (i:=6) nd (e_ix (ix_F hu) (e_ix (ix_F hu) (jJb 0) (jJb 4) (fun _ _=>rfl)) (jJb 5) (fun _ _=>rfl)))
   (jJd (jUt (e_bm lK3 lQk lQl jKp (jJb 3) (jJa (jJb 6) jJe)))
   (jJi (jJx (i:=4) nd (e_ix (ix_F hu) (jJb 6) jJk (fun _ _=>rfl))))))))
   (jJi (jJ6 (jJb 3))))))) (m:=by (intro xs G Q Q' hq;(repeat' (first | (refine Exists.imp fun _=> ?_) | (refine And.imp_right ?_)));intro k G' s;refine⟨fun a=>hq _ _ ((k G' s).1 a),?_⟩;intros;apply hq;apply (k G' s).2<;>assumption))
theorem qX7 (T:Txt K mg):Cal P w K mg base 2 "seen" ["web","room","way"] kUs:=
 cal3 T.f_seen kZ2 fun _ _ _ _ _ _ _ hr hu nd=>
  (jJd (jJx (i:=3) nd (jJy (kJt T) (hr.mono (by decide)) (jJa (jJb 0) (jJa (jJb 1) (jJa (jJb 2) jJe)))))
   (jJd (s_if (jKn qJr (jJb 3) jU6 (jJn _)) (jJi (jJ6 jU6)) jKd)
   (jJi (jJ6 (jKz jUr (by rfl) T.n_tuple rfl (jJa (e_op o_addF (jQ5 (jJa (jJp jQp (by rfl) T.n_len lJ9 (jJa (e_ix (ix_F hu) (jJb 0) (jJb 1) (fun _ _=>rfl)) jJe)) jJe)) (jQy (mask:=[false,false,false,false,true]) rfl ⟨rfl,rfl,rfl,rfl,rfl,rfl,rfl⟩ (jQn (jJb 3)) jJ9 (fun C fp s H=>(jJm (i:=4) nd)) (fun C fp s H=>jUu) (fun C fp s H=>(jKj (jJa (e_ix (ix_F hu) (jJb 4) jJk (fun _ _=>rfl)) (jJa (jJp jQp (by rfl) T.n_len lJ9 (jJa (e_ix (ix_F hu) (jJb 0) (e_ix (ix_F hu) (jJb 4) jJk (fun _ _=>rfl)) (fun _ _=>rfl)) jJe)) jJe)))))) jJe))))))
theorem kVc (T:Txt K mg):Cal P w K mg base 2 "story_of" ["web","room","way"] jUj:=
 cal3 T.f_story_of kKl fun _ _ _ _ _ _ _ hr hu nd=>
  (jJd (kXa (i:=3) (mask:=[false,false,false,false,true,true]) rfl nd ⟨rfl,rfl,rfl,rfl,rfl,rfl,rfl⟩ (i_zipA rfl T.n_zip rfl (jJa (jJb 2) (jJa (jJy (kJt T) (hr.mono (by decide)) (jJa (jJb 0) (jJa (jJb 1) (jJa (jJb 2) jJe)))) jJe))) (qKa (jX2 jJ9 jUo (jX2 jJ9 jUo qKb kJ1) (kVr jUo kJ1))) (fun C fp s H=>(jUw rfl (jJt (jJm (i:=4) nd) (jJt (jJm (i:=5) nd) jK1)))) (fun C fp s H=>jUu) (fun C fp s H=>(jKj (jJa (jJb 4) (jJa (e_ix (ix_F hu) (jJb 5) jJk (fun _ _=>rfl)) (jJa (jJp jQp (by rfl) T.n_len lJ9 (jJa (e_ix (ix_F hu) (jJb 0) (e_ix (ix_F hu) (jJb 5) jJk (fun _ _=>rfl)) (fun _ _=>rfl)) jJe)) jJe))))))
   (jJi (jJ6 (jKj (jJa (jJp jQp (by rfl) T.n_len lJ9 (jJa (e_ix (ix_F hu) (jJb 0) (jJb 1) (fun _ _=>rfl)) jJe)) (jJa (jKz jUr (by rfl) T.n_tuple rfl (jJa (jJb 3) jJe)) jJe))))))
theorem qJl (T:Txt K mg):Cal P w K mg base 1 "way_of" ["story"] jZf:=
 cal3 T.f_way_of kU0 fun _ _ _ _ _ _ _ hr hu nd=>
  (jJi (jJ6 (jKz jUr (by rfl) T.n_tuple rfl (jJa (jQy (mask:=[false,true]) rfl ⟨rfl,rfl,rfl,rfl,rfl,rfl,rfl⟩ (jQn (e_ix (ix_F hu) (jJb 0) jJk (fun _ _=>rfl))) jJ9 (fun C fp s H=>(jJm (i:=1) nd)) (fun C fp s H=>jUu) (fun C fp s H=>(e_ix (ix_F hu) (jJb 1) jJk (fun _ _=>rfl)))) jJe))))
theorem kYi (T:Txt K mg):Cal P w K mg base 1 "seen_in" ["story"] jXs:=
 cal3 T.f_seen_in kQp fun _ _ _ _ _ _ _ hr hu nd=>
  (jJi (jJ6 (jKz jUr (by rfl) T.n_tuple rfl (jJa (e_op o_addF (jQ5 (jJa (e_ix (ix_F hu) (jJb 0) jJk (fun _ _=>rfl)) jJe)) (jQy (mask:=[false,true]) rfl ⟨rfl,rfl,rfl,rfl,rfl,rfl,rfl⟩ (jQn (e_ix (ix_F hu) (jJb 0) jJk (fun _ _=>rfl))) jJ9 (fun C fp s H=>(jJm (i:=1) nd)) (fun C fp s H=>jUu) (fun C fp s H=>(jKj (jJa (e_ix (ix_F hu) (jJb 1) jJk (fun _ _=>rfl)) (jJa (e_ix (ix_F hu) (jJb 1) jJk (fun _ _=>rfl)) jJe)))))) jJe))))
theorem qX8 (T:Txt K mg):Cal P w K mg base 3 "fits" ["web","room","story"] kUt:=
 cal3 T.f_fits kZ3 fun _ _ _ _ _ _ _ hr hu nd=>
  (jJi (jJ6 (jYm (jXi hr.units) (jJy (qX7 T) (hr.mono (by decide)) (jJa (jJb 0) (jJa (jJb 1) (jJa (jJy (qJl T) (hr.mono (by decide)) (jJa (jJb 2) jJe)) jJe)))) (jJy (kYi T) (hr.mono (by decide)) (jJa (jJb 2) jJe)) (jJn _))))
theorem jZs (T:Txt K mg):Cal P w K mg base 1 "with_end" ["web","start","end"] jUi:=
 cal3 T.f_with_end kKk fun _ _ _ _ _ _ _ hr hu nd=>
  (jJd (jJx (i:=3) nd (e_ix (ix_F hu) (jJb 0) (e_ix (ix_F hu) (jJb 1) jJk (fun _ _=>rfl)) (fun _ _=>rfl)))
   (jJd (jJx (i:=4) nd (e_op kJu (e_op kJu (jV4 sl_F (jJb 3) kJr (jX7 (e_ix (ix_F hu) (jJb 1) jJk (fun _ _=>rfl)))) (jKj (jJa (jJb 2) jJe))) (jV4 sl_F (jJb 3) (jX7 (e_op kJu (e_ix (ix_F hu) (jJb 1) jJk (fun _ _=>rfl)) jJk)) kJr)))
   (jJi (jJ6 (e_op kJu (e_op kJu (jV4 sl_F (jJb 0) kJr (jX7 (e_ix (ix_F hu) (jJb 1) jJk (fun _ _=>rfl)))) (jKj (jJa (jJb 4) jJe))) (jV4 sl_F (jJb 0) (jX7 (e_op kJu (e_ix (ix_F hu) (jJb 1) jJk (fun _ _=>rfl)) jJk)) kJr))))))
theorem jZr (T:Txt K mg):Cal P w K mg base 2 "with_tie" ["web","one","other"] jUh:=
 cal3 T.f_with_tie kKj fun _ _ _ _ _ _ _ hr hu nd=>
  (jJi (jJ6 (jJy (jZs T) (hr.mono (by decide)) (jJa (jJy (jZs T) (hr.mono (by decide)) (jJa (jJb 0) (jJa (jJb 1) (jJa (jJb 2) jJe)))) (jJa (jJb 2) (jJa (jJb 1) jJe))))))
theorem jXz (T:Txt K mg):Cal P w K mg base 3 "by_ties" ["web","first","second","about"] jQ8:=
 cal3 T.f_by_ties kQt fun _ _ _ _ _ _ _ hr hu nd=>
  (jJd (s_if (jKn (kQy hr.units) (jYm (jXi hr.units) (e_ix (ix_F hu) (jJb 1) jJk (fun _ _=>rfl)) (e_ix (ix_F hu) (jJb 1) jJk (fun _ _=>rfl)) (jJn _)) (jYm (jXi hr.units) (e_ix (ix_F hu) (jJb 2) jJk (fun _ _=>rfl)) (e_ix (ix_F hu) (jJb 2) jJk (fun _ _=>rfl)) (jJn _)) (jJn _)) (jJi (jJ6 jU6)) jKd)
   (jJd (jJx (i:=4) nd (e_ix (ix_F hu) (jJb 2) (jJb 3) (fun _ _=>rfl)))
   (jJd (jJx (i:=5) nd (e_ix (ix_F hu) (jJb 2) (e_op o_sub jJk (jJb 3)) (fun _ _=>rfl)))
   (jJd (jJx (i:=6) nd (jJy (jZr T) (hr.mono (by decide)) (jJa (jJy (jZr T) (hr.mono (by decide)) (jJa (jJb 0) (jJa (e_ix (ix_F hu) (jJb 1) jJk (fun _ _=>rfl)) (jJa (jJb 5) jJe)))) (jJa (jJb 4) (jJa (e_ix (ix_F hu) (jJb 1) jJk (fun _ _=>rfl)) jJe)))))
   (jJi (jJ6 (jX4 (jKn (jXi hr.units) (jJp qXg (by rfl) T.n_len lJ9 (jJa (jJy (jYk T) (hr.mono (by decide)) (jJa (jJb 6) (jJa jJk jJe))) jJe)) (jJp qXg (by rfl) T.n_len lJ9 (jJa (jJb 6) jJe)) (jJn _)) (jJb 6) jU6)))))))
theorem kYk (T:Txt K mg):CalX P w K mg base 4 "crossed" ["web","one","other","about"] jQ7:=
 calX3 T.f_crossed kQs (m:=kQz) fun _ _ _ _ _ _ _ R hr hu nd hx=>
  (jJd (jJx (i:=4) nd (jJy (qJm T) (hr.mono (by decide)) (jJa (jJb 0) jJe)))
   (jJd (jJx (i:=5) nd (jJy (jXz T) (hr.mono (by decide)) (jJa (jJb 0) (jJa (e_ix (ix_F hu) (jJb 4) (jJb 1) (fun _ _=>rfl)) (jJa (e_ix (ix_F hu) (jJb 4) (jJb 2) (fun _ _=>rfl)) (jJa (jJb 3) jJe))))))
   (jJd (s_if (jKn qJr (jJb 5) jU6 (jJn _)) (jJi (qQt hx T.x_NoWeb rfl (jJa e_str jJe))) jKd)
   (jJi (jJ6 (jJb 5))))))
theorem kJh (T:Txt K mg):Cal P w K mg base 4 "all_crossed" ["web"] jQ2:=
 cal3 T.f_all_crossed jYi fun _ _ _ _ _ _ _ hr hu nd=>
  (jJd (jJx (i:=1) nd (jJy (qJm T) (hr.mono (by decide)) (jJa (jJb 0) jJe)))
   (jJd (jJx (i:=2) nd (jQ5 jJe))
   (jJd (jK4 lJ2 rfl (kXm rfl T.n_enumerate rfl (jJa (jJb 1) jJe)) (jUw rfl (jJt (jJm (i:=3) nd) (jJt (jJm (i:=4) nd) jK1))) (jJi (jK4 lJ2 rfl (jQn (jV4 sl_F (jJb 1) kJr (jX7 (jJb 3)))) (jJm (i:=5) nd) (jJd (jUt (e_bm lK3 lQk lQl jKp (jJb 2) (jJa (jJy (jXz T) (hr.mono (by decide)) (jJa (jJb 0) (jJa (jJb 5) (jJa (jJb 4) (jJa jJk jJe))))) jJe)))
   (jJi (jUt (e_bm lK3 lQk lQl jKp (jJb 2) (jJa (jJy (jXz T) (hr.mono (by decide)) (jJa (jJb 0) (jJa (jJb 5) (jJa (jJb 4) (jJa jJk jJe))))) jJe))))))))
   (jJi (jJ6 (jQy (mask:=[false,false,false,false,false,false,true]) rfl ⟨rfl,rfl,rfl,rfl,rfl,rfl,rfl⟩ (jQn (jJb 2)) jJ9 (fun C fp s H=>(jJm (i:=6) nd)) (fun C fp s H=>(kJ0 (jKn qV4 (jJb 6) jU6 (jJn _)))) (fun C fp s H=>(jJb 6))))))))
theorem kQv (T:Txt K mg):Cal P w K mg base 5 "put_right" ["web","room","story"] jQt:=
 cal3 T.f_put_right kJe fun _ _ _ _ _ _ _ hr hu nd=>
  (jJi (jJ6 (qKm rfl hu (by rfl) T.n_sorted rfl (by rfl) T.n_set rfl (jJa (jQy (mask:=[false,false,false,true]) rfl ⟨rfl,rfl,rfl,rfl,rfl,rfl,rfl⟩ (jQn (e_op o_addF (jQ5 (jJa (jJb 0) jJe)) (jJy (kJh T) (hr.mono (by decide)) (jJa (jJb 0) jJe)))) jJ9 (fun C fp s H=>(jJm (i:=3) nd)) (fun C fp s H=>(kJ0 (kQj (jJy (qX8 T) (hr.mono (by decide)) (jJa (jJb 3) (jJa (jJb 1) (jJa (jJb 2) jJe))))))) (fun C fp s H=>(jJb 3))) jJe))))
theorem qQ9 (T:Txt K mg):Cal P w K mg base 1 "_law_box" ["_law_script","_law_k"] kKd:=
 cal3 T.f_l_box kYe fun _ _ _ _ _ _ _ hr hu nd=>
  (jJd (jJx (i:=2) nd (jX4 (jKn o_lt (jJb 1) (jJp jQp (by rfl) T.n_len lJ9 (jJa (jJb 0) jJe)) (jJn _)) (e_ix (ix_F hu) (jJb 0) (jJb 1) (fun _ _=>rfl)) jJk))
   (jJd (jJx (i:=3) nd (jX4 (jKn o_ge (jJp c_abs (by rfl) T.n_abs rfl (jJa (jJb 2) jJe)) (e_op o_pow jJk jJk) (jJn _)) (jJp c_abs (by rfl) T.n_abs rfl (jJa (jJb 2) jJe)) jJk))
   (jJi (jJ6 (jQ5 (jJa (jJb 3) (jJa (e_op jYl (e_op jX8 (e_op o_addF (e_op o_addF (e_op jYl (jJb 2) jJk) (e_op jX8 jJk (jJb 1))) jJk) jJk) jJk) (jJa jJk jJe))))))))
theorem jJ1 (T:Txt K mg):Cal P w K mg base 1 "_law_take" ["_law_box_here","_law_many"] jJr:=
 cal3 T.f_l_take kU1 fun _ _ _ _ _ _ _ hr hu nd=>
  (jJd (s_if (jKn o_gt (e_ix (ix_F hu) (jJb 0) jJk (fun _ _=>rfl)) jJk (jJn _)) (jJd (jJx (i:=2) nd (e_op jYl (e_ix (ix_F hu) (jJb 0) jJk (fun _ _=>rfl)) (jJb 1)))
   (jJd (jYf (e_op qV5 (e_ix (ix_F hu) (jJb 0) jJk (fun _ _=>rfl)) (jJb 1)) (kK2 (jJb 0) jJk (s_F hu)))
   (jJi (jJ6 (jJb 2))))) jKd)
   (jJd (jYf (e_op o_addF (e_ix (ix_F hu) (jJb 0) jJk (fun _ _=>rfl)) jJk) (kK2 (jJb 0) jJk (s_F hu)))
   (jJd (jJx (i:=3) nd (e_op jYl (e_op jX8 (e_op o_addF (e_ix (ix_F hu) (jJb 0) jJk (fun _ _=>rfl)) (e_op jX8 jJk (e_ix (ix_F hu) (jJb 0) jJk (fun _ _=>rfl)))) (e_op o_addF jJk (e_ix (ix_F hu) (jJb 0) jJk (fun _ _=>rfl)))) jJk))
   (jJd (jYf (e_op jYl (e_op o_addF (e_op jX8 (jJb 3) (e_op o_addF (e_op jYl (jJb 3) jJk) jJk)) (e_ix (ix_F hu) (jJb 0) jJk (fun _ _=>rfl))) jJk) (kK2 (jJb 0) jJk (s_F hu)))
   (jJi (jJ6 (e_op jYl (e_op qV5 (e_op jYl (e_op jX8 (e_ix (ix_F hu) (jJb 0) jJk (fun _ _=>rfl)) (e_op o_addF (e_op jYl (e_ix (ix_F hu) (jJb 0) jJk (fun _ _=>rfl)) jJk) jJk)) jJk) jJk) (jJb 1))))))))
theorem jQr {j:Nat} {sp sp':Sp3} (T:Txt K mg) (C_l_alike:Cal P w K mg base (j) "_law_alike" ["_law_found","_law_due"] sp) (h:∀xs G Q,sp' xs G Q->jKr sp {nx:=fun _ G'=>Q .non G',rt:=Q} (jK0 jUe xs) G) (m:Mono sp':=by unfold jZg;(intro xs G Q Q' hq;(repeat' (first | (refine Exists.imp fun _=> ?_) | (refine And.imp_right ?_)));intro k;intros;apply hq;apply k<;>assumption)) (n:∀xs G Q,sp' xs G Q->xs.length=(["_law_found","_law_due"]:List Str).length:=by (intro xs G Q h;repeat (first | exact (lKg List.length h.1).trans rfl | obtain⟨_,h⟩:=h))):Cal P w K mg base (j+1) "_law_alike" ["_law_found","_law_due"] sp':=
 cal3 T.f_l_alike h (fun _ _ _ _ _ _ _ hr hu nd=>(jJd (s_if (kQj (jJp kJk (by rfl) T.n_isinstance rfl (jJa (jJb 1) (jJa (jKj (jJa (e_ty rfl T.n_list rfl) (jJa (e_ty rfl T.n_tuple rfl) jJe))) jJe)))) (jJd (s_if (PW3.pt (w_or (qQi (kQj (jJp kJk (by rfl) T.n_isinstance rfl (jJa (jJb 0) (jJa (jKj (jJa (e_ty rfl T.n_list rfl) (jJa (e_ty rfl T.n_tuple rfl) jJe))) jJe))))) (qQe (jKn (kQy hr.units) (jJp kJk (by rfl) T.n_isinstance rfl (jJa (jJb 0) (jJa (e_ty rfl T.n_list rfl) jJe))) (jJp kJk (by rfl) T.n_isinstance rfl (jJa (jJb 1) (jJa (e_ty rfl T.n_list rfl) jJe))) (jJn _))))) (jJi (jJ6 e_bl)) jKd)
   (jJi (jJ6 (qVf (jYm (jXi hr.units) (jJp jQp (by rfl) T.n_len lJ9 (jJa (jJb 0) jJe)) (jJp jQp (by rfl) T.n_len lJ9 (jJa (jJb 1) jJe)) (jJn _)) (qZb (jJp (c_all rfl) (by rfl) T.n_all rfl (jJa (jQy (mask:=[false,false,true,true]) rfl ⟨rfl,rfl,rfl,rfl,rfl,rfl,rfl⟩ (i_zipB rfl T.n_zip rfl (jJa (jJb 0) (jJa (jJb 1) jJe))) (qKa (jX2 jJ9 jUo (jX2 jJ9 jUo qKb kJ1) (kVr jUo kJ1))) (fun C fp s H=>(jUw rfl (jJt (jJm (i:=2) nd) (jJt (jJm (i:=3) nd) jK1)))) (fun C fp s H=>jUu) (fun C fp s H=>(jJy C_l_alike hr (jJa (jJb 2) (jJa (jJb 3) jJe))))) jJe))))))) jKd)
   (jJd (s_if (PW3.pt (w_or (jKn qJr (jJb 1) jU6 (jJn _)) (qQe (kQj (jJp kJk (by rfl) T.n_isinstance rfl (jJa (jJb 1) (jJa (e_ty rfl T.n_str rfl) jJe))))))) (jJi (jJ6 (qVf (jYm (jXi hr.units) (jJb 0) (jJb 1) (jJn _)) (qZb (jYm (jXi hr.units) (jJp kJk (by rfl) T.n_isinstance rfl (jJa (jJb 0) (jJa (e_ty rfl T.n_str rfl) jJe))) (jJp kJk (by rfl) T.n_isinstance rfl (jJa (jJb 1) (jJa (e_ty rfl T.n_str rfl) jJe))) (jJn _)))))) jKd)
   (jJi (jJ6 (qVf (jJp kJk (by rfl) T.n_isinstance rfl (jJa (jJb 0) (jJa (e_ty rfl T.n_int rfl) jJe))) (qVf (jYm (jXi hr.units) (jJp kJk (by rfl) T.n_isinstance rfl (jJa (jJb 0) (jJa (e_ty rfl T.n_bool rfl) jJe))) (jJp kJk (by rfl) T.n_isinstance rfl (jJa (jJb 1) (jJa (e_ty rfl T.n_bool rfl) jJe))) (jJn _)) (qZb (jYm (jXi hr.units) (jJb 0) (jJb 1) (jJn _)))))))))) (m:=m) (n:=n)
theorem kJs (T:Txt K mg):Cal P w K mg base 5 "_law_alike" ["_law_found","_law_due"] (jZg 4):=
 jQr (j:=4) (sp':=jZg 4) T (jQr (j:=3) (sp':=jZg 3) T (jQr (j:=2) (sp':=jZg 2) T (jQr (j:=1) (sp':=jZg 1) T (jQr (j:=0) (sp':=jZg 0) T (cal0 T.f_l_alike) (jXc _)) (jQw 0)) (jQw 1)) (jQw 2)) (jQw 3)
theorem kVe (T:Txt K mg):Cal P w K mg base 2 "_law_folded" ["_law_script","_law_many"] jUk:=
 cal3 T.f_l_folded kKn fun _ _ _ _ _ _ _ hr hu nd=>
  (jJd (jJx (i:=2) nd (jKz qKz (by rfl) T.n_list rfl (jJa (jV4 sl_F (jJb 0) kJr (jX7 (jJb 1))) jJe)))
   (jJd (jK4 lJ2 rfl (kXm rfl T.n_enumerate rfl (jJa (jV4 sl_F (jJb 0) (jX7 (jJb 1)) (jX7 jJk)) jJe)) (jUw rfl (jJt (jJm (i:=3) nd) (jJt (jJm (i:=4) nd) jK1))) (jJi (jYf (e_op o_addF (e_ix (ix_F hu) (jJb 2) (e_op jYl (jJb 3) (jJb 1)) (fun _ _=>rfl)) (e_op jX8 (jJb 4) (e_op o_addF (jJb 3) jJk))) (kK2 (jJb 2) (e_op jYl (jJb 3) (jJb 1)) (s_F hu)))))
   (jJi (jJ6 (jQy (mask:=[false,false,false,true,false]) rfl ⟨rfl,rfl,rfl,rfl,rfl,rfl,rfl⟩ (jKx rfl T.n_range (jJa (jJp (c_max rfl) (by rfl) T.n_max rfl (jJa jJk (jJa (jJp jQp (by rfl) T.n_len lJ9 (jJa (jJb 2) jJe)) jJe))) jJe)) jJ9 (fun C fp s H=>(jJm (i:=3) nd)) (fun C fp s H=>jUu) (fun C fp s H=>(jJy (qQ9 T) (hr.mono (by decide)) (jJa (jJb 2) (jJa (jJb 3) jJe)))))))))
theorem kVd (T:Txt K mg):Cal P w K mg base 1 "_law_joined" ["_law_halves"] jVs:=
 cal3 T.f_l_joined kKm fun _ _ _ _ _ _ _ hr hu nd=>
  (jJd (jJx (i:=1) nd e_dct)
   (jJd (jK4 lJ2 rfl (jKx rfl T.n_range (jJa (jJp jQp (by rfl) T.n_len lJ9 (jJa (jJb 0) jJe)) jJe)) (jJm (i:=2) nd) (jJi (jK4 lJ2 rfl (kXm rfl T.n_enumerate rfl (jJa (e_ix (ix_F hu) (jJb 0) (jJb 2) (fun _ _=>rfl)) jJe)) (jUw rfl (jJt (jJm (i:=3) nd) (jJt (jJm (i:=4) nd) jK1))) (jJi (jYf (jKj (jJa (jJb 2) (jJa (jJb 3) jJe))) (kK2 (jJb 1) (jJb 4) (s_F hu)))))))
   (jJd (jJx (i:=5) nd (jQ5 jJe))
   (jJd (jK4 lJ2 rfl (jQn (jJb 0)) (jJm (i:=6) nd) (jJi (jUt (e_bm lK3 lQk lQl jKp (jJb 5) (jJa (jKz jUr (by rfl) T.n_tuple rfl (jJa (jQy (mask:=[false,false,false,false,false,false,false,true,true]) rfl ⟨rfl,rfl,rfl,rfl,rfl,rfl,rfl⟩ (jQn (jJb 6)) (qKa (jX2 jJ9 jUo (jX2 jJ9 jUo qKb kJ1) (kVr jUo kJ1))) (fun C fp s H=>(jUw rfl (jJt (jJm (i:=7) nd) (jJt (jJm (i:=8) nd) jK1)))) (fun C fp s H=>jUu) (fun C fp s H=>(e_ix (ix_F hu) (jJb 1) (jKj (jJa (jJb 7) (jJa (e_ix (ix_F hu) (jQ5 (jJa jJk (jJa jJk (jJa jJk jJe)))) (jJb 8) (fun _ _=>rfl)) jJe))) (fun _ _=>rfl)))) jJe)) jJe)))))
   (jJi (jJ6 (jKz jUr (by rfl) T.n_tuple rfl (jJa (jJb 5) jJe))))))))
theorem kJg (T:Txt K mg):Cal P w K mg base 2 "_law_doors_put" ["_law_box_here","_law_pairs","_law_many"] jQ1:=
 cal3 T.f_l_doors_put jYh fun _ _ _ _ _ _ _ hr hu nd=>
  (jJd (kXa (i:=3) (mask:=[false,false,false,false,false,false,false,false,true,false]) rfl nd ⟨rfl,rfl,rfl,rfl,rfl,rfl,rfl⟩ (jKx rfl T.n_range (jJa (jJb 2) jJe)) jJ9 (fun C fp s H=>(jJm (i:=8) nd)) (fun C fp s H=>jUu) (fun C fp s H=>(jQ5 jJe)))
   (jJd (jK4 lJ2 rfl (kXm rfl T.n_enumerate rfl (jJa (jJb 1) jJe)) (jUw rfl (jJt (jJm (i:=4) nd) (jJt (jUw rfl (jJt (jJm (i:=5) nd) (jJt (jJm (i:=6) nd) jK1))) jK1))) (jJd (jJx (i:=7) nd (jX4 (jKn (jXi hr.units) (jJb 6) (jJb 2) (jJn _)) (jQ5 (jJa (jKj (jJa (jJb 5) (jJa jJk jJe))) jJe)) (jQ5 (jJa (jKj (jJa (jJb 5) (jJa jJk jJe))) (jJa (jKj (jJa (jJb 6) (jJa jJk jJe))) jJe)))))
   (jJi (jK4 lJ2 rfl (jQn (jJb 7)) (jUw rfl (jJt (jJm (i:=8) nd) (jJt (jJm (i:=9) nd) jK1))) (jJi (jUt (e_bm lK3 PySem.F.slot_list_insert PySem.F.type_list_insert qUn (e_ix (ix_F hu) (jJb 3) (jJb 8) (fun _ _=>rfl)) (jJa (jJy (jJ1 T) (hr.mono (by decide)) (jJa (jJb 0) (jJa (e_op o_addF (jJp jQp (by rfl) T.n_len lJ9 (jJa (e_ix (ix_F hu) (jJb 3) (jJb 8) (fun _ _=>rfl)) jJe)) jJk) jJe))) (jJa (jKj (jJa (jJb 4) (jJa (jJb 9) jJe))) jJe)))))))))
   (jJi (jJ6 (jJy (kVd T) (hr.mono (by decide)) (jJa (jJb 3) jJe))))))
theorem qQ8 (T:Txt K mg):Cal P w K mg base 3 "_law_web" ["_law_box_here","_law_many","_law_most"] jYx:=
 cal3 T.f_l_web kYd fun _ _ _ _ _ _ _ hr hu nd=>
  (jJd (jJx (i:=3) nd (e_op jX8 (jQ5 (jJa jJk jJe)) (jJb 1)))
   (jJd (jJx (i:=4) nd (jQ5 jJe))
   (jJd (jK4 lJ2 rfl (qU3 rfl T.n_range (jJa jJk (jJa (jJb 1) jJe))) (jJm (i:=5) nd) (jJd (kXa (i:=6) (mask:=[false,false,false,false,false,false,false,false,false,false,false,true]) rfl nd ⟨rfl,rfl,rfl,rfl,rfl,rfl,rfl⟩ (jKx rfl T.n_range (jJa (jJb 5) jJe)) jJ9 (fun C fp s H=>(jJm (i:=11) nd)) (fun C fp s H=>(kJ0 (jKn o_lt (e_ix (ix_F hu) (jJb 3) (jJb 11) (fun _ _=>rfl)) (jJb 2) (jJn _)))) (fun C fp s H=>(jJb 11)))
   (jJd (jUt (e_bm lK3 lQk lQl jKp (jJb 4) (jJa (jKj (jJa (e_ix (ix_F hu) (jJb 6) (jJy (jJ1 T) (hr.mono (by decide)) (jJa (jJb 0) (jJa (jJp jQp (by rfl) T.n_len lJ9 (jJa (jJb 6) jJe)) jJe))) (fun _ _=>rfl)) (jJa (jJb 5) jJe))) jJe)))
   (jJi (jK4 lJ2 rfl (jQn (e_ix (ix_F hu) (jJb 4) (e_un u_neg jJk) (fun _ _=>rfl))) (jJm (i:=7) nd) (jJi (jYf (e_op o_addF (e_ix (ix_F hu) (jJb 3) (jJb 7) (fun _ _=>rfl)) jJk) (kK2 (jJb 3) (jJb 7) (s_F hu)))))))))
   (jJd (jK4 lJ2 rfl (jKx rfl T.n_range (jJa (jJy (jJ1 T) (hr.mono (by decide)) (jJa (jJb 0) (jJa (e_op o_addF (jJb 1) jJk) jJe))) jJe)) (jJm (i:=8) nd) (jJd (jJx (i:=9) nd (jKj (jJa (jJy (jJ1 T) (hr.mono (by decide)) (jJa (jJb 0) (jJa (jJb 1) jJe))) (jJa (jJy (jJ1 T) (hr.mono (by decide)) (jJa (jJb 0) (jJa (e_op o_addF (jJb 1) jJk) jJe))) jJe))))
   (jJd (jJx (i:=10) nd (jQy (mask:=[false,false,false,false,false,false,false,true,false,false,false,false]) rfl ⟨rfl,rfl,rfl,rfl,rfl,rfl,rfl⟩ (jQn (jJb 9)) jJ9 (fun C fp s H=>(jJm (i:=7) nd)) (fun C fp s H=>(kJ0 (jKn o_lt (jJb 7) (jJb 1) (jJn _)))) (fun C fp s H=>(jJb 7))))
   (jJi (s_if (kQj (jJp (c_all rfl) (by rfl) T.n_all rfl (jJa (jQy (mask:=[false,false,false,false,false,false,false,true,false,false,false,false]) rfl ⟨rfl,rfl,rfl,rfl,rfl,rfl,rfl⟩ (jQn (jJb 10)) jJ9 (fun C fp s H=>(jJm (i:=7) nd)) (fun C fp s H=>jUu) (fun C fp s H=>(jYm (qUc hu) (e_op o_addF (e_ix (ix_F hu) (jJb 3) (jJb 7) (fun _ _=>rfl)) (e_bm lK3 PySem.F.slot_list_count PySem.F.type_list_count qYf (jJb 10) (jJa (jJb 7) jJe))) (jJb 2) (jJn _)))) jJe))) (jJd (jUt (e_bm lK3 lQk lQl jKp (jJb 4) (jJa (jJb 9) jJe)))
   (jJi (jK4 lJ2 rfl (jQn (jJb 10)) (jJm (i:=7) nd) (jJi (jYf (e_op o_addF (e_ix (ix_F hu) (jJb 3) (jJb 7) (fun _ _=>rfl)) jJk) (kK2 (jJb 3) (jJb 7) (s_F hu))))))) jKd)))))
   (jJi (jJ6 (jJy (kJg T) (hr.mono (by decide)) (jJa (jJb 0) (jJa (jJb 4) (jJa (jJb 1) jJe))))))))))
theorem jU3 (T:Txt K mg):Cal P w K mg base 1 "_law_ends" ["_law_web_here"] jKw:=
 cal3 T.f_l_ends kU3 fun _ _ _ _ _ _ _ hr hu nd=>
  (jJd (jJx (i:=1) nd (jQ5 jJe))
   (jJd (jK4 lJ2 rfl (jKx rfl T.n_range (jJa (jJp jQp (by rfl) T.n_len lJ9 (jJa (jJb 0) jJe)) jJe)) (jJm (i:=2) nd) (jJi (jK4 lJ2 rfl (jKx rfl T.n_range (jJa (jJp jQp (by rfl) T.n_len lJ9 (jJa (e_ix (ix_F hu) (jJb 0) (jJb 2) (fun _ _=>rfl)) jJe)) jJe)) (jJm (i:=3) nd) (jJi (s_if (jKn (qUc hu) (jKj (jJa (jJb 2) (jJa (jJb 3) jJe))) (e_ix (ix_F hu) (e_ix (ix_F hu) (jJb 0) (jJb 2) (fun _ _=>rfl)) (jJb 3) (fun _ _=>rfl)) (jJn _)) (jJi (jUt (e_bm lK3 lQk lQl jKp (jJb 1) (jJa (jKj (jJa (jKj (jJa (jJb 2) (jJa (jJb 3) jJe))) (jJa (e_ix (ix_F hu) (e_ix (ix_F hu) (jJb 0) (jJb 2) (fun _ _=>rfl)) (jJb 3) (fun _ _=>rfl)) jJe))) jJe)))) jKd)))))
   (jJi (jJ6 (jJb 1)))))
theorem kQw (T:Txt K mg):Cal P w K mg base 1 "_law_reached" ["_law_web_here","_law_room"] jQu:=
 cal3 T.f_l_reached kJf fun _ _ _ _ _ _ _ hr hu nd=>
  (jJd (jJx (i:=2) nd (jQ5 (jJa (jJb 1) jJe)))
   (jJd (jJx (i:=3) nd jJk)
   (jJd (kZv lJ2 (jKn o_lt (jJb 3) (jJp jQp (by rfl) T.n_len lJ9 (jJa (jJb 2) jJe)) (jJn _)) (jJd (jK4 lJ2 rfl (jQn (e_ix (ix_F hu) (jJb 0) (e_ix (ix_F hu) (jJb 2) (jJb 3) (fun _ _=>rfl)) (fun _ _=>rfl))) (jUw rfl (jJt (jJm (i:=4) nd) (jJt (jJm (i:=5) nd) jK1))) (jJi (s_if (jKn (kQx hu) (jJb 4) (jJb 2) (jJn _)) (jJi (jUt (e_bm lK3 lQk lQl jKp (jJb 2) (jJa (jJb 4) jJe)))) jKd)))
   (jJi (jJx (i:=3) nd (e_op o_addF (jJb 3) jJk)))))
   (jJi (jJ6 (jJb 2))))))
theorem jXh (T:Txt K mg):Cal P w K mg base 2 "_law_crossing" ["_law_web_here","_law_one","_law_other","_law_about"] jQk:=
 cal3 T.f_l_crossing jZi fun _ _ _ _ _ _ _ hr hu nd=>
  (jJd (jYf (e_ix (ix_F hu) (jJy (jU3 T) (hr.mono (by decide)) (jJa (jJb 0) jJe)) (jJb 1) (fun _ _=>rfl)) (jUw rfl (jJt (jJm (i:=4) nd) (jJt (jJm (i:=5) nd) jK1))))
   (jJd (jYf (e_ix (ix_F hu) (jJy (jU3 T) (hr.mono (by decide)) (jJa (jJb 0) jJe)) (jJb 2) (fun _ _=>rfl)) (jUw rfl (jJt (jJm (i:=6) nd) (jJt (jJm (i:=7) nd) jK1))))
   (jJd (s_if (jKn (kQy hr.units) (jYm (jXi hr.units) (jJb 4) (jJb 5) (jJn _)) (jYm (jXi hr.units) (jJb 6) (jJb 7) (jJn _)) (jJn _)) (jJi (jJ6 jU6)) jKd)
   (jJd (s_if (jKn (jXi hr.units) (jJb 3) jJk (jJn _)) (jJi (s_par (i:=6) (j:=7) rfl nd (by decide) (jJa (jJb 7) (jJa (jJb 6) jJe)))) jKd)
   (jJd (kXa (i:=8) (mask:=[false,false,false,false,false,false,false,false,false,false,false,false,true]) rfl nd ⟨rfl,rfl,rfl,rfl,rfl,rfl,rfl⟩ (jQn (jJb 0)) jJ9 (fun C fp s H=>(jJm (i:=12) nd)) (fun C fp s H=>jUu) (fun C fp s H=>(jKz qKz (by rfl) T.n_list rfl (jJa (jJb 12) jJe))))
   (jJd (jK4 lJ2 rfl (jQn (jKj (jJa (jKj (jJa (jJb 4) (jJa (jJb 7) jJe))) (jJa (jKj (jJa (jJb 7) (jJa (jJb 4) jJe))) (jJa (jKj (jJa (jJb 5) (jJa (jJb 6) jJe))) (jJa (jKj (jJa (jJb 6) (jJa (jJb 5) jJe))) jJe)))))) (jUw rfl (jJt (jJm (i:=9) nd) (jJt (jJm (i:=10) nd) jK1))) (jJi (jYf (jJb 10) (kK2 (e_ix (ix_F hu) (jJb 8) (e_ix (ix_F hu) (jJb 9) jJk (fun _ _=>rfl)) (fun _ _=>rfl)) (e_ix (ix_F hu) (jJb 9) jJk (fun _ _=>rfl)) (s_F hu)))))
   (jJd (jJx (i:=11) nd (jKz jUr (by rfl) T.n_tuple rfl (jJa (jQy (mask:=[false,false,false,false,false,false,false,false,false,false,false,false,true]) rfl ⟨rfl,rfl,rfl,rfl,rfl,rfl,rfl⟩ (jQn (jJb 8)) jJ9 (fun C fp s H=>(jJm (i:=12) nd)) (fun C fp s H=>jUu) (fun C fp s H=>(jKz jUr (by rfl) T.n_tuple rfl (jJa (jJb 12) jJe)))) jJe)))
   (jJi (jJ6 (jX4 (jKn (jXi hr.units) (jJp jQp (by rfl) T.n_len lJ9 (jJa (jJy (kQw T) (hr.mono (by decide)) (jJa (jJb 11) (jJa jJk jJe))) jJe)) (jJp jQp (by rfl) T.n_len lJ9 (jJa (jJb 11) jJe)) (jJn _)) (jJb 11) jU6))))))))))
theorem jYj (T:Txt K mg):Cal P w K mg base 3 "_law_all_crossed" ["_law_web_here"] jKo:=
 cal3 T.f_l_all_crossed jXb fun _ _ _ _ _ _ _ hr hu nd=>
  (jJd (jJx (i:=1) nd (jJp jQp (by rfl) T.n_len lJ9 (jJa (jJy (jU3 T) (hr.mono (by decide)) (jJa (jJb 0) jJe)) jJe)))
   (jJd (jJx (i:=2) nd (jQ5 (jJa (jJb 0) jJe)))
   (jJd (jK4 lJ2 rfl (jKx rfl T.n_range (jJa (jJb 1) jJe)) (jJm (i:=3) nd) (jJi (jK4 lJ2 rfl (jKx rfl T.n_range (jJa (jJb 3) jJe)) (jJm (i:=4) nd) (jJi (jJx (i:=2) nd (e_op o_addF (jJb 2) (jQy (mask:=[false,false,false,false,false,true,false]) rfl ⟨rfl,rfl,rfl,rfl,rfl,rfl,rfl⟩ (jKx rfl T.n_range (jJa jJk jJe)) jJ9 (fun C fp s H=>(jJm (i:=5) nd)) (fun C fp s H=>jUu) (fun C fp s H=>(jJy (jXh T) (hr.mono (by decide)) (jJa (jJb 0) (jJa (jJb 3) (jJa (jJb 4) (jJa (jJb 5) jJe)))))))))))))
   (jJi (jJ6 (jQy (mask:=[false,false,false,false,false,false,true]) rfl ⟨rfl,rfl,rfl,rfl,rfl,rfl,rfl⟩ (jQn (jJb 2)) jJ9 (fun C fp s H=>(jJm (i:=6) nd)) (fun C fp s H=>(kJ0 (jKn qV4 (jJb 6) jU6 (jJn _)))) (fun C fp s H=>(jJb 6))))))))
theorem qJn (T:Txt K mg):Cal P w K mg base 1 "_law_fits" ["_law_web_here","_law_room","_law_story"] jV6:=
 cal3 T.f_l_fits kU2 fun _ _ _ _ _ _ _ hr hu nd=>
  (jJd (s_if (jKn (kQy hr.units) (jJp jQp (by rfl) T.n_len lJ9 (jJa (e_ix (ix_F hu) (jJb 0) (jJb 1) (fun _ _=>rfl)) jJe)) (e_ix (ix_F hu) (jJb 2) jJk (fun _ _=>rfl)) (jJn _)) (jJi (jJ6 e_bl)) jKd)
   (jJd (jK4 lJ2 rfl (jQn (e_ix (ix_F hu) (jJb 2) jJk (fun _ _=>rfl))) (jUw rfl (jJt (jJm (i:=3) nd) (jJt (jJm (i:=4) nd) (jJt (jJm (i:=5) nd) jK1)))) (jJd (s_if (PW3.pt (w_or (jKn o_ge (jJb 3) (jJp jQp (by rfl) T.n_len lJ9 (jJa (e_ix (ix_F hu) (jJb 0) (jJb 1) (fun _ _=>rfl)) jJe)) (jJn _)) (qQe (jKn (kQy hr.units) (e_ix (ix_F hu) (e_ix (ix_F hu) (e_ix (ix_F hu) (jJb 0) (jJb 1) (fun _ _=>rfl)) (jJb 3) (fun _ _=>rfl)) jJk (fun _ _=>rfl)) (jJb 4) (jJn _))))) (jJi (jJ6 e_bl)) jKd)
   (jJd (jJx (i:=1) nd (e_ix (ix_F hu) (e_ix (ix_F hu) (e_ix (ix_F hu) (jJb 0) (jJb 1) (fun _ _=>rfl)) (jJb 3) (fun _ _=>rfl)) jJk (fun _ _=>rfl)))
   (jJi (s_if (jKn (kQy hr.units) (jJp jQp (by rfl) T.n_len lJ9 (jJa (e_ix (ix_F hu) (jJb 0) (jJb 1) (fun _ _=>rfl)) jJe)) (jJb 5) (jJn _)) (jJi (jJ6 e_bl)) jKd)))))
   (jJi (jJ6 e_bl))))
theorem jXy (T:Txt K mg):Cal P w K mg base 2 "_law_possible_way" ["_law_box_here","_law_web_here","_law_room"] jKh:=
 cal3 T.f_l_possible_way jVt fun _ _ _ _ _ _ _ hr hu nd=>
  (jJd (jJx (i:=3) nd (jQ5 jJe))
   (jJd (jK4 lJ2 rfl (jKx rfl T.n_range (jJa (e_ix (ix_F hu) (jQ5 (jJa (jJy (jJ1 T) (hr.mono (by decide)) (jJa (jJb 0) (jJa jJk jJe))) (jJa (jJy (jJ1 T) (hr.mono (by decide)) (jJa (jJb 0) (jJa jJk jJe))) jJe))) (jJy (jJ1 T) (hr.mono (by decide)) (jJa (jJb 0) (jJa jJk jJe))) (fun _ _=>rfl)) jJe)) (jJm (i:=4) nd) (jJi (s_if (jKn (kQy hr.units) (e_ix (ix_F hu) (jJb 1) (jJb 2) (fun _ _=>rfl)) (jKj jJe) (jJn _)) (jJd (jUt (e_bm lK3 lQk lQl jKp (jJb 3) (jJa (jJy (jJ1 T) (hr.mono (by decide)) (jJa (jJb 0) (jJa (jJp jQp (by rfl) T.n_len lJ9 (jJa (e_ix (ix_F hu) (jJb 1) (jJb 2) (fun _ _=>rfl)) jJe)) jJe))) jJe)))
   (jJi (jJx (i:=2) nd (e_ix (ix_F hu) (e_ix (ix_F hu) (e_ix (ix_F hu) (jJb 1) (jJb 2) (fun _ _=>rfl)) (e_ix (ix_F hu) (jJb 3) (e_un u_neg jJk) (fun _ _=>rfl)) (fun _ _=>rfl)) jJk (fun _ _=>rfl))))) jKd)))
   (jJi (jJ6 (jKz jUr (by rfl) T.n_tuple rfl (jJa (jJb 3) jJe))))))
theorem kYj (T:Txt K mg):Cal P w K mg base 6 "_law_wrong" ["_law_box_here","_law_web_here"] jU9:=
 cal3 T.f_l_wrong kQq fun _ _ _ _ _ _ _ hr hu nd=>
  (jJd (jJx (i:=2) nd (jJp jQp (by rfl) T.n_len lJ9 (jJa (jJy (jU3 T) (hr.mono (by decide)) (jJa (jJb 1) jJe)) jJe)))
   (jJd (s_if (jKn o_lt (jJb 2) jJk (jJn _)) (jJi (jJ6 (jKj (jJa (jJb 1) (jJa e_bl jJe))))) jKd)
   (jJd (jJx (i:=3) nd (jJy (jJ1 T) (hr.mono (by decide)) (jJa (jJb 0) (jJa (jJb 2) jJe))))
   (jJd (jJx (i:=4) nd (e_op jYl (e_op o_addF (e_op o_addF (jJb 3) jJk) (jJy (jJ1 T) (hr.mono (by decide)) (jJa (jJb 0) (jJa (e_op o_sub (jJb 2) jJk) jJe)))) (jJb 2)))
   (jJd (jJx (i:=5) nd (jJy (jJ1 T) (hr.mono (by decide)) (jJa (jJb 0) (jJa jJk jJe))))
   (jJd (jJx (i:=6) nd (jJy (jXh T) (hr.mono (by decide)) (jJa (jJb 1) (jJa (jJb 3) (jJa (jJb 4) (jJa (jJb 5) jJe))))))
   (jJd (jJx (i:=7) nd jU6)
   (jJd (s_try0 (cs:=["NoWeb"]) (fun _ _ h=>h) (qXr (sx_set (i:=7) nd (ex_cal (fun _ _ h=>h) (kYk T) (hr.mono (by decide)) (jJa (jJb 1) (jJa (jJb 3) (jJa (jJb 4) (jJa (jJb 5) jJe))))))) (fun a=>(jJi (jJx (i:=7) nd jU6))) T.t_NoWeb)
   (jJd (s_if (qQi (kQj (jJy (kJs T) (hr.mono (by decide)) (jJa (jJb 7) (jJa (jJb 6) jJe))))) (jJi (jJ6 (jKj (jJa jU6 (jJa e_bl jJe))))) jKd)
   (jJd (s_if (jKn qJr (jJb 7) jU6 (jJn _)) (jJi (jJ6 (jKj (jJa (jJb 1) (jJa e_bl jJe))))) jKd)
   (jJd (jJx (i:=8) nd (e_ix (ix_F hu) (jJy (jU3 T) (hr.mono (by decide)) (jJa (jJb 1) jJe)) (jJb 3) (fun _ _=>rfl)))
   (jJi (jJ6 (jKj (jJa (jJb 7) (jJa (jYm (kQy hr.units) (e_ix (ix_F hu) (jJb 8) jJk (fun _ _=>rfl)) (e_ix (ix_F hu) (jJb 8) jJk (fun _ _=>rfl)) (jJn _)) jJe))))))))))))))))
theorem ok_law (T:Txt K mg) {f:Addr} {fd:FuncData} (F:Fun K "law" "law" (top 35) f fd):Fn3 P w K mg base 7 f fd ["_law_script"] kZr:=by
 have S:FnScope qZn ["_law_script"] (jJq (top 35)):=⟨rfl,rfl,rfl,by decide +kernel,rfl,by decide +kernel,by decide +kernel⟩
 refine fn3 F S fun cdv A outer s H E hr=>⟨kZ6,?_,qQw⟩
 have hu:=qYz hr
 have nd:=S.nd
 exact (jJd (jK4 lJ2 rfl (jQn (jJy (kVe T) (hr.mono (by decide)) (jJa (jJb 0) (jJa jJk jJe)))) (jJm (i:=1) nd) (jJd (jJx (i:=2) nd (jX4 (jKn o_gt (jJy (jJ1 T) (hr.mono (by decide)) (jJa (jJb 1) (jJa jJk jJe))) jJk (jJn _)) (e_op o_addF jJk (jJy (jJ1 T) (hr.mono (by decide)) (jJa (jJb 1) (jJa jJk jJe)))) (e_op o_addF jJk (jJy (jJ1 T) (hr.mono (by decide)) (jJa (jJb 1) (jJa jJk jJe))))))
   (jJd (jJx (i:=3) nd (jJy (qQ8 T) (hr.mono (by decide)) (jJa (jJb 1) (jJa (jJb 2) (jJa (e_op o_addF jJk (jJy (jJ1 T) (hr.mono (by decide)) (jJa (jJb 1) (jJa jJk jJe)))) jJe)))))
   (jJd (jJx (i:=4) nd (jJy (jJ1 T) (hr.mono (by decide)) (jJa (jJb 1) (jJa (jJb 2) jJe))))
   (jJd (jJx (i:=5) nd (jJy (kVc T) (hr.mono (by decide)) (jJa (jJb 3) (jJa (jJb 4) (jJa (jJy (jXy T) (hr.mono (by decide)) (jJa (jJb 1) (jJa (jJb 3) (jJa (jJb 4) jJe)))) jJe)))))
   (jJd (jYf (jJy (kYj T) (hr.mono (by decide)) (jJa (jJb 1) (jJa (jJb 3) jJe))) (jUw rfl (jJt (jJm (i:=6) nd) (jJt (jJm (i:=7) nd) jK1))))
   (jJd (s_if (jKn qJr (jJb 6) jU6 (jJn _)) (jJi (jJ6 e_bl)) jKd)
   (jJi (jK4 lJ2 rfl (jQn (jKj (jJa (jJb 6) (jJa (jJb 3) jJe)))) (jJm (i:=8) nd) (jJd (jJx (i:=9) nd (qKm rfl hu (by rfl) T.n_sorted rfl (by rfl) T.n_set rfl (jJa (jQy (mask:=[false,false,false,false,false,false,false,false,false,false,false,true]) rfl ⟨rfl,rfl,rfl,rfl,rfl,rfl,rfl⟩ (jQn (jJy (jYj T) (hr.mono (by decide)) (jJa (jJb 8) jJe))) jJ9 (fun C fp s H=>(jJm (i:=11) nd)) (fun C fp s H=>(kJ0 (kQj (jJy (qJn T) (hr.mono (by decide)) (jJa (jJb 11) (jJa (jJb 4) (jJa (jJb 5) jJe))))))) (fun C fp s H=>(jJb 11))) jJe)))
   (jJd (jJx (i:=10) nd (jJy (kQv T) (hr.mono (by decide)) (jJa (jJb 8) (jJa (jJb 4) (jJa (jJb 5) jJe)))))
   (jJi (s_if (PW3.pt (w_or (qQi (kQj (jJy (kJs T) (hr.mono (by decide)) (jJa (jJb 10) (jJa (jJb 9) jJe))))) (qQe (PW3.pt (w_and (t_tru kZi (jJb 7)) (w_and1 (jKn (qUb hr.units) (jJb 3) (jJb 10) (jJn _)))))))) (jJi (jJ6 e_bl)) jKd)))))))))))))
   (jJi (jJ6 e_bl)))
def qXs (K:PySem.W.Frag):Sp:=dn K 1 kZr
theorem fn_at {K:PySem.W.Frag} {h:Heap} {mg:Str->Option Value} {x:Str} {i:Nat} {f:Addr} {oc:Value} {od an:Option Addr} {osl:Array (Option Value)} {kV doc pm cdv ct:Value} (X:K.In h) (G:h.Ns mainGlobals mg) (a:PySem.W.nsIn K mainGlobals x=some (some (.ref f)))
  (l:K.lookup f=some ⟨oc,od,.func (PySem.W.fnOf x x (jU7 (top i)) (jK7 (top i)) (jJq (top i)) .none kV doc pm an cdv ct),osl⟩) (c:PySem.W.codeIn K cdv x=true) (k:PySem.W.keepIn K (.ref f)=true):FnAt K mg x i:=⟨f,_,PySem.W.mg_of X G a,fun_mk l c k⟩
theorem all_mk {l:PySem.W.OpenLaw} {w:World} {K:PySem.W.Frag} {mg:Str->Option Value} {fa:Addr} (hfa:mg "law"=some (.ref fa)) (T:Txt K mg):
  ∃fd:FuncData,(∀(s:Shared) (v:Value),BindsTo s fd ⟨[v],[]⟩ [("_law_script",v)])/\∀base:Heap,K.In base->base.Ns mainGlobals mg->FnOk l.prog w K mg base CX0 7 fa fd ["_law_script"] (qXs K):=by
 obtain⟨f,fd,a,F⟩:=T.f_law
 cases hfa.symm.trans a
 refine⟨fd,fun s v=> ?_,fun base _ _=>ok_law T F⟩
 obtain⟨_,_,kV,doc,pm,an,cdv,ct,_,e,_⟩:=F.ex
 subst e
 exact .of_eq rfl
theorem fr_of {K:PySem.W.Frag} {H:Hp} {a:Addr} {xs:List V} (hO:Only H) (hS:SqL K H a xs):FrL K H a xs:=by
 rcases hS with h | h
 ·rcases h with h | ⟨ob,h⟩
  ·rcases hO a with z | ⟨o,ys,z⟩
   ·rw[z] at h;cases h
   ·rw[z] at h;cases h
  ·exact .inl ⟨ob,h⟩
 ·exact .inr h
theorem jUa {K:PySem.W.Frag} {H:Hp}:∀ns:List Int,Reps K H (jQb ns) (ns.map V.int)
 | []=>rfl
 | n::ns=>⟨_,_,rfl,rfl,jUa ns⟩
theorem walk {l:PySem.W.OpenLaw} {q:Program} {loose:List Str} {XP:(Str->Option Value)->Heap->Prop} {YP:World->Heap->Prop} {d:DefRec} {K:Params->PySem.W.Frag} (hn:l.most=some 63) (hdf:d.params.defaults=[])
  (hY:∀(w:World) (h:Heap),YP w h->(K w.params).In h)
  (F:∀(w:World) (mg:Str->Option Value) (fa:Addr) (h:Heap),(K w.params).In h->h.Ns mainGlobals mg->mg d.name=some (.ref fa)->
   ∃fd:FuncData,(∀(s:Shared) (u:Value),BindsTo s fd ⟨[u],[]⟩ [("_law_script",u)])/\∀base:Heap,(K w.params).In base->base.Ns mainGlobals mg->FnOk l.prog w (K w.params) mg base CX0 7 fa fd ["_law_script"] (qXs (K w.params))):
  PySem.W.WalkO q loose XP YP l.row.toRowW d [] (fun f vs=>PySem.call f vs):=
 L2.walk_of (n:=63) (k:=7) (x:="_law_script") (CX:=fun _=>CX0) (sp:=fun w=>qXs (K w.params)) hn (by decide) hdf ⟨rfl,rfl,by decide,by decide⟩ hY F
  (fun _ _ a ns hl hO hS=>⟨rfl,[.scr (jQb ns)],fun _=>none,⟨_,_,rfl,⟨a,_,rfl,fr_of hO hS,jUa ns⟩,rfl⟩,(fun _ _ h=>nomatch h),ns,rfl,hl,fun G' v H' _ _ r=>r⟩) fun _ _ _ _ _ z=>z
end W
def PySem.W.Fast.tw15628331510154138334 : Unit := ()
def PySem.W.Fast.tw12647711945058811511 : Unit := ()
def PySem.W.Fast.tw15567005880613965899 : Unit := ()
def PySem.W.Fast.tw9292095392305138121 : Unit := ()
def PySem.W.Fast.tw16917537910542725720 : Unit := ()
def PySem.W.Fast.tw11894504207272859512 : Unit := ()
def PySem.W.Fast.tw1457626100351872724 : Unit := ()
def PySem.W.Fast.tw8583016887359713067 : Unit := ()
def PySem.W.Fast.tw1420002825362114675 : Unit := ()
def PySem.W.Fast.tw2921044549199994927 : Unit := ()
def PySem.W.Fast.tw54232547506141495 : Unit := ()
def PySem.W.Fast.tw4540000275914396456 : Unit := ()
def PySem.W.Fast.tw1706214988636047918 : Unit := ()
def PySem.W.Fast.tw9258457454487224522 : Unit := ()
def PySem.W.Fast.tw13196302446375759295 : Unit := ()
def PySem.W.Fast.tw4677543077723648648 : Unit := ()
def PySem.W.Fast.tw7445135412705915397 : Unit := ()
def PySem.W.Fast.tw8572715709901656865 : Unit := ()
def PySem.W.Fast.tw12938454783618594318 : Unit := ()
def PySem.W.Fast.tw7612276429455023179 : Unit := ()
def PySem.W.Fast.tw11718217683795372386 : Unit := ()
def PySem.W.Fast.tw15253950032143488665 : Unit := ()
def PySem.W.Fast.tw629704063392308982 : Unit := ()
def PySem.W.Fast.tw15571437039171310786 : Unit := ()
def PySem.W.Fast.tw1938228434073746813 : Unit := ()
def PySem.W.Fast.tw12316622899681655937 : Unit := ()
def PySem.W.Fast.tw14814721720924080236 : Unit := ()
def PySem.W.Fast.tw7707769426657228911 : Unit := ()
def PySem.W.Fast.tw11206378501986329118 : Unit := ()
def PySem.W.Fast.tw11079338561031419421 : Unit := ()
def PySem.W.Fast.tw6264057504019347027 : Unit := ()
def PySem.W.Fast.tw8838786221373360090 : Unit := ()
def PySem.W.Fast.tw8113487514875764973 : Unit := ()
def PySem.W.Fast.tw1897848034888969594 : Unit := ()
def PySem.W.Fast.tw687356890489659107 : Unit := ()
def PySem.W.Fast.tw1951838713729056734 : Unit := ()
def PySem.W.Fast.tw3227694709886198570 : Unit := ()
def PySem.W.Fast.tw2869371929906938351 : Unit := ()
def PySem.W.Fast.tw2374195192561012330 : Unit := ()
def PySem.W.Fast.tw17182845947630319608 : Unit := ()
def PySem.W.Fast.tw5784448190067550557 : Unit := ()
def PySem.W.Fast.tw7104814146571330281 : Unit := ()
def PySem.W.Fast.tw7494932290168439116 : Unit := ()
def PySem.W.Fast.tw786976959281706190 : Unit := ()
def PySem.W.Fast.tw18396405298672783207 : Unit := ()
def PySem.W.Fast.tw12568079350078413045 : Unit := ()
def PySem.W.Fast.tw1723716855939463570 : Unit := ()
def PySem.W.Fast.tw480151313996374425 : Unit := ()
def PySem.W.Fast.tw13477813245089069647 : Unit := ()
def PySem.W.Fast.tw5867073923782004395 : Unit := ()
def PySem.W.Fast.tw13809828239133536538 : Unit := ()
def PySem.W.Fast.tw699408560728604052 : Unit := ()
def PySem.W.Fast.tw1317501172213773156 : Unit := ()
def PySem.W.Fast.tw2732752415056043523 : Unit := ()
def PySem.W.Fast.tw13295383481653713278 : Unit := ()
def PySem.W.Fast.tw1043687812174848192 : Unit := ()
def PySem.W.Fast.tw15552424223125301975 : Unit := ()
def PySem.W.Fast.tw7890490183007131734 : Unit := ()
def PySem.W.Fast.tw5762188887063209719 : Unit := ()
def PySem.W.Fast.tw9667039642866131913 : Unit := ()
def PySem.W.Fast.tw7299449275050300016 : Unit := ()
def PySem.W.Fast.tw11276625108994124041 : Unit := ()
def PySem.W.Fast.tw14046807288664839343 : Unit := ()
def PySem.W.Fast.tw17727264658450984673 : Unit := ()
def PySem.W.Fast.tw1500308664076068755 : Unit := ()
def PySem.W.Fast.tw15857779203211892053 : Unit := ()
def PySem.W.Fast.tw13557636457856686153 : Unit := ()
def PySem.W.Fast.tw2889515038595011186 : Unit := ()
def PySem.W.Fast.tw13755113396676146406 : Unit := ()
def PySem.W.Fast.tw3936877146468805092 : Unit := ()
def PySem.W.Fast.tw9274159361378060478 : Unit := ()
def PySem.W.Fast.tw3141069385476546427 : Unit := ()
def PySem.W.Fast.tw12898516269583565943 : Unit := ()
def PySem.W.Fast.tw2220919120615281972 : Unit := ()
def PySem.W.Fast.tw6269832825585333187 : Unit := ()
def PySem.W.Fast.tw683169295159790770 : Unit := ()
def PySem.W.Fast.tw8806286163510009307 : Unit := ()
def PySem.W.Fast.tw12810661948910317225 : Unit := ()
def PySem.W.Fast.tw14426839393341026603 : Unit := ()
def PySem.W.Fast.tw11236544921967773297 : Unit := ()
def PySem.W.Fast.tw1024057761268872498 : Unit := ()
def PySem.W.Fast.tw15888577663405996288 : Unit := ()
def PySem.W.Fast.tw11099029365537684708 : Unit := ()
def PySem.W.Fast.tw10720517150226379214 : Unit := ()
def PySem.W.Fast.tw2495025567007487633 : Unit := ()
def PySem.W.Fast.tw12518930698749146417 : Unit := ()
def PySem.W.Fast.tw3041226685054620811 : Unit := ()
def PySem.W.Fast.tw18345817616799334564 : Unit := ()
def PySem.W.Fast.tw16859083374486185428 : Unit := ()
def PySem.W.Fast.tw11161291588344963387 : Unit := ()
def PySem.W.Fast.tw12779865949314982090 : Unit := ()
def PySem.W.Fast.tw8334709877850819254 : Unit := ()
def PySem.W.Fast.tw16282352384540345002 : Unit := ()
def PySem.W.Fast.tw2939301399020618862 : Unit := ()
def PySem.W.Fast.tw2358831405180868092 : Unit := ()
def PySem.W.Fast.tw16528994578192509826 : Unit := ()
def PySem.W.Fast.tw7976759495076033581 : Unit := ()
open PySem PySem.W PyProof.Rows
set_option maxRecDepth 100000 in
set_option maxHeartbeats 0 in
theorem PySem.Challenge.cw_stonewalker_k90_whole_put_right_holds : PySem.Challenge.rw_stonewalker_k90_whole_put_right.Holds := by
 w_on;o_law;k_head;(case hw=>w_witness2)
 k_fill
 refine W.walk (l:=PySem.Challenge.rw_stonewalker_k90_whole_put_right) rfl rfl (fun w h Y=>PySem.W.kIn_of Y) ?F
 case F=>
  intro w mg fa h KX G hmg
  refine W.all_mk hmg ?T
  constructor
  iterate 15 (refine PySem.W.mg_none_of KX G ?_;k_is)
  (refine' L3.exc_mk KX G ?x0_a ?x0_q;(case x0_a=>k_is);(case x0_q=>k_exc))
  (refine' L3.sub1 (L3.exsub_mk KX G ?x1_a ?x1_b ?x1_q);(case x1_a=>k_is);(case x1_b=>k_is);(case x1_q=>kts_exm))
  iterate 29 (refine' W.fn_at KX G ?a ?l ?c ?k;(case a=>k_is);(case l=>k_is);(case c=>k_is);(case k=>k_is))
