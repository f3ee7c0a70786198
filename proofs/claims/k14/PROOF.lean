import PyProof.Rows.All
import Wide.All
import OpenK.AllK
import Wide.FinOn
import Lean
import PyProof.EqAt
import PyProof.EqKinds
import PyProof.TupleCall
import PySem.Challenge.RW_stonewalker_k14_pairings_shown
set_option linter.all false
set_option compiler.extract_closed false
set_option bootstrap.genMatcherCode false
set_option genSizeOf false
noncomputable section
def lJa:=@if_neg
def lJb:=@if_pos
def lJc:=@PySem.wpAny_bind
def lJd:=@PyProof.Rows.wpS_bind
def lJe:=@List.length_map
def lJf:=@PySem.wpAny_pure
def lJg:=@List.getElem?_eq_some_iff
def lJh:=@PyProof.Rows.wpS_pure
def lJi:=@List.getElem?_eq_getElem
def lJj:=@Nat.le_refl
def lJk:=@decide_eq_false
def lJl:=@PySem.Heap.lt_size
def lJm:=@List.mem_append
def lJn:=@List.mem_singleton
def lJo:=@PySem.boot_len
def lJp:=@Bool.false_ne_true
def lJq:=@decide_eq_true
def lJr:=@List.getElem?_map
def lJs:=@List.size_toArray
def lJt:=@List.mem_of_getElem?
def lJu:=@PySem.Heap.get?_push_of_some
def lJv:=@List.length_append
def lJw:=@List.map_map
def lJx:=@List.append_assoc
def lJy:=@List.mem_cons
def lJz:=@PySem.PassesOwn.never
def lJ0:=@Option.some.inj
def lJ1:=@Array.getElem?_toList
def lJ2:=@List.mem_map
def lJ3:=@List.getElem?_eq_none
def lJ4:=@Nat.ne_of_lt
def lJ5:=@List.mem_append_right
def lJ6:=@List.map_cons
def lJ7:=@List.getElem?_of_mem
def lJ8:=@PySem.Heap.get?_push_size
def lJ9:=@Nat.zero_le
def lKa:=@congrArg
def lKb:=@Nat.le_trans
def lKc:=@List.length_cons
def lKd:=@List.pairwise_append
def lKe:=@Nat.succ.inj
def lKf:=@if_false
def lKg:=@PyProof.Rows.wpS_modify
def lKh:=@List.mem_append_left
def lKi:=@List.not_mem_nil
def lKj:=@Int.eq_ofNat_of_zero_le
def lKk:=@List.exists_cons_of_length_eq_add_one
def lKl:=@PyProof.Rows.wpS_mono
def lKm:=@PyProof.Rows.wpS_forRange
def lKn:=@List.mem_cons_self
def lKo:=@Nat.lt_of_lt_of_le
def lKp:=@List.mem_cons_of_mem
def lKq:=@List.getElem?_append_right
def lKr:=@PySem.F.plainAttrs_list
def lKs:=@decide_eq_true_eq
def lKt:=@List.getElem?_set_ne
def lKu:=@Bool.and_eq_true
def lKv:=@List.all_cons
def lKw:=@List.map_append
def lKx:=@List.getElem?_set_self
def lKy:=@List.getElem?_append_left
def lKz:=@List.take_succ
def lK0:=@Array.getElem?_eq_getElem
def lK1:=@if_true
def lK2:=@List.ext_getElem?
def lK3:=@PySem.wpAny_rule
def lK4:=@Bool.false_eq_true
def lK5:=@List.lookup_cons
def lK6:=@List.length_range
def lK7:=@PySem.sizeLine_eq
def lK8:=@PySem.wpAny_newObj_type
def lK9:=@or_false
def lQa:=@PyProof.Rows.wpS_get
def lQb:=@List.nodup_cons
def lQc:=@List.all_eq_true
def lQd:=@List.take_of_length_le
def lQe:=@Option.map_some
def lQf:=@List.take_append_drop
def lQg:=@Nat.lt_or_ge
def lQh:=@List.length_nil
def lQi:=@List.replicate_succ
def lQj:=@List.find?_cons
def lQk:=@List.length_eq_zero_iff
def lQl:=@List.take_length
def lQm:=@Array.toList_append
def lQn:=@Nat.mod_eq_of_lt
def lQo:=@Bool.true_and
def lQp:=@PySem.F.slot_list_append
def lQq:=@PySem.F.type_list_append
def lQr:=@PySem.wpAny_mono
def lQs:=@List.mem_range
def lQt:=@List.any_cons
def lQu:=@Option.map_eq_some_iff
def lQv:=@List.getElem?_range
def lQw:=@Option.some.injEq
def lQx:=@List.getElem?_take
def lQy:=@Nat.lt_or_eq_of_le
def lQz:=@List.mem_of_mem_take
def lQ0:=@Nat.zero_add
def lQ1:=@PySem.wpAny_field
def lQ2:=@PySem.wpAny_holding
def lQ3:=@PySem.wpAny_call_entry
def lQ4:=@PySem.Paired.length
def lQ5:=@List.length_take
def lQ6:=@List.length_set
def lQ7:=@List.flatten_cons
def lQ8:=@PyProof.Rows.callWith_type1
def lQ9:=@List.range_succ
def lVa:=@List.mem_of_mem_drop
def lVb:=@List.mem_reverse
def lVc:=@PySem.wpAny_truthy_bool
def lVd:=@PyProof.Rows.reverseSlice'_eq
def lVe:=@Nat.ne_of_gt
def lVf:=@List.take_sublist
def lVg:=@Nat.succ_mul
def lVh:=@PySem.Heap.SameBut.update
def lVi:=@Array.getElem?_eq_none
def lVj:=@List.drop_sublist
def lVk:=@List.getElem_mem
def lVl:=@PySem.wpAny_callSpecial?_slot
def lVm:=@PySem.Around.in1_units
def lVn:=@List.mem_filter
def lVo:=@Array.length_toList
def lVp:=@List.nodup_append
def lVq:=@Nat.add_zero
def lVr:=@List.cons.injEq
def lVs:=@List.drop_of_length_le
def lVt:=@List.take_append_of_le_length
def lVu:=@Nat.not_lt_zero
def lVv:=@List.map_congr_left
def lVw:=@List.getElem?_inj
def lVx:=@Nat.mul_le_mul
def lVy:=@PySem.wpAny_loadPart'
def lVz:=@PySem.call_meets
def lV0:=@PySem.wpAny_passesOwn
def lV1:=@decide_eq_false_iff_not
def lV2:=@Nat.lt_irrefl
def lV3:=@Bool.false_and
def lV4:=@PySem.mem_of_lookup
def lV5:=@List.length_drop
def lV6:=@PyProof.Rows.slot_tuple_getitem
def lV7:=@List.foldl_cons
def lV8:=@List.zip_cons_cons
def lV9:=@List.filterMap_append
def lXa:=@List.drop_zero
def lXb:=@Int.emod_nonneg
def lXc:=@Int.emod_lt_of_pos
def lXd:=@List.length_filter_le
def lXe:=@List.filter_cons
def lXf:=@PySem.wpAny_seqItems
def lXg:=@PyProof.Rows.assignInOrder_cons
def lXh:=@List.append_nil
def lXi:=@List.filterMap_cons
def lXj:=@List.mem_filterMap
def lXk:=@Int.toNat_natCast
def lXl:=@List.nodup_nil
def lXm:=@List.getElem?_zipWith
def lXn:=@PySem.F.slot_dict_keyiterator_next
def lXo:=@List.Perm.append_left
def lXp:=@List.Perm.append_right
def lXq:=@List.perm_append_comm
def lXr:=@List.getElem?_drop
def lXs:=@List.any_eq_true
def lXt:=@List.flatMap_append
def lXu:=@Nat.mul_le_mul_right
def lXv:=@PySem.wpAny_bindName
def lXw:=@PySem.wpAny_pyIter_tuple
def lXx:=@PySem.wpAny_setField_rec
def lXy:=@PySem.wpAny_dictEntries
def lXz:=@Classical.byContradiction
def lX0:=@Option.isSome_iff_exists
def lX1:=@List.getElem?_replicate
def lX2:=@PySem.Heap.get?_update_self
def lX3:=@List.length_singleton
def lX4:=@Option.isSome_map
def lX5:=@List.getElem?_zip_eq_some
def lX6:=@List.reverse_cons
def lX7:=@Bool.not_eq_true'
def lX8:=@Nat.le_of_lt_succ
def lX9:=@Nat.add_sub_cancel_left
def lYa:=@List.pairwise_map
def lYb:=@List.getElem_idxOf
def lYc:=@PySem.wpAny_Call_Name_kw
def lYd:=@PySem.wpAny_pyIter_enum
def lYe:=@PySem.wpAny_typeNameOfWhole_keyiter
def lYf:=@PySem.wpAny_typeNameOf_keyiter
def lYg:=@Array.getElem?_eq_some_iff
def lYh:=@List.drop_eq_getElem_cons
def lYi:=@List.pairwise_iff_getElem
def lYj:=@List.drop_append_of_le_length
def lYk:=@List.take_length_add_append
def lYl:=@Array.getElem?_setIfInBounds
def lYm:=@Nat.add_mul_mod_self_right
def lYn:=@List.idxOf_lt_length_of_mem
local macro_rules
 | `(tactic| omega) => `(tactic| lia)
set_option Elab.async false
set_option linter.all false
set_option maxRecDepth 100000
namespace L2
open PySem PySem.Spec PyProof.Rows
abbrev Key:=Sum Int Str
noncomputable def jY4:Key->Value->Bool
 | .inl k,v=>Value.isInt k v
 | .inr x,v=>Value.isStrOf x v
noncomputable def keyH (w:World):Key->Int
 | .inl k=>hashInt k
 | .inr x=>hashStr w x
theorem jJz:∀ {k:Key} {v:Value},jY4 k v=true->(∃i t,k=Sum.inl i/\v=Value.int i t)\/(∃x t,k=Sum.inr x/\v=Value.str x t)
 | .inl i,v,h=>by
  obtain⟨t,e⟩:=Value.isInt_shape (k:=i) (v:=v) h
  exact .inl ⟨i,t,rfl,e⟩
 | .inr x,v,h=>by
  obtain⟨t,e⟩:=Value.isStrOf_shape (x:=x) (v:=v) h
  exact .inr ⟨x,t,rfl,e⟩
theorem qQo (i:Int)(t:Tok):jY4 (.inl i) (.int i t)=true:=by simp[jY4,Value.isInt]
theorem qQn (x:Str)(t:Tok):jY4 (.inr x) (.str x t)=true:=by simp[jY4,Value.isStrOf]
theorem key_ll (a b:Int):decide ((Sum.inl a:Key)=Sum.inl b)=(a == b):=by
 by_cases e:a=b
 ·subst e;simp
 ·have h:¬ (Sum.inl a:Key)=Sum.inl b:=fun q=>e (Sum.inl.inj q)
  rw[lJk h]
  exact (beq_eq_false_iff_ne.mpr e).symm
theorem key_rr (a b:Str):decide ((Sum.inr a:Key)=Sum.inr b)=decide (a=b):=by
 by_cases e:a=b
 ·subst e;simp
 ·have h:¬ (Sum.inr a:Key)=Sum.inr b:=fun q=>e (Sum.inr.inj q)
  rw[lJk h,lJk e]
theorem key_lr (a:Int)(b:Str):decide ((Sum.inl a:Key)=Sum.inr b)=false:=lJk (fun q=>nomatch q)
theorem key_rl (a:Str)(b:Int):decide ((Sum.inr a:Key)=Sum.inl b)=false:=lJk (fun q=>nomatch q)
noncomputable def jQp (prog:Program)(w:World):PySem.KeyKind prog w Key where
 is:=jY4
 hash:=keyH w
 inj:=fun v a b ha hb=>by
  rcases jJz ha with ⟨i,t,rfl,rfl⟩ | ⟨x,t,rfl,rfl⟩
  ·rcases jJz hb with ⟨j,u,rfl,e⟩ | ⟨y,u,rfl,e⟩
   ·injection e with e1 _;rw[e1]
   ·exact nomatch e
  ·rcases jJz hb with ⟨j,u,rfl,e⟩ | ⟨y,u,rfl,e⟩
   ·exact nomatch e
   ·injection e with e1 _;rw[e1]
 byValue:=fun k v h=>by
  rcases jJz h with ⟨i,t,rfl,rfl⟩ | ⟨x,t,rfl,rfl⟩<;>rfl
 pyHash:=fun hv h=>by
  rcases jJz hv with ⟨i,t,rfl,rfl⟩ | ⟨x,t,rfl,rfl⟩
  ·exact wpAny_pyHash_int h
  ·exact wpAny_pyHash_str h
 eqBool:=fun hu hv h=>by
  rcases jJz hu with ⟨i,t,rfl,rfl⟩ | ⟨x,t,rfl,rfl⟩
  ·rcases jJz hv with ⟨j,u,rfl,rfl⟩ | ⟨y,u,rfl,rfl⟩
   ·rw[key_ll] at h;exact wpAny_eqBool_int h
   ·rw[key_lr] at h;exact SeqAt.EqAt.int_str i t y u _ _ _ _ h
  ·rcases jJz hv with ⟨j,u,rfl,rfl⟩ | ⟨y,u,rfl,rfl⟩
   ·rw[key_rl] at h;exact SeqAt.EqAt.str_int x t j u _ _ _ _ h
   ·rw[key_rr] at h;exact wpAny_eqBool_str h
 «strs» :=fun k x t v h=>by
  rcases jJz h with ⟨i,u,rfl,e⟩ | ⟨y,u,rfl,e⟩
  ·exact nomatch e
  ·injection e with e1 _
   subst e1
   cases v<;>rfl
theorem kXs (prog:Program)(w:World)(i:Int)(t:Tok):(jQp prog w).is (.inl i) (.int i t)=true:=qQo i t
theorem kXr (prog:Program)(w:World)(x:Str)(t:Tok):(jQp prog w).is (.inr x) (.str x t)=true:=qQn x t
end L2
set_option synthInstance.maxSize 1000
namespace L2
open PySem PySem.Spec PyProof.Rows
structure KeyV (prog:Program) (w:World) (K:Type) [DecidableEq K] (c:Nat) where
 is:Heap->K->Value->Prop
 hash:K->Int
 draws:K->Nat
 inj:∀ {h:Heap} {v:Value} {x y:K},is h x v->is h y v->x=y
 keeps:∀ {h h':Heap} {k:K} {v:Value} {d:Addr} {o:Obj} {es:Array DictEntry} {ep:Nat},is h k v->h.get? d=some o->o.data= .dict es ep->Heap.SameBut d h h'->is h' k v
 hashed:∀ {A:Around} {E:Value->Shared->Prop} {s:Shared} {k:K} {v:Value} {Q:Int->Shared->Prop},A.units+c<cLine->is s.heap k v->Q (hash k) {s with toks:=s.toks+draws k}->wpAny (model prog w) A (PySem.pyHash v) Q E s
 eqAt:∀ {A:Around} {s:Shared} {x y:K} {u v:Value},A.units+c<cLine->is s.heap x u->is s.heap y v->SeqAt.EqAt A s u v (decide (x=y))
 quiet:∀ {A:Around} {E:Value->Shared->Prop} {s:Shared} {k:K} {v:Value} {Q:Bool->Shared->Prop} (n:Nat),c<=n->is s.heap k v->Q true s->wpAny (model prog w) A (eqIsQuiet n v) Q E s
noncomputable def kK6 (prog:Program)(w:World):KeyV prog w Key 0 where
 is:=fun _ k v=>jY4 k v=true
 hash:=keyH w
 draws:=fun _=>1
 inj:=fun hx hy=>(jQp prog w).inj _ _ _ hx hy
 keeps:=fun x _ _ _=>x
 hashed:=fun _ hv h=>(jQp prog w).pyHash hv h
 eqAt:=fun _ hx hy prog' w' _ _ h=>(jQp prog' w').eqBool hx hy h
 quiet:=fun n _ hv h=>by rw[eqIsQuiet_byValue n ((jQp prog w).byValue _ _ hv)];exact lJf h
variable {prog:Program}{w:World}{h h':Heap}{vs:List Value}
section
variable {K:Type}[DecidableEq K]{c:Nat}
inductive ItemsV (V:KeyV prog w K c) (h:Heap):List K->List Value->Prop
 | nil:ItemsV V h [] []
 | cons {k:K} {v:Value} {ks:List K} {vs:List Value}:V.is h k v->ItemsV V h ks vs->ItemsV V h (k::ks) (v::vs)
theorem ItemsV.inj {V:KeyV prog w K c}{x:List K}(hx:ItemsV V h x vs):∀ {y:List K},ItemsV V h y vs->x=y:=by
 induction hx with
 | nil=>intro y hy;cases hy;rfl
 | cons a _ ih=>intro y hy;cases hy with | cons b t=>rw[V.inj a b,ih t]
theorem ItemsV.length {V:KeyV prog w K c}{x:List K}(hx:ItemsV V h x vs):x.length=vs.length:=by
 induction hx with
 | nil=>rfl
 | cons _ _ ih=>simp[ih]
theorem ItemsV.get {V:KeyV prog w K c}{x:List K}(hx:ItemsV V h x vs):∀ {j:Nat} {v:Value},vs[j]? =some v->∃k,x[j]? =some k/\V.is h k v:=by
 induction hx with
 | nil=>intro j v e;simp at e
 | cons a _ ih=>
  intro j v e
  cases j with
  | zero=>simp at e;subst e;exact⟨_,rfl,a⟩
  | succ j=>obtain⟨k,h1,h2⟩:=ih (j:=j) (v:=v) (by simpa using e);exact⟨k,by simpa using h1,h2⟩
theorem ItemsV.keeps {V:KeyV prog w K c}{x:List K}{d:Addr}{o:Obj}{es:Array DictEntry}{ep:Nat}(hx:ItemsV V h x vs)(ho:h.get? d=some o)(hd:o.data= .dict es ep)(hs:Heap.SameBut d h h'):ItemsV V h' x vs:=by
 induction hx with
 | nil=>exact .nil
 | cons a _ ih=>exact .cons (V.keeps a ho hd hs) ih
def kKb (V:KeyV prog w K c)(h:Heap)(ks:List K)(v:Value):Prop:=∃(a:Addr) (o:Obj) (items:Array Value) (n:Nat),v= .ref a/\h.get? a=some o/\o.cls= .type "tuple"/\o.data= .seq items n/\ItemsV V h ks items.toList
theorem all_eq:∀(x y:List K),((List.range (min x.length y.length)).all (fun j=>decide (x[j]? =y[j]?))&&x.length == y.length)=decide (x=y):=by
 intro x y
 by_cases e:x=y
 ·subst e;simp
 ·rw[lJk e,Bool.and_eq_false_iff]
  by_cases l:x.length=y.length
  ·left
   rw[List.all_eq_false]
   have:∃j:Nat,x[j]? ≠y[j]? :=by
    apply lXz
    intro q
    exact e (lK2 fun j=>lXz fun z=>q ⟨j,z⟩)
   obtain⟨j,hj⟩:=this
   refine⟨j,lQs.mpr ?_,by simpa using hj⟩
   rcases lQg j (min x.length y.length) with z | z
   ·exact z
   ·exact absurd (by rw[lJ3 (by omega),lJ3 (by omega)]) hj
  ·right;simpa using l
noncomputable def jVk (V:KeyV prog w K c):KeyV prog w (List K) (c+2) where
 is:=kKb V
 hash:=fun ks=>reduceHash (Builtin.Tuple.tupleHashOf (ks.map V.hash))
 draws:=fun ks=>(ks.map V.draws).sum+1
 inj:=by
  rintro h v x y ⟨a,o,items,n,rfl,ho,_,hd,hi⟩ ⟨a',o',items',n',e,ho',_,hd',hi'⟩
  cases e
  rw[ho] at ho';cases ho'
  rw[hd] at hd';cases hd'
  exact hi.inj hi'
 keeps:=by
  rintro h h' k v d o es ep ⟨a,o',items,n,rfl,ho',hc,hd',hi⟩ ho hd hs
  have ne:a≠d:=by
   rintro rfl
   rw[ho] at ho';cases ho'
   rw[hd] at hd';cases hd'
  exact⟨a,o',items,n,rfl,(hs.2 a ne).trans ho',hc,hd',hi.keeps ho hd hs⟩
 hashed:=by
  rintro A E s ks v Q hu ⟨a,o,items,n,rfl,ho,hc,hd,hi⟩ h
  refine PySem.W.pyHash_slot (T:="tuple") ⟨o,ho,hc⟩ F.slot_tuple_hash F.entry_tuple_hash (F.args_tuple_hash_1 _) (beq_builtin_none _) (.inr (by omega)) ?_
  refine (show wpAny _ _ (Builtin.Tuple.tupleItemsOf (.ref a) >>= _) _ _ s from lJc (wpAny_tupleItemsOf ho hd (lJc ?_)))
  rw[<-Array.forIn_toList]
  refine wpAny_forIn_list _ (fun rest (b:Array Int) z=>∃done left,ks=done++left/\ItemsV V s.heap left rest/\b.toList=done.map V.hash/\z={s with toks:=s.toks+(done.map V.draws).sum}) _ ?_ ?_ _ _ ⟨[],ks,rfl,hi,rfl,rfl⟩
  ·rintro x rest b z ⟨done,left,rfl,hl,hb,rfl⟩
   cases hl with
   | @cons k _ ks' _ h1 hl'=>
    refine lJc (V.hashed (by rw[lVm];omega) h1 ?_)
    first
     | exact lJf ⟨done++[k],ks',by simp,hl',by simp[hb],(by simp[Nat.add_assoc])⟩
     | exact lJc (lJf (lJf ⟨done++[k],ks',by simp,hl',by simp[hb],(by simp[Nat.add_assoc])⟩))
  ·rintro b z ⟨done,left,rfl,hl,hb,rfl⟩
   cases hl
   rw[lXh] at h
   refine (show wpAny _ _ (retInt (Builtin.Tuple.tupleHashOf b.toList)) _ _ _ from ?_)
   rw[hb]
   exact lJc (wpAny_mkInt (lJf ⟨_,_,rfl,by simpa[Nat.add_assoc] using h⟩))
 eqAt:=by
  rintro A s x y u v hu ⟨a,o,items,n,rfl,ho,hc,hd,hi⟩ ⟨a',o',items',n',rfl,ho',hc',hd',hi'⟩
  by_cases e:a=a'
  ·subst e
   rw[ho] at ho';cases ho'
   rw[hd] at hd';cases hd'
   rw[hi.inj hi',lJq rfl]
   exact SeqAt.EqAt.same _
  ·have R:=SeqAt.RcAt.tuples (A:=A) (s:=s) (l:=a) (b:=a') (e:=fun j=>decide (x[j]? =y[j]?)) ⟨o,ho,hc,n,hd⟩ ⟨o',ho',hc',n',hd'⟩ (by omega) (fun j j1 j2=> ?_)
   ·have l1:=hi.length
    have l2:=hi'.length
    rw[<-all_eq x y,l1,l2]
    have R':=SeqAt.EqAt.of_refs e R
    simpa using R'
   ·obtain⟨k,h1,h2⟩:=hi.get (j:=j) (v:=items[j]) (by simp[j1])
    obtain⟨k',h1',h2'⟩:=hi'.get (j:=j) (v:=items'[j]) (by simp[j2])
    have:=V.eqAt (A:=A.in1) (s:=s) (by rw[lVm];omega) h2 h2'
    rw[h1,h1']
    simpa using this
 quiet:=by
  rintro A E s ks v Q n hn ⟨a,o,items,m,rfl,ho,hc,hd,hi⟩ h
  obtain⟨n,rfl⟩:∃nn,n=nn+1:=⟨n-1,by omega⟩
  have hT:s.TypeIs (.ref a) "tuple":=⟨o,ho,hc⟩
  unfold eqIsQuiet;refine lJc (wpAny_specialOf hT F.slot_tuple_eq.lookup ?_)
  refine (show wpAny _ _ (isInstance (.ref a) (.type "tuple") >>= _) _ _ s from lJc (wpAny_isInstance hT isSubtype_tuple_tuple ?_))
  simp only[lKf,Bool.not_true,lK4]
  refine lJc (lXf ho hd (lJc ?_))
  refine (show wpAny _ _ (forIn items _ _) _ _ s from ?_)
  rw[<-Array.forIn_toList]
  refine wpAny_forIn_list _ (fun rest r z=>r.1=none/\z=s/\∃left,ItemsV V s.heap left rest) _ ?_ ?_ _ _ ⟨rfl,rfl,ks,hi⟩
  ·rintro x rest r z ⟨hr,rfl,left,hl⟩
   cases hl with
   | cons h1 hl'=>
    refine lJc (V.quiet n (by omega) h1 ?_)
    simp only[lKf,Bool.not_true,lK4]
    exact lJf ⟨rfl,rfl,_,hl'⟩
  ·rintro⟨r1,r2⟩ z ⟨hr,rfl,_⟩
   simp only at hr;subst hr
   exact lJf h
theorem uJt {α β:Type}[DecidableEq α][DecidableEq β](a b:α):decide ((Sum.inl a:α ⊕ β)=Sum.inl b)=decide (a=b):=by
 by_cases e:a=b
 ·simp[e]
 ·rw[lJk e,lJk fun z=>e (Sum.inl.inj z)]
theorem uJs {α β:Type}[DecidableEq α][DecidableEq β](a b:β):decide ((Sum.inr a:α ⊕ β)=Sum.inr b)=decide (a=b):=by
 by_cases e:a=b
 ·simp[e]
 ·rw[lJk e,lJk fun z=>e (Sum.inr.inj z)]
noncomputable def qU8 (V:KeyV prog w K c):KeyV prog w (Key ⊕ List K) (c+2) where
 is:=fun h k v=>match k with
  | .inl k=>jY4 k v=true
  | .inr ks=>kKb V h ks v
 hash:=fun k=>match k with
  | .inl k=>keyH w k
  | .inr ks=>(jVk V).hash ks
 draws:=fun k=>match k with
  | .inl _=>1
  | .inr ks=>(jVk V).draws ks
 inj:=by
  rintro h v (x | x) (y | y) hx hy
  ·rw[(jQp prog w).inj _ _ _ hx hy]
  ·obtain⟨a,_,_,_,rfl,_⟩:=hy
   rcases jJz hx with ⟨i,t,_,e⟩ | ⟨i,t,_,e⟩<;>cases e
  ·obtain⟨a,_,_,_,rfl,_⟩:=hx
   rcases jJz hy with ⟨i,t,_,e⟩ | ⟨i,t,_,e⟩<;>cases e
  ·rw[(jVk V).inj hx hy]
 keeps:=by
  rintro h h' (k | k) v d o es ep hx ho hd hs
  ·exact hx
  ·exact (jVk V).keeps hx ho hd hs
 hashed:=by
  rintro A E s (k | k) v Q hu hx h
  ·exact (jQp prog w).pyHash hx h
  ·exact (jVk V).hashed hu hx h
 eqAt:=by
  rintro A s (x | x) (y | y) u v hu hx hy
  ·rw[uJt]
   exact (kK6 prog w).eqAt (by omega) hx hy
  ·rw[lJk fun z=>nomatch z]
   obtain⟨a,o,items,n,rfl,ho,hc,hd,_⟩:=hy
   rcases jJz hx with ⟨i,t,_,rfl⟩ | ⟨i,t,_,rfl⟩
   ·exact SeqAt.EqAt.int_tuple i t ⟨o,ho,hc,n,hd⟩ (by omega)
   ·exact SeqAt.EqAt.str_tuple i t ⟨o,ho,hc,n,hd⟩ (by omega)
  ·rw[lJk fun z=>nomatch z]
   obtain⟨a,o,items,n,rfl,ho,hc,hd,_⟩:=hx
   rcases jJz hy with ⟨i,t,_,rfl⟩ | ⟨i,t,_,rfl⟩
   ·exact SeqAt.EqAt.tuple_int i t ⟨o,ho,hc,n,hd⟩ (by omega)
   ·exact SeqAt.EqAt.tuple_str i t ⟨o,ho,hc,n,hd⟩ (by omega)
  ·rw[uJs]
   exact (jVk V).eqAt hu hx hy
 quiet:=by
  rintro A E s (k | k) v Q n hn hx h
  ·exact (kK6 prog w).quiet n (lJ9 _) hx h
  ·exact (jVk V).quiet n hn hx h
end
abbrev K1:=Key ⊕ List Key
abbrev K2:=Key ⊕ List K1
abbrev TKey:=List K2
def vk1 (prog:Program)(w:World):KeyV prog w K1 2:=qU8 (kK6 prog w)
def vk2 (prog:Program)(w:World):KeyV prog w K2 4:=qU8 (vk1 prog w)
noncomputable def jKi (prog:Program)(w:World):HeapKind prog w TKey where
 is:=fun h ks a=>(jVk (vk2 prog w)).is h ks (.ref a)
 hash:=(jVk (vk2 prog w)).hash
 draws:=(jVk (vk2 prog w)).draws
 room:=fun A=>A.units+6<cLine
 inj:=fun hx hy=>(jVk (vk2 prog w)).inj hx hy
 keeps:=fun x ho hd hs=>(jVk (vk2 prog w)).keeps x ho hd hs
 pyHash:=fun hu hk h=>(jVk (vk2 prog w)).hashed hu hk h
 eqBool:=fun hu hx hy h=>(jVk (vk2 prog w)).eqAt hu hx hy _ _ _ _ h
 quiet:=fun hk h=>(jVk (vk2 prog w)).quiet 8 (by decide) hk h
variable {A:Around}
theorem jKr (hu:A.units+20<cLine):(jKi prog w).room A.in1:=by
 show A.in1.units+6<cLine
 rw[lVm];omega
inductive V where
 | non | bl (b:Bool) | int (i:Int) | str (x:Str) | byt (b:Array UInt8) | flt (b:UInt64) | ref (a:Addr) | ty (n:String)
 deriving DecidableEq
noncomputable def RelV:V->Value->Prop
 | .non,u=>u=Value.none
 | .bl b,u=>u=Value.bool b
 | .int i,u=>∃t,u=Value.int i t
 | .str x,u=>∃t,u=Value.str x t
 | .byt b,u=>∃t,u=Value.bytes b t
 | .flt b,u=>∃t,u=Value.float b t
 | .ref a,u=>u=Value.ref a
 | .ty n,u=>u=Value.type n
abbrev Vals:List V->List Value->Prop:=Paired RelV
variable {us:List Value}
theorem Vals.length {xs:List V}(r:Vals xs us):xs.length=us.length:=lQ4 r
theorem Vals.get:∀ {xs:List V} {us:List Value} {i:Nat} {x:V},Vals xs us->xs[i]? =some x->∃u,us[i]? =some u/\RelV x u
 | _,_,_,_,.nil,e=>by simp at e
 | _,_,0,_,.cons r _,e=>by simp at e;subst e;exact⟨_,rfl,r⟩
 | _,_,i+1,x,.cons _ t,e=>by
  obtain⟨u,h1,h2⟩:=Vals.get (i:=i) (x:=x) t (by simpa using e)
  exact⟨u,by simpa using h1,h2⟩
theorem Vals.set {x:V} {u:Value} (r:RelV x u):∀ {xs:List V} {us:List Value} (i:Nat),Vals xs us->Vals (xs.set i x) (us.set i u)
 | _,_,_,.nil=> .nil
 | _,_,0,.cons _ t=> .cons r t
 | _,_,i+1,.cons q t=> .cons q (Vals.set r i t)
theorem Vals.append:∀ {xs ys:List V} {us ws:List Value},Vals xs us->Vals ys ws->Vals (xs++ys) (us++ws)
 | _,_,_,_,.nil,s=>s
 | _,_,_,_,.cons r t,s=> .cons r (Vals.append t s)
theorem Vals.take:∀ {xs:List V} {us:List Value} (n:Nat),Vals xs us->Vals (xs.take n) (us.take n)
 | _,_,0,_=> .nil
 | _,_,_+1,.nil=> .nil
 | _,_,n+1,.cons r t=> .cons r (Vals.take n t)
theorem Vals.drop:∀ {xs:List V} {us:List Value} (n:Nat),Vals xs us->Vals (xs.drop n) (us.drop n)
 | _,_,0,r=>r
 | _,_,_+1,.nil=> .nil
 | _,_,n+1,.cons _ t=>Vals.drop n t
def RelO:Option V->Option Value->Prop
 | some v,some u=>RelV v u
 | none,none=>True
 | _,_=>False
def KV {κ:Type}:List (κ×V)->List (κ×Value)->Prop:=Paired fun (p:κ×V) (q:κ×Value)=>p.1=q.1/\RelV p.2 q.2
noncomputable def kV:Key->V
 | .inl i=> .int i
 | .inr x=> .str x
inductive HO where
  | lst (xs:List V)
  | tup (xs:List V)
  | dK (kvs:List (Key×V)) | dT (kvs:List (TKey×V))
  | set (S:Int->Bool) (n:Nat)
  | ins (C dx:Addr) (fs:List (Str×V))
  | own (x:Addr)
  | xd (fs:List (Str×V))
  | met (f x:Addr)
  | rng (lo hi:Int)
  | frz (o:Obj) (u:HO)
  | tbl (ps:Array Value)
  | ext (φ:Heap->Prop)
abbrev Hp:=Addr->Option HO
noncomputable def upd (H:Hp)(a:Addr)(o:HO):Hp:=fun b=>if b=a then some o else H b
variable {H:Hp}{a:Addr}{o:HO}
theorem jQe:upd H a o a=some o:=by unfold upd;rw[lJb rfl]
variable {b:Addr}
theorem jKg (h:b≠a):upd H a o b=H b:=by unfold upd;rw[lJa h]
theorem qZu {u:HO}(h:H a=some o)(h':H b=some u)(d:o≠u):a≠b:=by
 intro e;subst e;rw[h] at h';exact d (lJ0 h')
theorem jUw (h:H a=some o)(h':H b=none):a≠b:=by
 intro e;subst e;rw[h] at h';cases h'
def Rk1 (H:Hp)(k:K1)(v:V):Prop:=match k with
 | .inl k=>v=kV k
 | .inr ks=>∃p vs,v= .ref p/\H p=some (.tup vs)/\Paired (fun k v=>v=kV k) ks vs
def Rk2 (H:Hp)(k:K2)(v:V):Prop:=match k with
 | .inl k=>v=kV k
 | .inr ks=>∃p vs,v= .ref p/\H p=some (.tup vs)/\Paired (Rk1 H) ks vs
def TKeyAt (H:Hp)(ks:TKey)(a:Addr):Prop:=∃vs,H a=some (.tup vs)/\Paired (Rk2 H) ks vs
theorem jXv {α β:Type} {F G:α->β->Prop} (f:∀a b,F a b->G a b):∀ {l:List α} {m:List β},Paired F l m->Paired G l m
 | _,_,.nil=> .nil
 | _,_,.cons r t=> .cons (f _ _ r) (jXv f t)
variable {H':Hp}
theorem Rk1.mono (ht:∀b ys,H b=some (.tup ys)->H' b=some (.tup ys))(k:K1)(v:V)(r:Rk1 H k v):Rk1 H' k v:=by
 cases k with
 | inl k=>exact r
 | inr ks=>obtain⟨p,vs,e,h,t⟩:=r;exact⟨p,vs,e,ht _ _ h,t⟩
theorem Rk2.mono (ht:∀b ys,H b=some (.tup ys)->H' b=some (.tup ys))(k:K2)(v:V)(r:Rk2 H k v):Rk2 H' k v:=by
 cases k with
 | inl k=>exact r
 | inr ks=>obtain⟨p,vs,e,h,t⟩:=r;exact⟨p,vs,e,ht _ _ h,jXv (Rk1.mono ht) t⟩
theorem TKeyAt.mono {ks:TKey}(r:TKeyAt H ks a)(ht:∀b ys,H b=some (.tup ys)->H' b=some (.tup ys)):TKeyAt H' ks a:=by
 obtain⟨vs,h,t⟩:=r;exact⟨vs,ht _ _ h,jXv (Rk2.mono ht) t⟩
section
variable (P:Program)(w:World)
def TupD (h:Heap)(a:Addr)(items:Array Value):Prop:=∃o,h.get? a=some o/\o.cls= .type "tuple"/\∃n,o.data= .seq items n/\o.dict=none
theorem TupD.is {items:Array Value}(x:TupD h a items):IsTup h a items:=let ⟨o,e,c,n,d,_⟩:=x;⟨o,e,c,n,d⟩
theorem TupD.new (h:Heap)(items:Array Value):TupD (h.push {cls:= .type "tuple",data:= .seq items}) h.objs.size items:=⟨_,lJ8 _ rfl,rfl,_,rfl,rfl⟩
noncomputable def ObjOk (H:Hp) (h:Heap) (a:Addr):HO->Prop
 | .lst xs=>xs.length<=sizeLine/\∃(its:List Value) (n:Nat),Vals xs its/\h.get? a=some {cls:= .type "list",data:= .seq its.toArray n}
 | .tup xs=>xs.length<=sizeLine/\∃its:List Value,Vals xs its/\TupD h a its.toArray
 | .dK kvs=>kvs.length<=sizeLine/\(a == sysModules)=false/\∃vs,KV kvs vs/\h.DictOf (jQp P w) a vs
 | .dT kvs=>kvs.length<=sizeLine/\(a == sysModules)=false/\∃xs:List (TKey×Addr×Value),
   Paired (fun (p:TKey×V) (q:TKey×Addr×Value)=>p.1=q.1/\TKeyAt H p.1 q.2.1/\RelV p.2 q.2.2) kvs xs/\
   ∃o es ep,h.get? a=some o/\o.ExactDict/\o.data= .dict es ep/\es.toList=xs.map (entryOfKey (jKi P w))/\(xs.map (·.1)).Nodup
 | .set S n=>h.SetOf (intKind P w) a S n
 | .ins C dx fs=>H dx=some (.own a)/\fs.length<=1000/\dx≠a/\h.get? a=some (PySem.W.instObj C dx)/\
   ∃mA,h.Ns1 dx mA/\(∀f,RelO (fs.lookup f) (mA f))/\PySem.Within mA (fs.map (·.1))
 | .own _=>∃o,h.get? a=some o
 | .xd fs=>∃mA,h.Ns1 a mA/\∀f,RelO (fs.lookup f) (mA f)
 | .rng lo hi=>∃t u v,h.get? a=some {cls:= .type "range",data:= .fields #[.int lo t,.int hi u,.int 1 v]}
 | .frz o u=>h.get? a=some o/\ObjOk H h a u
 | .tbl ps=>h.get? a=some {cls:= .none,data:= .fields ps}
 | .met f x=>h.get? a=some (PySem.W.methodObj (.ref f) (.ref x))
 | .ext φ=>φ h/\(∃o,h.get? a=some o)/\∀h1 h2:Heap,φ h1->(∀o,h1.get? a=some o->h2.get? a=some o)->φ h2
def HOk (H:Hp)(h:Heap):Prop:=∀a o,H a=some o->ObjOk P w H h a o
end
variable {P:Program}
theorem ObjOk.lt (x:ObjOk P w H h a o):a<h.objs.size:=by
 cases o with
 | lst xs=>obtain⟨_,_,_,_,e⟩:=x;exact lJl e
 | tup xs=>obtain⟨_,_,_,p⟩:=x;exact p.is.lt
 | dK kvs=>obtain⟨_,_,_,_,o,_,_,e,_⟩:=x;exact lJl e
 | dT kvs=>obtain⟨_,_,_,_,o,_,_,e,_⟩:=x;exact lJl e
 | set S n=>obtain⟨o,_,_,_,e,_⟩:=x;exact lJl e
 | ins C dx fs=>obtain⟨_,_,_,e,_⟩:=x;exact lJl e
 | own y=>obtain⟨_,e⟩:=x;exact lJl e
 | xd fs=>obtain⟨_,⟨_,_,_,e,_⟩,_⟩:=x;exact lJl e
 | rng lo hi=>obtain⟨_,_,_,e⟩:=x;exact lJl e
 | frz ob u=>obtain⟨e,_⟩:=x;exact lJl e
 | tbl ps=>exact lJl (show h.get? a=some _ from x)
 | met f y=>exact lJl (show h.get? a=some _ from x)
 | ext φ=>obtain⟨_,⟨_,e⟩,_⟩:=x;exact lJl e
theorem Paired.mapP {α β:Type} {F G:α->β->Prop}:∀ {l₁:List α} {l₂:List β},Paired F l₁ l₂->(∀a b,F a b->G a b)->Paired G l₁ l₂
 | _,_,.nil,_=> .nil
 | _,_,.cons r t,f=> .cons (f _ _ r) (Paired.mapP t f)
theorem ObjOk.stay (x:ObjOk P w H h a o)(k:∀b u,(b=a\/H b=some (.own a))->h.get? b=some u->h'.get? b=some u)(ho:∀b,H b=some (.own a)->H' b=some (.own a))(ht:∀b xs,H b=some (.tup xs)->H' b=some (.tup xs)):ObjOk P w H' h' a o:=by
 induction o with
 | lst xs=>obtain⟨z,its,n,r,e⟩:=x;exact⟨z,its,n,r,k _ _ (.inl rfl) e⟩
 | tup xs=>obtain⟨z,its,r,ob,e,c⟩:=x;exact⟨z,its,r,ob,k _ _ (.inl rfl) e,c⟩
 | dK kvs=>obtain⟨z,y,vs,r,ob,es,ep,e,c⟩:=x;exact⟨z,y,vs,r,ob,es,ep,k _ _ (.inl rfl) e,c⟩
 | dT kvs=>
  obtain⟨z,y,xs,r,ob,es,ep,e,c⟩:=x
  exact⟨z,y,xs,Paired.mapP r fun p q z=>⟨z.1,z.2.1.mono ht,z.2.2⟩,ob,es,ep,k _ _ (.inl rfl) e,c⟩
 | set S n=>obtain⟨ob,es,ep,t,e,c⟩:=x;exact⟨ob,es,ep,t,k _ _ (.inl rfl) e,c⟩
 | ins C dx fs=>
  obtain⟨d,z,ne,e,mA,⟨od,es,ep,e2,c⟩,r⟩:=x
  exact⟨ho _ d,z,ne,k _ _ (.inl rfl) e,mA,⟨od,es,ep,k _ _ (.inr d) e2,c⟩,r⟩
 | own y=>obtain⟨ob,e⟩:=x;exact⟨ob,k _ _ (.inl rfl) e⟩
 | xd fs=>obtain⟨mA,⟨od,es,ep,e,c⟩,r⟩:=x;exact⟨mA,⟨od,es,ep,k _ _ (.inl rfl) e,c⟩,r⟩
 | rng lo hi=>obtain⟨t,u,v,e⟩:=x;exact⟨t,u,v,k _ _ (.inl rfl) e⟩
 | frz ob u ih=>obtain⟨e,q⟩:=x;exact⟨k _ _ (.inl rfl) e,ih q⟩
 | tbl ps=>
  have e:h.get? a=some {cls:= .none,data:= .fields ps}:=x
  show h'.get? a=some {cls:= .none,data:= .fields ps}
  exact k a _ (.inl rfl) e
 | met f y=>
  have e:h.get? a=some (PySem.W.methodObj (.ref f) (.ref y)):=x
  show h'.get? a=some (PySem.W.methodObj (.ref f) (.ref y))
  exact k a _ (.inl rfl) e
 | ext φ=>obtain⟨p,⟨o,e⟩,st⟩:=x;exact⟨st _ _ p fun o q=>k _ _ (.inl rfl) q,⟨o,k _ _ (.inl rfl) e⟩,st⟩
theorem HOk.lt (x:HOk P w H h)(e:H a=some o):a<h.objs.size:=(x a o e).lt
theorem HOk.fresh (x:HOk P w H h)(e:h.objs.size<=a):H a=none:=by
 cases q:H a with
 | none=>rfl
 | some u=>exact absurd (lKo (x.lt q) e) (lV2 _)
theorem HOk.kept (x:HOk P w H h)(k:∀b u,h.get? b=some u->h'.get? b=some u):HOk P w H h':=fun a o e=>
 (x a o e).stay (fun b u _ q=>k b u q) (fun _ q=>q) fun _ _ q=>q
theorem HOk.laid (x:HOk P w H h)(k:∀b u,h.get? b=some u->h'.get? b=some u)(hp:h.objs.size<=a)(new:ObjOk P w (upd H a o) h' a o):HOk P w (upd H a o) h':=fun b u e=>by
 have hn:=x.fresh hp
 by_cases hb:b=a
 ·subst hb;rw[jQe] at e;cases e;exact new
 ·rw[jKg hb] at e
  exact (x b u e).stay (fun c v _ q=>k c v q) (fun c q=>by rw[jKg (jUw q hn)];exact q) fun c xs q=>by rw[jKg (jUw q hn)];exact q
def Rd (H:Hp)(a:Addr)(u:HO):Prop:=H a=some u\/∃o,H a=some (.frz o u)
theorem Rd.ok {u:HO}(r:Rd H a u)(x:HOk P w H h):ObjOk P w H h a u:=by
 rcases r with r | ⟨o,r⟩
 ·exact x a u r
 ·obtain⟨_,q⟩:=x a _ r
  exact q
def Mut:Option HO->Prop
 | some (.lst _)=>True
 | some (.dK _)=>True
 | some (.dT _)=>True
 | some (.set _ _)=>True
 | some (.ins _ _ _)=>True
 | some (.ext _)=>True
 | _=>False
section
variable {x e:Addr}{o':HO}
theorem HOk.write (ok:HOk P w H h)(mu:Mut (H x))(he:e=x\/H e=some (.own x))(k:∀b u,b≠e->h.get? b=some u->h'.get? b=some u)(heo:∃u,h'.get? e=some u)(new:ObjOk P w (upd H x o') h' x o'):HOk P w (upd H x o') h':=fun b u q=>by
 have nown:∀c y,H c=some (.own y)->c≠x:=fun c y r z=>by subst z;rw[r] at mu;exact mu
 have ntup:∀c xs,H c=some (.tup xs)->c≠x:=fun c xs r z=>by subst z;rw[r] at mu;exact mu
 by_cases hb:b=x
 ·subst hb;rw[jQe] at q;cases q;exact new
 ·rw[jKg hb] at q
  by_cases hbe:b=e
  ·have q':H b=some (.own x):=by
    rcases he with z | z
    ·exact absurd (hbe.trans z) hb
    ·rw[hbe];exact z
   rw[q] at q';cases q'
   obtain⟨v,hv⟩:=heo
   exact⟨v,by rw[hbe];exact hv⟩
  ·refine (ok b u q).stay (fun c v hc r=>k c v ?_ r) (fun c r=>by rw[jKg (nown c b r)];exact r) fun c xs r=>by rw[jKg (ntup c xs r)];exact r
   rcases hc with rfl | hc
   ·exact hbe
   ·rintro rfl
    rcases he with z | z
    ·exact nown c b hc z
    ·rw[hc] at z;cases z;exact hb rfl
end
structure Un (fs ex:List Addr) (H H':Hp) (h h':Heap):Prop where
 keep:∀b o,h.get? b=some o->H b=none->b∉fs->b∉ex->h'.get? b=some o
 slot:∀b o,h.get? b=some o->H b=none->b∈fs->b∉ex->∃sl,h'.get? b=some {o with slots:=sl}
 free:∀b o,h.get? b=some o->H b=none->b∉ex->H' b=none
 there:∀b o,h.get? b=some o->b∉ex->∃o',h'.get? b=some o'
 tups:∀b xs,H b=some (.tup xs)->H' b=some (.tup xs)
 frzs:∀b o u,H b=some (.frz o u)->H' b=some (.frz o u)
 tbls:∀b ps,H b=some (.tbl ps)->∃more,H' b=some (.tbl (ps++more))
section
variable {fs fs' ex ex':List Addr}{H1 H2:Hp}{h1 h2:Heap}{x e:Addr}
theorem Un.any (u:Un fs ex H H1 h h1){ob:Obj}(q:h.get? b=some ob)(n:H b=none)(hx:b∉ex):∃sl,h1.get? b=some {ob with slots:=sl}:=by
 by_cases hb:b∈fs
 ·exact u.slot b ob q n hb hx
 ·exact⟨ob.slots,u.keep b ob q n hb hx⟩
theorem Un.kept (k:∀b u,h.get? b=some u->h'.get? b=some u):Un fs ex H H h h':=
 ⟨fun b ob q _ _ _=>k b ob q,fun b ob q _ _ _=>⟨ob.slots,k b ob q⟩,fun _ _ _ n _=>n,fun b ob q _=>⟨ob,k b ob q⟩,fun _ _ q=>q,fun _ _ _ q=>q,fun _ ps q=>⟨#[],by rw[q];simp⟩⟩
theorem Un.refl:Un fs ex H H h h:=Un.kept fun _ _ q=>q
theorem Un.laid (k:∀b u,h.get? b=some u->h'.get? b=some u)(hp:h.objs.size<=a)(hn:H a=none):Un fs ex H (upd H a o) h h' where
 keep:=fun b u q _ _ _=>k b u q
 slot:=fun b u q _ _ _=>⟨u.slots,k b u q⟩
 free:=fun b u q n _=>by rw[jKg (lJ4 (lKo (lJl q) hp))];exact n
 there:=fun b u q _=>⟨u,k b u q⟩
 tups:=fun b xs q=>by rw[jKg (jUw q hn)];exact q
 frzs:=fun b u xs q=>by rw[jKg (jUw q hn)];exact q
 tbls:=fun b ps q=>⟨#[],by rw[jKg (jUw q hn),q];simp⟩
theorem Un.write (mu:Mut (H x))(he:e=x\/H e=some (.own x))(k:∀b u,b≠e->h.get? b=some u->h'.get? b=some u)(heo:∃u,h'.get? e=some u):Un fs ex H (upd H x o) h h':=by
 have hx:∀b,H b=none->b≠x:=fun b n z=>by subst z;rw[n] at mu;exact mu
 have hb:∀b,H b=none->b≠e:=fun b n z=>by
  subst z
  rcases he with r | r
  ·exact hx b n r
  ·rw[n] at r;cases r
 have hm:∀b u,H b=some u->¬ Mut (some u)->b≠x:=fun b u q nm z=>by subst z;rw[q] at mu;exact nm mu
 refine⟨fun b u q n _ _=>k b u (hb b n) q,fun b u q n _ _=>⟨u.slots,k b u (hb b n) q⟩,fun b u q n _=>by rw[jKg (hx b n)];exact n,fun b u q _=> ?_,
  fun b xs q=>by rw[jKg (hm b _ q fun z=>z)];exact q,fun b u xs q=>by rw[jKg (hm b _ q fun z=>z)];exact q,fun b ps q=>⟨#[],by rw[jKg (hm b _ q fun z=>z),q];simp⟩⟩
 by_cases hbe:b=e
 ·subst hbe;exact heo
 ·exact⟨u,k b u hbe q⟩
end
noncomputable def trk (h:Heap)(H:Hp):List Addr:=(List.range h.objs.size).filter fun a=>(H a).isSome
noncomputable def hidT (h:Heap)(H:Hp):Heap:=PySem.W.hideAll h (trk h H)
theorem qQv (h:Heap)(H:Hp):(hidT h H).objs.size=h.objs.size:=PySem.W.hideAll_size _ _
theorem qXg {o:Obj}(e:h.get? b=some o)(n:H b=none):(hidT h H).get? b=some o:=
 PySem.W.hideAll_get _ e fun hm=>by
  have q:(H b).isSome=true:=(lVn.mp hm).2
  rw[n] at q;simp at q
theorem qZp {o:Obj}(e:(hidT h H).get? b=some o):h.get? b=some o/\H b=none:=by
 have e':h.get? b=some o:=PySem.W.of_hideAll (trk h H) e
 refine⟨e',?_⟩
 cases q:H b with
 | none=>rfl
 | some x=>
  have hm:b∈trk h H:=lVn.mpr ⟨lQs.mpr (lJl e'),by simp[q]⟩
  have z:(hidT h H).get? b=none:=PySem.W.hideAll_none (trk h H) hm
  rw[z] at e;cases e
noncomputable def uJ1 (g h:Heap)(L:Addr):List (Addr×Obj):=(List.range h.objs.size).filterMap fun a=>if a=L\/(g.get? a).isSome=true then none else (h.get? a).map fun o=>(a,o)
noncomputable def rest (g h:Heap)(L d:Addr):List (Addr×Obj):=(uJ1 g h L).filter fun p=>decide (p.1≠d)
structure Mod (K:PySem.W.Frag) (mg:Str->Option Value) (base:Heap):Prop where
 kin:K.In base
 glob:base.Ns mainGlobals mg
 blt:∃mb,base.Ns builtinsNs mb/\∀x:Str,x≠"__name__"->mb x=bootBuiltins x
 nolimit:base.NoLimit
structure Cx where
 prog:Program
 w:World
 K:PySem.W.Frag
 mg:Str->Option Value
 base:Heap
 A:Around
 N:List Str
 s₀:Shared
 H₀:Hp
 env:Env
 outer:List Env
 stack:List Env
 ex:List Addr
 fn:Str->Bool
 calm:Bool
 pn:List (Addr×Obj)
 xe:Value->Shared->Prop
noncomputable def frs (l:List Env):List Addr:=l.filterMap (·.frame)
noncomputable abbrev Cx.fs (X:Cx):List Addr:=frs X.outer
def Vis (sc:Scope)(x:Str):Prop:=sc.names.lookup x=some .local\/sc.names.lookup x=some .cell\/sc.names.lookup x=some .free
def Loc (sc:Scope)(x:Str):Prop:=sc.names.lookup x=some .local\/sc.names.lookup x=some .cell
def Look (env:Env)(h:Heap)(m:Str->Option Value)(x:Str)(u:Value):Prop:=
 (env.kindOf x=some .local/\m x=some u)\/((env.kindOf x=some .cell\/env.kindOf x=some .free)/\∃c,env.cells.lookup x=some c/\h.IsCell c (some u))
structure Cx.Ok (X:Cx):Prop where
 mod:Mod X.K X.mg X.base
 kind:X.env.scope.kind= .function
 glob:X.env.globals=mainGlobals
 blt:X.env.builtins=builtinsNs
 above:X.s₀.heap.objs.size<=X.env.locals
 inj:∀x y c,X.env.cells.lookup x=some c->X.env.cells.lookup y=some c->x=y
 has:∀x,(X.env.kindOf x=some .cell\/X.env.kindOf x=some .free)->∃c,X.env.cells.lookup x=some c
 cab:∀x c,X.fn x=true->X.env.cells.lookup x=some c->X.s₀.heap.objs.size<=c
 hd:X.calm=true->X.A.handled=none
 gd:X.calm=true->X.A.guards=some []
 frames:X.A.frames=some X.stack
 stk:X.stack=X.outer\/(X.stack=X.env::X.outer/\X.env.frame=some X.env.locals)
 exf:∀b∈X.ex,b≠X.env.locals/\∀x c,X.env.cells.lookup x=some c->c≠b
 bs:∀b o,X.base.get? b=some o->X.s₀.heap.get? b=some o/\X.H₀ b=none
 bsz:X.base.objs.size<=X.s₀.heap.objs.size
 noex:∀b o,X.base.get? b=some o->b∉X.ex
 exfs:∀b∈X.ex,b∉X.fs
 funs:X.s₀.heap.FunFrames X.base X.outer
 frf:∀b∈X.fs,X.H₀ b=none
structure Inv (X:Cx) (pins:List (Addr×Obj)) (σ:List (Option V)) (H:Hp) (s:Shared):Prop where
 ok:X.Ok
 os:s.os=X.s₀.os
 bare:AllBare s.gens
 base:Un X.fs X.ex X.H₀ H X.s₀.heap s.heap
 loc:∃m,s.heap.Ns X.env.locals m/\∀(i:Nat) (x:Str) (v:V),X.N[i]? =some x->σ[i]? =some (some v)->Vis X.env.scope x->∃u,RelV v u/\Look X.env s.heap m x u
 cell:∀x c,X.env.cells.lookup x=some c->∃v,s.heap.IsCell c v
 free:H X.env.locals=none
 freeC:∀x c,X.env.cells.lookup x=some c->H c=none
 pin:∀p∈X.pn++pins,s.heap.get? p.1=some p.2/\H p.1=none/\p.1≠X.env.locals/\p.1∉X.fs/\∀v,p.2.data≠ .cell v
 hok:HOk X.prog X.w H s.heap
 len:σ.length=X.N.length
variable {X:Cx}{pins:List (Addr×Obj)}{s s':Shared}{g':Array GenState}{ch:List Addr}{it:Addr}{N:List Str}{i j:Nat}{x:Str}{M:Model}{E:Value->Shared->Prop}{u:Value}{Q:Unit->Shared->Prop}
section
variable {σ:List (Option V)}
theorem Cx.Ok.nofr (ok:X.Ok){o:Obj}(e:X.base.get? b=some o):b∉X.fs:=fun hb=>by
 have:=(ok.funs.mem hb).1
 rw[e] at this;cases this
theorem Inv.bs (I:Inv X pins σ H s):∀b o,X.base.get? b=some o->s.heap.get? b=some o/\H b=none:=fun b o e=>
 ⟨I.base.keep b o (I.ok.bs b o e).1 (I.ok.bs b o e).2 (I.ok.nofr e) (I.ok.noex b o e),I.base.free b o (I.ok.bs b o e).1 (I.ok.bs b o e).2 (I.ok.noex b o e)⟩
theorem Inv.bk (I:Inv X pins σ H s):∀b o,X.base.get? b=some o->s.heap.get? b=some o:=fun b o e=>(I.bs b o e).1
theorem Inv.mod (I:Inv X pins σ H s):Mod X.K X.mg X.base:=I.ok.mod
theorem Inv.kIn (I:Inv X pins σ H s):X.K.In s.heap:=I.ok.mod.kin.keeps I.bk
theorem Inv.lt (I:Inv X pins σ H s):X.env.locals<s.heap.objs.size:=let ⟨_,hn,_⟩:=I.loc;hn.lt
theorem Inv.sz (I:Inv X pins σ H s):X.s₀.heap.objs.size<=s.heap.objs.size:=lKb I.ok.above (Nat.le_of_lt I.lt)
theorem Inv.nofs (I:Inv X pins σ H s)(h:s.heap.objs.size<=a):a∉X.fs:=fun hb=>by
 obtain⟨_,o,ho,_⟩:=I.ok.funs.mem hb
 exact absurd (lKo (lJl ho) (lKb I.sz h)) (lV2 _)
theorem Inv.cne (I:Inv X pins σ H s):∀x c,X.env.cells.lookup x=some c->c≠X.env.locals:=fun x c e z=>by
 obtain⟨v,o,ho,hd⟩:=I.cell x c e
 obtain⟨m,⟨o',es,ep,ho',hd',_⟩,_⟩:=I.loc
 rw[z,ho'] at ho;cases ho;rw[hd'] at hd;cases hd
theorem Inv.funs (I:Inv X pins σ H s):s.heap.FunFrames X.base X.outer:=by
 have all:∀(l:List Env),(∀b∈frs l,b∈X.fs)->X.s₀.heap.FunFrames X.base l->s.heap.FunFrames X.base l:=by
  intro l
  induction l with
  | nil=>intro _ _;trivial
  | cons env r ih=>
   intro hs hl
   obtain⟨hk,⟨L,o,hf,hn,ho,hd⟩,hr⟩:=hl
   have hL:L∈X.fs:=hs L (by unfold frs;rw[lXi,hf];exact lKn)
   obtain⟨sl,e⟩:=I.base.slot L o ho (I.ok.frf L hL) hL fun z=>I.ok.exfs L z hL
   exact⟨hk,⟨L,_,hf,hn,e,hd⟩,ih (fun b hb=>hs b (by unfold frs;rw[lXi,hf];exact lKp _ hb)) hr⟩
 exact all X.outer (fun _ hb=>hb) I.ok.funs
theorem Inv.stack (I:Inv X pins σ H s):s.heap.FunFrames X.base X.stack:=by
 rcases I.ok.stk with e | ⟨e,hf⟩
 ·rw[e];exact I.funs
 ·rw[e]
  obtain⟨m,hn,_⟩:=I.loc
  refine .cons (by rw[I.ok.kind];decide) hf hn ?_ I.funs
  exact Heap.get?_none_of_le (lKb I.ok.bsz I.ok.above)
theorem Inv.stkSub (I:Inv X pins σ H s):∀b∈frs X.stack,b∈X.env.locals::X.fs:=fun b hb=>by
 rcases I.ok.stk with e | ⟨e,hf⟩
 ·rw[e] at hb;exact lKp _ hb
 ·rw[e] at hb
  unfold frs at hb
  rw[lXi,hf] at hb
  exact hb
theorem Inv.stkFree (I:Inv X pins σ H s):∀b∈frs X.stack,H b=none:=fun b hb=>by
 rcases lJy.mp (I.stkSub b hb) with e | hb
 ·rw[e];exact I.free
 ·obtain⟨_,o,ho,_⟩:=I.ok.funs.mem hb
  exact I.base.free b o ho (I.ok.frf b hb) fun z=>I.ok.exfs b z hb
theorem Inv.step {t':Nat}{d':Drawn}(I:Inv X pins σ H s)(hch:∀b∈ch,(b∈X.ex\/X.s₀.heap.objs.size<=b)/\b≠X.env.locals/\(∀x c,X.env.cells.lookup x=some c->c≠b)/\∀p∈X.pn++pins,p.1≠b)(keep:∀b o,b≠X.env.locals->b∉X.fs->b∉ch->s.heap.get? b=some o->H b=none->h'.get? b=some o)(slot:∀b o,b≠X.env.locals->b∈X.fs->b∉ch->s.heap.get? b=some o->H b=none->∃sl,h'.get? b=some {o with slots:=sl})(free:∀b o,b∉ch->s.heap.get? b=some o->H b=none->H' b=none)(there:∀b o,b∉ch->s.heap.get? b=some o->∃o',h'.get? b=some o')(tups:∀b xs,H b=some (.tup xs)->H' b=some (.tup xs))(frzs:∀b o u,H b=some (.frz o u)->H' b=some (.frz o u))(tbls:∀b ps,H b=some (.tbl ps)->∃more,H' b=some (.tbl (ps++more)))(ns:∀m,s.heap.Ns X.env.locals m->h'.Ns X.env.locals m)(hok:HOk X.prog X.w H' h')(hg:AllBare g'):
  Inv X pins σ H' {s with heap:=h',gens:=g',drawn:=d',toks:=t'}:=by
 have neL:∀b o,X.s₀.heap.get? b=some o->b≠X.env.locals:=fun b o e=>lJ4 (lKo (lJl e) I.ok.above)
 have neC:∀b o,X.s₀.heap.get? b=some o->b∉X.ex->b∉ch:=fun b o e hx hb=>by
  rcases (hch b hb).1 with z | z
  ·exact hx z
  ·exact absurd (lKo (lJl e) z) (lV2 _)
 have cellK:∀x c,X.env.cells.lookup x=some c->∀v,s.heap.IsCell c v->h'.IsCell c v:=fun x c e v ⟨o,ho,hd⟩=>by
  have nch:c∉ch:=fun z=>(hch c z).2.2.1 x c e rfl
  by_cases hc:c∈X.fs
  ·obtain⟨sl,q⟩:=slot c o (I.cne x c e) hc nch ho (I.freeC x c e)
   exact⟨_,q,hd⟩
  ·exact⟨o,keep c o (I.cne x c e) hc nch ho (I.freeC x c e),hd⟩
 refine⟨I.ok,I.os,hg,⟨fun b o e n hb hx=> ?_,fun b o e n hb hx=> ?_,fun b o e n hx=> ?_,fun b o e hx=> ?_,fun b xs e=>tups b xs (I.base.tups b xs e),fun b o xs e=>frzs b o xs (I.base.frzs b o xs e),fun b ps e=> ?_⟩,?_,fun x c e=> ?_,?_,fun x c e=> ?_,fun p hp=> ?_,hok,I.len⟩
 ·exact keep b o (neL b o e) hb (neC b o e hx) (I.base.keep b o e n hb hx) (I.base.free b o e n hx)
 ·obtain⟨sl,e1⟩:=I.base.slot b o e n hb hx
  obtain⟨sl',e2⟩:=slot b _ (neL b o e) hb (neC b o e hx) e1 (I.base.free b o e n hx)
  exact⟨sl',e2⟩
 ·obtain⟨o',e1⟩:=I.base.there b o e hx
  exact free b o' (neC b o e hx) e1 (I.base.free b o e n hx)
 ·obtain⟨o',e1⟩:=I.base.there b o e hx
  exact there b o' (neC b o e hx) e1
 ·obtain⟨m1,e1⟩:=I.base.tbls b ps e
  obtain⟨m2,e2⟩:=tbls b _ e1
  exact⟨m1++m2,by rw[e2,Array.append_assoc]⟩
 ·obtain⟨m,hn,hl⟩:=I.loc
  refine⟨m,ns m hn,fun i x v e1 e2 e3=> ?_⟩
  obtain⟨u,r,l⟩:=hl i x v e1 e2 e3
  refine⟨u,r,?_⟩
  rcases l with l | ⟨k,c,e,z⟩
  ·exact .inl l
  ·exact .inr ⟨k,c,e,cellK x c e _ z⟩
 ·obtain⟨v,z⟩:=I.cell x c e
  exact⟨v,cellK x c e v z⟩
 ·obtain⟨m,⟨o,_,_,ho,_⟩,_⟩:=I.loc
  exact free _ o (fun z=>(hch _ z).2.1 rfl) ho I.free
 ·obtain⟨v,o,ho,hd⟩:=I.cell x c e
  exact free c o (fun z=>(hch c z).2.2.1 x c e rfl) ho (I.freeC x c e)
 ·obtain⟨e,n,ne,nf,d⟩:=I.pin p hp
  have nch:p.1∉ch:=fun z=>(hch p.1 z).2.2.2 p hp rfl
  exact⟨keep p.1 p.2 ne nf nch e n,free p.1 p.2 nch e n,ne,nf,d⟩
theorem Inv.un {t':Nat}(I:Inv X pins σ H s)(u:Un X.fs [] H H' s.heap h')(hok:HOk X.prog X.w H' h'):Inv X pins σ H' {s with heap:=h',toks:=t'}:=by
 obtain⟨m,⟨o,es,ep,ho,r⟩,_⟩:=id I.loc
 obtain⟨sl,hL⟩:=u.any ho I.free (by simp)
 exact I.step (g':=s.gens) (d':=s.drawn) (ch:=[]) (fun _ z=>nomatch z) (fun b o _ hb _ e n=>u.keep b o e n hb (by simp)) (fun b o _ hb _ e n=>u.slot b o e n hb (by simp)) (fun b o _ e n=>u.free b o e n (by simp)) (fun b o _ e=>u.there b o e (by simp)) u.tups u.frzs u.tbls (fun m' hm=>by
  obtain⟨o',es',ep',ho',r'⟩:=hm
  rw[ho] at ho';cases ho'
  exact⟨_,es',ep',hL,r'⟩) hok I.bare
theorem Inv.call {t':Nat}{d':Drawn}(I:Inv X pins σ H s)(u:Un (frs X.stack) ch H H' s.heap h')(hok:HOk X.prog X.w H' h')(hg:AllBare g')(hch:∀b∈ch,(b∈X.ex\/X.s₀.heap.objs.size<=b)/\b≠X.env.locals/\(∀x c,X.env.cells.lookup x=some c->c≠b)/\∀p∈X.pn++pins,p.1≠b):
  Inv X pins σ H' {s with heap:=h',gens:=g',drawn:=d',toks:=t'}:=by
 obtain⟨m,⟨o,es,ep,ho,r⟩,_⟩:=id I.loc
 obtain⟨sl,hL⟩:=u.any ho I.free fun z=>(hch _ z).2.1 rfl
 exact I.step (ch:=ch) hch (fun b o hL hb hc e n=>u.keep b o e n (fun z=>(lJy.mp (I.stkSub b z)).elim hL hb) hc) (fun b o _ _ hc e n=>u.any e n hc) (fun b o hc e n=>u.free b o e n hc) (fun b o hc e=>u.there b o e hc) u.tups u.frzs u.tbls (fun m' hm=>by
  obtain⟨o',es',ep',ho',r'⟩:=hm
  rw[ho] at ho';cases ho'
  exact⟨_,es',ep',hL,r'⟩) hok hg
theorem Inv.turned {t':Nat}(I:Inv X pins σ H s)(k:∀b o,b≠it->s.heap.get? b=some o->h'.get? b=some o)(hn:H it=none)(hL:it≠X.env.locals)(h1:it∈X.ex\/X.s₀.heap.objs.size<=it)(h2:∀x c,X.env.cells.lookup x=some c->c≠it)(h3:∀p∈X.pn++pins,p.1≠it):Inv X pins σ H {s with heap:=h',toks:=t'}:=by
 have nit:∀b u,H b=some u->b≠it:=fun b u e z=>by rw[z,hn] at e;cases e
 refine I.step (g':=s.gens) (d':=s.drawn) (ch:=[it]) (fun b hb=> ?_) (fun b o _ _ hc e _=>k b o (fun z=>hc (by simp[z])) e) (fun b o _ _ hc e _=>⟨o.slots,k b o (fun z=>hc (by simp[z])) e⟩) (fun _ _ _ _ n=>n)
  (fun b o hc e=>⟨o,k b o (fun z=>hc (by simp[z])) e⟩) (fun _ _ e=>e) (fun _ _ _ e=>e) (fun b ps e=>⟨#[],by rw[e];simp⟩) (fun m hm=> ?_) (fun b u e=> ?_) I.bare
 ·have e:b=it:=by simpa using hb
  subst e
  exact⟨h1,hL,h2,h3⟩
 ·obtain⟨o,es,ep,ho,r⟩:=hm
  exact⟨o,es,ep,k _ o (Ne.symm hL) ho,r⟩
 ·refine (I.hok b u e).stay (fun c v hc q=>k c v ?_ q) (fun _ q=>q) fun _ _ q=>q
  rcases hc with z | z
  ·rw[z];exact nit b u e
  ·exact nit c _ z
theorem Inv.tok (I:Inv X pins σ H s)(t:Nat):Inv X pins σ H {s with toks:=t}:=I.un (h':=s.heap) (t':=t) Un.refl I.hok
theorem Inv.kept {t':Nat}(I:Inv X pins σ H s)(k:∀b u,s.heap.get? b=some u->h'.get? b=some u):Inv X pins σ H {s with heap:=h',toks:=t'}:=I.un (Un.kept k) (I.hok.kept k)
theorem Inv.laid {t':Nat}(I:Inv X pins σ H s)(k:∀b u,s.heap.get? b=some u->h'.get? b=some u)(hp:s.heap.objs.size<=a)(new:ObjOk X.prog X.w (upd H a o) h' a o):
  Inv X pins σ (upd H a o) {s with heap:=h',toks:=t'}:=I.un (Un.laid k hp (I.hok.fresh hp)) (I.hok.laid k hp new)
theorem Inv.write {x e:Addr}{t':Nat}(I:Inv X pins σ H s)(mu:Mut (H x))(he:e=x\/H e=some (.own x))(k:∀b u,b≠e->s.heap.get? b=some u->h'.get? b=some u)(heo:∃u,h'.get? e=some u)(new:ObjOk X.prog X.w (upd H x o) h' x o):Inv X pins σ (upd H x o) {s with heap:=h',toks:=t'}:=I.un (Un.write mu he k heo) (I.hok.write mu he k heo new)
theorem Inv.weak {σ':List (Option V)}(I:Inv X pins σ H s)(hl:σ'.length=σ.length)(w:∀(i:Nat) v,σ'[i]? =some (some v)->σ[i]? =some (some v)):Inv X pins σ' H s:=
 ⟨I.ok,I.os,I.bare,I.base,let ⟨m,hn,hl'⟩:=I.loc;⟨m,hn,fun i x v e1 e2 e3=>hl' i x v e1 (w i v e2) e3⟩,I.cell,I.free,I.freeC,I.pin,I.hok,hl.trans I.len⟩
theorem Inv.pins_of {pins':List (Addr×Obj)}(I:Inv X pins σ H s)(h:∀p∈pins',s.heap.get? p.1=some p.2/\H p.1=none/\p.1≠X.env.locals/\p.1∉X.fs/\∀v,p.2.data≠ .cell v):Inv X pins' σ H s:=
 ⟨I.ok,I.os,I.bare,I.base,I.loc,I.cell,I.free,I.freeC,fun p hp=>(lJm.mp hp).elim (fun z=>I.pin p (lKh _ z)) (h p),I.hok,I.len⟩
theorem kYx (hN:N.Nodup)(a:N[i]? =some x)(b:N[j]? =some x):i=j:=by
 obtain⟨h1,e1⟩:=lJg.mp a
 obtain⟨h2,e2⟩:=lJg.mp b
 exact (List.getElem_inj hN).mp (e1.trans e2.symm)
theorem qJ3 {v:V}(I:Inv X pins σ H s)(hN:X.N.Nodup)(hi:X.N[i]? =some x)(hx:Loc X.env.scope x)(r:RelV v u)(h:∀s',Inv X pins (σ.set i (some v)) H s'->(∃a,Heap.SameBut a s.heap s'.heap/\(a=X.env.locals\/X.env.cells.lookup x=some a))->Q () s')(hf:X.fn x=true\/X.env.scope.names.lookup x=some .local:=by first | exact .inl rfl | exact .inr rfl | assumption):wpAny M A (storeName X.env x u) Q E s:=by
 obtain⟨m,hn,hl⟩:=id I.loc
 have hcls:(X.env.scope.kind == .class||(X.env.scope.kind == .module&&X.env.locals != X.env.globals))=false:=by rw[I.ok.kind];rfl
 have hiσ:i<σ.length:=by rw[I.len];exact (lJg.mp hi).1
 have cne:=I.cne
 have tracked:∀ {a:Addr} {h':Heap},(∃o,s.heap.get? a=some o/\H a=none)->Heap.SameBut a s.heap h'->HOk X.prog X.w H h':=fun {a h'} ha hs b ob e=>by
  obtain⟨_,_,hfree⟩:=ha
  refine (I.hok b ob e).stay (fun c w' hc q=>(hs.2 c ?_).trans q) (fun _ q=>q) fun _ _ q=>q
  rintro rfl
  rcases hc with rfl | hc
  ·rw[hfree] at e;cases e
  ·rw[hfree] at hc;cases hc
 rcases hx with hk | hk
 ·refine wpAny_storeName_local hk hn (fun h' hn' hs=> ?_) hcls
  obtain⟨oL,_,_,hoL,_⟩:=id hn
  refine h _ ⟨I.ok,I.os,I.bare,⟨fun b o e n hb hx=> ?_,fun b o e n hb hx=> ?_,I.base.free,fun b o e hx=> ?_,I.base.tups,I.base.frzs,I.base.tbls⟩,⟨_,hn',fun j y v' e1 e2 e3=> ?_⟩,fun y c e=> ?_,I.free,I.freeC,fun p hp=> ?_,tracked ⟨oL,hoL,I.free⟩ hs,by simpa using I.len⟩ ⟨_,hs,.inl rfl⟩
  ·exact (hs.2 b (lJ4 (lKo (lJl e) I.ok.above))).trans (I.base.keep b o e n hb hx)
  ·obtain⟨sl,e1⟩:=I.base.slot b o e n hb hx
   exact⟨sl,(hs.2 b (lJ4 (lKo (lJl e) I.ok.above))).trans e1⟩
  ·obtain⟨o',e1⟩:=I.base.there b o e hx
   exact⟨o',(hs.2 b (lJ4 (lKo (lJl e) I.ok.above))).trans e1⟩
  ·by_cases hj:j=i
   ·subst hj
    rw[hi] at e1;cases e1
    rw[lKx hiσ] at e2
    cases e2
    exact⟨u,r,.inl ⟨hk,by simp⟩⟩
   ·rw[lKt (Ne.symm hj)] at e2
    obtain⟨u',r',q⟩:=hl j y v' e1 e2 e3
    refine⟨u',r',?_⟩
    rcases q with ⟨k,e⟩ | ⟨k,c,e,z⟩
    ·refine .inl ⟨k,?_⟩
     have:y≠x:=fun e=>hj (kYx hN e1 (e▸hi))
     simp[this,e]
    ·exact .inr ⟨k,c,e,z.sameBut hs (cne y c e)⟩
  ·obtain⟨w',z⟩:=I.cell y c e
   exact⟨w',z.sameBut hs (cne y c e)⟩
  ·obtain⟨e,n,ne,nf,d⟩:=I.pin p hp
   exact⟨(hs.2 p.1 ne).trans e,n,ne,nf,d⟩
 ·have hfn:X.fn x=true:=by
   rcases hf with z | z
   ·exact z
   ·rw[z] at hk;cases hk
  obtain⟨c,hc⟩:=I.ok.has x (.inl hk)
  obtain⟨w',z⟩:=I.cell x c hc
  refine wpAny_storeName_cell I.ok.kind hk hc z (fun h' hc' hs=> ?_)
  obtain⟨oc,hoc,hocd⟩:=id z
  refine h {s with heap:=h'} ⟨I.ok,I.os,I.bare,⟨fun b o e n hb hx=> ?_,fun b o e n hb hx=> ?_,I.base.free,fun b o e hx=> ?_,I.base.tups,I.base.frzs,I.base.tbls⟩,⟨m,hn.sameBut hs (Ne.symm (cne x c hc)),fun j y v' e1 e2 e3=> ?_⟩,fun y c' e=> ?_,I.free,I.freeC,fun p hp=> ?_,tracked ⟨oc,hoc,I.freeC x c hc⟩ hs,by simpa using I.len⟩ ⟨c,hs,.inr hc⟩
  ·exact (hs.2 b (lJ4 (lKo (lJl e) (I.ok.cab x c hfn hc)))).trans (I.base.keep b o e n hb hx)
  ·obtain⟨sl,e1⟩:=I.base.slot b o e n hb hx
   exact⟨sl,(hs.2 b (lJ4 (lKo (lJl e) (I.ok.cab x c hfn hc)))).trans e1⟩
  ·obtain⟨o',e1⟩:=I.base.there b o e hx
   exact⟨o',(hs.2 b (lJ4 (lKo (lJl e) (I.ok.cab x c hfn hc)))).trans e1⟩
  ·by_cases hj:j=i
   ·subst hj
    rw[hi] at e1;cases e1
    rw[lKx hiσ] at e2
    cases e2
    exact⟨u,r,.inr ⟨.inl hk,c,hc,hc'⟩⟩
   ·rw[lKt (Ne.symm hj)] at e2
    obtain⟨u',r',q⟩:=hl j y v' e1 e2 e3
    refine⟨u',r',?_⟩
    rcases q with q | ⟨k,c',e,z'⟩
    ·exact .inl q
    ·refine .inr ⟨k,c',e,z'.sameBut hs ?_⟩
     rintro rfl
     exact hj (kYx hN e1 (I.ok.inj _ _ _ e hc▸hi))
  ·by_cases hcc:c'=c
   ·subst hcc;exact⟨_,hc'⟩
   ·obtain⟨w2,z2⟩:=I.cell y c' e
    exact⟨w2,z2.sameBut hs hcc⟩
  ·obtain⟨e,n,ne,nf,d⟩:=I.pin p hp
   refine⟨(hs.2 p.1 ?_).trans e,n,ne,nf,d⟩
   intro q
   rw[q,hoc] at e
   have q':oc=p.2:=lJ0 e
   exact d w' (by rw[<-q'];exact hocd)
theorem jUj {v:V}(I:Inv X pins σ H s)(hN:X.N.Nodup)(hi:X.N[i]? =some x)(hx:Loc X.env.scope x)(r:RelV v u)(h:∀s',Inv X pins (σ.set i (some v)) H s'->Q () s')(hf:X.fn x=true\/X.env.scope.names.lookup x=some .local:=by first | exact .inl rfl | exact .inr rfl | assumption):wpAny M A (storeName X.env x u) Q E s:=
 qJ3 I hN hi hx r (fun s' I' _=>h s' I') hf
theorem Inv.call' (I:Inv X pins σ H s)(ho:s'.os=s.os)(u:Un (frs X.stack) ch H H' s.heap s'.heap)(hok:HOk X.prog X.w H' s'.heap)(hg:AllBare s'.gens)(hch:∀b∈ch,(b∈X.ex\/X.s₀.heap.objs.size<=b)/\b≠X.env.locals/\(∀x c,X.env.cells.lookup x=some c->c≠b)/\∀p∈X.pn++pins,p.1≠b):Inv X pins σ H' s':=by
 obtain⟨h',g',d',t',o'⟩:=s'
 have e:o'=s.os:=ho
 subst e
 exact I.call (g':=g') (t':=t') (d':=d') u hok hg hch
end
abbrev XK:=Value->Option Addr->Hp->Prop
abbrev St:=List (Option V)
abbrev VK:=V->Hp->Prop
abbrev TE:=St->Hp->VK->Prop
abbrev TT:=St->Hp->(Bool->Hp->Prop)->Prop
abbrev TA:=St->Hp->(List V->Hp->Prop)->Prop
structure Ends where
 nx:St->Hp->Prop
 rt:VK
 bk:St->Hp->Prop:=fun _ _=>False
 ct:St->Hp->Prop:=fun _ _=>False
abbrev TS:=Ends->St->Hp->Prop
def EP (X:Cx)(pins:List (Addr×Obj))(σ:St)(Q:VK)(u:Value)(s':Shared):Prop:=∃v H',Inv X pins σ H' s'/\RelV v u/\Q v H'
def TP (X:Cx)(pins:List (Addr×Obj))(σ:St)(Q:Bool->Hp->Prop)(b:Bool)(s':Shared):Prop:=∃H',Inv X pins σ H' s'/\Q b H'
def SP (X:Cx)(pins:List (Addr×Obj))(D:Ends)(f:Flow)(s':Shared):Prop:=
 match f with
 | .next=>∃ σ' H',Inv X pins σ' H' s'/\D.nx σ' H'
 | .brk=>∃ σ' H',Inv X pins σ' H' s'/\D.bk σ' H'
 | .cont=>∃ σ' H',Inv X pins σ' H' s'/\D.ct σ' H'
 | .ret u=>∃v σ' H',Inv X pins σ' H' s'/\RelV v u/\D.rt v H'
def PE (X:Cx)(e:Expr)(t:TE):Prop:=
 ∀(pins:List (Addr×Obj)) (s:Shared) (σ:St) (H:Hp) (Q:VK),Inv X pins σ H s->t σ H Q->wpAny (model X.prog X.w) X.A (eval e X.env) (EP X pins σ Q) X.xe s
def PSs (X:Cx)(st:List Stmt)(t:TS):Prop:=
 ∀(pins:List (Addr×Obj)) (s:Shared) (σ:St) (H:Hp) (D:Ends),Inv X pins σ H s->t D σ H->wpAny (model X.prog X.w) X.A (execs st X.env) (SP X pins D) X.xe s
theorem thn {α:Type}{t:Sem α}{Q Q':α->Shared->Prop}(h:wpAny M A t Q E s)(hQ:∀a s,Q a s->Q' a s):wpAny M A t Q' E s:=lQr h hQ fun _ _ x=>x
variable {pos:Pos}{σ:St}{ta tb:TE}
section
def tVar (i:Nat):TE:=fun σ H Q=>∃v,σ[i]? =some (some v)/\Q v H
def tC (v:V):TE:=fun _ H Q=>Q v H
theorem pe_var (hN:X.N[i]? =some x)(hv:Vis X.env.scope x)(hd:(x == ("__debug__":Str))=false:=by decide)(hcd:(x == ("__classdict__":Str))=false:=by decide):PE X (.Name x pos) (tVar i):=by
 intro pins s σ H Q I h
 obtain⟨v,e,h⟩:=h
 obtain⟨m,hn,hl⟩:=I.loc
 obtain⟨u,r,l⟩:=hl i x v hN e hv
 have fin:EP X pins σ Q u s:=⟨v,H,I,r,h⟩
 rcases l with ⟨hk,hm⟩ | ⟨hk,c,hc,hcell⟩
 ·exact wpAny_Name (wpAny_loadName_local I.ok.kind hk hn hm fin) hd
 ·rcases hk with hk | hk
  ·exact wpAny_Name (wpAny_loadName_cell I.ok.kind hk hc hcell fin) hd
  ·exact wpAny_Name (wpAny_loadName_free I.ok.kind hk hc hcell fin hcd) hd
theorem pe_int {i j pos}:PE X (.Constant (.int i) j pos) (tC (.int i)):=fun _ _ _ H _ I h=>wpAny_Constant_int ⟨.int i,H,I.tok _,⟨_,rfl⟩,h⟩
theorem pe_bl {b j pos}:PE X (.Constant (.bool b) j pos) (tC (.bl b)):=fun _ _ _ H _ I h=>Constant_bool ⟨.bl b,H,I,rfl,h⟩
theorem pe_non {j pos}:PE X (.Constant .none j pos) (tC .non):=fun _ _ _ H _ I h=>Constant_none ⟨.non,H,I,rfl,h⟩
theorem pe_str {x j pos}:PE X (.Constant (.str x) j pos) (tC (.str x)):=fun _ _ _ H _ I h=>Calls.Constant_str ⟨.str x,H,I.tok _,⟨_,rfl⟩,h⟩
def Gl (X:Cx)(x:Str):Prop:=X.env.kindOf x=some .globalImplicit
theorem qZ1 {Q:Value->Shared->Prop}(I:Inv X pins σ H s)(hg:Gl X x)(hm:X.mg x=some u)(h:Q u s)(hd:(x == ("__debug__":Str))=false:=by decide):wpAny (model X.prog X.w) X.A (eval (.Name x pos) X.env) Q E s:=
 Calls.Name_function_global I.ok.kind hg (Calls.loadGlobal_global (by rw[I.ok.glob];exact I.mod.glob.keeps I.bk) hm h) hd
theorem jV3 {Q:Value->Shared->Prop}(I:Inv X pins σ H s)(hg:Gl X x)(hm:X.mg x=none)(hv:bootBuiltins x=some u)(h:Q u s)(hn:x≠"__name__":=by decide)(hd:(x == ("__debug__":Str))=false:=by decide):wpAny (model X.prog X.w) X.A (eval (.Name x pos) X.env) Q E s:=by
 obtain⟨mb,h1,h2⟩:=I.mod.blt
 exact Calls.Name_function_global I.ok.kind hg (Calls.loadGlobal_builtin (by rw[I.ok.glob];exact I.mod.glob.keeps I.bk) hm (by rw[I.ok.blt];exact h1.keeps I.bk) ((h2 x hn).trans hv) h) hd
theorem qZl {v:V}(hg:Gl X x)(hm:X.mg x=none)(hv:bootBuiltins x=some u)(r:RelV v u)(hn:x≠"__name__":=by decide)(hd:(x == ("__debug__":Str))=false:=by decide):PE X (.Name x pos) (tC v):=
 fun _ _ _ H _ I h=>jV3 I hg hm hv ⟨v,H,I,r,h⟩ hn hd
variable {a b:Expr}
def tB (t:TE):TT:=fun σ H Q=>t σ H fun x H1=>∃c,x= .bl c/\Q c H1
variable {tA tB':TT}{rest:List Expr}
def tOrV (ta tb:TE):TE:=fun σ H Q=>ta σ H fun x H1=>∃c,x= .bl c/\if c=true then Q (.bl true) H1 else tb σ H1 Q
end
def SqL (K:PySem.W.Frag)(H:Hp)(a:Addr)(xs:List V):Prop:=
 Rd H a (.lst xs)\/
  ∃(o:Obj) (its:Array Value) (n:Nat),K.lookup a=some o/\o.cls= .type "list"/\o.dict=none/\o.data= .seq its n/\its.size<=sizeLine/\Vals xs its.toList
def SqT (K:PySem.W.Frag)(H:Hp)(a:Addr)(xs:List V):Prop:=
 Rd H a (.tup xs)\/
  ∃(o:Obj) (its:Array Value) (n:Nat),K.lookup a=some o/\o.cls= .type "tuple"/\o.data= .seq its n/\its.size<=sizeLine/\Vals xs its.toList
noncomputable def absV:Value->Option V
 | .none=>some .non
 | .bool b=>some (.bl b)
 | .int i _=>some (.int i)
 | .str x _=>some (.str x)
 | .bytes b _=>some (.byt b)
 | .float b _=>some (.flt b)
 | .ref a=>some (.ref a)
 | .type n=>some (.ty n)
 | _=>none
theorem RelV.abs {x:V}(r:RelV x u):absV u=some x:=by
 cases x with
 | non=>cases r;rfl
 | bl _=>cases r;rfl
 | int _=>obtain⟨t,rfl⟩:=r;rfl
 | str _=>obtain⟨t,rfl⟩:=r;rfl
 | byt _=>obtain⟨t,rfl⟩:=r;rfl
 | flt _=>obtain⟨t,rfl⟩:=r;rfl
 | ref _=>cases r;rfl
 | ty _=>cases r;rfl
theorem RelV.inj {x y:V}(r:RelV x u)(q:RelV y u):x=y:=lJ0 (r.abs.symm.trans q.abs)
theorem Vals.inj {xs ys:List V}(h:Vals xs us)(g:Vals ys us):xs=ys:=by
 induction h generalizing ys with
 | nil=>(cases g;rfl)
 | cons r _ ih=>(cases g with | cons r' t'=>rw[r.inj r',ih t'])
variable {K:PySem.W.Frag}
section
variable {xs ys:List V}
theorem SqL.of (h:H a=some (.lst xs)):SqL K H a xs:= .inl (.inl h)
theorem SqT.of (h:H a=some (.tup xs)):SqT K H a xs:= .inl (.inl h)
theorem Inv.list (I:Inv X pins σ H s)(h:SqL X.K H a xs):∃its:List Value,Vals xs its/\PlainL s.heap a its.toArray/\xs.length<=sizeLine:=by
 rcases h with h | ⟨o,its,n,hk,hc,hd,hs,hz,r⟩
 ·obtain⟨z,its,n,r,e⟩:=h.ok I.hok
  exact⟨its,r,⟨_,n,e,rfl,rfl,rfl⟩,z⟩
 ·refine⟨its.toList,r,⟨o,n,I.kIn a o hk,hc,hd,by simpa using hs⟩,?_⟩
  have e:=r.length
  simp only[lVo] at e
  omega
theorem Inv.tuple (I:Inv X pins σ H s)(h:SqT X.K H a xs):∃its:List Value,Vals xs its/\IsTup s.heap a its.toArray/\xs.length<=sizeLine:=by
 rcases h with h | ⟨o,its,n,hk,hc,hs,hz,r⟩
 ·obtain⟨z,its,r,p⟩:=h.ok I.hok
  exact⟨its,r,p.is,z⟩
 ·refine⟨its.toList,r,⟨o,I.kIn a o hk,hc,n,by simpa using hs⟩,?_⟩
  have e:=r.length
  simp only[lVo] at e
  omega
theorem Inv.list_inj (I:Inv X pins σ H s)(h:SqL X.K H a xs)(h':SqL X.K H a ys):xs=ys:=by
 obtain⟨its,r,⟨o,n,e,_,_,d⟩,_⟩:=I.list h
 obtain⟨its',r',⟨o',n',e',_,_,d'⟩,_⟩:=I.list h'
 rw[e] at e';cases e'
 rw[d] at d'
 injection d' with d1 _
 have:its=its':=by simpa using lKa Array.toList d1
 subst this
 exact r.inj r'
theorem Inv.tuple_inj (I:Inv X pins σ H s)(h:SqT X.K H a xs)(h':SqT X.K H a ys):xs=ys:=by
 obtain⟨its,r,⟨o,e,_,n,d⟩,_⟩:=I.tuple h
 obtain⟨its',r',⟨o',e',_,n',d'⟩,_⟩:=I.tuple h'
 rw[e] at e';cases e'
 rw[d] at d'
 injection d' with d1 _
 have:its=its':=by simpa using lKa Array.toList d1
 subst this
 exact r.inj r'
end
noncomputable abbrev Cx.wish (X:Cx)(E:Value->Shared->Prop):Cx:={X with xe:=E}
noncomputable abbrev Cx.nox (X:Cx):Cx:=X.wish fun _ _=>False
theorem Cx.Ok.wish (ok:X.Ok)(E:Value->Shared->Prop):(X.wish E).Ok:=
 ⟨ok.mod,ok.kind,ok.glob,ok.blt,ok.above,ok.inj,ok.has,ok.cab,ok.hd,ok.gd,ok.frames,ok.stk,ok.exf,ok.bs,ok.bsz,ok.noex,ok.exfs,ok.funs,ok.frf⟩
theorem Cx.Ok.unwish (ok:(X.wish E).Ok):X.Ok:=
 ⟨ok.mod,ok.kind,ok.glob,ok.blt,ok.above,ok.inj,ok.has,ok.cab,ok.hd,ok.gd,ok.frames,ok.stk,ok.exf,ok.bs,ok.bsz,ok.noex,ok.exfs,ok.funs,ok.frf⟩
theorem Inv.wish (I:Inv X pins σ H s)(E:Value->Shared->Prop):Inv (X.wish E) pins σ H s:=⟨I.ok.wish E,I.os,I.bare,I.base,I.loc,I.cell,I.free,I.freeC,I.pin,I.hok,I.len⟩
theorem Inv.unwish (I:Inv (X.wish E) pins σ H s):Inv X pins σ H s:=⟨I.ok.unwish,I.os,I.bare,I.base,I.loc,I.cell,I.free,I.freeC,I.pin,I.hok,I.len⟩
theorem SP.unwish {D:Ends}{f:Flow}(h:SP (X.wish E) pins D f s'):SP X pins D f s':=by
 cases f with
 | next=>obtain⟨σ',H',I,q⟩:=h;exact⟨σ',H',I.unwish,q⟩
 | brk=>obtain⟨σ',H',I,q⟩:=h;exact⟨σ',H',I.unwish,q⟩
 | cont=>obtain⟨σ',H',I,q⟩:=h;exact⟨σ',H',I.unwish,q⟩
 | ret u=>obtain⟨v,σ',H',I,r,q⟩:=h;exact⟨v,σ',H',I.unwish,r,q⟩
theorem PSs.nox {st:List Stmt}{t:TS}(h:PSs X.nox st t):PSs X st t:=fun pins s σ H D I hw=>
 lQr (h pins s σ H D (I.wish _) hw) (fun _ _ q=>q.unwish) fun _ _ z=>False.elim z
variable {e:Expr}{te:TE}
section
variable {st:Stmt}{rest:List Stmt}{t u:TS}
theorem Inv.quiet (I:Inv X pins σ H s):interactive X.env=false:=by simp[interactive,I.ok.kind]
def tRetN:TS:=fun D _ H=>D.rt .non H
end
abbrev TSet:=V->V->V->Hp->(Hp->Prop)->Prop
def PSet (X:Cx)(t:TSet):Prop:=
 ∀(pins:List (Addr×Obj)) (s:Shared) (σ:St) (H:Hp) (o i v:V) (ov iv u:Value) (Q:Hp->Prop),Inv X pins σ H s->RelV o ov->RelV i iv->RelV v u->t o i v H Q->
  wpAny (model X.prog X.w) X.A (setItem ov iv u) (fun _ s'=>∃H',Inv X pins σ H' s'/\Q H') X.xe s
structure It where
 go:Nat->Hp->Prop
 yld:Nat->Hp->V->Hp->Prop
 stop:Nat->Hp->Prop
def FpOk (X:Cx)(pins:List (Addr×Obj))(H:Hp)(b:Addr):Prop:=
 H b=none/\b≠X.env.locals/\b∉X.fs/\(b∈X.ex\/X.s₀.heap.objs.size<=b)/\(∀x c,X.env.cells.lookup x=some c->c≠b)/\∀p∈X.pn++pins,p.1≠b
theorem Inv.fpOk (I:Inv X pins σ H s)(hb:s.heap.objs.size<=b)(hn:H' b=none):FpOk X pins H' b:=by
 refine⟨hn,lVe (lKo I.lt hb),I.nofs hb,.inr (lKb I.sz hb),fun x c e z=> ?_,fun p hp z=> ?_⟩
 ·obtain⟨v,q⟩:=I.cell x c e
  exact absurd (lKo q.lt (by rw[z];exact hb)) (lV2 _)
 ·exact absurd (lKo (lJl (I.pin p hp).1) (by rw[z];exact hb)) (lV2 _)
structure Turn (P:Program) (w:World) (K:PySem.W.Frag) (tg:Expr) (J:It) (fp:List Addr) (it:Addr) (tn:Nat->Heap->Prop):Prop where
 mem:it∈fp
 obj:∀i h,tn i h->∀b∈fp,∃o,h.get? b=some o/\∀v,o.data≠ .cell v
 keep:∀i h h',tn i h->(∀b∈fp,∀o,h.get? b=some o->h'.get? b=some o)->tn i h'
 item:∀(X:Cx),X.prog=P->X.w=w->X.K=K->X.calm=true->∀(i:Nat) (pins:List (Addr×Obj)) (s:Shared) (σ:St) (H:Hp) (E:Value->Shared->Prop),Inv X pins σ H s->(∀b∈fp,FpOk X pins H b)->tn i s.heap->J.go i H->
  wpAny (model P w) X.A (pyNext (.ref it)) (fun r s1=>∃u,r=some u/\
   wpAny (model P w) X.A (letOwnedTupleGo tg (.ref it) u) (fun _ s2=>∃x H',Inv X pins σ H' s2/\RelV x u/\J.yld i H x H'/\tn (i+1) s2.heap/\∀b∈fp,H' b=none) E s1) E s
 done:∀(X:Cx),X.prog=P->X.w=w->X.K=K->X.calm=true->∀(i:Nat) (pins:List (Addr×Obj)) (s:Shared) (σ:St) (H:Hp) (E:Value->Shared->Prop),Inv X pins σ H s->(∀b∈fp,FpOk X pins H b)->tn i s.heap->J.stop i H->
  wpAny (model P w) X.A (pyNext (.ref it)) (fun r s1=>r=none/\Inv X pins σ H s1) E s
 self:∀(A:Around) (i:Nat) (s:Shared) (Q:Value->Shared->Prop) (E:Value->Shared->Prop),tn i s.heap->Q (.ref it) s->wpAny (model P w) A (pyIter (.ref it)) Q E s
abbrev TI:=St->Hp->(It->Hp->Prop)->Prop
def PIE (X:Cx)(pins:List (Addr×Obj))(σ:St)(tg:Expr)(R:It->Hp->Prop)(itv:Value)(s2:Shared):Prop:=
 ∃(it:Addr) (fp:List Addr) (tn:Nat->Heap->Prop) (J:It) (H':Hp),itv= .ref it/\Inv X pins σ H' s2/\Turn X.prog X.w X.K tg J fp it tn/\tn 0 s2.heap/\(∀b∈fp,FpOk X pins H' b)/\R J H'
variable {tg:Expr}
theorem qQx {o:Obj}{n:String}{vs:Array Value}(ho:s.heap.get? it=some o)(hc:o.cls= .type n)(hd:o.data= .fields vs)(hn:["enumerate","zip","dict_itemiterator","dict_reverseitemiterator","odict_iterator","itertools.zip_longest","itertools.pairwise"].contains n=false)(hQ:Q () s):wpAny M A (letOwnedTupleGo tg (.ref it) u) Q E s:=by
 unfold letOwnedTupleGo
 cases tg<;>first
  | exact lJf hQ
  | (cases u<;>first
    | exact lJf hQ
    | (refine lJc (wpAny_load ho ?_)
       rw[hc,hd]
       show wpAny M A (if (["enumerate","zip","dict_itemiterator","dict_reverseitemiterator","odict_iterator","itertools.zip_longest","itertools.pairwise"].contains n&&vs[0]? == some (rawInt _))=true then _ else _) Q E s
       rw[lJa (by intro h;rw[hn,lV3] at h;cases h)]
       exact lJf hQ))
noncomputable def Itl (K:PySem.W.Frag)(a:Addr):It:=
 ⟨fun i H=>∃xs x,SqL K H a xs/\xs[i]? =some x,fun i H x H'=>H'=H/\∀xs,SqL K H a xs->xs[i]? =some x,fun i H=>∃xs,SqL K H a xs/\xs.length<=i⟩
noncomputable def Itt (K:PySem.W.Frag)(a:Addr):It:=
 ⟨fun i H=>∃xs x,SqT K H a xs/\xs[i]? =some x,fun i H x H'=>H'=H/\∀xs,SqT K H a xs->xs[i]? =some x,fun i H=>∃xs,SqT K H a xs/\xs.length<=i⟩
noncomputable def Itr (lo:Int)(n:Nat):It:=⟨fun i _=>i<n,fun i H x H'=>H'=H/\x= .int (lo+i),fun i _=>n<=i⟩
theorem qJ0 (a it:Addr):Turn P w K tg (Itl K a) [it] it (fun i h=>h.IsListIter it a i) where
 mem:=by simp
 obj:=fun i h st b hb=>by
  have e:b=it:=by simpa using hb
  subst e
  obtain⟨o,e,c,d⟩:=st
  exact⟨o,e,fun v z=>by rw[d] at z;cases z⟩
 keep:=fun i h h' st k=>st.at fun o e=>k it (by simp) o e
 item:=by
  intro X hP hw hK hc i pins s σ H E I hf st hg
  subst hP hw hK
  obtain⟨xs,x,hq,hx⟩:=hg
  obtain⟨its,rv,p,hz⟩:=I.list hq
  obtain⟨u,hu,ru⟩:=rv.get hx
  obtain⟨f0,f1,f2,f3,f4,f5⟩:=hf it (by simp)
  refine wpAny_pyNext_list_item st p.isList (x:=u) (by simpa using hu) fun h' st' sb=> ?_
  have I1:Inv X pins σ H {s with heap:=h'}:=I.turned (t':=s.toks) (fun b o hb e=>(sb.2 b hb).trans e) f0 f1 f3 f4 f5
  obtain⟨o,e,c,d⟩:=id st'
  exact⟨u,rfl,qQx (s:={s with heap:=h'}) e c d (by decide) ⟨x,H,I1,ru,⟨rfl,fun ys hy=>by rw[I.list_inj hy hq];exact hx⟩,st',fun b hb=>(hf b hb).1⟩⟩
 done:=by
  intro X hP hw hK hc i pins s σ H E I hf st hg
  subst hP hw hK
  obtain⟨xs,hq,hx⟩:=hg
  obtain⟨its,rv,p,hz⟩:=I.list hq
  obtain⟨f0,f1,f2,f3,f4,f5⟩:=hf it (by simp)
  have hl:=rv.length
  exact wpAny_pyNext_list_end (I.ok.hd hc) st p.isList (by simp;omega) fun h' eb=>⟨rfl,I.turned (t':=s.toks) (fun b o hb e=>eb b o hb e) f0 f1 f3 f4 f5⟩
 self:=fun _ _ _ _ _ st h=>wpAny_pyIter_listiter st h
theorem kZv (a it:Addr):Turn P w K tg (Itt K a) [it] it (fun i h=>h.IsTupleIter it a i) where
 mem:=by simp
 obj:=fun i h st b hb=>by
  have e:b=it:=by simpa using hb
  subst e
  obtain⟨o,e,c,d⟩:=st
  exact⟨o,e,fun v z=>by rw[d] at z;cases z⟩
 keep:=fun i h h' st k=>st.at fun o e=>k it (by simp) o e
 item:=by
  intro X hP hw hK hc i pins s σ H E I hf st hg
  subst hP hw hK
  obtain⟨xs,x,hq,hx⟩:=hg
  obtain⟨its,rv,p,hz⟩:=I.tuple hq
  obtain⟨u,hu,ru⟩:=rv.get hx
  obtain⟨f0,f1,f2,f3,f4,f5⟩:=hf it (by simp)
  refine wpAny_pyNext_tuple_item st (show s.heap.IsTuple a its.toArray from p) (x:=u) (by simpa using hu) fun h' st' sb=> ?_
  have I1:Inv X pins σ H {s with heap:=h'}:=I.turned (t':=s.toks) (fun b o hb e=>(sb.2 b hb).trans e) f0 f1 f3 f4 f5
  obtain⟨o,e,c,d⟩:=id st'
  exact⟨u,rfl,qQx (s:={s with heap:=h'}) e c d (by decide) ⟨x,H,I1,ru,⟨rfl,fun ys hy=>by rw[I.tuple_inj hy hq];exact hx⟩,st',fun b hb=>(hf b hb).1⟩⟩
 done:=by
  intro X hP hw hK hc i pins s σ H E I hf st hg
  subst hP hw hK
  obtain⟨xs,hq,hx⟩:=hg
  obtain⟨its,rv,p,hz⟩:=I.tuple hq
  obtain⟨f0,f1,f2,f3,f4,f5⟩:=hf it (by simp)
  have hl:=rv.length
  exact wpAny_pyNext_tuple_end (I.ok.hd hc) st (show s.heap.IsTuple a its.toArray from p) (by simp;omega) fun h' eb=>⟨rfl,I.turned (t':=s.toks) (fun b o hb e=>eb b o hb e) f0 f1 f3 f4 f5⟩
 self:=fun _ _ _ _ _ st h=>wpAny_pyIter_tupleiter st h
theorem kZw (it:Addr)(lo:Int)(n:Nat):Turn P w K tg (Itr lo n) [it] it (fun i h=>IsRangeIter h it (lo+(i:Nat)*1) ((n:Int)-(i:Nat)) 1) where
 mem:=by simp
 obj:=fun i h st b hb=>by
  have e:b=it:=by simpa using hb
  subst e
  exact⟨_,st,fun v z=>by
   have z':Data.fields _=Data.cell v:=z
   cases z'⟩
 keep:=fun i h h' st k=>k it (by simp) _ st
 item:=by
  intro X hP hw hK hc i pins s σ H E I hf st hg
  subst hP hw hK
  obtain⟨f0,f1,f2,f3,f4,f5⟩:=hf it (by simp)
  have W:=Walks.range (prog:=X.prog) (w:=X.w) (I.ok.hd hc) it lo 1 n
  refine W.item i s _ _ hg st fun v h' tk hv st' kk=> ?_
  obtain⟨t,rfl⟩:=hv
  have I1:Inv X pins σ H {s with heap:=h',toks:=tk}:=I.turned (fun b o hb e=>kk b o (by simpa using hb) e) f0 f1 f3 f4 f5
  refine⟨_,rfl,qQx (s:={s with heap:=h',toks:=tk}) (n:="range_iterator") st' rfl rfl (by decide) ⟨.int (lo+i),H,I1,⟨t,?_⟩,⟨rfl,rfl⟩,st',fun b hb=>(hf b hb).1⟩⟩
  rw[Int.mul_one]
 done:=by
  intro X hP hw hK hc i pins s σ H E I hf st hg
  subst hP hw hK
  obtain⟨f0,f1,f2,f3,f4,f5⟩:=hf it (by simp)
  exact wpAny_pyNext_range_end (I.ok.hd hc) st (by have:n<=i:=hg;omega) fun h' eb=>⟨rfl,I.turned (t':=s.toks) (fun b o hb e=>eb b o hb e) f0 f1 f3 f4 f5⟩
 self:=fun _ _ _ _ _ st h=>wpAny_pyIter_rangeiter st h
variable {fp:List Addr}
theorem kYn {R:It->Hp->Prop}{lo hi:Int}{t u v:Tok}{tk:Nat}(I:Inv X pins σ H s)(h1: -(2^62)<=lo)(h2:lo<2^62)(h3: -(2^62)<=hi)(h4:hi<2^62)(q:R (Itr lo (hi-lo).toNat) H):wpAny (model X.prog X.w) X.A (pyIter (.ref s.heap.objs.size)) (PIE X pins σ tg R) E {s with heap:=s.heap.push {cls:= .type "range",data:= .fields #[.int lo t,.int hi u,.int 1 v]},toks:=tk}:=by
 refine wpAny_pyIter_range (IsRange.new ..) (small_one h1 h2 h3 h4) ?_
 have I1:Inv X pins σ H {s with heap:=s.heap.push {cls:= .type "range",data:= .fields #[.int lo t,.int hi u,.int 1 v]},toks:=tk}:=I.kept fun b o e=>lJu _ e
 refine⟨(s.heap.push {cls:= .type "range",data:= .fields #[.int lo t,.int hi u,.int 1 v]}).objs.size,[(s.heap.push {cls:= .type "range",data:= .fields #[.int lo t,.int hi u,.int 1 v]}).objs.size],_,_,H,rfl,
  I1.kept (t':=tk) fun b o e=>lJu _ e,kZw _ lo (hi-lo).toNat,?_,fun b hb=> ?_,q⟩
 ·have e1:lo+((0:Nat):Int)*1=lo:=by simp
  have e2:(((hi-lo).toNat:Nat):Int)-((0:Nat):Int)=Builtin.Range.rangeSize lo hi 1:=by rw[rangeSize_one];split<;>omega
  show IsRangeIter _ _ (lo+((0:Nat):Int)*1) ((((hi-lo).toNat:Nat):Int)-((0:Nat):Int)) 1
  rw[e1,e2]
  exact lJ8 _ rfl
 ·have e:b=(s.heap.push {cls:= .type "range",data:= .fields #[.int lo t,.int hi u,.int 1 v]}).objs.size:=by simpa using hb
  subst e
  exact I1.fpOk (lJj _) (I1.hok.fresh (lJj _))
noncomputable def jXk (fp:List Addr)(h:Heap):List (Addr×Obj):=fp.filterMap fun b=>(h.get? b).map fun o=>(b,o)
theorem jXb {o:Obj}(hb:b∈fp)(e:h.get? b=some o):(b,o)∈jXk fp h:=lXj.mpr ⟨b,hb,by rw[e];rfl⟩
theorem qK6 {p:Addr×Obj}(hp:p∈jXk fp h):p.1∈fp/\h.get? p.1=some p.2:=by
 obtain⟨b,hb,e⟩:=lXj.mp hp
 cases q:h.get? b with
 | none=>rw[q] at e;cases e
 | some o=>
  rw[q] at e
  have e':(b,o)=p:=lJ0 e
  subst e'
  exact⟨hb,q⟩
theorem Inv.pinned (I:Inv X pins σ H s)(hf:∀b∈fp,FpOk X pins H b)(ho:∀b∈fp,∃o,s.heap.get? b=some o/\∀v,o.data≠ .cell v):Inv X (pins++jXk fp s.heap) σ H s:=
 I.pins_of fun p hp=>(lJm.mp hp).elim (fun z=>I.pin p (lJ5 _ z)) fun z=>by
  obtain⟨hb,e⟩:=qK6 z
  obtain⟨f0,f1,f2,_⟩:=hf p.1 hb
  obtain⟨o,e',d⟩:=ho p.1 hb
  rw[e] at e';cases e'
  exact⟨e,f0,f1,f2,d⟩
theorem Inv.unpinned {pl:List (Addr×Obj)}(I:Inv X (pins++pl) σ H s):Inv X pins σ H s:=I.pins_of fun p hp=>I.pin p (lJ5 _ (lKh _ hp))
abbrev R2:=V->V->Hp->VK->Prop
def OpR (X:Cx)(f:Value->Value->Sem Value)(r:R2):Prop:=
 ∀(pins:List (Addr×Obj)) (s:Shared) (σ:St) (H:Hp) (x y:V) (v u:Value) (Q:VK),Inv X pins σ H s->RelV x v->RelV y u->r x y H Q->
  wpAny (model X.prog X.w) X.A (f v u) (EP X pins σ Q) X.xe s
def UnR (X:Cx)(f:Value->Sem Value)(r:V->Hp->VK->Prop):Prop:=
 ∀(pins:List (Addr×Obj)) (s:Shared) (σ:St) (H:Hp) (x:V) (v:Value) (Q:VK),Inv X pins σ H s->RelV x v->r x H Q->
  wpAny (model X.prog X.w) X.A (f v) (EP X pins σ Q) X.xe s
def kUn (X:Cx)(f:Value)(r:List V->Hp->VK->Prop):Prop:=
 ∀(pins:List (Addr×Obj)) (s:Shared) (σ:St) (H:Hp) (xs:List V) (us:List Value) (Q:VK),Inv X pins σ H s->Vals xs us->r xs H Q->
  wpAny (model X.prog X.w) X.A (call f us) (EP X pins σ Q) X.xe s
def TruR (X:Cx)(r:V->Hp->(Bool->Hp->Prop)->Prop):Prop:=
 ∀(pins:List (Addr×Obj)) (s:Shared) (σ:St) (H:Hp) (x:V) (v:Value) (Q:Bool->Hp->Prop),Inv X pins σ H s->RelV x v->r x H Q->
  wpAny (model X.prog X.w) X.A (truthy v) (TP X pins σ Q) X.xe s
def rI (C:Int->Int->Prop)(g:Int->Int->V):R2:=fun x y H Q=>∃i j,x= .int i/\y= .int j/\C i j/\Q (g i j) H
def rI0 (g:Int->Int->V):R2:=fun x y H Q=>∃i j,x= .int i/\y= .int j/\Q (g i j) H
def rU (g:Int->V):V->Hp->VK->Prop:=fun x H Q=>∃i,x= .int i/\Q (g i) H
variable {c:Expr}{tc:TE}{g:Int->Int->Int}
section
variable {a b:Expr}
theorem opI {f:Value->Value->Sem Value}{C:Int->Int->Prop}(rule:∀(i j:Int) (t u:Tok) (s:Shared) (Q:Value->Shared->Prop) (E:Value->Shared->Prop),C i j->Q (.int (g i j) s.toks) {s with toks:=s.toks+1}->wpAny (model X.prog X.w) X.A (f (.int i t) (.int j u)) Q E s):
  OpR X f (rI C fun i j=> .int (g i j)):=by
 intro pins s σ H x y v u Q I rx ry h
 obtain⟨i,j,rfl,rfl,hc,q⟩:=h
 obtain⟨t,rfl⟩:=rx
 obtain⟨t',rfl⟩:=ry
 exact rule i j t t' s _ _ hc ⟨.int (g i j),H,I.tok _,⟨_,rfl⟩,q⟩
theorem opI0 {f:Value->Value->Sem Value}(rule:∀(i j:Int) (t u:Tok) (s:Shared) (Q:Value->Shared->Prop) (E:Value->Shared->Prop),Q (.int (g i j) s.toks) {s with toks:=s.toks+1}->wpAny (model X.prog X.w) X.A (f (.int i t) (.int j u)) Q E s):
  OpR X f (rI0 fun i j=> .int (g i j)):=by
 intro pins s σ H x y v u Q I rx ry h
 obtain⟨i,j,rfl,rfl,q⟩:=h
 obtain⟨t,rfl⟩:=rx
 obtain⟨t',rfl⟩:=ry
 exact rule i j t t' s _ _ ⟨.int (g i j),H,I.tok _,⟨_,rfl⟩,q⟩
theorem opB0 {f:Value->Value->Sem Value}{g:Int->Int->Bool}(rule:∀(i j:Int) (t u:Tok) (s:Shared) (Q:Value->Shared->Prop) (E:Value->Shared->Prop),Q (.bool (g i j)) s->wpAny (model X.prog X.w) X.A (f (.int i t) (.int j u)) Q E s):
  OpR X f (rI0 fun i j=> .bl (g i j)):=by
 intro pins s σ H x y v u Q I rx ry h
 obtain⟨i,j,rfl,rfl,q⟩:=h
 obtain⟨t,rfl⟩:=rx
 obtain⟨t',rfl⟩:=ry
 exact rule i j t t' s _ _ ⟨.bl (g i j),H,I,rfl,q⟩
def CDiv (i j:Int):Prop:=0<j/\j<1073741824
def CPow (i j:Int):Prop:=0<=j/\j<=1000000/\i.natAbs<2^64
def CMul (i j:Int):Prop:=(-(2^64)<i/\i<2^64)\/(-(2^64)<j/\j<2^64)
theorem CMul.ok {i j:Int}(h:CMul i j):IntMulOk i j:=by
 rcases h with ⟨h1,h2⟩ | ⟨h1,h2⟩
 ·exact .of_left (intBits_le_64 h1 h2)
 ·exact .of_right (intBits_le_64 h1 h2)
theorem op_add:OpR X (binaryOp .Add) (rI0 fun i j=> .int (i+j)):=opI0 fun _ _ _ _ _ _ _ q=>add_int q
theorem op_sub:OpR X (binaryOp .Sub) (rI0 fun i j=> .int (i-j)):=opI0 fun _ _ _ _ _ _ _ q=>sub_int q
theorem op_mul:OpR X (binaryOp .Mult) (rI CMul fun i j=> .int (i*j)):=opI fun _ _ _ _ _ _ _ hc q=>mul_int q hc.ok
theorem qZm:OpR X (binaryOp .FloorDiv) (rI CDiv fun i j=> .int (i / j)):=opI fun i j _ _ _ _ _ hc q=>by
 have h1:(0:Int)<j:=hc.1
 have h2:j<1073741824:=hc.2
 exact floordiv_int (by omega) (by rw[Int.fdiv_eq_ediv_of_nonneg i (by omega)];exact q) (.inl (PyProof.noPylong_small (by omega)))
theorem op_mod:OpR X (binaryOp .Mod) (rI (fun _ j=>0<j) fun i j=> .int (i%j)):=opI fun i j _ _ _ _ _ hc q=>by
 have h1:(0:Int)<j:=hc
 exact mod_int' (by omega) (by rw[Int.fmod_eq_emod_of_nonneg i (by omega)];exact q)
theorem op_pow:OpR X (binaryOp .Pow) (rI CPow fun i j=> .int (i^j.toNat)):=opI fun _ _ _ _ _ _ _ hc q=>pow_int_small hc.1 hc.2.1 hc.2.2 q
theorem unI {f:Value->Sem Value}{g:Int->Int}(rule:∀(i:Int) (t:Tok) (s:Shared) (Q:Value->Shared->Prop) (E:Value->Shared->Prop),Q (.int (g i) s.toks) {s with toks:=s.toks+1}->wpAny (model X.prog X.w) X.A (f (.int i t)) Q E s):
  UnR X f (rU fun i=> .int (g i)):=by
 intro pins s σ H x v Q I rx h
 obtain⟨i,rfl,q⟩:=h
 obtain⟨t,rfl⟩:=rx
 exact rule i t s _ _ ⟨.int (g i),H,I.tok _,⟨_,rfl⟩,q⟩
theorem un_neg:UnR X (unaryOp .USub) (rU fun i=> .int (-i)):=unI fun _ _ _ _ _ q=>neg_int q
end
section
variable {a b:Expr}
theorem op_lt:OpR X (compareOp .Lt) (rI0 fun i j=> .bl (decide (i<j))):=opB0 fun _ _ _ _ _ _ _ q=>lt_int q
theorem op_le:OpR X (compareOp .LtE) (rI0 fun i j=> .bl (decide (i<=j))):=opB0 fun _ _ _ _ _ _ _ q=>le_int q
theorem op_gt:OpR X (compareOp .Gt) (rI0 fun i j=> .bl (decide (j<i))):=opB0 fun _ _ _ _ _ _ _ q=>gt_int q
theorem op_ge:OpR X (compareOp .GtE) (rI0 fun i j=> .bl (decide (j<=i))):=opB0 fun _ _ _ _ _ _ _ q=>ge_int q
theorem nomark (b:Expr){op:CmpOp}(h:op≠ .In:=by decide)(h2:op≠ .NotIn:=by decide):behindInMarks op b=false:=by
 have e1:(op == CmpOp.In)=false:=by cases op<;>first | rfl | exact absurd rfl h
 have e2:(op == CmpOp.NotIn)=false:=by cases op<;>first | rfl | exact absurd rfl h2
 cases b<;>simp[behindInMarks,e1,e2]
def TruV (K:PySem.W.Frag)(x:V)(H:Hp)(k:Bool):Prop:=
 match x with
 | .non=>k=false
 | .bl b=>k=b
 | .int i=>k=(i != 0)
 | .str y=>y.length<=sizeLine/\k=((y.length:Int) != 0)
 | .byt y=>y.size<=sizeLine/\k=((y.size:Int) != 0)
 | .ref p=>(∃xs,SqL K H p xs/\k= !xs.isEmpty)\/(∃xs,SqT K H p xs/\k= !xs.isEmpty)\/∃kvs,H p=some (.dK kvs)/\k= !kvs.isEmpty
 | _=>False
theorem qJj {κ:Type}{kvs:List (κ×V)}{vs:List (κ×Value)}(r:KV kvs vs):(!vs.isEmpty)= !kvs.isEmpty:=by
 cases r<;>rfl
theorem kKy {xs:List V}{its:List Value}(r:Vals xs its):(!its.toArray.isEmpty)= !xs.isEmpty:=by
 cases r<;>simp
theorem kKw:(sizeLine:Nat)<2^63:=by rw[lK7];decide
theorem tru_ok:TruR X (fun x H Q=>∃k,TruV X.K x H k/\Q k H):=by
 intro pins s σ H x v Q I rx h
 obtain⟨k,e,q⟩:=h
 have hl:=kKw
 have hs:sizeLine=16777216:=lK7
 cases x with
 | non=>
  cases rx
  have e':k=false:=e
  subst e'
  exact truthy_none ⟨H,I,q⟩
 | bl b=>
  cases rx
  have e':k=b:=e
  subst e'
  exact lVc ⟨H,I,q⟩
 | int i=>
  obtain⟨t,rfl⟩:=rx
  have e':k=(i != 0):=e
  subst e'
  exact PySem.P.truthy_int ⟨H,I,q⟩
 | str y=>
  obtain⟨t,rfl⟩:=rx
  obtain⟨hy,e'⟩:y.length<=sizeLine/\k=((y.length:Int) != 0):=e
  subst e'
  exact PySem.P.truthy_str (by omega) ⟨H,I.tok _,q⟩
 | byt y=>
  obtain⟨t,rfl⟩:=rx
  obtain⟨hy,e'⟩:y.size<=sizeLine/\k=((y.size:Int) != 0):=e
  subst e'
  exact PySem.W.truthy_bytes (by omega) ⟨H,I.tok _,q⟩
 | ref p=>
  cases rx
  have e':(∃xs,SqL X.K H p xs/\k= !xs.isEmpty)\/(∃xs,SqT X.K H p xs/\k= !xs.isEmpty)\/∃kvs,H p=some (.dK kvs)/\k= !kvs.isEmpty:=e
  rcases e' with ⟨xs,hx,e'⟩ | ⟨xs,hx,e'⟩ | ⟨kvs,hx,e'⟩
  ·subst e'
   obtain⟨its,r,pl,hz⟩:=I.list hx
   have hlen:=r.length
   exact wpAny_truthy_list pl.isList (by simp only[lJs];omega) ⟨H,I.tok _,by rw[kKy r];exact q⟩
  ·subst e'
   obtain⟨its,r,pl,hz⟩:=I.tuple hx
   have hlen:=r.length
   exact truthy_tuple pl (by simp only[lJs];omega) ⟨H,I.tok _,by rw[kKy r];exact q⟩
  ·subst e'
   obtain⟨hz,hS,vs,r,m⟩:kvs.length<=sizeLine/\(p == sysModules)=false/\∃vs,KV kvs vs/\s.heap.DictOf (jQp X.prog X.w) p vs:=I.hok p _ hx
   have hlen:kvs.length=vs.length:=lQ4 r
   exact wpAny_truthy_dict hS m (by omega) ⟨H,I.tok _,by rw[qJj r];exact q⟩
 | _=>exact (show False from e).elim
theorem kVy {x:V}(r:Vals [x] us):∃u,us=[u]/\RelV x u:=by
 cases r with
 | cons r1 r2=>cases r2;exact⟨_,rfl,r1⟩
theorem vals2 {x y:V}(r:Vals [x,y] us):∃u w',us=[u,w']/\RelV x u/\RelV y w':=by
 cases r with
 | cons r1 r2=>
  cases r2 with
  | cons r3 r4=>cases r4;exact⟨_,_,rfl,r1,r3⟩
theorem qXt:kUn X (.builtin "abs") (fun xs H Q=>∃i,xs=[.int i]/\Q (.int (if i<0 then -i else i)) H):=by
 intro pins s σ H xs us Q I r h
 obtain⟨i,rfl,q⟩:=h
 obtain⟨u,rfl,t,rfl⟩:=kVy r
 exact call_abs_int fun u tk=>⟨.int (if i<0 then -i else i),H,I.tok _,⟨_,rfl⟩,q⟩
theorem qUp (hc:X.calm=true):kUn X (.builtin "max") (fun xs H Q=>∃i j,xs=[.int i,.int j]/\Q (.int (if j>i then j else i)) H):=by
 intro pins s σ H xs us Q I r h
 obtain⟨i,j,rfl,q⟩:=h
 obtain⟨u,w',rfl,⟨t,rfl⟩,⟨t',rfl⟩⟩:=vals2 r
 refine max_two_ints (I.ok.hd hc) fun h' tk k=>⟨_,H,I.kept k,?_,q⟩
 by_cases hj:j>i
 ·rw[lJb hj,lJb hj];exact⟨_,rfl⟩
 ·rw[lJa hj,lJa hj];exact⟨_,rfl⟩
theorem qUq:kUn X (.type "int") (fun xs H Q=>(∃i,xs=[.int i]/\Q (.int i) H)\/∃k,xs=[.bl k]/\Q (.int (if k then 1 else 0)) H):=by
 intro pins s σ H xs us Q I r h
 rcases h with ⟨i,rfl,q⟩ | ⟨k,rfl,q⟩
 ·obtain⟨u,rfl,t,rfl⟩:=kVy r
  exact call_int_int ⟨.int i,H,I,⟨_,rfl⟩,q⟩
 ·obtain⟨u,rfl,r1⟩:=kVy r
  cases r1
  exact call_int_bool ⟨.int (if k then 1 else 0),H,I.tok _,⟨_,rfl⟩,q⟩
theorem kX3:kUn X (.builtin "divmod") (fun xs H Q=>∃i j,xs=[.int i,.int j]/\CDiv i j/\∀p,H p=none->Q (.ref p) (upd H p (.tup [.int (i / j),.int (i%j)]))):=by
 intro pins s σ H xs us Q I r h
 obtain⟨i,j,rfl,⟨h1,h2⟩,q⟩:=h
 obtain⟨u,w',rfl,⟨t,rfl⟩,⟨t',rfl⟩⟩:=vals2 r
 refine divmod_int (by omega) ?_ (.inl (PyProof.noPylong_small (by omega)))
 rw[Int.fdiv_eq_ediv_of_nonneg i (by omega),Int.fmod_eq_emod_of_nonneg i (by omega)]
 have hn:H s.heap.objs.size=none:=I.hok.fresh (lJj _)
 refine⟨.ref s.heap.objs.size,_,?_,rfl,q _ hn⟩
 refine I.laid (fun b o e=>lJu _ e) (lJj _) ⟨by simp only[lKc,lQh];rw[lK7];decide,[.int (i / j) s.toks,.int (i%j) (s.toks+1)],.cons ⟨_,rfl⟩ (.cons ⟨_,rfl⟩ .nil),?_⟩
 exact⟨_,lJ8 s.heap rfl,rfl,0,rfl,rfl⟩
end
variable {dx C f:Addr}{name:Str}
section
variable {x:Addr}{mA:Str->Option Value}{v:Value}
end
theorem RelO.some_of {v:V}{o:Option Value}(r:RelO (some v) o):∃u,o=some u/\RelV v u:=by
 cases o with
 | none=>exact (show False from r).elim
 | some u=>exact⟨u,rfl,r⟩
section
variable {fs fs':List (Str×V)}
end
section
variable {fs:List (Str×V)}{f:Str}{v:V}
end
section
variable {o value:Expr}{f:Str}{pos' tpos:Pos}{tv:TE}
end
section
variable {Q:Value->Shared->Prop}{c:Value}{b:Bool}
end
structure Room (k:Nat) (A:Around):Prop where
 hd:A.handled=none
 gd:A.guards=some []
 dp:A.depth+3*k+5<recursionLimit
 un:A.units+16*k+200<cLine
theorem Room.mono {k:Nat}(r:Room k A)(h:j<=k):Room j A:=⟨r.hd,r.gd,by have:=r.dp;omega,by have:=r.un;omega⟩
theorem Room.deeper {k:Nat}(r:Room (k+1) A)(env:Env):Room k (A.deeper env):=
 ⟨r.hd,r.gd,by have:=r.dp;show A.depth+1+3*k+5<_;omega,by have:=r.un;show A.units+3+16*k+200<_;omega⟩
theorem Room.depth {k:Nat}(r:Room k A):A.depth<recursionLimit:=by have:=r.dp;omega
theorem Room.units {k:Nat}(r:Room k A):A.units+64<cLine:=by have:=r.un;omega
variable {es:List Expr}
section
variable {t:TA}
end
abbrev Sp:=List V->Hp->VK->XK->Prop
abbrev CXT:=List Env->Hp->Shared->XK->Value->Shared->Prop
structure Env0 (P:Program) (w:World) (K:PySem.W.Frag) (mg:Str->Option Value) (base:Heap) (A:Around) (outer:List Env) (s:Shared) (H:Hp):Prop where
 frames:A.frames=some outer
 mod:Mod K mg base
 bs:∀b o,base.get? b=some o->s.heap.get? b=some o/\H b=none
 bsz:base.objs.size<=s.heap.objs.size
 funs:s.heap.FunFrames base outer
 frf:∀b∈frs outer,H b=none
 hok:HOk P w H s.heap
 bare:AllBare s.gens
def CE (outer:List Env)(P:Program)(w:World)(H:Hp)(s:Shared)(Q:VK)(u:Value)(s':Shared):Prop:=
 ∃v H',s'.os=s.os/\AllBare s'.gens/\Un (frs outer) [] H H' s.heap s'.heap/\HOk P w H' s'.heap/\RelV v u/\Q v H'
def CR (CX:CXT)(outer:List Env)(P:Program)(w:World)(H:Hp)(s:Shared)(Q:VK)(E:XK)(r:Result)(s':Shared):Prop:=
 match r with
 | .ok (.ret u)=>CE outer P w H s Q u s'
 | .ok _=>False
 | .error e=>CX outer H s E e s'
structure FnOk (P:Program) (w:World) (K:PySem.W.Frag) (mg:Str->Option Value) (base:Heap) (CX:CXT) (k:Nat) (f:Addr) (fd:FuncData) (ps:List Str) (sp:Sp):Prop where
 len:∀vs H Q E,sp vs H Q E->vs.length=ps.length
 run:∀(A:Around) (outer:List Env) (s:Shared) (H:Hp) (args:Args) (us:List Value) (vs:List V) (Q:VK) (E:XK),Room k A->Env0 P w K mg base A outer s H->BindsTo s fd args (ps.zip us)->Vals vs us->sp vs H Q E->
  codeAny (model P w) A (.call (.ref f) args) (CR CX outer P w H s Q E) s
theorem Inv.env0 (I:Inv X pins σ H s):Env0 X.prog X.w X.K X.mg X.base X.A X.stack s H:=
 ⟨I.ok.frames,I.ok.mod,I.bs,lKb I.ok.bsz I.sz,I.stack,I.stkFree,I.hok,I.bare⟩
theorem Inv.after {Q:VK}(I:Inv X pins σ H s)(h:CE X.stack X.prog X.w H s Q u s'):EP X pins σ Q u s':=by
 obtain⟨v,H',os,bare,un,hok,r,q⟩:=h
 obtain⟨hh,g,d,t,os'⟩:=s'
 obtain rfl:os'=s.os:=os
 exact⟨v,H',I.call (h':=hh) (g':=g) (d':=d) (t':=t) (ch:=[]) un hok bare (fun b z=>absurd z (by simp)),r,q⟩
def Binds (K:PySem.W.Frag)(fd:FuncData)(ps:List Str)(ds:List Value):Prop:=
 ∀(s:Shared) (us:List Value),K.In s.heap->(us++ds).length=ps.length->BindsTo s fd ⟨us,[]⟩ (ps.zip (us++ds))
variable {fd:FuncData}{ps:List Str}
theorem Binds.all (h:∀us:List Value,us.length=ps.length->bindArgs fd ⟨us,[]⟩=pure (ps.zip us)):Binds K fd ps []:=fun s us _ hl=>by
 rw[lXh] at hl ⊢
 exact .of_eq (h us hl)
def qYv (CX:CXT)(X:Cx)(E:XK):Prop:=∀(pins:List (Addr×Obj)) (σ:St) (H:Hp) (s:Shared) (e:Value) (s':Shared),Inv X pins σ H s->CX X.stack H s E e s'->X.xe e s'
variable {CX:CXT}{sp:Sp}{m:Str}{p apos:Pos}
section
variable {k:Nat}{dvs:List V}{ds:List Value}{E:XK}{o:Expr}{t:TA}
theorem run_fn {Q:VK}{vs:List V}(F:FnOk X.prog X.w X.K X.mg X.base CX k f fd ps sp)(hr:Room k X.A)(hb:Binds X.K fd ps ds)(hd:Vals dvs ds)(hx:qYv CX X E)(I:Inv X pins σ H s)(r:Vals vs us)(h:sp (vs++dvs) H Q E):wpAny (model X.prog X.w) X.A (call (.ref f) us) (EP X pins σ Q) X.xe s:=by
 have r2:Vals (vs++dvs) (us++ds):=r.append hd
 have hl:(us++ds).length=ps.length:=by rw[<-r2.length];exact F.len _ _ _ _ h
 refine wpAny_call (codeAny_mono (F.run X.A X.stack s H ⟨us,[]⟩ (us++ds) (vs++dvs) Q E hr I.env0 (hb s us I.kIn hl) r2 h) fun r s' hq=> ?_)
 cases r with
 | error e=>exact hx pins σ H s e s' I hq
 | ok fl=>
  cases fl with
  | ret u=>exact I.after hq
  | next=>exact False.elim hq
  | brk=>exact False.elim hq
  | cont=>exact False.elim hq
end
section
variable {k:Nat}{ks:List Str}{E:XK}{kpos:Pos}{o:Expr}{kws:List Keyword}{t tk:TA}{nm:Option Str}
variable {g:List Value->List Value->List Value}{gV:List V->List V->List V}
end
structure FnScope (N P:List Str) (sc:Scope):Prop where
 kind:sc.kind= .function
 co:sc.isCoroutine=false
 gen:sc.isGenerator=false
 nd:N.Nodup
 pre:N.take P.length=P
 par:∀x∈P,sc.names.lookup x=some .local\/sc.names.lookup x=some .cell
 nofree:∀y∈sc.names,y.2≠ .free
theorem kVs {kindOf:Str->Option NameKind} {x:Str}:∀ {binds:List (Str×Value)} {m:Str->Option Value},(∀v,(x,v)∉binds)->bindL kindOf binds m x=m x
 | [],_,_=>rfl
 | (n,v)::r,m,h=>by
  unfold bindL
  rw[kVs fun w hw=>h w (lKp _ hw)]
  split
  ·have:x≠n:=by rintro rfl;exact h v lKn
   simp[this]
  ·rfl
theorem kVu {kindOf:Str->Option NameKind} {x:Str}:∀ {binds:List (Str×Value)} {m:Str->Option Value},(∀v,(x,v)∉binds)->bindC kindOf binds m x=m x
 | [],_,_=>rfl
 | (n,v)::r,m,h=>by
  unfold bindC
  rw[kVu fun w hw=>h w (lKp _ hw)]
  split
  ·rfl
  ·have:x≠n:=by rintro rfl;exact h v lKn
   simp[this]
theorem kVt {kindOf:Str->Option NameKind} {x:Str} {v:Value}:∀ {P:List Str} {vs:List Value} {i:Nat} {m:Str->Option Value},P.Nodup->P[i]? =some x->vs[i]? =some v->kindOf x=some .local->
  bindL kindOf (P.zip vs) m x=some v
 | [],_,_,_,_,h,_,_=>by simp at h
 | _::_,[],_,_,_,_,h,_=>by simp at h
 | p::P,w::vs,0,m,nd,h1,h2,hk=>by
  simp at h1 h2;subst h1;subst h2
  show bindL kindOf ((p,w)::P.zip vs) m p=_
  unfold bindL
  rw[kVs fun v hv=>(lQb.mp nd).1 (List.of_mem_zip hv).1,lJb hk]
  simp
 | p::P,w::vs,i+1,m,nd,h1,h2,hk=>by
  show bindL kindOf ((p,w)::P.zip vs) m x=_
  unfold bindL
  exact kVt (i:=i) (lQb.mp nd).2 (by simpa using h1) (by simpa using h2) hk
theorem kVv {kindOf:Str->Option NameKind} {x:Str} {v:Value}:∀ {P:List Str} {vs:List Value} {i:Nat} {m:Str->Option Value},P.Nodup->P[i]? =some x->vs[i]? =some v->kindOf x≠some .local->
  bindC kindOf (P.zip vs) m x=some v
 | [],_,_,_,_,h,_,_=>by simp at h
 | _::_,[],_,_,_,_,h,_=>by simp at h
 | p::P,w::vs,0,m,nd,h1,h2,hk=>by
  simp at h1 h2;subst h1;subst h2
  show bindC kindOf ((p,w)::P.zip vs) m p=_
  unfold bindC
  rw[kVu fun v hv=>(lQb.mp nd).1 (List.of_mem_zip hv).1,lJa hk]
  simp
 | p::P,w::vs,i+1,m,nd,h1,h2,hk=>by
  show bindC kindOf ((p,w)::P.zip vs) m x=_
  unfold bindC
  exact kVv (i:=i) (lQb.mp nd).2 (by simpa using h1) (by simpa using h2) hk
noncomputable def start (N:List Str)(vs:List V):St:=vs.map some++List.replicate (N.length-vs.length) none
noncomputable def cxOf (CX:CXT)(P:Program)(w:World)(K:PySem.W.Frag)(mg:Str->Option Value)(base:Heap)(N:List Str)(qual:Str)(scope:Scope)(f:Addr)(cd:Value)(A:Around)(outer:List Env)(s:Shared)(H:Hp)(E:XK):Cx where
 prog:=P
 w:=w
 K:=K
 mg:=mg
 base:=base
 A:=A.deeper (envOfC qual scope s.heap.objs.size f cd)
 N:=N
 s₀:=s
 H₀:=H
 env:=envOfC qual scope s.heap.objs.size f cd
 outer:=outer
 stack:=envOfC qual scope s.heap.objs.size f cd::outer
 ex:=[]
 calm:=true
 fn:=fun _=>true
 pn:=[]
 xe:=fun e s'=>wpAny (model P w) (A.deeper (envOfC qual scope s.heap.objs.size f cd)) (leaving (envOfC qual scope s.heap.objs.size f cd) e) (fun _ s''=>CX outer H s E e s'') (fun e' s''=>CX outer H s E e' s'') s'
theorem kZq {sc:Scope}{n:Nat}(h:sc.names.lookup x=some .cell):∃c,(cellsFrom n sc.names []).lookup x=some c:=by
 have q:=PySem.W.cellsFrom_some sc.names n [] (.inl h)
 exact lX0.mp q
variable {mg:Str->Option Value}{base:Heap}{qual:Str}{scope:Scope}
theorem qQs {cd:Value}{outer:List Env}{s1:Shared}{E:XK}{vs:List V}(S:FnScope N ps scope)(hd:A.handled=none/\A.guards=some [])(e0:Env0 P w K mg base A outer s H)(hl:vs.length=ps.length)(r:Vals vs us)(x:InCallC s s.heap.objs.size (bindL (envOfC qual scope s.heap.objs.size f cd).kindOf (ps.zip us) fun _=>none) (cellsFrom (s.heap.objs.size+1) scope.names []) (bindC (envOfC qual scope s.heap.objs.size f cd).kindOf (ps.zip us) fun _=>none) s1):
  Inv (cxOf CX P w K mg base N qual scope f cd A outer s H E) [] (start N vs) H s1:=by
 have hpl:ps.length<=N.length:=by have:=lKa List.length S.pre;rw[lQ5] at this;omega
 obtain⟨h1,tk,rfl,hk⟩:=x.done
 have noA:∀b:Addr,b∉(cxOf CX P w K mg base N qual scope f cd A outer s H E).ex:=fun b z=>absurd (show b∈([]:List Addr) from z) (by simp)
 refine⟨⟨e0.mod,S.kind,rfl,rfl,lJj _,fun y z c h1 h2=> ?_,fun y hy=> ?_,fun y c _ h=> ?_,fun _=>hd.1,fun _=>hd.2,Around.frames_deeper e0.frames,.inr ⟨rfl,rfl⟩,fun b z=>absurd z (noA b),e0.bs,e0.bsz,fun b _ _=>noA b,fun b z=>absurd z (noA b),e0.funs,e0.frf⟩,
  rfl,e0.bare,Un.kept hk,⟨_,x.toInCall.ns,fun i y v h1 h2 h3=> ?_⟩,fun y c h=>⟨_,x.cell y c h⟩,e0.hok.fresh (lJj _),fun y c h=> ?_,fun p hp=>absurd (show p∈([]:List (Addr×Obj)) from hp) (by simp),e0.hok.kept hk,?_⟩
 ·exact name_of_addr x.apart (lV4 h1) (lV4 h2)
 ·have hy:scope.names.lookup y=some .cell\/scope.names.lookup y=some .free:=hy
  rcases hy with hy | hy
  ·exact kZq hy
  ·exact absurd rfl (S.nofree _ (lV4 hy))
 ·exact Nat.le_of_lt (x.above y c (lV4 h))
 ·have hi:i<vs.length:=by
   unfold start at h2
   by_cases hi:i<vs.length
   ·exact hi
   ·rw[lKq (by simpa using hi)] at h2
    rw[lX1] at h2
    split at h2<;>cases h2
  have ha:vs[i]? =some v:=by
   unfold start at h2
   rw[lKy (by simpa using hi),lJr] at h2
   cases e:vs[i]? with
   | none=>rw[e] at h2;cases h2
   | some a=>rw[e] at h2;cases h2;rfl
  obtain⟨u,hu,rv⟩:=r.get ha
  have hp:ps[i]? =some y:=by
   rw[<-S.pre,List.getElem?_take_of_lt (by omega)];exact h1
  have ndP:ps.Nodup:=by rw[<-S.pre];exact S.nd.sublist (lVf _ _)
  refine⟨u,rv,?_⟩
  rcases S.par y (lJt hp) with k | k
  ·exact .inl ⟨k,kVt ndP hp hu k⟩
  ·obtain⟨c,e⟩:=kZq (n:=s.heap.objs.size+1) k
   refine .inr ⟨.inl k,c,e,?_⟩
   have q:=x.cell y c e
   rw[kVv ndP hp hu (by show scope.names.lookup y≠_;rw[k];decide)] at q
   exact q
 ·exact e0.hok.fresh (Nat.le_of_lt (x.above y c (lV4 h)))
 ·unfold start
  show _=N.length
  rw[lJv,lJe,List.length_replicate]
  omega
theorem fn_of {k:Nat}{params:Arguments}{body:List Stmt}{dV kV doc pm cdv ct oc:Value}{an od:Option Addr}{osl:Array (Option Value)}(lk:K.lookup f=some ⟨oc,od,.func (PySem.W.fnOf name qual params body scope dV kV doc pm an cdv ct),osl⟩)(hcd:PySem.W.codeIn K cdv qual=true)(S:FnScope N ps scope)(len:∀vs H Q E,sp vs H Q E->vs.length=ps.length)(hbody:∀(A:Around) (outer:List Env) (s:Shared) (H:Hp) (vs:List V) (Q:VK) (E:XK),Room k (A.deeper (envOfC qual scope s.heap.objs.size f cdv))->sp vs H Q E->
   ∃t,PSs (cxOf CX P w K mg base N qual scope f cdv A outer s H E) body t/\t {nx:=fun _ H'=>Q .non H',rt:=Q} (start N vs) H):
  FnOk P w K mg base CX (k+1) f (PySem.W.fnOf name qual params body scope dV kV doc pm an cdv ct) ps sp:=by
 refine⟨len,fun A outer s H args us vs Q E hr e0 hb r hsp=> ?_⟩
 have hl:=len _ _ _ _ hsp
 have KX:K.In s.heap:=e0.mod.kin.keeps fun b o e=>(e0.bs b o e).1
 have lim:s.heap.NoLimit:=e0.mod.nolimit.keeps fun b o e=>(e0.bs b o e).1
 have hkind:∀y∈ps.zip us,scope.names.lookup y.1=some .local\/(scope.names.lookup y.1=some .cell/\((cellsFrom (s.heap.objs.size+1) scope.names []).lookup y.1).isSome=true):=fun ⟨n,v⟩ hy=>by
  rcases S.par n (List.of_mem_zip hy).1 with q | q
  ·exact .inl q
  ·exact .inr ⟨q,PySem.W.cellsFrom_some _ _ _ (.inl q)⟩
 refine codeAny_call_function hr.depth (KX _ _ lk) rfl S.co S.gen rfl (PySem.W.codeRec_of KX hcd) (hb _ _ _ _ ?_)
 refine wpAny_newFunctionEnv_cells S.kind hkind fun env he s1 x=> ?_
 subst he
 refine⟨lim.keeps x.toInCall.keep,codeAny_func ?_⟩
 obtain⟨t,ht,hq⟩:=hbody A outer s H vs Q E (hr.deeper _) hsp
 have I:Inv (cxOf CX P w K mg base N qual scope f cdv A outer s H E) [] (start N vs) H s1:=qQs S ⟨hr.hd,hr.gd⟩ e0 hl r x
 refine lQr (ht [] s1 (start N vs) H _ I hq) (fun fl s' hs=> ?_) fun e s' hs=>hs
 have fin:∀ {σ':St} {H':Hp} {v:V} {u:Value},Inv (cxOf CX P w K mg base N qual scope f cdv A outer s H E) [] σ' H' s'->RelV v u->Q v H'->CE outer P w H s Q u s':=
  fun {σ' H' v u} J rv q=>⟨v,H',J.os,J.bare,J.base,J.hok,rv,q⟩
 cases fl with
 | ret u=>
  obtain⟨v,σ',H',J,rv,q⟩:=hs
  exact fin J rv q
 | next=>
  obtain⟨σ',H',J,q⟩:=hs
  exact fin (v:=V.non) (u:=Value.none) J rfl q
 | brk=>
  obtain⟨_,_,_,q⟩:=hs
  exact False.elim q
 | cont=>
  obtain⟨_,_,_,q⟩:=hs
  exact False.elim q
section
variable {t:TA}{id T:String}{r:List V->Hp->VK->Prop}
end
end L2
namespace HT
open PySem PyProof.Rows
theorem qXl (A:Around)(s:Shared)(a:Int)(t:Tok)(c:Int)(u:Tok):∃e,SeqAt.EqAt A s (.int a t) (.int c u) e/\(e=true↔a=c):=
 ⟨(a == c),SeqAt.EqAt.int_int a t c u,by simp⟩
section
open PySem.SeqAt
open PySem.AutoSeq1 (wpAny_loadPart')
open PySem.MeetsSeq PySem.MeetsSeq2 PySem.MeetsSeq3
end
variable {Q:Value->Shared->Prop}{sl:Addr}{vl vu:Value}{lo hi:Option Int}
section
variable {prog:Program}{w:World}{A:Around}{E:Value->Shared->Prop}{s:Shared}
theorem cat_tup {t b:Addr}{vs ws:List Value}(ht:IsTup s.heap t vs.toArray)(hb:IsTup s.heap b ws.toArray)(hv:vs≠[])(h1:ws=[]->Q (.ref t) s)(h2:ws≠[]->Q (.ref s.heap.objs.size) {s with heap:=s.heap.push {cls:= .type "tuple",data:= .seq (vs++ws).toArray} })(hsz:vs.length+ws.length<=sizeLine):wpAny (model prog w) A (binaryOp .Add (.ref t) (.ref b)) Q E s:=by
 obtain⟨⟨cls,dd,data,sl⟩,ho,hc,n,hd⟩:=id ht
 obtain⟨⟨cls2,dd2,data2,sl2⟩,ho2,hc2,n2,hd2⟩:=id hb
 simp only at hc hd hc2 hd2
 subst hc hd hc2 hd2
 have e:vs.toArray++ws.toArray=(vs++ws).toArray:=by simp
 by_cases hw:ws=[]
 ·exact concat_meets ⟨_,ho,rfl⟩ ⟨_,ho2,rfl⟩ noFill_tuple_add seq_tuple_add PySem.F.slot_tuple_add PySem.F.entry_tuple_add (PySem.F.args_tuple_add_2 _ _)
   (tuple_addW1 t b vs.toArray ws.toArray n n2 dd dd2 sl sl2 (by simpa using hv) (by simp[hw])) ⟨ho,ho2,h1 hw⟩
 ·refine concat_meets ⟨_,ho,rfl⟩ ⟨_,ho2,rfl⟩ noFill_tuple_add seq_tuple_add PySem.F.slot_tuple_add PySem.F.entry_tuple_add (PySem.F.args_tuple_add_2 _ _)
   (tuple_addW2 t b vs.toArray ws.toArray n n2 dd dd2 sl sl2 (by simpa using hv) (by simpa using hw) (by rw[lJs,lJs];exact hsz)) ⟨ho,ho2,?_⟩
  rw[e]
  exact h2 hw
noncomputable def sIx (n d:Nat):Option Int->Nat
 | none=>d
 | some v=>if v<0 then (v+(n:Int)).toNat else min v.toNat n
theorem sIx_none (n d:Nat):sIx n d none=d:=rfl
theorem sIx_nat (n d k:Nat):sIx n d (some (k:Int))=min k n:=by
 show (if (k:Int)<0 then ((k:Int)+(n:Int)).toNat else min (k:Int).toNat n)=min k n
 rw[lJa (by omega),lXk]
theorem sIx_le (n d:Nat)(hd:d<=n)(o:Option Int):sIx n d o<=n:=by
 cases o with
 | none=>exact hd
 | some v=>
  show (if v<0 then (v+(n:Int)).toNat else min v.toNat n)<=n
  by_cases hv:v<0
  ·rw[lJb hv];omega
  ·rw[lJa hv];exact Nat.min_le_right _ _
theorem qUn (v:Int)(n d:Nat):(if v<0 then max (v+(n:Int)) 0 else min v (n:Int))=((sIx n d (some v):Nat):Int):=by
 show (if v<0 then max (v+(n:Int)) 0 else min v (n:Int))=(((if v<0 then (v+(n:Int)).toNat else min v.toNat n):Nat):Int)
 by_cases hv:v<0
 ·simp only[lJb hv];omega
 ·simp only[lJa hv];omega
theorem qJq (lo hi:Option Int)(n:Nat):Builtin.Slice.sliceAdjust lo hi 1 (n:Int)=(((sIx n 0 lo:Nat):Int),((sIx n n hi:Nat):Int)):=by
 have h1:¬ ((1:Int)<0):=by omega
 unfold Builtin.Slice.sliceAdjust
 simp only[h1,lKf]
 refine Prod.ext ?_ ?_
 ·cases lo with
  | none=>rfl
  | some v=>exact qUn v n 0
 ·cases hi with
  | none=>rfl
  | some v=>exact qUn v n n
theorem kZ6 (i j:Nat):Builtin.Slice.slicePlaces (i:Int) (j:Int) 1=j-i:=by
 unfold Builtin.Slice.slicePlaces
 have h1:(1:Int)>0:=by omega
 simp only[h1,lK1,Int.ediv_one]
 split<;>omega
theorem kKs {v:Value}{o:Option Int}{Q:Option Int->Shared->Prop}(p:IsPart v o)(h:Q o s):wpAny (model prog w) A (Builtin.Slice.slicePartIndex v) Q E s:=by
 cases p with
 | none=>exact slicePart_none h
 | int i t=>exact slicePart_int h
theorem jVc {n:Nat}{Q:Int×Int×Nat->Shared->Prop}(hs:s.heap.IsSliceOf sl vl vu .none)(pl:IsPart vl lo)(pu:IsPart vu hi)(h:Q (((sIx n 0 lo:Nat):Int),1,sIx n n hi-sIx n 0 lo) s):wpAny (model prog w) A (Builtin.Slice.sliceApplied (.ref sl) (pure (n:Int))) Q E s:=by
 obtain⟨os,hos,hcs,hds⟩:=id hs
 unfold Builtin.Slice.sliceApplied Builtin.Slice.sliceFields
 refine lJc (lJc (lQ1 hos hds (x:=vl) rfl (lJc (lQ1 hos hds (x:=vu) rfl (lJc (lQ1 hos hds (x:= .none) rfl (lJf ?_)))))))
 refine lJc (slicePart_none ?_)
 show wpAny _ _ (if ((1:Int) == 0)=true then _ else _) _ _ s
 rw[lJa (by decide)]
 refine lJc (kKs pl (lJc (kKs pu (lJc (lJf ?_)))))
 show wpAny _ _ (match Builtin.Slice.sliceAdjust lo hi 1 (n:Int) with | (lo,hi)=>pure (lo,(1:Int),Builtin.Slice.slicePlaces lo hi 1)) _ _ s
 rw[qJq lo hi n]
 show wpAny _ _ (pure (((sIx n 0 lo:Nat):Int),(1:Int),Builtin.Slice.slicePlaces ((sIx n 0 lo:Nat):Int) ((sIx n n hi:Nat):Int) 1)) _ _ s
 rw[kZ6]
 exact lJf h
theorem qVo (xs:Array Value)(i k:Nat):((List.range k).filterMap fun (m:Nat)=>xs[((i:Int)+(m:Int)*1).toNat]?).toArray=((xs.toList.drop i).take k).toArray:=by
 have e:(fun (m:Nat)=>xs[((i:Int)+(m:Int)*1).toNat]?)=fun m=>xs[i+m]? :=by
  funext m
  have:((i:Int)+(m:Int)*1).toNat=i+m:=by omega
  rw[this]
 rw[e]
 have:=pick_run xs i k
 rw[List.filterMap_map] at this
 have e2:((fun x=>xs[x]?)∘fun x=>i+x)=fun m=>xs[i+m]? :=rfl
 rw[e2] at this
 rw[this]
theorem getItem_tuple_cut {t:Addr}{items:Array Value}(ht:IsTup s.heap t items)(hs:s.heap.IsSliceOf sl vl vu .none)(pl:IsPart vl lo)(pu:IsPart vu hi)(hw:¬ (sIx items.size 0 lo=0/\sIx items.size items.size hi=items.size))(h:Q (.ref s.heap.objs.size) {s with heap:=s.heap.push {cls:= .type "tuple",data:= .seq ((items.toList.drop (sIx items.size 0 lo)).take (sIx items.size items.size hi-sIx items.size 0 lo)).toArray} })(hsz:items.size<=sizeLine):wpAny (model prog w) A (getItem (.ref t) (.ref sl)) Q E s:=by
 have htake:sizeOk (.seq ((items.toList.drop (sIx items.size 0 lo)).take (sIx items.size items.size hi-sIx items.size 0 lo)).toArray):=by
  show ((items.toList.drop (sIx items.size 0 lo)).take (sIx items.size items.size hi-sIx items.size 0 lo)).toArray.size<=sizeLine
  rw[lJs,lQ5,lV5,lVo]
  omega
 have hj:sIx items.size items.size hi<=items.size:=sIx_le _ _ (lJj _) hi
 obtain⟨os,hos,hcs,hds⟩:=id hs
 have hTs:s.TypeIs (.ref sl) "slice":=⟨os,hos,hcs⟩
 unfold getItem
 try with_reducible refine lQ2 ?_
 first | refine lJc (lJf ?_) | skip
 refine lJc (wpAny_sequenceKey ht.typeIs (by decide) ?_)
 refine lJc (lVl (name:=Str.ofString "__getitem__") ht.typeIs lV6
  (lQ3 lV6 ht.typeIs entry_tuple_getitem ?_ (args_tuple_getitem _ _)))
 show wpAny _ _ (Builtin.Tuple.tupleItemsOf (.ref t) >>= _) _ _ s
 refine lJc (tupleItemsOf_ ht ?_)
 refine lJc (wpAny_typeOf hTs ?_)
 rw[lJb (by decide)]
 refine lJc (jVc hs pl pu ?_)
 have hno:¬ ((((sIx items.size 0 lo:Nat):Int) == 0&&(1:Int) == 1&&(sIx items.size items.size hi-sIx items.size 0 lo) == items.size)=true):=by
  intro q
  rw[lKu,lKu] at q
  have q1:((sIx items.size 0 lo:Nat):Int)=0:=eq_of_beq q.1.1
  have q2:sIx items.size items.size hi-sIx items.size 0 lo=items.size:=eq_of_beq q.2
  exact hw ⟨by omega,by omega⟩
 show wpAny _ _ (if (((sIx items.size 0 lo:Nat):Int) == 0&&(1:Int) == 1&&(sIx items.size items.size hi-sIx items.size 0 lo) == items.size)=true then _ else _) _ _ s
 rw[lJa hno,qVo]
 first
  | exact lJc (m:=Builtin.Tuple.tupleExact _) (lK8 (lJf ⟨_,rfl,lJf h⟩) htake)
  | exact lJc (m:=Builtin.Tuple.tupleExact _) (lK8 (lJc (lJf (lJf ⟨_,rfl,lJf h⟩))) htake)
  | exact lJc (lJc (m:=Builtin.Tuple.tupleExact _) (lK8 (lJf (lJf ⟨_,rfl,lJf h⟩)) htake))
  | exact lJc (lJc (m:=Builtin.Tuple.tupleExact _) (lK8 (lJf ⟨_,rfl,lJf h⟩) htake))
end
end HT
namespace L2
open PySem PySem.Spec PyProof.Rows
abbrev TO:=St->Hp->(Option Int->Hp->Prop)->Prop
theorem kKz {ns:List Int}:∀ {us:List Value},Vals (ns.map V.int) us->IntsAre us ns:=by
 induction ns with
 | nil=>intro us r;rw[List.map_nil] at r;cases r;exact .nil
 | cons n ns ih=>
  intro us r
  rw[lJ6] at r
  cases r with
  | cons r1 r2=>
   obtain⟨t,e⟩:=r1
   subst e
   exact .cons n t (ih r2)
variable {X:Cx}{e:Expr}{pos:Pos}{xs:List V}{us:List Value}
section
variable {te:TE}{lo hi:Option Expr}{tl th:TO}{p2:Pos}
def SlR (X:Cx)(r:V->Option Int->Option Int->Hp->VK->Prop):Prop:=
 ∀(pins:List (Addr×Obj)) (s:Shared) (σ:St) (H:Hp) (x:V) (v vl vu:Value) (lo hi:Option Int) (sl:Addr) (Q:VK),Inv X pins σ H s->RelV x v->s.heap.IsSliceOf sl vl vu .none->IsPart vl lo->IsPart vu hi->r x lo hi H Q->
  ∃T id,typeLookup (.type T) "__getitem__"=pure (some (.builtin id))/\s.TypeIs v T/\wpAny (model X.prog X.w) X.A (getItem v (.ref sl)) (EP X pins σ Q) X.xe s
noncomputable def cutV (xs:List V)(lo hi:Option Int):List V:=(xs.drop (HT.sIx xs.length 0 lo)).take (HT.sIx xs.length xs.length hi-HT.sIx xs.length 0 lo)
theorem kJ4 (xs:List V)(lo hi:Option Int):(cutV xs lo hi).length<=xs.length:=by
 unfold cutV
 rw[lQ5,lV5]
 omega
noncomputable def rSlT (K:PySem.W.Frag):V->Option Int->Option Int->Hp->VK->Prop:=fun x lo hi H Q=>∃a xs,x= .ref a/\SqT K H a xs/\
 ¬ (HT.sIx xs.length 0 lo=0/\HT.sIx xs.length xs.length hi=xs.length)/\∀p,H p=none->Q (.ref p) (upd H p (.tup (cutV xs lo hi)))
theorem sl_tup:SlR X (rSlT X.K):=by
 intro pins s σ H x v vl vu lo hi sl Q I rx hs pl pu h
 obtain⟨a,xs,rfl,hx,hw,q⟩:=h
 cases rx
 obtain⟨its,r,ht,hz⟩:=I.tuple hx
 have hlen:its.toArray.size=xs.length:=by rw[lJs];exact r.length.symm
 refine⟨"tuple",_,lV6.lookup,ht.typeIs,?_⟩
 refine HT.getItem_tuple_cut ht hs pl pu (by rw[hlen];exact hw) ?_ (by rw[hlen];exact hz)
 rw[hlen]
 refine⟨.ref s.heap.objs.size,_,I.laid (t':=s.toks) (o:= .tup (cutV xs lo hi)) (fun b ob q=>lJu _ q) (lJj _) ?_,rfl,q _ (I.hok.fresh (lJj _))⟩
 exact⟨lKb (kJ4 xs lo hi) hz,_,(r.drop (HT.sIx xs.length 0 lo)).take (HT.sIx xs.length xs.length hi-HT.sIx xs.length 0 lo),TupD.new _ _⟩
noncomputable def qVn (K:PySem.W.Frag):R2:=fun x y H Q=>∃a b xs ys,x= .ref a/\y= .ref b/\SqT K H a xs/\SqT K H b ys/\xs≠[]/\xs.length+ys.length<=sizeLine/\
 (ys=[]->Q (.ref a) H)/\(ys≠[]->∀p,H p=none->Q (.ref p) (upd H p (.tup (xs++ys))))
theorem Vals.nil_iff (r:Vals xs us):us=[]↔xs=[]:=by
 cases r with
 | nil=>simp
 | cons _ _=>simp
theorem qZn:OpR X (binaryOp .Add) (qVn X.K):=by
 intro pins s σ H x y v u Q I rx ry h
 obtain⟨a,b,xs,ys,rfl,rfl,ha,hb,hx,hz,q1,q2⟩:=h
 cases rx
 cases ry
 obtain⟨its,r1,p1,_⟩:=I.tuple ha
 obtain⟨its2,r2,p2,_⟩:=I.tuple hb
 refine HT.cat_tup p1 p2 (fun z=>hx (r1.nil_iff.mp z)) (fun z=>⟨.ref a,H,I,rfl,q1 (r2.nil_iff.mp z)⟩) (fun z=> ?_) (by rw[<-r1.length,<-r2.length];exact hz)
 refine⟨.ref s.heap.objs.size,_,I.laid (t':=s.toks) (o:= .tup (xs++ys)) (fun b ob q=>lJu _ q) (lJj _) ?_,rfl,q2 (fun w=>z (r2.nil_iff.mpr w)) _ (I.hok.fresh (lJj _))⟩
 exact⟨by rw[lJv];exact hz,_,r1.append r2,TupD.new _ _⟩
end
noncomputable def ixN (n:Nat)(i:Int):Option Nat:=if 0<=i then (if i<n then some i.toNat else none) else if -(n:Int)<=i then some (i+n).toNat else none
noncomputable def atI {α:Type}(xs:List α)(i:Int):Option α:=(ixN xs.length i).bind fun j=>xs[j]?
variable {n j:Nat}{i:Int}
theorem qQq (h:ixN n i=some j):seqIndex? i n=some j/\j<n/\ -(n:Int)<=i/\i<n:=by
 unfold ixN at h
 by_cases h0:0<=i
 ·rw[lJb h0] at h
  by_cases h1:i<n
  ·rw[lJb h1] at h
   have e:i.toNat=j:=lJ0 h
   exact⟨by rw[seqIndex_of h0 h1,e],by omega,by omega,h1⟩
  ·rw[lJa h1] at h;cases h
 ·rw[lJa h0] at h
  by_cases h1: -(n:Int)<=i
  ·rw[lJb h1] at h
   have e:(i+n).toNat=j:=lJ0 h
   exact⟨by rw[seqIndex_neg (by omega) h1,e],by omega,h1,by omega⟩
  ·rw[lJa h1] at h;cases h
theorem qUv {α:Type}{xs:List α}{v:α}(h:atI xs i=some v):∃j,seqIndex? i xs.length=some j/\xs[j]? =some v/\j<xs.length/\ -(xs.length:Int)<=i/\i<xs.length:=by
 unfold atI at h
 cases e:ixN xs.length i with
 | none=>rw[e] at h;cases h
 | some j=>
  rw[e] at h
  obtain⟨h1,h2,h3,h4⟩:=qQq e
  exact⟨j,h1,h,h2,h3,h4⟩
theorem atI_nat {α:Type}{xs:List α}{v:α}(h:xs[j]? =some v):atI xs (j:Int)=some v:=by
 have hj:j<xs.length:=(lJg.mp h).1
 have e:ixN xs.length (j:Int)=some j:=by
  unfold ixN
  rw[lJb (by omega),lJb (by omega)];simp
 unfold atI;rw[e];exact h
def uJ2 (b:Expr):Prop:=∀o i,subscripted b false o i=operate [o,i] (getItem o i)
def IxR (X:Cx)(r:R2):Prop:=
 ∀(value slice:Expr) (pins:List (Addr×Obj)) (s:Shared) (σ:St) (H:Hp) (x y:V) (v u:Value) (Q:VK),Inv X pins σ H s->RelV x v->RelV y u->r x y H Q->
  subscripted slice false v u=operate [v,u] (getItem v u)->wpAny (model X.prog X.w) X.A (subscriptTail value slice v u) (EP X pins σ Q) X.xe s
def MtR (X:Cx)(id:String)(r:V->List V->Hp->VK->Prop):Prop:=
 ∀(pins:List (Addr×Obj)) (s:Shared) (σ:St) (H:Hp) (x:V) (xs:List V) (v:Value) (us:List Value) (Q:VK),Inv X pins σ H s->RelV x v->Vals xs us->r x xs H Q->
  wpAny (model X.prog X.w) X.A (call (.builtin id) (v::us)) (EP X pins σ Q) X.xe s
variable {pins:List (Addr×Obj)}{σ:St}{H:Hp}{s:Shared}{p:Addr}{ys:List V}{its its':List Value}{A:Around}{y x:V}{u:Value}{apos cpos:Pos}
section
variable {a b:Expr}{ta tb:TE}
theorem IxR.or {r r':R2}(h:IxR X r)(h':IxR X r'):IxR X (fun x y H Q=>r x y H Q\/r' x y H Q):=by
 intro value slice pins s σ H x y v u Q I rx ry q hs
 rcases q with q | q
 ·exact h value slice pins s σ H x y v u Q I rx ry q hs
 ·exact h' value slice pins s σ H x y v u Q I rx ry q hs
def rIxL (K:PySem.W.Frag):R2:=fun x y H Q=>∃p xs i v,x= .ref p/\y= .int i/\SqL K H p xs/\atI xs i=some v/\Q v H
def rIxT (K:PySem.W.Frag):R2:=fun x y H Q=>∃p xs i v,x= .ref p/\y= .int i/\SqT K H p xs/\atI xs i=some v/\Q v H
theorem ix_list:IxR X (rIxL X.K):=by
 intro value slice pins s σ H x y v u Q I rx ry h hs
 obtain⟨p,xs,i,z,rfl,rfl,hq,he,q⟩:=h
 cases rx
 obtain⟨t,rfl⟩:=ry
 obtain⟨its,r,pl,hz⟩:=I.list hq
 obtain⟨j,h1,h2,h3,h4,h5⟩:=qUv he
 obtain⟨w,ew,rw'⟩:=r.get h2
 have hl:=r.length
 have hn:=kKw
 have fin:EP X pins σ Q w s:=⟨z,H,I,rw',q⟩
 by_cases h0:0<=i
 ·have hj:i.toNat=j:=by
   rw[seqIndex_of h0 h5] at h1
   exact lJ0 h1
  exact item_listR pl.isList h0 (by omega) (by rw[hj];simpa using ew) fin hs
 ·have hj:(i+(its.toArray.size:Int)).toNat=j:=by
   rw[seqIndex_neg (by omega) h4] at h1
   rw[lJs,<-hl]
   exact lJ0 h1
  exact subscriptTail_builtinR (x:=w) pl.isList.typeIs slot_list_getitem.lookup
   (wpAny_getItem_list_neg (Q:=fun r s'=>r=w/\EP X pins σ Q r s') pl.isList (by omega) (by rw[lJs]<;>omega) (by omega) (by rw[hj];simpa using ew) ⟨rfl,fin⟩) hs
theorem ix_tup:IxR X (rIxT X.K):=by
 intro value slice pins s σ H x y v u Q I rx ry h hs
 obtain⟨p,xs,i,z,rfl,rfl,hq,he,q⟩:=h
 cases rx
 obtain⟨t,rfl⟩:=ry
 obtain⟨its,r,pl,hz⟩:=I.tuple hq
 obtain⟨j,h1,h2,h3,h4,h5⟩:=qUv he
 obtain⟨w,ew,rw'⟩:=r.get h2
 have hl:=r.length
 have hn:=kKw
 have fin:EP X pins σ Q w s:=⟨z,H,I,rw',q⟩
 exact subscriptTail_builtinR (x:=w) pl.typeIs slot_tuple_getitem.lookup
  (getItem_tuple (j:=j) (Q:=fun r s'=>r=w/\EP X pins σ Q r s') pl (by omega) (by omega) (by rw[lJs,<-hl];exact h1) (by simpa using ew) ⟨rfl,fin⟩) hs
theorem qJf (its:List Value)(n j:Nat)(u:Value):Obj.mapSeq (·.setIfInBounds j u) {cls:= .type "list",data:= .seq its.toArray n}={cls:= .type "list",data:= .seq (its.set j u).toArray n}:=by
 simp[Obj.mapSeq]
theorem Inv.lst (I:Inv X pins σ H s)(h:H p=some (.lst xs)):
  ∃(its:List Value) (n:Nat),Vals xs its/\s.heap.get? p=some {cls:= .type "list",data:= .seq its.toArray n}/\xs.length<=sizeLine:=by
 obtain⟨z,its,n,r,e⟩:=I.hok p _ h
 exact⟨its,n,r,e,z⟩
theorem Inv.lstUpd {n':Nat}{f:Obj->Obj}(I:Inv X pins σ H s)(h:H p=some (.lst xs))(ho:s.heap.get? p=some {cls:= .type "list",data:= .seq its.toArray n})(hf:f {cls:= .type "list",data:= .seq its.toArray n}={cls:= .type "list",data:= .seq its'.toArray n'})(r:Vals ys its')(hz:ys.length<=sizeLine)(t:Nat):
  Inv X pins σ (upd H p (.lst ys)) {s with heap:=s.heap.update p f,toks:=t}:=by
 have e:(s.heap.update p f).get? p=some {cls:= .type "list",data:= .seq its'.toArray n'}:=by
  rw[lX2 f ho (by rw[hf]<;>rfl),hf]
 refine I.write (x:=p) (e:=p) (by rw[h];trivial) (.inl rfl) (fun b u hb q=>(Heap.get?_update_other _ _ (Ne.symm hb)).trans q) ⟨_,e⟩ ?_
 exact⟨hz,its',n',r,e⟩
def qVm:V->V->V->Hp->(Hp->Prop)->Prop:=fun o i v H Q=>∃p xs k j,o= .ref p/\i= .int k/\H p=some (.lst xs)/\ixN xs.length k=some j/\Q (upd H p (.lst (xs.set j v)))
theorem qVb:PSet X qVm:=by
 intro pins s σ H o i v ov iv u Q I ro ri rv h
 obtain⟨p,xs,k,j,rfl,rfl,hp,hj,q⟩:=h
 cases ro
 obtain⟨t,rfl⟩:=ri
 obtain⟨its,n,r,ho,hz⟩:=I.lst hp
 obtain⟨h1,h2,h3,h4⟩:=qQq hj
 have hl:=r.length
 have hn:=kKw
 have I':Inv X pins σ (upd H p (.lst (xs.set j v))) {s with heap:=s.heap.update p (Obj.mapSeq (·.setIfInBounds j u))}:=
  I.lstUpd hp ho (qJf its n j u) (r.set rv j) (by rw[lQ6];exact hz) s.toks
 by_cases h0:0<=k
 ·have hk:k.toNat=j:=by
   rw[seqIndex_of h0 h4] at h1
   exact lJ0 h1
  exact PySem.W.ki_setAt ho h0 (by omega) (by rw[lJs,<-hl];exact h4) (by rw[hk];exact⟨_,I',q⟩)
 ·have hk:(k+(its.toArray.size:Int)).toNat=j:=by
   rw[seqIndex_neg (by omega) h3] at h1
   rw[lJs,<-hl]
   exact lJ0 h1
  exact PySem.W.ki_setBack ho (by omega) (by rw[lJs,<-hl];exact h3) (by omega) (by rw[hk];exact⟨_,I',q⟩)
theorem kUs (lo hi:Option Int)(n:Nat):(sliceBounds lo hi none n).1=((HT.sIx n 0 lo:Nat):Int)/\(sliceBounds lo hi none n).2.1=((HT.sIx n n hi:Nat):Int)/\(sliceBounds lo hi none n).2.2=1:=by
 refine⟨?_,?_,rfl⟩
 ·cases lo with
  | none=>simp[sliceBounds,HT.sIx]
  | some i=>
   simp only[sliceBounds,HT.sIx,Option.getD_none,show (1:Int)>0 by decide,lK1]
   by_cases h:i<0
   ·simp only[h,lK1]<;>omega
   ·simp only[h,lKf]<;>omega
 ·cases hi with
  | none=>simp[sliceBounds,HT.sIx]
  | some i=>
   simp only[sliceBounds,HT.sIx,Option.getD_none,show (1:Int)>0 by decide,lK1]
   by_cases h:i<0
   ·simp only[h,lK1]<;>omega
   ·simp only[h,lKf]<;>omega
theorem kQg (its:List Value)(lo hi:Option Int):slicePick its.toArray lo hi none=((its.drop (HT.sIx its.length 0 lo)).take (HT.sIx its.length its.length hi-HT.sIx its.length 0 lo)).toArray:=by
 obtain⟨h1,h2,h3⟩:=kUs lo hi its.toArray.size
 unfold slicePick
 rw[h1,h2,h3]
 simp only[sliceRange_one,pick_run,lJs]<;>rfl
def rSlL (K:PySem.W.Frag):V->Option Int->Option Int->Hp->VK->Prop:=fun x lo hi H Q=>∃a xs,x= .ref a/\SqL K H a xs/\∀p,H p=none->Q (.ref p) (upd H p (.lst (cutV xs lo hi)))
theorem qY8:SlR X (rSlL X.K):=by
 intro pins s σ H x v vl vu lo hi sl Q I rx hs pl pu h
 obtain⟨a,xs,rfl,hx,q⟩:=h
 cases rx
 obtain⟨its,r,ht,hz⟩:=I.list hx
 have hlen:=r.length
 refine⟨"list",_,slot_list_getitem.lookup,ht.isList.typeIs,?_⟩
 refine wpAny_getItem_list_slice ht.isList hs pl pu .none (by simp) ?_ (by rw[lJs]<;>omega)
 rw[kQg,<-hlen]
 refine⟨.ref s.heap.objs.size,_,I.laid (t':=s.toks) (o:= .lst (cutV xs lo hi)) (fun b ob q=>lJu _ q) (lJj _) ?_,rfl,q _ (I.hok.fresh (lJj _))⟩
 exact⟨lKb (kJ4 xs lo hi) hz,_,0,(r.drop (HT.sIx xs.length 0 lo)).take (HT.sIx xs.length xs.length hi-HT.sIx xs.length 0 lo),lJ8 _ rfl⟩
noncomputable def kKn:V->Bool
 | .non=>true
 | .bl _=>true
 | .int _=>true
 | .str _=>true
 | _=>false
noncomputable def eqV:V->V->Bool
 | .non,.non=>true
 | .bl a,.bl b=>a == b
 | .bl a,.int b=>(if a then 1 else 0) == b
 | .int a,.bl b=>a == (if b then 1 else 0)
 | .int a,.int b=>a == b
 | .str a,.str b=>a == b
 | _,_=>false
theorem eqAt_V {v:Value}(ry:RelV y u)(rx:RelV x v)(fy:kKn y=true)(fx:kKn x=true):SeqAt.EqAt A s u v (eqV y x):=by
 cases y with
 | non=>
  cases ry
  cases x with
  | non=>cases rx;exact SeqAt.EqAt.same _
  | bl b=>cases rx;exact SeqAt.EqAt.none_bool b
  | int b=>obtain⟨t,rfl⟩:=rx;exact SeqAt.EqAt.none_int b t
  | str b=>obtain⟨t,rfl⟩:=rx;exact SeqAt.EqAt.none_str b t
  | _=>exact absurd (show false=true from fx) lJp
 | bl a=>
  cases ry
  cases x with
  | non=>cases rx;exact SeqAt.EqAt.bool_none a
  | bl b=>cases rx;exact SeqAt.EqAt.bool_bool a b
  | int b=>obtain⟨t,rfl⟩:=rx;exact SeqAt.EqAt.bool_int a b t
  | str b=>obtain⟨t,rfl⟩:=rx;exact SeqAt.EqAt.bool_str a b t
  | _=>exact absurd (show false=true from fx) lJp
 | int a=>
  obtain⟨t',rfl⟩:=ry
  cases x with
  | non=>cases rx;exact SeqAt.EqAt.int_none a t'
  | bl b=>cases rx;exact SeqAt.EqAt.int_bool a t' b
  | int b=>obtain⟨t,rfl⟩:=rx;exact SeqAt.EqAt.int_int a t' b t
  | str b=>obtain⟨t,rfl⟩:=rx;exact SeqAt.EqAt.int_str a t' b t
  | _=>exact absurd (show false=true from fx) lJp
 | str a=>
  obtain⟨t',rfl⟩:=ry
  cases x with
  | non=>cases rx;exact SeqAt.EqAt.str_none a t'
  | bl b=>cases rx;exact SeqAt.EqAt.str_bool a t' b
  | int b=>obtain⟨t,rfl⟩:=rx;exact SeqAt.EqAt.str_int a t' b t
  | str b=>obtain⟨t,rfl⟩:=rx;exact SeqAt.EqAt.str_str a t' b t
  | _=>exact absurd (show false=true from fx) lJp
 | _=>exact absurd (show false=true from fy) lJp
def eqU (x:V)(u:Value):Bool:=match u with
 | .none=>eqV .non x
 | .bool b=>eqV (.bl b) x
 | .int i _=>eqV (.int i) x
 | .str z _=>eqV (.str z) x
 | _=>false
theorem qQ5 (r:RelV y u)(f:kKn y=true):eqU x u=eqV y x:=by
 cases y with
 | non=>cases r;rfl
 | bl b=>cases r;rfl
 | int i=>obtain⟨t,rfl⟩:=r;rfl
 | str z=>obtain⟨t,rfl⟩:=r;rfl
 | _=>exact absurd (show false=true from f) lJp
theorem kJ7 {x:V}:∀ {xs:List V} {us:List Value},Vals xs us->xs.all kKn=true->us.any (eqU x)=xs.any fun y=>eqV y x
 | _,_,.nil,_=>rfl
 | y::xs,u::us,.cons r t,f=>by
  rw[lKv,lKu] at f
  rw[lQt,lQt,qQ5 r f.1,kJ7 t f.2]
theorem jXc {A:Around} {s:Shared} {x:V} {v:Value} (rx:RelV x v) (fx:kKn x=true):∀ {xs:List V} {us:List Value},Vals xs us->xs.all kKn=true->∀u∈us,SeqAt.EqAt A s u v (eqU x u)
 | _,_,.nil,_=>fun u hu=>by cases hu
 | y::xs,u::us,.cons r t,f=>fun u' hu=>by
  rw[lKv,lKu] at f
  rcases (lJy.mp hu) with rfl | hu
  ·rw[qQ5 r f.1];exact eqAt_V r rx f.1 fx
  ·exact jXc rx fx t f.2 u' hu
def inV (x:V)(xs:List V):Bool:=xs.any fun y=>eqV y x
def rIn (K:PySem.W.Frag)(neg:Bool):R2:=fun x y H Q=>∃p xs,y= .ref p/\(SqL K H p xs\/SqT K H p xs)/\kKn x=true/\xs.all kKn=true/\Q (.bl (if neg then !inV x xs else inV x xs)) H
theorem qK0:OpR X (compareOp .In) (rIn X.K false):=by
 intro pins s σ H x y v u Q I rx ry h
 obtain⟨p,xs,rfl,hq,fx,fs,q⟩:=h
 cases ry
 rcases hq with hq | hq
 ·obtain⟨its,r,pl,hz⟩:=I.list hq
  refine SeqAt.in_listAt (eqU x) pl.isList (fun w hw=>jXc rx fx r fs w (by simpa using hw)) ⟨.bl _,H,I,rfl,?_⟩
  rw[show its.toArray.any (eqU x)=its.any (eqU x) by simp,kJ7 r fs]
  exact q
 ·obtain⟨its,r,pl,hz⟩:=I.tuple hq
  refine SeqAt.in_tupleAt (eqU x) pl (fun w hw=>jXc rx fx r fs w (by simpa using hw)) ⟨.bl _,H,I,rfl,?_⟩
  rw[show its.toArray.any (eqU x)=its.any (eqU x) by simp,kJ7 r fs]
  exact q
theorem kU0:OpR X (compareOp .NotIn) (rIn X.K true):=by
 intro pins s σ H x y v u Q I rx ry h
 obtain⟨p,xs,rfl,hq,fx,fs,q⟩:=h
 cases ry
 rcases hq with hq | hq
 ·obtain⟨its,r,pl,hz⟩:=I.list hq
  refine SeqAt.notIn_listAt (eqU x) pl.isList (fun w hw=>jXc rx fx r fs w (by simpa using hw)) ⟨.bl _,H,I,rfl,?_⟩
  rw[show its.toArray.any (eqU x)=its.any (eqU x) by simp,kJ7 r fs]
  exact q
 ·obtain⟨its,r,pl,hz⟩:=I.tuple hq
  refine SeqAt.notIn_tupleAt (eqU x) pl (fun w hw=>jXc rx fx r fs w (by simpa using hw)) ⟨.bl _,H,I,rfl,?_⟩
  rw[show its.toArray.any (eqU x)=its.any (eqU x) by simp,kJ7 r fs]
  exact q
theorem kVq:kUn X (.builtin "len") (fun xs H Q=>∃p ys,xs=[.ref p]/\(SqL X.K H p ys\/SqT X.K H p ys)/\Q (.int ys.length) H):=by
 intro pins s σ H xs us Q I r h
 obtain⟨p,ys,rfl,hq,q⟩:=h
 obtain⟨u,rfl,rx⟩:=kVy r
 cases rx
 have hn:=kKw
 rcases hq with hq | hq
 ·obtain⟨its,r',pl,hz⟩:=I.list hq
  have hlen:=r'.length
  exact Calls.call_len_list pl.isList (by simp only[lJs]<;>omega) ⟨.int ys.length,H,I.tok _,⟨s.toks+1,by rw[lJs,hlen]⟩,q⟩
 ·obtain⟨its,r',pl,hz⟩:=I.tuple hq
  have hlen:=r'.length
  exact len_tuple pl (by simp only[lJs]<;>omega) ⟨.int ys.length,H,I.tok _,⟨s.toks+1,by rw[lJs,hlen]⟩,q⟩
theorem kVp:kUn X (.type "list") (fun xs H Q=>∃p ys,xs=[.ref p]/\(SqL X.K H p ys\/SqT X.K H p ys)/\∀l,H l=none->Q (.ref l) (upd H l (.lst ys))):=by
 intro pins s σ H xs us Q I r h
 obtain⟨p,ys,rfl,hq,q⟩:=h
 obtain⟨u,rfl,rx⟩:=kVy r
 cases rx
 have fin:∀(its:List Value),Vals ys its->ys.length<=sizeLine->∀(h':Heap) (c':Nat),(∀b o',s.heap.get? b=some o'->h'.get? b=some o')->
   h'.get? s.heap.objs.size=some {cls:= .type "list",dict:=none,data:= .seq its.toArray c',slots:= #[]}->EP X pins σ Q (.ref s.heap.objs.size) {s with heap:=h'}:=fun its r' hz h' c' kp e=>
  ⟨.ref s.heap.objs.size,_,I.laid (t':=s.toks) kp (lJj _) (show ObjOk X.prog X.w _ h' _ (.lst ys) from⟨hz,its,c',r',e⟩),rfl,q _ (I.hok.fresh (lJj _))⟩
 rcases hq with hq | hq
 ·obtain⟨its,r',pl,hz⟩:=I.list hq
  have hlen:=r'.length
  obtain⟨o,ho,hc,n,hd⟩:=pl.isList
  exact call_list_seq p (.inl rfl) ho hc hd (fun h' c' kp e=>fin its r' hz h' c' kp e) (by simp only[lJs]<;>omega)
 ·obtain⟨its,r',pl,hz⟩:=I.tuple hq
  have hlen:=r'.length
  obtain⟨o,ho,hc,n,hd⟩:=pl
  exact call_list_seq p (.inr rfl) ho hc hd (fun h' c' kp e=>fin its r' hz h' c' kp e) (by simp only[lJs]<;>omega)
theorem kUe:kUn X (.type "tuple") (fun xs H Q=>∃p ys,xs=[.ref p]/\((SqL X.K H p ys/\∀l,H l=none->Q (.ref l) (upd H l (.tup ys)))\/(SqT X.K H p ys/\Q (.ref p) H))):=by
 intro pins s σ H xs us Q I r h
 obtain⟨p,ys,rfl,h⟩:=h
 obtain⟨u,rfl,rx⟩:=kVy r
 cases rx
 rcases h with ⟨hq,q⟩ | ⟨hq,q⟩
 ·obtain⟨its,r',pl,hz⟩:=I.list hq
  have hlen:=r'.length
  refine call_tuple_list pl.isList (fun h' kp=> ?_) (by simp only[lJs]<;>omega)
  have I1:Inv X pins σ H {s with heap:=h'}:=I.kept (t':=s.toks) kp
  have I2:Inv X pins σ (upd H h'.objs.size (.tup ys)) {s with heap:=h'.push {cls:= .type "tuple",data:= .seq its.toArray} }:=
   I1.laid (t':=s.toks) (fun b o e=>lJu _ e) (lJj _) (show ObjOk X.prog X.w _ _ _ (.tup ys) from⟨hz,its,r',TupD.new _ _⟩)
  exact⟨.ref h'.objs.size,_,I2,rfl,q _ (I1.hok.fresh (lJj _))⟩
 ·obtain⟨its,r',pl,hz⟩:=I.tuple hq
  exact call_tuple_same pl ⟨.ref p,H,I,rfl,q⟩
def tyV (K:PySem.W.Frag)(T:String)(x:V)(H:Hp):Prop:=match x with
 | .str _=>T="str"
 | .int _=>T="int"
 | .ref p=>(T="list"/\∃xs,SqL K H p xs)\/(T="tuple"/\∃o,K.lookup p=some o/\o.cls= .type "tuple"/\o.dict=none)\/
   (T="dict"/\((∃kvs,H p=some (.dK kvs))\/∃kvs,H p=some (.dT kvs)))\/(T="set"/\∃S n,H p=some (.set S n))
 | _=>False
theorem qX8 {T:String}{v:Value}(I:Inv X pins σ H s)(r:RelV x v)(ty:tyV X.K T x H):
  s.TypeIs v T/\∀a,v= .ref a->∃ob,s.heap.get? a=some ob/\ob.dict=none:=by
 cases x with
 | str z=>
  obtain⟨t,rfl⟩:=r
  cases (show T="str" from ty)
  exact⟨typeIs_str s z t,fun _ e=>nomatch e⟩
 | int i=>
  obtain⟨t,rfl⟩:=r
  cases (show T="int" from ty)
  exact⟨typeIs_int s i t,fun _ e=>nomatch e⟩
 | ref p=>
  cases r
  rcases ty with ⟨rfl,xs,hq⟩ | ⟨rfl,o,hk,hc,hd⟩ | ⟨rfl,hk⟩ | ⟨rfl,S,n,hk⟩
  ·obtain⟨its,_,pl,_⟩:=I.list hq
   refine⟨pl.isList.typeIs,fun a e=> ?_⟩
   cases e
   obtain⟨o,n,e,c,hd,_⟩:=pl
   exact⟨o,e,hd⟩
  ·refine⟨⟨o,I.kIn p o hk,hc⟩,fun a e=> ?_⟩
   cases e
   exact⟨o,I.kIn _ o hk,hd⟩
  ·have z:∃o,s.heap.get? p=some o/\o.ExactDict:=by
    rcases hk with ⟨kvs,hk⟩ | ⟨kvs,hk⟩
    ·obtain⟨_,_,_,_,o,_,_,e,ex,_⟩:=I.hok p _ hk
     exact⟨o,e,ex⟩
    ·obtain⟨_,_,_,_,o,_,_,e,ex,_⟩:=I.hok p _ hk
     exact⟨o,e,ex⟩
   obtain⟨o,e,ex⟩:=z
   refine⟨⟨o,e,ex.1⟩,fun a e2=> ?_⟩
   cases e2
   exact⟨o,e,ex.2.1⟩
  ·obtain⟨o,_,_,_,e,ex,_⟩:=I.hok p _ hk
   refine⟨⟨o,e,ex.1⟩,fun a e2=> ?_⟩
   cases e2
   exact⟨o,e,ex.2.1⟩
 | _=>exact False.elim ty
variable {o:Expr}{es:List Expr}{to:TE}{t:TA}{name:Str}{T id:String}{r:V->List V->Hp->VK->Prop}
end
def MtM (X:Cx)(id:String)(r:V->List V->Hp->VK->Prop):Prop:=
 ∀(pins:List (Addr×Obj)) (s:Shared) (σ:St) (H:Hp) (x:V) (xs:List V) (v:Value) (us:List Value) (Q:VK),Inv X pins σ H s->RelV x v->Vals xs us->r x xs H Q->
  wpAny (model X.prog X.w) X.A (call (.builtin id) (v::us)) (EP X pins σ Q) X.xe s
theorem Vals.one (h:Vals [x] us):∃u,us=[u]/\RelV x u:=by
 cases h with | cons r t=>(cases t;exact⟨_,rfl,r⟩)
theorem Vals.two (h:Vals [x,y] us):∃u v,us=[u,v]/\RelV x u/\RelV y v:=by
 cases h with | cons r t=>(cases t with | cons q t=>(cases t;exact⟨_,_,rfl,r,q⟩))
theorem Vals.zero:∀ {us:List Value},Vals [] us->us=[]
 | _,.nil=>rfl
theorem Vals.dropLast (h:Vals xs us):Vals xs.dropLast us.dropLast:=by
 induction h with
 | nil=>exact .nil
 | cons r t ih=>
  cases t with
  | nil=>exact .nil
  | cons q t'=>exact .cons r ih
theorem Vals.rep {xs:List V} {us:List Value} (h:Vals xs us):∀k:Nat,Vals (List.replicate k xs).flatten (List.replicate k us).flatten
 | 0=> .nil
 | k+1=>by
  rw[lQi,lQi,lQ7,lQ7]
  exact Vals.append h (Vals.rep h k)
theorem qJm {α:Type}(l:List α):l.eraseIdx (l.length-1)=l.dropLast:=by
 induction l with
 | nil=>rfl
 | cons a r ih=>
  cases r with
  | nil=>rfl
  | cons b r=>
   have e:(a::b::r).length-1=((b::r).length-1)+1:=by
    have h1:(a::b::r).length=r.length+2:=rfl
    have h2:(b::r).length=r.length+1:=rfl
    omega
   rw[e,List.eraseIdx_cons_succ,ih]
   all_goals rfl
theorem kVf (its:List Value):∀(k:Nat) (acc:List Value),
  List.foldl (fun x1 x2=>x1++x2) acc.toArray (List.replicate k its.toArray)=(acc++(List.replicate k its).flatten).toArray
 | 0,acc=>by simp
 | k+1,acc=>by
  have e:acc.toArray++its.toArray=(acc++its).toArray:=by simp
  have e2:(acc++its)++(List.replicate k its).flatten=acc++(List.replicate (k+1) its).flatten:=by
   rw[lQi,lQ7,lJx]
  rw[<-e2,<-kVf its k (acc++its),<-e,lQi,lV7]
variable {b:Addr}
section
variable {l:Addr}{zs:List V}
theorem Inv.lset {f:Array Value->Array Value}{t':Nat}(I:Inv X pins σ H s)(hH:H l=some (.lst xs))(e:s.heap.get? l=some {cls:= .type "list",data:= .seq its.toArray n})(hf:f its.toArray=its'.toArray)(hv:Vals ys its')(hz:ys.length<=sizeLine):
  Inv X pins σ (upd H l (.lst ys)) {s with heap:=s.heap.update l (Obj.mapSeq f),toks:=t'}:=by
 have q:=PySem.IsL.update e f
 rw[hf] at q
 refine I.write (x:=l) (e:=l) (by rw[hH];exact trivial) (.inl rfl) (fun b' u hb hu=>(Heap.get?_update_other s.heap (Obj.mapSeq f) (Ne.symm hb)).trans hu) ⟨_,q⟩ ?_
 exact⟨hz,its',_,hv,q⟩
theorem Inv.lnew {t':Nat}(I:Inv X pins σ H s)(hv:Vals ys its)(hz:ys.length<=sizeLine):
  Inv X pins σ (upd H s.heap.objs.size (.lst ys)) {s with heap:=s.heap.push {cls:= .type "list",data:= .seq its.toArray},toks:=t'}:=
 I.laid (fun _ _ q=>lJu _ q) (lJj _) ⟨hz,its,0,hv,lJ8 _ rfl⟩
theorem Inv.fresh (I:Inv X pins σ H s):H s.heap.objs.size=none:=I.hok.fresh (lJj _)
theorem Inv.lstM (I:Inv X pins σ H s)(hH:H l=some (.lst xs)):xs.length<=sizeLine/\∃(its:List Value) (n:Nat),Vals xs its/\xs.length=its.length/\s.heap.get? l=some {cls:= .type "list",data:= .seq its.toArray n}:=by
 obtain⟨z,its,n,r,e⟩:=I.hok l _ hH
 exact⟨z,its,n,r,r.length,e⟩
theorem qVu (h:n<=sizeLine):Builtin.List.listTooLong n=false:=by
 unfold Builtin.List.listTooLong
 exact lJk (by omega)
end
def jK3:V->List V->Hp->VK->Prop:=fun x vs H Q=>∃l xs y,x= .ref l/\vs=[y]/\H l=some (.lst xs)/\xs.length<sizeLine/\Q .non (upd H l (.lst (xs++[y])))
theorem qQd:MtM X "list.append" jK3:=by
 intro pins s σ H x vs v us Q I rx rv h
 obtain⟨l,xs,y,rfl,rfl,hH,hz,q⟩:=h
 cases rx
 obtain⟨u,rfl,ru⟩:=rv.one
 obtain⟨z,its,n,r,hl,e⟩:=I.lstM hH
 refine lVz F.slot_list_append ⟨_,e,rfl⟩ F.entry_list_append (F.args_list_append_2 _ _) (PySem.list_append l its.toArray n u (by rw[lJs];omega)) ⟨e,?_⟩
 refine⟨.non,_,I.lset (its':=its++[u]) hH e (by simp) (r.append (.cons ru .nil)) ?_,rfl,q⟩
 rw[lJv,lX3]
 omega
def rPop:V->List V->Hp->VK->Prop:=fun x vs H Q=>∃l xs y,x= .ref l/\vs=[]/\H l=some (.lst xs)/\xs[xs.length-1]? =some y/\Q y (upd H l (.lst xs.dropLast))
theorem mt_pop:MtM X "list.pop" rPop:=by
 intro pins s σ H x vs v us Q I rx rv h
 obtain⟨l,xs,y,rfl,rfl,hH,hy,q⟩:=h
 cases rx
 have hus:=rv.zero
 subst hus
 obtain⟨z,its,n,r,hl,e⟩:=I.lstM hH
 obtain⟨u,hu,ru⟩:=r.get hy
 have hy':its.toArray[its.toArray.size-1]? =some u:=by
  show its.toArray[its.length-1]? =some u
  rw[<-lJ1,<-hl]
  exact hu
 refine lVz F.slot_list_pop ⟨_,e,rfl⟩ F.entry_list_pop (F.args_list_pop_1 _) (MeetsSeq.list_pop_last l its.toArray n u hy' (by rw[lJs];omega)) ⟨e,?_⟩
 refine⟨y,_,I.lset (its':=its.dropLast) hH e ?_ r.dropLast ?_,ru,q⟩
 ·show its.toArray.eraseIdxIfInBounds (its.toArray.size-1)=its.dropLast.toArray
  rw[lJs,List.eraseIdxIfInBounds_toArray,qJm]
 ·rw[List.length_dropLast]
  omega
noncomputable def rCat:R2:=fun x y H Q=>∃l b xs zs,x= .ref l/\y= .ref b/\H l=some (.lst xs)/\H b=some (.lst zs)/\xs.length+zs.length<=sizeLine/\∀p,H p=none->Q (.ref p) (upd H p (.lst (xs++zs)))
theorem op_cat:OpR X (binaryOp .Add) rCat:=by
 intro pins s σ H x y v u Q I rx ry h
 obtain⟨l,b,xs,zs,rfl,rfl,hH,hB,hz,q⟩:=h
 cases rx
 cases ry
 obtain⟨z,its,n,r,hl,e⟩:=I.lstM hH
 obtain⟨z2,its2,n2,r2,hl2,e2⟩:=I.lstM hB
 refine PySem.P.add_list e e2 ?_ (by rw[lJs,lJs];omega)
 have ea:its.toArray++its2.toArray=(its++its2).toArray:=by simp
 rw[ea]
 exact⟨.ref _,_,I.lnew (t':=s.toks) (r.append r2) (by rw[lJv];omega),rfl,q _ I.fresh⟩
noncomputable def rRep:R2:=fun x y H Q=>∃l k xs,x= .ref l/\y= .int k/\H l=some (.lst xs)/\ -(2^63)<=k/\k<2^63/\xs.length*k.toNat<=sizeLine/\
 ∀p,H p=none->Q (.ref p) (upd H p (.lst (List.replicate k.toNat xs).flatten))
theorem qZ0 {α:Type}(xs:List α)(k:Nat):(List.replicate k xs).flatten.length=k*xs.length:=by
 induction k with
 | zero=>simp
 | succ k ih=>rw[lQi,lQ7,lJv,ih,lVg,Nat.add_comm]
theorem op_rep:OpR X (binaryOp .Mult) rRep:=by
 intro pins s σ H x y v u Q I rx ry h
 obtain⟨l,k,xs,rfl,rfl,hH,h1,h2,hz,q⟩:=h
 cases rx
 obtain⟨t,rfl⟩:=ry
 obtain⟨z,its,n,r,hl,e⟩:=I.lstM hH
 have hlen:its.toArray.size*k.toNat<=sizeLine:=by rw[lJs,<-hl];exact hz
 have hcap:¬ its.toArray.size*k.toNat>(2^63-1) / 8:=by
  have:(sizeLine:Nat)<=(2^63-1) / 8:=by decide
  omega
 have hfit:¬ (!Builtin.List.listFitsIndex k)=true:=by
  rw[fitsIndex_both h1 h2]
  exact lJp
 have hlong:¬ Builtin.List.listTooLong (its.toArray.size*k.toNat)=true:=by
  rw[qVu hlen]
  exact lJp
 have hnew:List.foldl (fun x1 x2=>x1++x2) #[] (List.replicate (if its.toArray.isEmpty=true then 0 else k.toNat) its.toArray)=(List.replicate k.toNat its).flatten.toArray:=by
  have f0:∀m:Nat,List.foldl (fun x1 x2=>x1++x2) #[] (List.replicate m its.toArray)=(List.replicate m its).flatten.toArray:=fun m=>by
   have:=kVf its m []
   rw[List.nil_append] at this
   exact this
  rw[f0]
  cases its with
  | nil=>simp
  | cons a r'=>rw[lJa (by simp)]
 refine wpAny_binaryOp_repeat_ref (T:="list") (U:="int") (by decide) ⟨_,e,rfl⟩ (fun s'=>typeIs_int s' k t) noFill_list_mul F.fills_int_mul F.slot_int_rmul repeat_list F.slot_int_index.lookup
  (lVz F.slot_int_rmul (typeIs_int s k t) F.entry_int_rmul (F.args_int_rmul_2 _ _) (int___rmul___int_list k t l its.toArray n)
   ⟨e,rfl,⟨_,e,rfl⟩,lVz F.slot_list_mul ⟨_,e,rfl⟩ F.entry_list_mul (F.args_list_mul_2 _ _) (AutoListH.list___mul___list_int_3 l its.toArray n k t hfit hcap hlong) ⟨e,?_⟩⟩)
 rw[hnew]
 exact⟨.ref _,_,I.lnew (t':=s.toks) (r.rep k.toNat) (by rw[qZ0,Nat.mul_comm];exact hz),rfl,q _ I.fresh⟩
variable {w:World}{E:Value->Shared->Prop}
section
variable {prog:Program}
end
variable {o:Option V}
section
variable {κ:Type}[DecidableEq κ]
noncomputable def valV (kvs:List (κ×V))(k:κ):Option V:=(kvs.find? fun kv=>decide (kv.1=k)).map (·.2)
noncomputable def putK (kvs:List (κ×V))(k:κ)(v:V):List (κ×V):=
 if (kvs.any fun kv=>decide (kv.1=k))=true then kvs.map (fun kv=>if kv.1=k then (kv.1,v) else kv) else kvs++[(k,v)]
theorem jZo {p:κ×V}{r:List (κ×V)}{k:κ}(e:p.1=k):valV (p::r) k=some p.2:=by simp[valV,lQj,e]
theorem jZp {p:κ×V}{r:List (κ×V)}{k:κ}(e:¬ p.1=k):valV (p::r) k=valV r k:=by simp[valV,lQj,e]
theorem kYd (k:κ):∀kvs:List (κ×V),(kvs.any fun kv=>decide (kv.1=k))=(valV kvs k).isSome
 | []=>rfl
 | p::r=>by
  rw[lQt]
  by_cases e:p.1=k
  ·simp only[jZo e,lJq e,Bool.true_or,Option.isSome_some]
  ·rw[jZp e,lJk e,Bool.false_or];exact kYd k r
theorem jXw (kvs:List (κ×V))(k:κ)(v:V):(putK kvs k v).length<=kvs.length+1:=by
 unfold putK
 split
 ·rw[lJe];omega
 ·rw[lJv,lKc,lQh];omega
theorem RelO.isSome_eq {u:Option Value}(r:RelO o u):o.isSome=u.isSome:=by
 cases o with
 | none=>cases u with
  | none=>rfl
  | some _=>exact (show False from r).elim
 | some _=>cases u with
  | none=>exact (show False from r).elim
  | some _=>rfl
theorem KV.val {kvs:List (κ×V)}{vs:List (κ×Value)}(r:KV kvs vs)(k:κ):RelO (valV kvs k) (valueAt vs k):=by
 unfold KV at r
 induction r with
 | nil=>exact True.intro
 | @cons p q ps qs h t ih=>
  obtain⟨h1,h2⟩:=h
  by_cases e:p.1=k
  ·have e':q.1=k:=h1.symm.trans e
   have b:valueAt (q::qs) k=some q.2:=by simp[valueAt,lQj,e']
   rw[jZo e,b];exact h2
  ·have e':¬ q.1=k:=fun z=>e (h1.trans z)
   have b:valueAt (q::qs) k=valueAt qs k:=by simp[valueAt,lQj,e']
   rw[jZp e,b];exact ih
theorem KV.any {kvs:List (κ×V)}{vs:List (κ×Value)}(r:KV kvs vs)(k:κ):(kvs.any fun kv=>decide (kv.1=k))=vs.any fun kv=>decide (kv.1=k):=by
 unfold KV at r
 induction r with
 | nil=>rfl
 | cons h t ih=>rw[lQt,lQt,ih,h.1]
theorem KV.repl {kvs:List (κ×V)}{vs:List (κ×Value)}(r:KV kvs vs)(k:κ)(ry:RelV y u):
  KV (kvs.map fun kv=>if kv.1=k then (kv.1,y) else kv) (vs.map fun kv=>if kv.1=k then (kv.1,u) else kv):=by
 unfold KV at r ⊢
 induction r with
 | nil=>exact .nil
 | @cons p q ps qs h t ih=>
  rw[lJ6,lJ6]
  refine .cons ?_ ih
  obtain⟨h1,h2⟩:=h
  by_cases e:p.1=k
  ·rw[lJb e,lJb (h1.symm.trans e)];exact⟨h1,ry⟩
  ·rw[lJa e,lJa (fun z=>e (h1.trans z))];exact⟨h1,h2⟩
theorem KV.put {kvs:List (κ×V)}{vs:List (κ×Value)}(r:KV kvs vs)(k:κ)(ry:RelV y u):KV (putK kvs k y) (stored vs k u):=by
 unfold putK stored
 rw[r.any k]
 by_cases e:(vs.any fun kv=>decide (kv.1=k))=true
 ·rw[lJb e,lJb e];exact r.repl k ry
 ·rw[lJa e,lJa e];exact Paired.snoc r ⟨rfl,ry⟩
theorem KV.length {kvs:List (κ×V)}{vs:List (κ×Value)}(r:KV kvs vs):kvs.length=vs.length:=lQ4 r
end
variable {P:Program}
theorem kXv {k:Key}(r:RelV (kV k) u):(jQp P w).is k u=true:=by
 cases k with
 | inl i=>obtain⟨t,e⟩:=(show ∃t,u=Value.int i t from r);subst e;exact kXs P w i t
 | inr x=>obtain⟨t,e⟩:=(show ∃t,u=Value.str x t from r);subst e;exact kXr P w x t
abbrev KT (H:Hp):List (TKey×V)->List (TKey×Addr×Value)->Prop:=Paired fun p q=>p.1=q.1/\TKeyAt H p.1 q.2.1/\RelV p.2 q.2.2
variable {kvs:List (TKey×V)}
theorem KT.val {xs:List (TKey×Addr×Value)}(r:KT H kvs xs)(k:TKey):RelO (valV kvs k) ((atKey xs k).map (·.2)):=by
 induction r with
 | nil=>exact True.intro
 | @cons p q ps qs h t ih=>
  obtain⟨h1,_,h2⟩:=h
  by_cases e:p.1=k
  ·have e':q.1=k:=h1.symm.trans e
   have b:atKey (q::qs) k=some q.2:=by simp[atKey,lQj,e']
   rw[jZo e,b];exact h2
  ·have e':¬ q.1=k:=fun z=>e (h1.trans z)
   have b:atKey (q::qs) k=atKey qs k:=by simp[atKey,lQj,e']
   rw[jZp e,b];exact ih
theorem KT.repl {xs:List (TKey×Addr×Value)}(r:KT H kvs xs)(k:TKey)(ry:RelV y u):
  KT H (kvs.map fun kv=>if kv.1=k then (kv.1,y) else kv) (xs.map (putAt k u)):=by
 induction r with
 | nil=>exact .nil
 | @cons p q ps qs h t ih=>
  rw[lJ6,lJ6]
  refine .cons ?_ ih
  obtain⟨h1,h2,h3⟩:=h
  unfold putAt
  by_cases e:p.1=k
  ·rw[lJb e,lJb (h1.symm.trans e)];exact⟨h1,h2,ry⟩
  ·rw[lJa e,lJa (fun z=>e (h1.trans z))];exact⟨h1,h2,h3⟩
theorem KT.put {xs:List (TKey×Addr×Value)}(r:KT H kvs xs)(k:TKey)(hb:TKeyAt H k b)(ry:RelV y u):
  KT H (putK kvs k y) (storedH xs k b u):=by
 have e:(kvs.any fun kv=>decide (kv.1=k))=(atKey xs k).isSome:=by
  rw[kYd,(r.val k).isSome_eq,lX4]
 unfold putK storedH
 rw[e]
 by_cases q:(atKey xs k).isSome=true
 ·rw[lJb q,lJb q];exact r.repl k ry
 ·rw[lJa q,lJa q];exact Paired.snoc r ⟨rfl,hb,ry⟩
variable {H':Hp}
theorem KT.keeps {xs:List (TKey×Addr×Value)}(r:KT H kvs xs)(ht:∀b ys,H b=some (.tup ys)->H' b=some (.tup ys)):KT H' kvs xs:=
 Paired.mapP r fun _ _ z=>⟨z.1,z.2.1.mono ht,z.2.2⟩
variable {a:Addr}
section
variable {h:Heap}
theorem rd_of {u:HO}(ok:HOk P w H h)(e:Rd H a u):ObjOk P w H h a u:=e.ok ok
theorem qUg {kvs:List (Key×V)}(ok:HOk P w H h)(e:Rd H a (.dK kvs)):kvs.length<=sizeLine/\(a == sysModules)=false/\∃vs,KV kvs vs/\h.DictOf (jQp P w) a vs:=
 show ObjOk P w H h a (.dK kvs) from rd_of ok e
theorem dk_of {kvs:List (Key×V)}(ok:HOk P w H h)(e:H a=some (.dK kvs)):kvs.length<=sizeLine/\(a == sysModules)=false/\∃vs,KV kvs vs/\h.DictOf (jQp P w) a vs:=qUg ok (.inl e)
theorem kY8 {K:Type} [DecidableEq K] {c:Nat} {T:KeyV P w K c} {R:K->V->Prop} (hR:∀k x u,R k x->RelV x u->T.is h k u):∀ {ks:List K} {xs:List V} {us:List Value},Paired R ks xs->Vals xs us->ItemsV T h ks us
 | _,_,_,.nil,.nil=> .nil
 | _,_,_,.cons r t,.cons q z=> .cons (hR _ _ _ r q) (kY8 hR t z)
theorem kV1 {K:Type}[DecidableEq K]{c:Nat}{T:KeyV P w K c}{R:K->V->Prop}{ks:List K}(ok:HOk P w H h)(hR:∀k x u,R k x->RelV x u->T.is h k u)(e:H p=some (.tup xs))(r:Paired R ks xs):kKb T h ks (.ref p):=by
 obtain⟨_,its,q,o,h1,h2,n,h3,_⟩:=(show ObjOk P w H h p (.tup xs) from ok p _ e)
 exact⟨p,o,its.toArray,n,rfl,h1,h2,h3,by simpa using kY8 hR r q⟩
theorem r1_of (ok:HOk P w H h)(k:K1)(x:V)(u:Value)(r:Rk1 H k x)(q:RelV x u):(vk1 P w).is h k u:=by
 cases k with
 | inl k=>cases (show x=kV k from r);exact kXv (P:=P) (w:=w) q
 | inr ks=>
  obtain⟨p,vs,rfl,e,t⟩:=(show ∃p vs,x= .ref p/\H p=some (.tup vs)/\Paired (fun k v=>v=kV k) ks vs from r)
  cases (show u=Value.ref p from q)
  exact kV1 (T:=kK6 P w) ok (fun k x u r q=>by subst r;exact kXv (P:=P) (w:=w) q) e t
theorem r2_of (ok:HOk P w H h)(k:K2)(x:V)(u:Value)(r:Rk2 H k x)(q:RelV x u):(vk2 P w).is h k u:=by
 cases k with
 | inl k=>cases (show x=kV k from r);exact kXv (P:=P) (w:=w) q
 | inr ks=>
  obtain⟨p,vs,rfl,e,t⟩:=(show ∃p vs,x= .ref p/\H p=some (.tup vs)/\Paired (Rk1 H) ks vs from r)
  cases (show u=Value.ref p from q)
  exact kV1 (T:=vk1 P w) ok (r1_of ok) e t
theorem kJr {ks:TKey}(ok:HOk P w H h)(e:TKeyAt H ks a):(jKi P w).is h ks a:=by
 obtain⟨vs,h1,t⟩:=e
 exact kV1 (T:=vk2 P w) ok (r2_of ok) h1 t
theorem qUc (ok:HOk P w H h)(e:Rd H a (.dT kvs)):kvs.length<=sizeLine/\(a == sysModules)=false/\
  ∃xs,KT H kvs xs/\h.DictOfH (jKi P w) a xs:=by
 obtain⟨z,y,xs,r,o,es,ep,h1,h2,h3,h4,h5⟩:=(show ObjOk P w H h a (.dT kvs) from rd_of ok e)
 refine⟨z,y,xs,r,o,es,ep,h1,h2,h3,h4,fun x hx=> ?_,h5⟩
 have all:∀ {l:List (TKey×V)} {m:List (TKey×Addr×Value)},KT H l m->∀x∈m,(jKi P w).is h x.1 x.2.1:=by
  intro l m q
  induction q with
  | nil=>intro x hx;exact nomatch hx
  | @cons p q ps qs hq t ih=>
   intro x hx
   rcases (lJy.mp hx) with e | hx
   ·subst e
    exact kJr ok (by rw[<-hq.1];exact hq.2.1)
   ·exact ih x hx
 exact all r x hx
theorem dt_of (ok:HOk P w H h)(e:H a=some (.dT kvs)):kvs.length<=sizeLine/\(a == sysModules)=false/\
  ∃xs,KT H kvs xs/\h.DictOfH (jKi P w) a xs:=qUc ok (.inl e)
end
def DGet (H:Hp)(a:Addr)(y:V)(r:Option V):Prop:=
 (∃kvs k,Rd H a (.dK kvs)/\y=kV k/\r=valV kvs k)\/∃kvs k b,Rd H a (.dT kvs)/\y= .ref b/\TKeyAt H k b/\r=valV kvs k
def DPut (H:Hp)(a:Addr)(y v:V)(H':Hp):Prop:=
 (∃kvs k,H a=some (.dK kvs)/\y=kV k/\kvs.length<sizeLine/\H'=upd H a (.dK (putK kvs k v)))\/
 ∃kvs k b,H a=some (.dT kvs)/\y= .ref b/\TKeyAt H k b/\kvs.length<sizeLine/\H'=upd H a (.dT (putK kvs k v))
theorem DGet.k {kvs:List (Key×V)}{k:Key}(e:H a=some (.dK kvs)):DGet H a (kV k) (valV kvs k):= .inl ⟨kvs,k,.inl e,rfl,rfl⟩
theorem DGet.t {k:TKey}(e:H a=some (.dT kvs))(eb:TKeyAt H k b):DGet H a (.ref b) (valV kvs k):= .inr ⟨kvs,k,b,.inl e,rfl,eb,rfl⟩
variable {v:V}
theorem DPut.k {kvs:List (Key×V)}{k:Key}(e:H a=some (.dK kvs))(hl:kvs.length<sizeLine):DPut H a (kV k) v (upd H a (.dK (putK kvs k v))):= .inl ⟨kvs,k,e,rfl,hl,rfl⟩
theorem DPut.t {k:TKey}(e:H a=some (.dT kvs))(eb:TKeyAt H k b)(hl:kvs.length<sizeLine):
  DPut H a (.ref b) v (upd H a (.dT (putK kvs k v))):= .inr ⟨kvs,k,b,e,rfl,eb,hl,rfl⟩
variable {r:Value}{Q:Value->Shared->Prop}{h':Heap}
theorem Inv.big (I:Inv X pins σ H s):sysModules<s.heap.objs.size:=by
 have h:mainGlobals<s.heap.objs.size:=(I.mod.glob.keeps I.bk).lt
 exact Nat.lt_trans (by decide) h
theorem qUh (hu:A.units+20<cLine)(I:Inv X pins σ H s)(g:DGet H a y (some v))(ry:RelV y u)(h:∀w' s',Inv X pins σ H s'->RelV v w'->Q w' s'):
  wpAny (model X.prog X.w) A (getItem (.ref a) u) Q E s:=by
 rcases g with ⟨kvs,k,e,ey,l⟩ | ⟨kvs,k,b,e,ey,eb,l⟩
 ·subst ey
  obtain⟨z,hd,vs,rel,dd⟩:=qUg I.hok e
  obtain⟨w',hw,rw'⟩:=RelO.some_of (v:=v) (o:=valueAt vs k) (by rw[l];exact rel.val k)
  exact wpAny_getItem_of (kXv ry) dd.mapOf hw (h w' _ (I.tok _) rw')
 ·subst ey
  cases (show u=Value.ref b from ry)
  obtain⟨z,hd,xs,rel,dd⟩:=qUc I.hok e
  obtain⟨w',hw,rw'⟩:=RelO.some_of (v:=v) (o:=(atKey xs k).map (·.2)) (by rw[l];exact rel.val k)
  obtain⟨p,hp,hp2⟩:=lQu.mp hw
  refine wpAny_getItem_heap (jKr hu) (kJr I.hok eb) dd hp ?_
  rw[hp2]
  exact h w' _ (I.tok _) rw'
theorem d_in (hu:A.units+20<cLine)(I:Inv X pins σ H s)(g:DGet H a y o)(ry:RelV y u)(h:∀s',Inv X pins σ H s'->Q (.bool o.isSome) s'):
  wpAny (model X.prog X.w) A (compareOp .In u (.ref a)) Q E s:=by
 rcases g with ⟨kvs,k,e,ey,l⟩ | ⟨kvs,k,b,e,ey,eb,l⟩
 ·subst ey
  obtain⟨z,hd,vs,rel,dd⟩:=qUg I.hok e
  refine wpAny_in_of (kXv ry) hd dd.mapOf ?_
  rw[<-(rel.val k).isSome_eq,<-l]
  exact h _ (I.tok _)
 ·subst ey
  cases (show u=Value.ref b from ry)
  obtain⟨z,hd,xs,rel,dd⟩:=qUc I.hok e
  refine wpAny_in_heap (jKr hu) (kJr I.hok eb) hd dd ?_
  have q:=(rel.val k).isSome_eq
  rw[lX4] at q
  rw[<-q,<-l]
  exact h _ (I.tok _)
theorem uJu (hu:A.units+20<cLine)(I:Inv X pins σ H s)(g:DGet H a y o)(ry:RelV y u)(h:∀s',Inv X pins σ H s'->Q (.bool (!o.isSome)) s'):
  wpAny (model X.prog X.w) A (compareOp .NotIn u (.ref a)) Q E s:=by
 rcases g with ⟨kvs,k,e,ey,l⟩ | ⟨kvs,k,b,e,ey,eb,l⟩
 ·subst ey
  obtain⟨z,hd,vs,rel,dd⟩:=qUg I.hok e
  refine wpAny_notIn_of (kXv ry) hd dd.mapOf ?_
  rw[<-(rel.val k).isSome_eq,<-l]
  exact h _ (I.tok _)
 ·subst ey
  cases (show u=Value.ref b from ry)
  obtain⟨z,hd,xs,rel,dd⟩:=qUc I.hok e
  refine wpAny_notIn_heap (jKr hu) (kJr I.hok eb) hd dd ?_
  have q:=(rel.val k).isSome_eq
  rw[lX4] at q
  rw[<-q,<-l]
  exact h _ (I.tok _)
theorem kUb {t':Nat}{ob:HO}(I:Inv X pins σ H s)(mu:Mut (H a))(hs:Heap.SameBut a s.heap h')(he:∃q,h'.get? a=some q)(new:ObjOk X.prog X.w (upd H a ob) h' a ob):
  Inv X pins σ (upd H a ob) {s with heap:=h',toks:=t'}:=
 I.write (x:=a) (e:=a) mu (.inl rfl) (fun b q hb z=>(hs.2 b hb).trans z) he new
theorem dk_new {kvs:List (Key×V)}{vs:List (Key×Value)}(z:kvs.length<=sizeLine)(hd:(a == sysModules)=false)(rel:KV kvs vs)(dd:h'.DictOf (jQp P w) a vs):
  ObjOk P w H' h' a (.dK kvs):=⟨z,hd,vs,rel,dd⟩
theorem kVl {Q:Unit->Shared->Prop}(hu:A.units+20<cLine)(I:Inv X pins σ H s)(g:DPut H a y v H')(ry:RelV y u)(rv:RelV v r)(h:∀s',Inv X pins σ H' s'->Q () s'):
  wpAny (model X.prog X.w) A (setItem (.ref a) u r) Q E s:=by
 rcases g with ⟨kvs,k,e,ey,l,eH⟩ | ⟨kvs,k,b,e,ey,eb,l,eH⟩
 ·subst ey eH
  obtain⟨z,hd,vs,rel,dd⟩:=dk_of I.hok e
  have hz:vs.length<=sizeLine:=by rw[<-rel.length];exact z
  have hl:(putK kvs k v).length<=sizeLine:=by have:=jXw kvs k v;omega
  refine wpAny_setItem_pairs (hsz:=hz) (kXv ry) dd fun h' dd' hs=>h _ ?_
  have he:∃q,h'.get? a=some q:=let ⟨q,_,_,hq,_⟩:=dd';⟨q,hq⟩
  exact kUb I (by rw[e];exact True.intro) hs he (dk_new hl hd (rel.put k rv) dd')
 ·subst ey eH
  cases (show u=Value.ref b from ry)
  obtain⟨z,hd,xs,rel,dd⟩:=dt_of I.hok e
  have hz:xs.length<=sizeLine:=by rw[<-lQ4 rel];exact z
  have hl:(putK kvs k v).length<=sizeLine:=by have:=jXw kvs k v;omega
  refine wpAny_setItem_heap (hsz:=hz) (jKr hu) (kJr I.hok eb) dd fun h' dd' hs=>h _ ?_
  obtain⟨q,es,ep,hq,h2,h3,h4,_,h5⟩:=dd'
  refine kUb I (by rw[e];exact True.intro) hs ⟨q,hq⟩ ⟨hl,hd,_,(rel.put k eb rv).keeps fun c ys ec=> ?_,q,es,ep,hq,h2,h3,h4,h5⟩
  rw[jKg (qZu ec e (fun z=>nomatch z))]
  exact ec
section
variable {kvs:List (Key×V)}{k:Key}
end
theorem kXz (I:Inv X pins σ H s)(g:DGet H a y o):s.TypeIs (.ref a) "dict":=by
 rcases g with ⟨kvs,k,e,_,_⟩ | ⟨kvs,k,b,e,_,_,_⟩
 ·obtain⟨_,_,vs,_,dd⟩:=qUg I.hok e
  exact dd.typeIs
 ·obtain⟨_,_,xs,_,dd⟩:=qUc I.hok e
  exact dd.typeIs
variable {ty:TE}
section
variable {o i value:Expr}{pos' tpos:Pos}{td tv:TE}
end
theorem qXp (h:Heap)(hb:sysModules<h.objs.size):ObjOk P w H (h.push {cls:= .type "dict",data:= .dict #[]}) h.objs.size (.dK []):=
 ⟨lJ9 _,beq_eq_false_iff_ne.mpr (Ne.symm (lJ4 hb)),[],.nil,Heap.DictOf.new h⟩
theorem qXo (h:Heap)(hb:sysModules<h.objs.size):ObjOk P w H (h.push {cls:= .type "dict",data:= .dict #[]}) h.objs.size (.dT []):=
 ⟨lJ9 _,beq_eq_false_iff_ne.mpr (Ne.symm (lJ4 hb)),[],.nil,_,#[],0,lJ8 _ rfl,⟨rfl,rfl,rfl⟩,rfl,rfl,lXl⟩
def tDNewK:TE:=fun _ H Q=>∀p,H p=none->Q (.ref p) (upd H p (.dK []))
def tDNewT:TE:=fun _ H Q=>∀p,H p=none->Q (.ref p) (upd H p (.dT []))
theorem qVq:PE X (.Dict [] [] pos) tDNewK:=fun pins s σ H Q I h=>
 wpAny_Dict_empty ⟨.ref s.heap.objs.size,_,I.laid (a:=s.heap.objs.size) (o:= .dK []) (t':=s.toks) (fun _ _ q=>lJu _ q) (lJj _) (qXp s.heap I.big),rfl,h _ (I.hok.fresh (lJj _))⟩
theorem qVp:PE X (.Dict [] [] pos) tDNewT:=fun pins s σ H Q I h=>
 wpAny_Dict_empty ⟨.ref s.heap.objs.size,_,I.laid (a:=s.heap.objs.size) (o:= .dT []) (t':=s.toks) (fun _ _ q=>lJu _ q) (lJj _) (qXo s.heap I.big),rfl,h _ (I.hok.fresh (lJj _))⟩
section
variable {d:V}
end
section
variable {o f:Expr}{td tx:TE}
end
section
variable {kvs:List (Key×V)}
end
end L2
namespace Att
open PySem PySem.W PySem.Calls PyProof.Rows
variable {P:Params}{h:Heap}
theorem kJt:∀(ns:List Int) (vs:List Value),WellAll P h vs (ns.map WData.int)->IntsAre vs ns:=by
 intro ns
 induction ns with
 | nil=>
  intro vs w
  rw[List.map_nil] at w
  cases w
  exact .nil
 | cons n ns ih=>
  intro vs w
  rw[lJ6] at w
  cases w with
  | cons a b=>
   cases a
   exact .cons _ _ (ih _ b)
variable {l:OpenLaw}{n:Nat}
theorem qKa (hn:l.most=some n){args:List WData}{vals:List Value}(hpre:l.row.toRowW.claim.pre args=true)(hwl:WellAll P h vals args):
  ∃a vs ns,vals=[Value.ref a]/\args=[WData.list (ns.map WData.int)]/\h.get? a=some {cls:= .type "list",data:= .seq vs.toArray}/\IntsAre vs ns/\ns.length<=n:=by
 have hsh:WShape.hasAll [] args [.list .int]=true:=(pre_splitW hpre).1
 have hc:l.pre.holds [] {args:=args}=true:=(pre_splitW hpre).2
 obtain⟨d,r,rfl,h1,h2⟩:=hasAllW_cons hsh
 obtain rfl:=hasAllW_nil h2
 obtain⟨xs,rfl,h3⟩:=hasW_list h1
 obtain⟨ns,rfl⟩:=items_int h3
 have hlen:ns.length<=n:=by
  unfold OpenLaw.pre at hc
  have h4:(WTm.not (.lt (.lit (.int (n:Int))) (.len (.arg 0)))).holds [] {args:=[.list (ns.map .int)]}=true:=by
   have h4:=(holds_andW hc).1
   rw[hn] at h4
   exact h4
  have h5:=condW_of h4 (w_not (w_lt w_lit (w_len_list (w_arg rfl))))
  rw[lJe] at h5
  refine Nat.le_of_not_lt fun q=> ?_
  have q':(n:Int)<((ns.length:Nat):Int):=by omega
  first
   | (rw[lJq q'] at h5;exact absurd h5 (by decide))
   | (simp at h5;omega)
 cases hwl with
 | cons w1 w2=>
  cases w2
  cases w1 with
  | list ho hall=>exact⟨_,_,ns,rfl,rfl,ho,kJt ns _ hall,hlen⟩
theorem qKy (l:OpenLaw)(args:List WData):l.row.toRowW.claim.post args (.bool true) args=true:=
 postW_of (r:=l.row.toRowW) (X:=(true == true))
  (show WShape.has [] (.bool true) .bool=true by first | rfl | decide | simp[WShape.has,WShape.arms,WShape.armsAll])
  (show (WTm.eq .res (.lit (.bool true))).value [] {args:=args,res:=some (.bool true),after:=args}=some (.bool (true == true)) from w_eq_bool (w_res rfl) w_lit) rfl
theorem attach_call {q:Program}{loose:List Str}{XP:(Str->Option Value)->Heap->Prop}{YP:World->Heap->Prop}{d:DefRec}(hn:l.most=some n)(hdf:d.params.defaults=[])(call:∀(w:World) (s₀ s₁:Shared) (mg mb:Str->Option Value) (fa:Addr) (o:Obj) (pm cd doc:Value) (a:Addr) (vs:List Value) (ns:List Int),
   Ground q loose [] XP w s₀ mg mb s₁.heap->YP w s₁.heap->
   s₁.heap.get? fa=some o->o.data= .func (docDef d.name d.params d.body d.scope pm cd doc)->s₁.heap.CodeRec cd d.name->mg d.name=some (.ref fa)->
   s₁.heap.get? a=some {cls:= .type "list",data:= .seq vs.toArray}->IntsAre vs ns->ns.length<=n->s₁.gens= #[]->
   codeAny (model l.prog w) callerA (.call (.ref fa) ⟨[.ref a],[]⟩) (fun r s'=>r= .ok (.ret (.bool true))/\OldK s₁.heap s'.heap/\s'.os=s₁.os/\AllBare s'.gens) s₁):
  WalkO q loose XP YP l.row.toRowW d [] (fun f vs=>PySem.call f vs):=by
 intro w s₀ s₁ mg mb G Y fa o pm cd doc dV kV ho hd hcd hD hmg hg args vals as hpre hlay hrd hwl hlo
 obtain rfl:dV= .none:=Dflts.none hD hdf
 obtain rfl:kV= .none:=Dflts.noKw hD
 obtain⟨a,vs,ns,rfl,rfl,hobj,hints,hlen⟩:=qKa hn hpre hwl
 refine enter_call (codeAny_mono (call w s₀ s₁ mg mb fa o pm cd doc a vs ns G Y ho (fd_plain hd) hcd hmg hobj hints hlen hg) fun r s' hq=> ?_)
 obtain⟨rfl,h2,h3,h4⟩:=hq
 exact⟨.inl ⟨.bool true,.bool true,[],rfl,fun _=>rfl,.bool true,qKy l _,fun _=>⟨List.Pairwise.nil,fun _ hm=>(nomatch hm)⟩⟩,h2,h3,h4⟩
section
variable {prog:Program}{w:World}{A:Around}{E:Value->Shared->Prop}{s:Shared}{K:Frag}
end
end Att
namespace L2
open PySem PySem.Spec PyProof.Rows
theorem jVj:∀ {vs:List Value} {ns:List Int},IntsAre vs ns->Vals (ns.map V.int) vs
 | _,_,.nil=> .nil
 | _,_,.cons n t h=> .cons ⟨t,rfl⟩ (jVj h)
def Only (H:Hp):Prop:=∀b,H b=none\/∃o xs,H b=some (.frz o (.lst xs))
variable {P:Program}{w:World}{K:PySem.W.Frag}{mg:Str->Option Value}{fd:FuncData}{x:Str}{sp:Sp}
theorem qV4 {mb:Str->Option Value}{CX:CXT}{k:Nat}{fa a:Addr}{s₁:Shared}{vs:List Value}{ns:List Int}(KX:K.In s₁.heap)(hns:s₁.heap.Ns mainGlobals mg)(hb:s₁.heap.Ns builtinsNs mb)(hbb:∀x:Str,x≠"__name__"->mb x=bootBuiltins x)(hlim:s₁.heap.NoLimit)(hg:s₁.gens= #[])(ha:s₁.heap.get? a=some {cls:= .type "list",data:= .seq vs.toArray})(hi:IntsAre vs ns)(hl:ns.length<=sizeLine)(hr:Room k callerA)(F:∀base:Heap,K.In base->base.Ns mainGlobals mg->FnOk P w K mg base CX k fa fd [x] sp)(hbind:∀(s:Shared) (u:Value),BindsTo s fd ⟨[u],[]⟩ [(x,u)])(hsp:∀H:Hp,Only H->SqL K H a (ns.map V.int)->sp [.ref a] H (fun v _=>v= .bl true) fun _ _ _=>False)(hCX:∀H e s',CX [] H s₁ (fun _ _ _=>False) e s'->False):
  codeAny (model P w) callerA (.call (.ref fa) ⟨[.ref a],[]⟩) (fun r s'=>r= .ok (.ret (.bool true))/\OldK s₁.heap s'.heap/\s'.os=s₁.os/\AllBare s'.gens) s₁:=by
 have rv:=jVj hi
 have lenV:=hi.length
 have core:∀H:Hp,Only H->SqL K H a (ns.map V.int)->HOk P w H s₁.heap->(∀b,H b≠none->b=a)->(H a≠none->K.lookup a=none)->
   codeAny (model P w) callerA (.call (.ref fa) ⟨[.ref a],[]⟩) (fun r s'=>r= .ok (.ret (.bool true))/\OldK s₁.heap s'.heap/\s'.os=s₁.os/\AllBare s'.gens) s₁:=by
  intro H hO hS hok hA hK
  have base_of:∀ {b:Addr} {o:Obj},s₁.heap.get? b=some o->H b=none->(hidT s₁.heap H).get? b=some o:=fun e n=>qXg e n
  have noA:∀ {b:Addr} {o:Obj} {es:Array DictEntry} {ep:Nat},s₁.heap.get? b=some o->o.data= .dict es ep->H b=none:=fun {b o es ep} e d=>by
   cases q:H b with
   | none=>rfl
   | some u=>
    have e':b=a:=hA b (by rw[q];simp)
    subst e'
    rw[ha] at e;cases e
    have d':Data.seq vs.toArray _=Data.dict es ep:=d
    cases d'
  have nsK:∀ {b:Addr} {m:Str->Option Value},s₁.heap.Ns b m->(hidT s₁.heap H).Ns b m:=fun {b m} ⟨o,es,ep,e,d,r⟩=>⟨o,es,ep,base_of e (noA e d),d,r⟩
  have hKb:K.In (hidT s₁.heap H):=fun b o e=>base_of (KX b o e) (by
   cases q:H b with
   | none=>rfl
   | some u=>
    have e':b=a:=hA b (by rw[q];simp)
    subst e'
    rw[hK (by rw[q];simp)] at e;cases e)
  have hM:Mod K mg (hidT s₁.heap H):=⟨hKb,nsK hns,⟨mb,nsK hb,hbb⟩,let ⟨mc,h1,h2⟩:=hlim;⟨mc,nsK h1,h2⟩⟩
  have e0:Env0 P w K mg (hidT s₁.heap H) callerA [] s₁ H:=⟨rfl,hM,fun b o e=>qZp e,Nat.le_of_eq (qQv _ _),trivial,fun b hb=>absurd (show b∈([]:List Addr) from hb) (by simp),hok,.of_eq hg⟩
  refine codeAny_mono ((F _ hKb (nsK hns)).run callerA [] s₁ H ⟨[.ref a],[]⟩ [.ref a] [.ref a] _ _ hr e0 (hbind s₁ (.ref a)) (.cons rfl .nil) (hsp H hO hS)) fun r s' h=> ?_
  cases r with
  | error e=>exact (hCX H e s' h).elim
  | ok fl=>
   cases fl with
   | next=>exact False.elim h
   | brk=>exact False.elim h
   | cont=>exact False.elim h
   | ret u=>
    obtain⟨v,H',os,bare,un,hok',r',q⟩:=h
    have q':v= .bl true:=q
    subst q'
    obtain rfl:u=Value.bool true:=r'
    refine⟨rfl,OldK.of_keep fun b o e=> ?_,os,bare⟩
    cases q:H b with
    | none=>exact un.keep b o e q (by intro z;exact absurd (show b∈([]:List Addr) from z) (by simp)) (by simp)
    | some u=>
     rcases hO b with z | ⟨ob,xs,z⟩
     ·rw[q] at z;cases z
     ·have z2:=un.frzs b ob _ z
      obtain⟨e1,_⟩:=hok b _ z
      obtain⟨e2,_⟩:=hok' b _ z2
      rw[e] at e1;cases e1
      exact e2
 cases hk:K.lookup a with
 | some o=>
  have e:=KX a o hk
  rw[ha] at e
  cases e
  refine core (fun _=>none) (fun _=> .inl rfl) (.inr ⟨_,vs.toArray,_,hk,rfl,rfl,rfl,by rw[lJs,lenV];exact hl,by simpa using rv⟩) (fun b u z=>by have z':(none:Option HO)=some u:=z;cases z') (fun b z=>absurd rfl z) fun z=>absurd rfl z
 | none=>
  refine core (fun b=>if b=a then some (.frz {cls:= .type "list",data:= .seq vs.toArray} (.lst (ns.map V.int))) else none) (fun b=> ?_) (.inl (.inr ⟨{cls:= .type "list",data:= .seq vs.toArray},lJb rfl⟩)) (fun b u z=> ?_) (fun b z=> ?_) fun _=>hk
  ·by_cases hb:b=a
   ·exact .inr ⟨_,_,lJb hb⟩
   ·exact .inl (lJa hb)
  ·by_cases hb:b=a
   ·have z':=(lJb hb).symm.trans z
    cases z'
    subst hb
    exact⟨ha,by rw[lJe];exact hl,vs,_,rv,ha⟩
   ·have z':=(lJa hb).symm.trans z
    cases z'
  ·by_cases hb:b=a
   ·exact hb
   ·exact absurd (lJa hb) z
theorem walk_of {l:PySem.W.OpenLaw}{n k:Nat}{q:Program}{loose:List Str}{XP:(Str->Option Value)->Heap->Prop}{YP:World->Heap->Prop}{d:DefRec}{K:Params->PySem.W.Frag}{CX:World->CXT}{sp:World->Sp}(hn:l.most=some n)(hn2:n<=sizeLine)(hdf:d.params.defaults=[])(hr:Room k callerA)(hY:∀(w:World) (h:Heap),YP w h->(K w.params).In h)(F:∀(w:World) (mg:Str->Option Value) (fa:Addr) (h:Heap),(K w.params).In h->h.Ns mainGlobals mg->mg d.name=some (.ref fa)->
   ∃fd:FuncData,(∀(s:Shared) (u:Value),BindsTo s fd ⟨[u],[]⟩ [(x,u)])/\
    ∀base:Heap,(K w.params).In base->base.Ns mainGlobals mg->FnOk l.prog w (K w.params) mg base (CX w) k fa fd [x] (sp w))(hsp:∀(w:World) (H:Hp) (a:Addr) (ns:List Int),ns.length<=n->Only H->SqL (K w.params) H a (ns.map V.int)->sp w [.ref a] H (fun v _=>v= .bl true) fun _ _ _=>False)(hCX:∀(w:World) (H:Hp) (s:Shared) (e:Value) (s':Shared),CX w [] H s (fun _ _ _=>False) e s'->False):
  PySem.W.WalkO q loose XP YP l.row.toRowW d [] (fun f vs=>PySem.call f vs):=by
 refine Att.attach_call hn hdf fun w s₀ s₁ mg mb fa o pm cd doc a vs ns G Y ho hd hcd hmg hobj hints hlen hg=> ?_
 have KX:=hY w _ Y
 obtain⟨fd,hb,hF⟩:=F w mg fa _ KX G.T.g hmg
 exact qV4 KX G.T.g G.T.b G.T.builtins G.T.nolimit hg hobj hints (lKb hlen hn2) hr hF hb (fun H hO hS=>hsp w H a ns hlen hO hS) fun H e s'=>hCX w H s₁ e s'
noncomputable def jY8 (s:Stmt):Arguments:=match s with
 | .FunctionDef _ a _ _ _ _ _ _ _ _=>a
 | _=>{posonlyargs:=[],args:=[],vararg:=none,kwonlyargs:=[],kw_defaults:=[],kwarg:=none,defaults:=[]}
noncomputable def jVb (s:Stmt):List Stmt:=match s with
 | .FunctionDef _ _ b _ _ _ _ _ _ _=>b
 | _=>[]
noncomputable def jKj (s:Stmt):Scope:=match s with
 | .FunctionDef _ _ _ _ _ _ sc _ _ _=>sc
 | _=>{kind:= .function,names:=[],isGenerator:=false,isCoroutine:=false}
abbrev CX0:CXT:=fun _ _ _ _ _ _=>False
abbrev E0:XK:=fun _ _ _=>False
variable {X:Cx}
theorem pass0:qYv CX0 X E0:=fun _ _ _ _ _ _ _ h=>h.elim
structure Fun (K:PySem.W.Frag) (x qual:Str) (st:Stmt) (f:Addr) (fd:FuncData):Prop where
 ex:∃(oc:Value) (od:Option Addr) (kV doc pm:Value) (an:Option Addr) (cdv ct:Value) (osl:Array (Option Value)),
  fd=PySem.W.fnOf x qual (jY8 st) (jVb st) (jKj st) .none kV doc pm an cdv ct/\K.lookup f=some ⟨oc,od,.func fd,osl⟩/\PySem.W.codeIn K cdv qual=true
 kp:PySem.W.keepIn K (.ref f)=true
variable {qual:Str}{st:Stmt}{f:Addr}{ps:List Str}
section
variable {base:Heap}
theorem Fun.ok {N:List Str}{k:Nat}(F:Fun K x qual st f fd)(S:FnScope N ps (jKj st))(len:∀vs H Q E,sp vs H Q E->vs.length=ps.length)(hbody:∀(cdv:Value) (A:Around) (outer:List Env) (s:Shared) (H:Hp) (vs:List V) (Q:VK) (E:XK),Room k (A.deeper (envOfC qual (jKj st) s.heap.objs.size f cdv))->sp vs H Q E->
   ∃t,PSs (cxOf CX0 P w K mg base N qual (jKj st) f cdv A outer s H E).nox (jVb st) t/\t {nx:=fun _ H'=>Q .non H',rt:=Q} (start N vs) H):FnOk P w K mg base CX0 (k+1) f fd ps sp:=by
 obtain⟨oc,od,kV,doc,pm,an,cdv,ct,osl,rfl,lk,hcd⟩:=F.ex
 refine fn_of lk hcd S len fun A outer s H vs Q E hr hsp=> ?_
 obtain⟨t,h,q⟩:=hbody cdv A outer s H vs Q E hr hsp
 exact⟨t,h.nox,q⟩
theorem Fun.binds (F:Fun K x qual st f fd)(h:∀(kV doc pm:Value) (an:Option Addr) (cdv ct:Value) (us:List Value),us.length=ps.length->bindArgs (PySem.W.fnOf x qual (jY8 st) (jVb st) (jKj st) .none kV doc pm an cdv ct) ⟨us,[]⟩=pure (ps.zip us)):Binds K fd ps []:=by
 obtain⟨oc,od,kV,doc,pm,an,cdv,ct,osl,rfl,lk,hcd⟩:=F.ex
 exact .all (h kV doc pm an cdv ct)
theorem fun_mk {oc:Value}{od an:Option Addr}{osl:Array (Option Value)}{kV doc pm cdv ct:Value}(l:K.lookup f=some ⟨oc,od,.func (PySem.W.fnOf x qual (jY8 st) (jVb st) (jKj st) .none kV doc pm an cdv ct),osl⟩)(c:PySem.W.codeIn K cdv qual=true)(k:PySem.W.keepIn K (.ref f)=true):Fun K x qual st f (PySem.W.fnOf x qual (jY8 st) (jVb st) (jKj st) .none kV doc pm an cdv ct):=⟨⟨oc,od,kV,doc,pm,an,cdv,ct,osl,rfl,l,c⟩,k⟩
end
theorem hu_of {A:Around}{k:Nat}(hr:Room k A):A.units+20<cLine:=Nat.lt_of_le_of_lt (Nat.add_le_add_left (by decide:20<=64) _) hr.units
end L2
set_option Elab.async false
set_option linter.all false
set_option maxRecDepth 100000
set_option maxHeartbeats 5000000
namespace L3
open PySem PySem.Spec PyProof.Rows L2
inductive T where
 | non | bl (b:Bool) | int (i:Int) | str (x:Str) | tup (xs:List T) | scr (xs:List T) | ref (a:Addr) | ty (n:String)
structure Ext (H H':Hp):Prop where
 tup:∀b xs,H b=some (.tup xs)->H' b=some (.tup xs)
 frz:∀b ob u,H b=some (.frz ob u)->H' b=some (.frz ob u)
theorem Ext.refl (H:Hp):Ext H H:=⟨fun _ _ h=>h,fun _ _ _ h=>h⟩
variable {H H1:Hp}
theorem Ext.trans {H2:Hp}(a:Ext H H1)(b:Ext H1 H2):Ext H H2:=⟨fun c o h=>b.tup c o (a.tup c o h),fun c o u h=>b.frz c o u (a.frz c o u h)⟩
def FrL (K:PySem.W.Frag)(H:Hp)(a:Addr)(xs:List V):Prop:=
 (∃ob,H a=some (.frz ob (.lst xs)))\/
  ∃(o:Obj) (its:Array Value) (n:Nat),K.lookup a=some o/\o.cls= .type "list"/\o.dict=none/\o.data= .seq its n/\its.size<=sizeLine/\Vals xs its.toList
variable {K:PySem.W.Frag}
theorem FrL.sq {a:Addr}{xs:List V}(h:FrL K H a xs):SqL K H a xs:=by
 rcases h with ⟨ob,h⟩ | h
 ·exact .inl (.inr ⟨ob,h⟩)
 ·exact .inr h
variable {H':Hp}
theorem FrL.mono {a:Addr}{xs:List V}(e:Ext H H')(h:FrL K H a xs):FrL K H' a xs:=by
 rcases h with ⟨ob,h⟩ | h
 ·exact .inl ⟨ob,e.frz _ _ _ h⟩
 ·exact .inr h
mutual
noncomputable def Rep (K:PySem.W.Frag) (H:Hp):T->V->Prop
 | .non,v=>v= .non
 | .bl b,v=>v= .bl b
 | .int i,v=>v= .int i
 | .str x,v=>v= .str x
 | .ref a,v=>v= .ref a
 | .ty n,v=>v= .ty n
 | .tup xs,v=>∃a vs,v= .ref a/\H a=some (.tup vs)/\Reps K H xs vs
 | .scr xs,v=>∃a vs,v= .ref a/\FrL K H a vs/\Reps K H xs vs
noncomputable def Reps (K:PySem.W.Frag) (H:Hp):List T->List V->Prop
 | [],vs=>vs=[]
 | x::xs,vs=>∃v ws,vs=v::ws/\Rep K H x v/\Reps K H xs ws
end
mutual
theorem Rep.mono {K:PySem.W.Frag} {H H':Hp} (e:Ext H H'):∀(x:T) {v:V},Rep K H x v->Rep K H' x v
 | .non,_,h=>h
 | .bl _,_,h=>h
 | .int _,_,h=>h
 | .str _,_,h=>h
 | .ref _,_,h=>h
 | .ty _,_,h=>h
 | .tup xs,_,⟨a,vs,r1,r2,r3⟩=>⟨a,vs,r1,e.tup _ _ r2,Reps.mono e xs r3⟩
 | .scr xs,_,⟨a,vs,r1,r2,r3⟩=>⟨a,vs,r1,r2.mono e,Reps.mono e xs r3⟩
theorem Reps.mono {K:PySem.W.Frag} {H H':Hp} (e:Ext H H'):∀(xs:List T) {vs:List V},Reps K H xs vs->Reps K H' xs vs
 | [],_,h=>h
 | x::xs,_,⟨v,ws,r1,r2,r3⟩=>⟨v,ws,r1,Rep.mono e x r2,Reps.mono e xs r3⟩
end
variable {v:V}{xs:List T}{vs:List V}
theorem Reps.length:∀ {xs:List T} {vs:List V},Reps K H xs vs->xs.length=vs.length
 | [],_,h=>by cases h;rfl
 | _::_,_,⟨_,_,r1,_,r3⟩=>by subst r1;simp[Reps.length r3]
theorem Reps.get:∀ {xs:List T} {vs:List V} {i:Nat} {x:T},Reps K H xs vs->xs[i]? =some x->∃v,vs[i]? =some v/\Rep K H x v
 | [],_,_,_,_,e=>by simp at e
 | y::ys,_,0,x,⟨v,ws,r1,r2,r3⟩,e=>by subst r1;simp at e;subst e;exact⟨v,rfl,r2⟩
 | y::ys,_,i+1,x,⟨v,ws,r1,r2,r3⟩,e=>by subst r1;simpa using Reps.get r3 (by simpa using e)
theorem Reps.get':∀ {xs:List T} {vs:List V} {i:Nat} {v:V},Reps K H xs vs->vs[i]? =some v->∃x,xs[i]? =some x/\Rep K H x v
 | [],_,_,_,h,e=>by cases h;simp at e
 | y::ys,_,0,x,⟨v,ws,r1,r2,r3⟩,e=>by subst r1;simp at e;subst e;exact⟨y,rfl,r2⟩
 | y::ys,_,i+1,x,⟨v,ws,r1,r2,r3⟩,e=>by subst r1;simpa using Reps.get' r3 (by simpa using e)
theorem Reps.append:∀ {xs ys:List T} {vs ws:List V},Reps K H xs vs->Reps K H ys ws->Reps K H (xs++ys) (vs++ws)
 | [],_,_,_,h,h2=>by cases h;exact h2
 | _::_,_,_,_,⟨v,ws,r1,r2,r3⟩,h2=>by subst r1;exact⟨v,_,rfl,r2,Reps.append r3 h2⟩
theorem Reps.one {x:T}(r:Rep K H x v):Reps K H [x] [v]:=⟨v,[],rfl,r,rfl⟩
theorem Reps.set {x:T} {v:V} (r:Rep K H x v):∀ {xs:List T} {vs:List V} (i:Nat),Reps K H xs vs->Reps K H (xs.set i x) (vs.set i v)
 | [],_,_,e=>by cases e;rfl
 | _::_,_,0,⟨_,ws,r1,r2,r3⟩=>by subst r1;exact⟨v,ws,rfl,r,r3⟩
 | _::_,_,i+1,⟨u,ws,r1,r2,r3⟩=>by subst r1;exact⟨u,_,rfl,r2,Reps.set r i r3⟩
theorem Reps.take:∀ {xs:List T} {vs:List V} (n:Nat),Reps K H xs vs->Reps K H (xs.take n) (vs.take n)
 | _,_,0,_=>by simp[Reps]
 | [],_,_+1,h=>by cases h;simp[Reps]
 | _::_,_,n+1,⟨u,ws,r1,r2,r3⟩=>by subst r1;exact⟨u,_,rfl,r2,Reps.take n r3⟩
theorem Reps.drop:∀ {xs:List T} {vs:List V} (n:Nat),Reps K H xs vs->Reps K H (xs.drop n) (vs.drop n)
 | _,_,0,h=>h
 | [],_,_+1,h=>by cases h;simp[Reps]
 | _::_,_,n+1,⟨u,ws,r1,r2,r3⟩=>by subst r1;exact Reps.drop n r3
theorem Reps.rep {xs:List T} {vs:List V} (r:Reps K H xs vs):∀n:Nat,Reps K H (List.replicate n xs).flatten (List.replicate n vs).flatten
 | 0=>by simp[Reps]
 | n+1=>by simpa[lQi] using r.append (Reps.rep r n)
theorem Reps.atI {i:Int}{x:T}(r:Reps K H xs vs)(h:atI xs i=some x):∃v,atI vs i=some v/\Rep K H x v:=by
 unfold L2.atI at h ⊢
 rw[<-r.length]
 cases e:ixN xs.length i with
 | none=>rw[e] at h;cases h
 | some j=>rw[e] at h;exact r.get h
inductive GO where
 | lst (xs:List T) | dct (kvs:List (TKey×T)) | dck (kvs:List (Key×T)) | fdc (kvs:List (TKey×T)) | ins (cn:Str) (fs:List (Str×T))
abbrev Gp:=Addr->Option GO
noncomputable def gup (G:Gp)(a:Addr)(o:GO):Gp:=fun b=>if b=a then some o else G b
variable {G:Gp}{o:GO}
theorem jJh {a:Addr}:gup G a o a=some o:=by simp[gup]
theorem jJs {a b:Addr}(h:b≠a):gup G a o b=G b:=by simp[gup,h]
theorem qQw {a:Addr}{o':GO}:gup (gup G a o) a o'=gup G a o':=by funext b;by_cases h:b=a<;>simp[gup,h]
noncomputable def asL:Option GO->Option (List T)
 | some (.lst xs)=>some xs
 | _=>none
noncomputable def seqT (G:Gp):T->Option (List T)
 | .tup xs=>some xs
 | .scr xs=>some xs
 | .ref a=>asL (G a)
 | _=>none
def PKV {κ:Type}(K:PySem.W.Frag)(H:Hp):List (κ×T)->List (κ×V)->Prop:=Paired fun p q=>p.1=q.1/\Rep K H p.2 q.2
noncomputable def GOk (K:PySem.W.Frag)(H:Hp)(a:Addr):GO->Prop
 | .lst xs=>∃vs,H a=some (.lst vs)/\Reps K H xs vs
 | .dct kvs=>∃ws,H a=some (.dT ws)/\PKV K H kvs ws
 | .dck kvs=>∃ws,H a=some (.dK ws)/\PKV K H kvs ws
 | .fdc kvs=>∃ob ws,H a=some (.frz ob (.dT ws))/\PKV K H kvs ws
 | .ins cn fs=>∃C dx ws,H a=some (.ins C dx ws)/\PySem.W.nsIn K mainGlobals cn=some (some (.ref C))/\PKV K H fs ws
def GRel (K:PySem.W.Frag)(H:Hp)(G:Gp):Prop:=∀a o,G a=some o->GOk K H a o
section
variable {a:Addr}
theorem PKV.mono {κ:Type}{kvs:List (κ×T)}{ws:List (κ×V)}(e:Ext H H')(h:PKV K H kvs ws):PKV K H' kvs ws:=Paired.mapP h fun _ _ z=>⟨z.1,Rep.mono e _ z.2⟩
theorem GOk.move (h:GOk K H a o)(e:Ext H H')(ha:H' a=H a):GOk K H' a o:=by
 cases o with
 | lst xs=>obtain⟨vs,h1,h2⟩:=h;exact⟨vs,ha.trans h1,Reps.mono e _ h2⟩
 | dct kvs=>obtain⟨vs,h1,h2⟩:=h;exact⟨vs,ha.trans h1,h2.mono e⟩
 | dck kvs=>obtain⟨vs,h1,h2⟩:=h;exact⟨vs,ha.trans h1,h2.mono e⟩
 | fdc kvs=>obtain⟨ob,vs,h1,h2⟩:=h;exact⟨ob,vs,ha.trans h1,h2.mono e⟩
 | ins cn fs=>obtain⟨C,dx,ws,h1,h2,h3⟩:=h;exact⟨C,dx,ws,ha.trans h1,h2,h3.mono e⟩
theorem GOk.some (h:GOk K H a o):H a≠none:=by
 cases o with
 | lst xs=>obtain⟨vs,h1,h2⟩:=h;rw[h1];simp
 | dct kvs=>obtain⟨vs,h1,h2⟩:=h;rw[h1];simp
 | dck kvs=>obtain⟨vs,h1,h2⟩:=h;rw[h1];simp
 | fdc kvs=>obtain⟨ob,vs,h1,h2⟩:=h;rw[h1];simp
 | ins cn fs=>obtain⟨C,dx,ws,h1,h2,h3⟩:=h;rw[h1];simp
theorem GRel.fresh (g:GRel K H G)(h:H a=none):G a=none:=by
 cases e:G a with
 | none=>rfl
 | some o=>exact absurd h (g a o e).some
def Soft (o:Option HO):Prop:=o=none\/(∃xs,o=some (.lst xs))\/(∃kvs,o=some (.dK kvs))\/(∃kvs,o=some (.dT kvs))\/∃C dx fs,o=some (.ins C dx fs)
theorem Ext.upd {o:HO}(h:Soft (H a)):Ext H (L2.upd H a o):=by
 refine⟨fun b xs e=> ?_,fun b ob u e=> ?_⟩
 ·rw[jKg];exact e
  rintro rfl;rw[e] at h;rcases h with h | ⟨_,h⟩ | ⟨_,h⟩ | ⟨_,h⟩ | ⟨_,_,_,h⟩<;>cases h
 ·rw[jKg];exact e
  rintro rfl;rw[e] at h;rcases h with h | ⟨_,h⟩ | ⟨_,h⟩ | ⟨_,h⟩ | ⟨_,_,_,h⟩<;>cases h
theorem GRel.upd {o:HO}{go:GO}(g:GRel K H G)(h:Soft (H a))(n:GOk K (L2.upd H a o) a go):GRel K (L2.upd H a o) (gup G a go):=by
 intro b u e
 by_cases hb:b=a
 ·subst hb;rw[jJh] at e;cases e;exact n
 ·rw[jJs hb] at e;exact (g b u e).move (Ext.upd h) (jKg hb)
theorem Soft.none (h:H a=none):Soft (H a):= .inl h
theorem Soft.lst {xs:List V}(h:H a=some (.lst xs)):Soft (H a):= .inr (.inl ⟨xs,h⟩)
theorem Soft.dT {xs:List (TKey×V)}(h:H a=some (.dT xs)):Soft (H a):= .inr (.inr (.inr (.inl ⟨xs,h⟩)))
theorem Soft.dK {xs:List (Key×V)}(h:H a=some (.dK xs)):Soft (H a):= .inr (.inr (.inl ⟨xs,h⟩))
theorem GRel.tupNew (g:GRel K H G)(h:H a=Option.none):GRel K (L2.upd H a (.tup vs)) G:=by
 intro b u e
 have hb:b≠a:=by rintro rfl;exact (g b u e).some h
 exact (g b u e).move (Ext.upd (.none h)) (jKg hb)
theorem Rep.tupNew (r:Reps K H xs vs)(h:H a=Option.none):Rep K (L2.upd H a (.tup vs)) (.tup xs) (.ref a):=
 ⟨a,vs,rfl,jQe,Reps.mono (Ext.upd (.none h)) _ r⟩
theorem GRel.lstNew (g:GRel K H G)(r:Reps K H xs vs)(h:Soft (H a)):GRel K (L2.upd H a (.lst vs)) (gup G a (.lst xs)):=
 g.upd h ⟨vs,jQe,Reps.mono (Ext.upd h) _ r⟩
theorem GRel.lst (g:GRel K H G)(h:G a=some (.lst xs)):∃vs,H a=some (.lst vs)/\Reps K H xs vs:=g a _ h
end
abbrev St3:=List (Option T)
def SRel (K:PySem.W.Frag)(H:Hp)(σ:L2.St)(τ:St3):Prop:=σ.length=τ.length/\∀(i:Nat) (t:T),τ[i]? =some (some t)->∃v,σ[i]? =some (some v)/\Rep K H t v
variable {σ:L2.St}{τ:St3}
theorem SRel.mono (e:Ext H H')(h:SRel K H σ τ):SRel K H' σ τ:=
 ⟨h.1,fun i t q=>let ⟨v,h1,h2⟩:=h.2 i t q;⟨v,h1,Rep.mono e _ h2⟩⟩
theorem SRel.set {t:T}(h:SRel K H σ τ)(i:Nat)(r:Rep K H t v):SRel K H (σ.set i (some v)) (τ.set i (some t)):=by
 refine⟨by simp[h.1],fun j u q=> ?_⟩
 by_cases hj:i=j
 ·subst hj
  have hl:i<τ.length:=by
   rcases lQg i τ.length with z | z
   ·exact z
   ·rw[lJ3 (by simpa using z)] at q;cases q
  rw[lKx hl] at q
  cases q
  exact⟨v,by rw[lKx (by rw[h.1];exact hl)],r⟩
 ·rw[lKt hj] at q ⊢
  exact h.2 j u q
def Inv3 (X:Cx)(pins:List (Addr×Obj))(τ:St3)(G:Gp)(H:Hp)(s:Shared):Prop:=∃ σ,Inv X pins σ H s/\SRel X.K H σ τ/\GRel X.K H G
abbrev VK3:=T->Gp->Prop
abbrev TE3:=St3->Gp->VK3->Prop
abbrev TT3:=St3->Gp->(Bool->Gp->Prop)->Prop
abbrev TA3:=St3->Gp->(List T->Gp->Prop)->Prop
structure Ends3 where
 nx:St3->Gp->Prop
 rt:VK3
 bk:St3->Gp->Prop:=fun _ _=>False
 ct:St3->Gp->Prop:=fun _ _=>False
abbrev TS3:=Ends3->St3->Gp->Prop
def RU (K:PySem.W.Frag)(H:Hp)(t:T)(u:Value):Prop:=∃v,Rep K H t v/\RelV v u
def RUs (K:PySem.W.Frag)(H:Hp)(ts:List T)(us:List Value):Prop:=∃vs,Reps K H ts vs/\Vals vs us
variable {u:Value}
theorem RU.mono {t:T}(e:Ext H H')(h:RU K H t u):RU K H' t u:=let ⟨v,h1,h2⟩:=h;⟨v,Rep.mono e _ h1,h2⟩
def EP3 (X:Cx)(pins:List (Addr×Obj))(τ:St3)(H:Hp)(Q:VK3)(u:Value)(s':Shared):Prop:=∃t G' H',Ext H H'/\Inv3 X pins τ G' H' s'/\RU X.K H' t u/\Q t G'
def TP3 (X:Cx)(pins:List (Addr×Obj))(τ:St3)(H:Hp)(Q:Bool->Gp->Prop)(b:Bool)(s':Shared):Prop:=∃G' H',Ext H H'/\Inv3 X pins τ G' H' s'/\Q b G'
def AP3 (X:Cx)(pins:List (Addr×Obj))(τ:St3)(H:Hp)(Q:List T->Gp->Prop)(us:List Value)(s':Shared):Prop:=∃ts G' H',Ext H H'/\Inv3 X pins τ G' H' s'/\RUs X.K H' ts us/\Q ts G'
def SP3 (X:Cx)(pins:List (Addr×Obj))(H:Hp)(D:Ends3)(f:Flow)(s':Shared):Prop:=
 match f with
 | .next=>∃ τ' G' H',Ext H H'/\Inv3 X pins τ' G' H' s'/\D.nx τ' G'
 | .brk=>∃ τ' G' H',Ext H H'/\Inv3 X pins τ' G' H' s'/\D.bk τ' G'
 | .cont=>∃ τ' G' H',Ext H H'/\Inv3 X pins τ' G' H' s'/\D.ct τ' G'
 | .ret u=>∃t τ' G' H',Ext H H'/\Inv3 X pins τ' G' H' s'/\RU X.K H' t u/\D.rt t G'
def PE3 (X:Cx)(e:Expr)(t:TE3):Prop:=∀(pins:List (Addr×Obj)) (s:Shared) (τ:St3) (G:Gp) (H:Hp) (Q:VK3),Inv3 X pins τ G H s->t τ G Q->wpAny (model X.prog X.w) X.A (eval e X.env) (EP3 X pins τ H Q) X.xe s
def PT3 (X:Cx)(e:Expr)(t:TT3):Prop:=∀(pins:List (Addr×Obj)) (s:Shared) (τ:St3) (G:Gp) (H:Hp) (Q:Bool->Gp->Prop),Inv3 X pins τ G H s->t τ G Q->wpAny (model X.prog X.w) X.A (isTrue e X.env (eval e X.env)) (TP3 X pins τ H Q) X.xe s
def PW3 (X:Cx)(e:Expr)(t:TT3):Prop:=∀(whole:Sem Value) (pins:List (Addr×Obj)) (s:Shared) (τ:St3) (G:Gp) (H:Hp) (Q:Bool->Gp->Prop),Inv3 X pins τ G H s->t τ G Q->wpAny (model X.prog X.w) X.A (isTrue e X.env whole) (TP3 X pins τ H Q) X.xe s
variable {X:Cx}{e:Expr}
theorem PW3.pt {t:TT3}(h:PW3 X e t):PT3 X e t:=h _
def PA3 (X:Cx)(es:List Expr)(t:TA3):Prop:=∀(pos:Pos) (pins:List (Addr×Obj)) (s:Shared) (τ:St3) (G:Gp) (H:Hp) (Q:List T->Gp->Prop),Inv3 X pins τ G H s->t τ G Q->wpAny (model X.prog X.w) X.A (spliced (backTo pos (starEach es X.env))) (AP3 X pins τ H Q) X.xe s
def PS3 (X:Cx)(st:Stmt)(t:TS3):Prop:=∀(pins:List (Addr×Obj)) (s:Shared) (τ:St3) (G:Gp) (H:Hp) (D:Ends3),Inv3 X pins τ G H s->t D τ G->wpAny (model X.prog X.w) X.A (exec st X.env) (SP3 X pins H D) X.xe s
def PSs3 (X:Cx)(st:List Stmt)(t:TS3):Prop:=∀(pins:List (Addr×Obj)) (s:Shared) (τ:St3) (G:Gp) (H:Hp) (D:Ends3),Inv3 X pins τ G H s->t D τ G->wpAny (model X.prog X.w) X.A (execs st X.env) (SP3 X pins H D) X.xe s
variable {pins:List (Addr×Obj)}{s:Shared}{Q:VK3}
section
variable {C:Prop}
theorem EP3.el (h:EP3 X pins τ H Q u s)(k:∀t G' H',Ext H H'->Inv3 X pins τ G' H' s->RU X.K H' t u->Q t G'->C):C:=let ⟨t,G',H',a,b,c,d⟩:=h;k t G' H' a b c d
theorem AP3.el {Q:List T->Gp->Prop}{u:List Value}(h:AP3 X pins τ H Q u s)(k:∀t G' H',Ext H H'->Inv3 X pins τ G' H' s->RUs X.K H' t u->Q t G'->C):C:=let ⟨t,G',H',a,b,c,d⟩:=h;k t G' H' a b c d
theorem TP3.el {Q:Bool->Gp->Prop}{u:Bool}(h:TP3 X pins τ H Q u s)(k:∀G' H',Ext H H'->Inv3 X pins τ G' H' s->Q u G'->C):C:=let ⟨G',H',a,b,c⟩:=h;k G' H' a b c
theorem Inv3.el (h:Inv3 X pins τ G H s)(k:∀ σ,Inv X pins σ H s->SRel X.K H σ τ->GRel X.K H G->C):C:=let ⟨σ,a,b,c⟩:=h;k σ a b c
theorem RU.el {t:T}(h:RU K H t u)(k:∀v,Rep K H t v->RelV v u->C):C:=let ⟨v,a,b⟩:=h;k v a b
theorem RUs.el {t:List T}{u:List Value}(h:RUs K H t u)(k:∀v,Reps K H t v->Vals v u->C):C:=let ⟨v,a,b⟩:=h;k v a b
end
variable {a b:Expr}{tb:TE3}
theorem EP3.ext (e:Ext H H1)(h:EP3 X pins τ H1 Q u s):EP3 X pins τ H Q u s:=let ⟨t,G',H',a,b⟩:=h;⟨t,G',H',e.trans a,b⟩
theorem TP3.ext {Q:Bool->Gp->Prop}{u:Bool}(e:Ext H H1)(h:TP3 X pins τ H1 Q u s):TP3 X pins τ H Q u s:=let ⟨G',H',a,b⟩:=h;⟨G',H',e.trans a,b⟩
theorem SP3.ext {D:Ends3}{f:Flow}(e:Ext H H1)(h:SP3 X pins H1 D f s):SP3 X pins H D f s:=by
 cases f with
 | next=>obtain⟨τ',G',H',a,b⟩:=h;exact⟨τ',G',H',e.trans a,b⟩
 | brk=>obtain⟨τ',G',H',a,b⟩:=h;exact⟨τ',G',H',e.trans a,b⟩
 | cont=>obtain⟨τ',G',H',a,b⟩:=h;exact⟨τ',G',H',e.trans a,b⟩
 | ret u=>obtain⟨t,τ',G',H',a,b⟩:=h;exact⟨t,τ',G',H',e.trans a,b⟩
theorem bin3 {ta:TE3}(ha:PE3 X a ta)(hb:PE3 X b tb){R:T->T->Gp->Prop}(I:Inv3 X pins τ G H s)(h:ta τ G fun x G1=>tb τ G1 fun y G2=>R x y G2){α:Type}{Q:α->Shared->Prop}{f:Value->Value->Sem α}(hf:∀v u s2 x y G2 H2,Ext H H2->Inv3 X pins τ G2 H2 s2->RU X.K H2 x v->RU X.K H2 y u->R x y G2->wpAny (model X.prog X.w) X.A (f v u) Q X.xe s2):
  wpAny (model X.prog X.w) X.A (eval a X.env) (fun v s₁=>wpAny (model X.prog X.w) X.A (eval b X.env) (fun u s₂=>wpAny (model X.prog X.w) X.A (f v u) Q X.xe s₂) X.xe s₁) X.xe s:=by
 refine thn (ha pins s τ G H _ I h) fun v s1 w_=>w_.el fun x G1 H1 e1 I1 r1 q1=> ?_
 refine thn (hb pins s1 τ G1 H1 _ I1 q1) fun u s2 w_=>w_.el fun y G2 H2 e2 I2 r2 q2=> ?_
 exact hf v u s2 x y G2 H2 (e1.trans e2) I2 (r1.mono e2) r2 q2
def up (K:PySem.W.Frag)(H:Hp)(Q:VK3):VK:=fun v H'=>∃t G',Ext H H'/\GRel K H' G'/\Rep K H' t v/\Q t G'
theorem jVz (hs:SRel X.K H σ τ)(h:EP X pins σ (up X.K H Q) u s):EP3 X pins τ H Q u s:=
 let ⟨v,H',I',r',t,G',e,g',rt,q⟩:=h
 ⟨t,G',H',e,⟨σ,I',hs.mono e,g'⟩,⟨v,rt,r'⟩,q⟩
variable {pos:Pos}{x:Str}
def tVar (i:Nat):TE3:=fun τ G Q=>∃t,τ[i]? =some (some t)/\Q t G
def tC (t:T):TE3:=fun _ G Q=>Q t G
theorem jJc (i:Nat)(hN:X.N[i]? =some x:=by rfl)(hv:Vis X.env.scope x:=by first | exact Or.inl rfl | exact Or.inr (Or.inl rfl) | exact Or.inr (Or.inr rfl))(hd:(x == ("__debug__":Str))=false:=by decide)(hcd:(x == ("__classdict__":Str))=false:=by decide):PE3 X (.Name x pos) (tVar i):=by
 rintro pins s τ G H Q ⟨σ,I,hs,hg⟩ ⟨t,e,q⟩
 obtain⟨v,ev,rv⟩:=hs.2 i t e
 exact thn (pe_var hN hv hd hcd pins s σ H (up X.K H Q) I ⟨v,ev,t,G,.refl H,hg,rv,q⟩) fun u s' h=>jVz hs h
theorem jJj {i j}:PE3 X (.Constant (.int i) j pos) (tC (.int i)):=fun pins s τ G H Q ⟨σ,I,hs,hg⟩ q=>
 thn (pe_int pins s σ H (up X.K H Q) I ⟨.int i,G,.refl H,hg,rfl,q⟩) fun u s' h=>jVz hs h
theorem e_bl {b j}:PE3 X (.Constant (.bool b) j pos) (tC (.bl b)):=fun pins s τ G H Q ⟨σ,I,hs,hg⟩ q=>
 thn (pe_bl pins s σ H (up X.K H Q) I ⟨.bl b,G,.refl H,hg,rfl,q⟩) fun u s' h=>jVz hs h
theorem qUa {j}:PE3 X (.Constant .none j pos) (tC .non):=fun pins s τ G H Q ⟨σ,I,hs,hg⟩ q=>
 thn (pe_non pins s σ H (up X.K H Q) I ⟨.non,G,.refl H,hg,rfl,q⟩) fun u s' h=>jVz hs h
theorem e_str {x j}:PE3 X (.Constant (.str x) j pos) (tC (.str x)):=fun pins s τ G H Q ⟨σ,I,hs,hg⟩ q=>
 thn (pe_str pins s σ H (up X.K H Q) I ⟨.str x,G,.refl H,hg,rfl,q⟩) fun u s' h=>jVz hs h
abbrev R3:=T->T->Gp->VK3->Prop
def Op3 (X:Cx)(f:Value->Value->Sem Value)(r:R3):Prop:=
 ∀(pins:List (Addr×Obj)) (s:Shared) (τ:St3) (G:Gp) (H:Hp) (x y:T) (v u:Value) (Q:VK3),Inv3 X pins τ G H s->RU X.K H x v->RU X.K H y u->r x y G Q->wpAny (model X.prog X.w) X.A (f v u) (EP3 X pins τ H Q) X.xe s
def Un3 (X:Cx)(f:Value->Sem Value)(r:T->Gp->VK3->Prop):Prop:=
 ∀(pins:List (Addr×Obj)) (s:Shared) (τ:St3) (G:Gp) (H:Hp) (x:T) (v:Value) (Q:VK3),Inv3 X pins τ G H s->RU X.K H x v->r x G Q->wpAny (model X.prog X.w) X.A (f v) (EP3 X pins τ H Q) X.xe s
def Call3 (X:Cx)(f:Value)(r:List T->Gp->VK3->Prop):Prop:=
 ∀(pins:List (Addr×Obj)) (s:Shared) (τ:St3) (G:Gp) (H:Hp) (xs:List T) (us:List Value) (Q:VK3),Inv3 X pins τ G H s->RUs X.K H xs us->r xs G Q->wpAny (model X.prog X.w) X.A (call f us) (EP3 X pins τ H Q) X.xe s
def Mt3 (X:Cx)(id:String)(r:T->List T->Gp->VK3->Prop):Prop:=
 ∀(pins:List (Addr×Obj)) (s:Shared) (τ:St3) (G:Gp) (H:Hp) (x:T) (xs:List T) (v:Value) (us:List Value) (Q:VK3),Inv3 X pins τ G H s->RU X.K H x v->RUs X.K H xs us->r x xs G Q->
  wpAny (model X.prog X.w) X.A (call (.builtin id) (v::us)) (EP3 X pins τ H Q) X.xe s
def Ix3 (X:Cx)(r:R3):Prop:=
 ∀(value slice:Expr) (pins:List (Addr×Obj)) (s:Shared) (τ:St3) (G:Gp) (H:Hp) (x y:T) (v u:Value) (Q:VK3),Inv3 X pins τ G H s->RU X.K H x v->RU X.K H y u->r x y G Q->
  subscripted slice false v u=operate [v,u] (getItem v u)->wpAny (model X.prog X.w) X.A (subscriptTail value slice v u) (EP3 X pins τ H Q) X.xe s
def Set3 (X:Cx)(r:T->T->T->Gp->(Gp->Prop)->Prop):Prop:=
 ∀(pins:List (Addr×Obj)) (s:Shared) (τ:St3) (G:Gp) (H:Hp) (o i v:T) (ov iv u:Value) (Q:Gp->Prop),Inv3 X pins τ G H s->RU X.K H o ov->RU X.K H i iv->RU X.K H v u->r o i v G Q->
  wpAny (model X.prog X.w) X.A (setItem ov iv u) (fun _ s'=>∃G' H',Ext H H'/\Inv3 X pins τ G' H' s'/\Q G') X.xe s
def Tru3 (X:Cx)(r:T->Gp->(Bool->Gp->Prop)->Prop):Prop:=
 ∀(pins:List (Addr×Obj)) (s:Shared) (τ:St3) (G:Gp) (H:Hp) (x:T) (v:Value) (Q:Bool->Gp->Prop),Inv3 X pins τ G H s->RU X.K H x v->r x G Q->wpAny (model X.prog X.w) X.A (truthy v) (TP3 X pins τ H Q) X.xe s
variable {f:Value->Value->Sem Value}{r3 r r':R3}{g':Int->Int->T}
theorem Op3.of {r:R2}(h:OpR X f r)(hr:∀H G x y a b Q,GRel X.K H G->Rep X.K H x a->Rep X.K H y b->r3 x y G Q->r a b H (up X.K H Q)):Op3 X f r3:=by
 rintro pins s τ G H x y v u Q ⟨σ,I,hs,hg⟩ ⟨a,ra,rv⟩ ⟨b,rb,ru⟩ q
 exact thn (h pins s σ H a b v u _ I rv ru (hr H G x y a b Q hg ra rb q)) fun u s' h=>jVz hs h
theorem Un3.of {f:Value->Sem Value}{r:V->Hp->VK->Prop}{r3:T->Gp->VK3->Prop}(h:UnR X f r)(hr:∀H G x a Q,GRel X.K H G->Rep X.K H x a->r3 x G Q->r a H (up X.K H Q)):Un3 X f r3:=by
 rintro pins s τ G H x v Q ⟨σ,I,hs,hg⟩ ⟨a,ra,rv⟩ q
 exact thn (h pins s σ H a v _ I rv (hr H G x a Q hg ra q)) fun u s' h=>jVz hs h
theorem Call3.of {f:Value}{r:List V->Hp->VK->Prop}{r3:List T->Gp->VK3->Prop}(h:kUn X f r)(hr:∀H G xs as Q,GRel X.K H G->Reps X.K H xs as->r3 xs G Q->r as H (up X.K H Q)):Call3 X f r3:=by
 rintro pins s τ G H xs us Q ⟨σ,I,hs,hg⟩ ⟨as,ra,rv⟩ q
 exact thn (h pins s σ H as us _ I rv (hr H G xs as Q hg ra q)) fun u s' h=>jVz hs h
theorem Mt3.of {id:String}{r:V->List V->Hp->VK->Prop}{r3:T->List T->Gp->VK3->Prop}(h:MtR X id r)(hr:∀H G x xs a as Q,GRel X.K H G->Rep X.K H x a->Reps X.K H xs as->r3 x xs G Q->r a as H (up X.K H Q)):Mt3 X id r3:=by
 rintro pins s τ G H x xs v us Q ⟨σ,I,hs,hg⟩ ⟨a,ra,rv⟩ ⟨as,ras,rvs⟩ q
 exact thn (h pins s σ H a as v us _ I rv rvs (hr H G x xs a as Q hg ra ras q)) fun u s' h=>jVz hs h
theorem Ix3.of {r:R2}(h:IxR X r)(hr:∀H G x y a b Q,GRel X.K H G->Rep X.K H x a->Rep X.K H y b->r3 x y G Q->r a b H (up X.K H Q)):Ix3 X r3:=by
 rintro value slice pins s τ G H x y v u Q ⟨σ,I,hs,hg⟩ ⟨a,ra,rv⟩ ⟨b,rb,ru⟩ q hh
 exact thn (h value slice pins s σ H a b v u _ I rv ru (hr H G x y a b Q hg ra rb q) hh) fun u s' h=>jVz hs h
theorem Set3.of {t:TSet}{r3:T->T->T->Gp->(Gp->Prop)->Prop}(h:PSet X t)(hr:∀H G o i v a b c Q,GRel X.K H G->Rep X.K H o a->Rep X.K H i b->Rep X.K H v c->r3 o i v G Q->t a b c H (fun H'=>∃G',Ext H H'/\GRel X.K H' G'/\Q G')):Set3 X r3:=by
 rintro pins s τ G H o i v ov iv u Q ⟨σ,I,hs,hg⟩ ⟨a,ra,rv⟩ ⟨b,rb,ru⟩ ⟨c,rc,rw'⟩ q
 exact thn (h pins s σ H a b c ov iv u _ I rv ru rw' (hr H G o i v a b c Q hg ra rb rc q)) fun _ s' ⟨H',I',G',e,g',q'⟩=>⟨G',H',e,⟨σ,I',hs.mono e,g'⟩,q'⟩
theorem Tru3.of {r:V->Hp->(Bool->Hp->Prop)->Prop}{r3:T->Gp->(Bool->Gp->Prop)->Prop}(h:TruR X r)(hr:∀H G x a Q,GRel X.K H G->Rep X.K H x a->r3 x G Q->r a H (fun b H'=>H'=H/\Q b G)):Tru3 X r3:=by
 rintro pins s τ G H x v Q ⟨σ,I,hs,hg⟩ ⟨a,ra,rv⟩ q
 exact thn (h pins s σ H a v _ I rv (hr H G x a Q hg ra q)) fun b s' ⟨H',I',e,q'⟩=>by
  subst e;exact⟨G,H',.refl _,⟨σ,I',hs,hg⟩,q'⟩
theorem Op3.or (h:Op3 X f r)(h':Op3 X f r'):Op3 X f (fun x y G Q=>r x y G Q\/r' x y G Q):=by
 intro pins s τ G H x y v u Q I rx ry q
 rcases q with q | q
 ·exact h pins s τ G H x y v u Q I rx ry q
 ·exact h' pins s τ G H x y v u Q I rx ry q
def rI (C:Int->Int->Prop)(g:Int->Int->T):R3:=fun x y G Q=>∃i j,x= .int i/\y= .int j/\C i j/\Q (g i j) G
def rI0 (g:Int->Int->T):R3:=fun x y G Q=>∃i j,x= .int i/\y= .int j/\Q (g i j) G
theorem o_I {C:Int->Int->Prop}{g:Int->Int->V}(h:OpR X f (L2.rI C g))(hg':∀K H i j,Rep K H (g' i j) (g i j)):Op3 X f (rI C g'):=
 Op3.of h fun H G x y a b Q hg ra rb ⟨i,j,ex,ey,c,q⟩=>by
  subst ex;subst ey
  cases (show a= .int i from ra);cases (show b= .int j from rb)
  exact⟨i,j,rfl,rfl,c,g' i j,G,.refl H,hg,hg' _ _ i j,q⟩
theorem o_I0 {g:Int->Int->V}(h:OpR X f (L2.rI0 g))(hg':∀K H i j,Rep K H (g' i j) (g i j)):Op3 X f (rI0 g'):=
 Op3.of h fun H G x y a b Q hg ra rb ⟨i,j,ex,ey,q⟩=>by
  subst ex;subst ey
  cases (show a= .int i from ra);cases (show b= .int j from rb)
  exact⟨i,j,rfl,rfl,g' i j,G,.refl H,hg,hg' _ _ i j,q⟩
theorem o_add:Op3 X (binaryOp .Add) (rI0 fun i j=> .int (i+j)):=o_I0 op_add fun _ _ _ _=>rfl
theorem kQ1:Op3 X (binaryOp .Sub) (rI0 fun i j=> .int (i-j)):=o_I0 op_sub fun _ _ _ _=>rfl
theorem o_mul:Op3 X (binaryOp .Mult) (rI CMul fun i j=> .int (i*j)):=o_I op_mul fun _ _ _ _=>rfl
theorem o_fdiv:Op3 X (binaryOp .FloorDiv) (rI CDiv fun i j=> .int (i / j)):=o_I qZm fun _ _ _ _=>rfl
theorem jV0:Op3 X (binaryOp .Mod) (rI (fun _ j=>0<j) fun i j=> .int (i%j)):=o_I op_mod fun _ _ _ _=>rfl
theorem o_pow:Op3 X (binaryOp .Pow) (rI CPow fun i j=> .int (i^j.toNat)):=o_I op_pow fun _ _ _ _=>rfl
theorem o_lt:Op3 X (compareOp .Lt) (rI0 fun i j=> .bl (decide (i<j))):=o_I0 op_lt fun _ _ _ _=>rfl
theorem o_le:Op3 X (compareOp .LtE) (rI0 fun i j=> .bl (decide (i<=j))):=o_I0 op_le fun _ _ _ _=>rfl
theorem o_gt:Op3 X (compareOp .Gt) (rI0 fun i j=> .bl (decide (j<i))):=o_I0 op_gt fun _ _ _ _=>rfl
theorem o_ge:Op3 X (compareOp .GtE) (rI0 fun i j=> .bl (decide (j<=i))):=o_I0 op_ge fun _ _ _ _=>rfl
noncomputable def uJd:T->Bool
 | .non=>true
 | _=>false
def tOp (r:R3)(ta tb:TE3):TE3:=fun τ G Q=>ta τ G fun x G1=>tb τ G1 fun y G2=>r x y G2 Q
def tUn (r:T->Gp->VK3->Prop)(ta:TE3):TE3:=fun τ G Q=>ta τ G fun x G1=>r x G1 Q
def jJ1 (t:TE3):TT3:=fun τ G Q=>t τ G fun x G1=>∃c,x= .bl c/\Q c G1
def tAnd (t u:TT3):TT3:=fun τ G Q=>t τ G fun c G1=>if c=true then u τ G1 Q else Q false G1
def tOr (t u:TT3):TT3:=fun τ G Q=>t τ G fun c G1=>if c=true then Q true G1 else u τ G1 Q
def tNot (t:TT3):TT3:=fun τ G Q=>t τ G fun c G1=>Q (!c) G1
def kUp (ta tb:TE3):TE3:=fun τ G Q=>ta τ G fun x G1=>∃c,x= .bl c/\if c=true then tb τ G1 Q else Q (.bl false) G1
def tOrV (ta tb:TE3):TE3:=fun τ G Q=>ta τ G fun x G1=>∃c,x= .bl c/\if c=true then Q (.bl true) G1 else tb τ G1 Q
def qU6 (ta:TE3):TE3:=fun τ G Q=>ta τ G fun x G1=>∃c,x= .bl c/\Q (.bl (!c)) G1
def tIf (t:TT3)(ta tb:TE3):TE3:=fun τ G Q=>t τ G fun c G1=>if c=true then ta τ G1 Q else tb τ G1 Q
noncomputable def jXz (r r':R3)(ta tb tc:TE3):TE3:=fun τ G Q=>ta τ G fun x G1=>tb τ G1 fun y G2=>r x y G2 fun z G3=>∃k,z= .bl k/\if k=true then tc τ G3 (fun w G4=>r' y w G4 Q) else Q (.bl false) G3
def tNil:TA3:=fun _ G Q=>Q [] G
def jJa (ta:TE3)(tr:TA3):TA3:=fun τ G Q=>ta τ G fun x G1=>tr τ G1 fun xs G2=>Q (x::xs) G2
def tTup (t:TA3):TE3:=fun τ G Q=>t τ G fun xs G1=>xs.length<=sizeLine/\Q (.tup xs) G1
def tLst (t:TA3):TE3:=fun τ G Q=>t τ G fun xs G1=>xs.length<=sizeLine/\∀p,G1 p=none->Q (.ref p) (gup G1 p (.lst xs))
def tCB (r:List T->Gp->VK3->Prop)(t:TA3):TE3:=fun τ G Q=>t τ G fun xs G1=>r xs G1 Q
variable {c:Expr}{tc te to:TE3}{es:List Expr}{op:CmpOp}{p:Pos}{T0:String}
section
variable {ta:TE3}{tA tB:TT3}{rest:List Expr}{t:TA3}
theorem e_op {op:Operator}(ho:Op3 X (binaryOp op) r)(ha:PE3 X a ta)(hb:PE3 X b tb):PE3 X (.BinOp a op b pos) (tOp r ta tb):=by
 intro pins s τ G H Q I h
 exact wpAny_BinOp (bin3 ha hb I h fun v u s2 x y G2 H2 e I2 rx ry q=>thn (ho pins s2 τ G2 H2 x y v u Q I2 rx ry q) fun _ _ z=>z.ext e)
theorem e_un {op:UnaryOp}{r:T->Gp->VK3->Prop}(ho:Un3 X (unaryOp op) r)(ha:PE3 X a ta):PE3 X (.UnaryOp op a pos) (tUn r ta):=by
 intro pins s τ G H Q I h
 exact UnaryOp_ (thn (ha pins s τ G H _ I h) fun v s1 w_=>w_.el fun x G1 H1 e I1 r1 q1=>thn (ho pins s1 τ G1 H1 x v Q I1 r1 q1) fun _ _ z=>z.ext e)
theorem kUa (ho:Op3 X (compareOp op) r)(ha:PE3 X a ta)(hb:PE3 X b tb)(hm:behindInMarks op b=false):PE3 X (.Compare a [op] [b] pos) (tOp r ta tb):=by
 intro pins s τ G H Q I h
 exact wpAny_Compare1 (bin3 ha hb I h fun v u s2 x y G2 H2 e I2 rx ry q=>thn (ho pins s2 τ G2 H2 x y v u Q I2 rx ry q) fun _ _ z=>z.ext e) hm
theorem jK6 (ho:Op3 X (compareOp op) r)(ha:PE3 X a ta)(hb:PE3 X b tb)(hm:behindInMarks op b=false):PT3 X (.Compare a [op] [b] pos) (jJ1 (tOp r ta tb)):=by
 intro pins s τ G H Q I h
 refine wpAny_isTrue_Compare1 (bin3 ha hb I h fun v u s2 x y G2 H2 e I2 rx ry q=>thn (ho pins s2 τ G2 H2 x y v u _ I2 rx ry q) fun w' s3 w_=>w_.el fun z G3 H3 e3 I3 r3 ⟨k,ez,q3⟩=> ?_) hm
 subst ez
 obtain⟨v',rv',ru'⟩:=r3
 cases (show v'= .bl k from rv');cases ru'
 exact lVc ⟨G3,H3,e.trans e3,I3,q3⟩
theorem kQd {t:TE3}(h:PE3 X e t)(he:∀whole,isTrue e X.env whole=(do let v <-whole;standAt e.pos;holding [v] (truthy v)):=by intro _;rfl):PT3 X e (jJ1 t):=by
 intro pins s τ G H Q I hw
 refine isTrue_plain (thn (h pins s τ G H _ I hw) fun v s1 w_=>w_.el fun x G1 H1 e1 I1 r1 ⟨k,ez,q1⟩=> ?_) (he _)
 subst ez
 obtain⟨v',rv',ru'⟩:=r1
 cases (show v'= .bl k from rv');cases ru'
 exact lVc ⟨G1,H1,e1,I1,q1⟩
def tTru (r:T->Gp->(Bool->Gp->Prop)->Prop)(t:TE3):TT3:=fun τ G Q=>t τ G fun x G1=>r x G1 Q
theorem t_tru {t:TE3}{r:T->Gp->(Bool->Gp->Prop)->Prop}(hr:Tru3 X r)(h:PE3 X e t)(he:∀whole,isTrue e X.env whole=(do let v <-whole;standAt e.pos;holding [v] (truthy v)):=by intro _;rfl):PT3 X e (tTru r t):=by
 intro pins s τ G H Q I hw
 exact isTrue_plain (thn (h pins s τ G H _ I hw) fun v s1 w_=>w_.el fun x G1 H1 e1 I1 r1 q1=>thn (hr pins s1 τ G1 H1 x v Q I1 r1 q1) fun _ _ z=>z.ext e1) (he _)
theorem qX7 (ha:PT3 X a tA):PW3 X (.BoolOp .And [a] pos) tA:=by
 intro wh pins s τ G H Q I h
 refine isTrue_and (thn (ha pins s τ G H Q I h) fun c s1 e=> ?_)
 cases c with
 | true=>exact isTrue_and_nil e
 | false=>exact e
theorem qJw (ha:PT3 X a tA):PW3 X (.BoolOp .Or [a] pos) tA:=by
 intro wh pins s τ G H Q I h
 refine isTrue_or (thn (ha pins s τ G H Q I h) fun c s1 e=> ?_)
 cases c with
 | false=>exact isTrue_or_nil e
 | true=>exact e
theorem w_and (ha:PT3 X a tA)(hb:PW3 X (.BoolOp .And (b::rest) pos) tB):PW3 X (.BoolOp .And (a::b::rest) pos) (tAnd tA tB):=by
 intro wh pins s τ G H Q I h
 refine isTrue_and (thn (ha pins s τ G H _ I h) fun c s1 w_=>w_.el fun G1 H1 e1 I1 q1=> ?_)
 cases c with
 | true=>exact thn (hb wh pins s1 τ G1 H1 Q I1 q1) fun _ _ z=>z.ext e1
 | false=>exact⟨G1,H1,e1,I1,q1⟩
theorem w_or (ha:PT3 X a tA)(hb:PW3 X (.BoolOp .Or (b::rest) pos) tB):PW3 X (.BoolOp .Or (a::b::rest) pos) (tOr tA tB):=by
 intro wh pins s τ G H Q I h
 refine isTrue_or (thn (ha pins s τ G H _ I h) fun c s1 w_=>w_.el fun G1 H1 e1 I1 q1=> ?_)
 cases c with
 | true=>exact⟨G1,H1,e1,I1,q1⟩
 | false=>exact thn (hb wh pins s1 τ G1 H1 Q I1 q1) fun _ _ z=>z.ext e1
theorem kKc (ha:PT3 X a tA):PT3 X (.UnaryOp .Not a pos) (tNot tA):=by
 intro pins s τ G H Q I h
 exact isTrue_not (thn (ha pins s τ G H (fun c G1=>Q (!c) G1) I h) fun c s1 w_=>w_.el fun G1 H1 e1 I1 q1=>⟨G1,H1,e1,I1,q1⟩)
theorem qJn {op}{t:TE3}(h:PE3 X a t):PE3 X (.BoolOp op [a] pos) t:=fun pins s τ G H Q I hw=>BoolOp_one (h pins s τ G H Q I hw)
theorem qJo (ha:PE3 X a ta)(hb:PE3 X (.BoolOp .And (b::rest) pos) tb):PE3 X (.BoolOp .And (a::b::rest) pos) (kUp ta tb):=by
 intro pins s τ G H Q I h
 refine BoolOp_and (thn (ha pins s τ G H _ I h) fun v s1 w_=>w_.el fun x G1 H1 e1 I1 r1 ⟨k,ez,q1⟩=> ?_)
 subst ez
 obtain⟨v',rv',ru'⟩:=r1
 cases (show v'= .bl k from rv');cases ru'
 refine lVc ?_
 cases k with
 | true=>exact thn (hb pins s1 τ G1 H1 Q I1 q1) fun _ _ z=>z.ext e1
 | false=>exact⟨.bl false,G1,H1,e1,I1,⟨.bl false,rfl,rfl⟩,q1⟩
theorem e_not (ha:PE3 X a ta):PE3 X (.UnaryOp .Not a pos) (qU6 ta):=by
 intro pins s τ G H Q I h
 refine UnaryOp_ (thn (ha pins s τ G H _ I h) fun v s1 w_=>w_.el fun x G1 H1 e1 I1 r1 ⟨k,ez,q1⟩=> ?_)
 subst ez
 obtain⟨v',rv',ru'⟩:=r1
 cases (show v'= .bl k from rv');cases ru'
 exact not_of (lVc ⟨.bl (!k),G1,H1,e1,I1,⟨.bl (!k),rfl,rfl⟩,q1⟩)
theorem kQ9 (hc:PT3 X c tA)(ha:PE3 X a ta)(hb:PE3 X b tb):PE3 X (.IfExp c a b pos) (tIf tA ta tb):=by
 intro pins s τ G H Q I h
 refine IfExp_ (thn (hc pins s τ G H _ I h) fun k s1 w_=>w_.el fun G1 H1 e1 I1 q1=> ?_)
 cases k with
 | true=>exact thn (ha pins s1 τ G1 H1 Q I1 q1) fun _ _ z=>z.ext e1
 | false=>exact thn (hb pins s1 τ G1 H1 Q I1 q1) fun _ _ z=>z.ext e1
theorem jJd:PA3 X [] tNil:=fun _ _ _ _ G H Q I h=>Calls.spliced_nil ⟨[],G,H,.refl H,I,⟨[],rfl,.nil⟩,h⟩
theorem jJb (ha:PE3 X e te)(hr:PA3 X es t)(hs:starEach (e::es) X.env=(false,eval e X.env)::starEach es X.env:=by rfl):PA3 X (e::es) (jJa te t):=by
 intro pos pins s τ G H Q I h
 rw[hs]
 show wpAny _ _ (spliced ((false,eval e X.env)::backTo pos (starEach es X.env))) _ _ s
 refine Calls.spliced_cons (thn (ha pins s τ G H _ I h) fun u s1 w_=>w_.el fun x G1 H1 e1 I1 r1 q1=> ?_)
 refine thn (hr pos pins s1 τ G1 H1 _ I1 q1) fun us s2 w_=>w_.el fun xs G2 H2 e2 I2 r_ q2=>r_.el fun vs rs rv=> ?_
 obtain⟨v,rr,rvv⟩:=r1.mono e2
 exact⟨x::xs,G2,H2,e1.trans e2,I2,⟨v::vs,⟨v,vs,rfl,rr,rs⟩,.cons rvv rv⟩,q2⟩
theorem jJ4 {x1}(h:PA3 X es t):PE3 X (.Tuple es x1 pos) (tTup t):=by
 intro pins s τ G H Q I hq
 refine wpAny_Tuple_spliced (thn (h pos pins s τ G H _ I hq) fun us s1 w_=>w_.el fun xs G1 H1 e1 i_ r_ ⟨z,q⟩=>i_.el fun σ I1 hs1 hg1=>r_.el fun vs rs rv=>⟨by rw[<-rv.length,<-rs.length];exact z,?_⟩)
 have hf:H1 s1.heap.objs.size=none:=I1.hok.fresh (lJj _)
 have e2:Ext H1 (upd H1 s1.heap.objs.size (.tup vs)):= .upd (.none hf)
 refine⟨.tup xs,G1,upd H1 s1.heap.objs.size (.tup vs),e1.trans e2,⟨σ,I1.laid (t':=s1.toks) (fun b u e=>lJu _ e) (lJj _) ?_,hs1.mono e2,hg1.tupNew hf⟩,⟨.ref s1.heap.objs.size,Rep.tupNew rs hf,rfl⟩,q⟩
 exact⟨by rw[<-rs.length];exact z,us,rv,⟨_,lJ8 _ rfl,rfl,_,rfl,rfl⟩⟩
theorem jKe (h:PA3 X es t):PE3 X (.List es pos) (tLst t):=by
 intro pins s τ G H Q I hq
 refine wpAny_List_spliced (thn (h pos pins s τ G H _ I hq) fun us s1 w_=>w_.el fun xs G1 H1 e1 i_ r_ ⟨z,q⟩=>i_.el fun σ I1 hs1 hg1=>r_.el fun vs rs rv=>⟨by rw[<-rv.length,<-rs.length];exact z,?_⟩)
 have hf:H1 s1.heap.objs.size=none:=I1.hok.fresh (lJj _)
 have e2:Ext H1 (upd H1 s1.heap.objs.size (.lst vs)):= .upd (.none hf)
 refine⟨.ref s1.heap.objs.size,gup G1 s1.heap.objs.size (.lst xs),upd H1 s1.heap.objs.size (.lst vs),e1.trans e2,⟨σ,I1.laid (t':=s1.toks) (fun b u e=>lJu _ e) (lJj _) ?_,hs1.mono e2,hg1.lstNew rs (.none hf)⟩,⟨.ref s1.heap.objs.size,rfl,rfl⟩,q _ (hg1.fresh hf)⟩
 exact⟨by rw[<-rs.length];exact z,us,0,rv,lJ8 _ rfl⟩
theorem e_ix (hr:Ix3 X r)(ha:PE3 X a ta)(hb:PE3 X b tb)(hs:uJ2 b):PE3 X (.Subscript a b pos) (tOp r ta tb):=by
 intro pins s τ G H Q I h
 exact Subscript_ (bin3 ha hb I h fun v u s2 x y G2 H2 e I2 rx ry q=>thn (hr a b pins s2 τ G2 H2 x y v u Q I2 rx ry q (hs _ _)) fun _ _ z=>z.ext e)
def rIx:R3:=fun x y G Q=>∃xs i t,seqT G x=some xs/\y= .int i/\atI xs i=some t/\Q t G
theorem jYo {o:Option GO}(h:asL o=some xs):o=some (.lst xs):=by
 cases o with
 | none=>cases h
 | some g=>cases g with
  | lst ys=>cases h;rfl
  | dct _=>cases h
  | dck _=>cases h
  | fdc _=>cases h
  | ins _ _=>cases h
theorem jUt {x:T}{a:V}(hg:GRel K H G)(r:Rep K H x a)(h:seqT G x=some xs):
  ∃p vs,a= .ref p/\(SqL K H p vs\/SqT K H p vs)/\Reps K H xs vs:=by
 cases x with
 | tup ys=>cases h;obtain⟨p,vs,e,h1,h2⟩:=(show ∃p vs,a= .ref p/\H p=some (.tup vs)/\Reps K H xs vs from r);exact⟨p,vs,e,.inr (.of h1),h2⟩
 | scr ys=>cases h;obtain⟨p,vs,e,h1,h2⟩:=(show ∃p vs,a= .ref p/\FrL K H p vs/\Reps K H xs vs from r);exact⟨p,vs,e,.inl h1.sq,h2⟩
 | ref p=>
  obtain⟨vs,h1,h2⟩:=hg.lst (jYo h)
  exact⟨p,vs,r,.inl (.of h1),h2⟩
 | non=>cases h
 | bl _=>cases h
 | int _=>cases h
 | str _=>cases h
 | ty _=>cases h
theorem ix_any:Ix3 X rIx:=
 Ix3.of (ix_list.or ix_tup) fun H G x y a b Q hg ra rb ⟨xs,i,t,hx,ey,ht,q⟩=>by
  subst ey;cases (show b= .int i from rb)
  obtain⟨p,vs,e,hq,r⟩:=jUt hg ra hx
  subst e
  obtain⟨v,hv,rv⟩:=r.atI ht
  rcases hq with hq | hq
  ·exact .inl ⟨p,vs,i,v,rfl,rfl,hq,hv,t,G,.refl H,hg,rv,q⟩
  ·exact .inr ⟨p,vs,i,v,rfl,rfl,hq,hv,t,G,.refl H,hg,rv,q⟩
theorem jJn {id:String}{r:List T->Gp->VK3->Prop}(hc:Call3 X (.builtin id) r)(hg:Gl X x)(hm:X.mg x=none)(hv:bootBuiltins x=some (.builtin id))(ha:PA3 X (e::es) t)(hn:x≠"__name__":=by decide)(hdb:(x == ("__debug__":Str))=false:=by decide)(he:starEach (e::es) X.env=(false,eval e X.env)::starEach es X.env:=by rfl)(hpl:(backTo pos (starEach es X.env)).any (·.1)=false:=by rfl):PE3 X (.Call (.Name x p) (e::es) [] pos) (tCB r t):=by
 intro pins s τ G H Q I h
 obtain⟨σ,I0,hs0,hg0⟩:=_root_.id I
 refine lYc (jV3 I0 hg hm hv ?_ hn hdb)
 exact PyProof.Rows.callWith_builtin1 (thn (ha pos pins s τ G H _ I h) fun us s1 w_=>w_.el fun xs G1 H1 e1 I1 r1 q1=>thn (hc pins s1 τ G1 H1 xs us Q I1 r1 q1) fun _ _ z=>z.ext e1) he hpl
theorem jJ0 {r:List T->Gp->VK3->Prop}(hc:Call3 X (.type T0) r)(hg:Gl X x)(hm:X.mg x=none)(hv:bootBuiltins x=some (.type T0))(ha:PA3 X (e::es) t)(hn:x≠"__name__":=by decide)(hdb:(x == ("__debug__":Str))=false:=by decide)(he:starEach (e::es) X.env=(false,eval e X.env)::starEach es X.env:=by rfl)(hpl:(backTo pos (starEach es X.env)).any (·.1)=false:=by rfl):PE3 X (.Call (.Name x p) (e::es) [] pos) (tCB r t):=by
 intro pins s τ G H Q I h
 obtain⟨σ,I0,hs0,hg0⟩:=_root_.id I
 refine lYc (jV3 I0 hg hm hv ?_ hn hdb)
 exact lQ8 (thn (ha pos pins s τ G H _ I h) fun us s1 w_=>w_.el fun xs G1 H1 e1 I1 r1 q1=>thn (hc pins s1 τ G1 H1 xs us Q I1 r1 q1) fun _ _ z=>z.ext e1) he hpl
theorem jU5 {x:T}(h:Reps K H [x] vs):∃v,vs=[v]/\Rep K H x v:=by
 obtain⟨v,ws,rfl,r,e⟩:=h;cases e;exact⟨v,rfl,r⟩
theorem kKd {x y:T}(h:Reps K H [x,y] vs):∃v w,vs=[v,w]/\Rep K H x v/\Rep K H y w:=by
 obtain⟨v,ws,rfl,r,w,ws2,rfl,r2,e⟩:=h;cases e;exact⟨v,w,rfl,r,r2⟩
def rLen:List T->Gp->VK3->Prop:=fun xs G Q=>∃x ys,xs=[x]/\seqT G x=some ys/\Q (.int ys.length) G
theorem jKk:Call3 X (.builtin "len") rLen:=
 Call3.of kVq fun H G xs as Q hg ra ⟨x,ys,e,hx,q⟩=>by
  subst e
  obtain⟨v,rfl,rv⟩:=jU5 ra
  obtain⟨p,vs,rfl,hq,r⟩:=jUt hg rv hx
  exact⟨p,vs,rfl,hq,.int ys.length,G,.refl H,hg,by rw[r.length];rfl,q⟩
def rAbs:List T->Gp->VK3->Prop:=fun xs G Q=>∃i,xs=[.int i]/\Q (.int (if i<0 then -i else i)) G
theorem c_abs:Call3 X (.builtin "abs") rAbs:=
 Call3.of qXt fun H G xs as Q hg ra ⟨i,e,q⟩=>by
  subst e
  obtain⟨v,rfl,rv⟩:=jU5 ra
  cases (show v= .int i from rv)
  exact⟨i,rfl,.int _,G,.refl H,hg,rfl,q⟩
def rMax:List T->Gp->VK3->Prop:=fun xs G Q=>∃i j,xs=[.int i,.int j]/\Q (.int (if j>i then j else i)) G
theorem c_max (hc:X.calm=true):Call3 X (.builtin "max") rMax:=
 Call3.of (qUp hc) fun H G xs as Q hg ra ⟨i,j,e,q⟩=>by
  subst e
  obtain⟨v,w,rfl,rv,rw'⟩:=kKd ra
  cases (show v= .int i from rv);cases (show w= .int j from rw')
  exact⟨i,j,rfl,.int _,G,.refl H,hg,rfl,q⟩
def jYd:List T->Gp->VK3->Prop:=fun xs G Q=>∃k,xs=[.bl k]/\Q (.int (if k then 1 else 0)) G
theorem qXu:Call3 X (.type "int") jYd:=
 Call3.of qUq fun H G xs as Q hg ra ⟨k,e,q⟩=>by
  subst e
  obtain⟨v,rfl,rv⟩:=jU5 ra
  cases (show v= .bl k from rv)
  exact .inr ⟨k,rfl,.int _,G,.refl H,hg,rfl,q⟩
def kXk:List T->Gp->VK3->Prop:=fun xs G Q=>∃i j,xs=[.int i,.int j]/\CDiv i j/\Q (.tup [.int (i / j),.int (i%j)]) G
theorem qXv:Call3 X (.builtin "divmod") kXk:=
 Call3.of kX3 fun H G xs as Q hg ra ⟨i,j,e,c,q⟩=>by
  subst e
  obtain⟨v,w,rfl,rv,rw'⟩:=kKd ra
  cases (show v= .int i from rv);cases (show w= .int j from rw')
  exact⟨i,j,rfl,c,fun p hp=>⟨.tup [.int (i / j),.int (i%j)],G,.upd (.none hp),hg.tupNew hp,Rep.tupNew ⟨_,_,rfl,rfl,_,_,rfl,rfl,rfl⟩ hp,q⟩⟩
def jXt:List T->Gp->VK3->Prop:=fun xs G Q=>∃x ys,xs=[x]/\seqT G x=some ys/\∀p,G p=none->Q (.ref p) (gup G p (.lst ys))
theorem c_list:Call3 X (.type "list") jXt:=
 Call3.of kVp fun H G xs as Q hg ra ⟨x,ys,e,hx,q⟩=>by
  subst e
  obtain⟨v,rfl,rv⟩:=jU5 ra
  obtain⟨p,vs,rfl,hq,r⟩:=jUt hg rv hx
  exact⟨p,vs,rfl,hq,fun l hl=>⟨.ref l,_,.upd (.none hl),hg.lstNew r (.none hl),rfl,q l (hg.fresh hl)⟩⟩
def jKa:List T->Gp->VK3->Prop:=fun xs G Q=>∃x ys,xs=[x]/\seqT G x=some ys/\Q (.tup ys) G
theorem jK5:Call3 X (.type "tuple") jKa:=
 Call3.of kUe fun H G xs as Q hg ra ⟨x,ys,e,hx,q⟩=>by
  subst e
  obtain⟨v,rfl,rv⟩:=jU5 ra
  obtain⟨p,vs,rfl,hq,r⟩:=jUt hg rv hx
  cases x with
  | tup zs=>
   cases hx
   obtain⟨p',vs',e',h1,h2⟩:=(show ∃p' vs',V.ref p= .ref p'/\H p'=some (.tup vs')/\Reps X.K H ys vs' from rv)
   cases e'
   exact⟨p,vs',rfl,.inr ⟨.of h1,.tup ys,G,.refl H,hg,⟨p,vs',rfl,h1,h2⟩,q⟩⟩
  | scr zs=>
   cases hx
   obtain⟨p',vs',e',h1,h2⟩:=(show ∃p' vs',V.ref p= .ref p'/\FrL X.K H p' vs'/\Reps X.K H ys vs' from rv)
   cases e'
   exact⟨p,vs',rfl,.inl ⟨h1.sq,fun l hl=>⟨.tup ys,G,.upd (.none hl),hg.tupNew hl,Rep.tupNew h2 hl,q⟩⟩⟩
  | ref p'=>
   cases (show V.ref p= .ref p' from rv)
   obtain⟨vs',h1,h2⟩:=hg.lst (jYo hx)
   exact⟨p,vs',rfl,.inl ⟨.of h1,fun l hl=>⟨.tup ys,G,.upd (.none hl),hg.tupNew hl,Rep.tupNew h2 hl,q⟩⟩⟩
  | non=>cases hx
  | bl _=>cases hx
  | int _=>cases hx
  | str _=>cases hx
  | ty _=>cases hx
noncomputable def rCat:R3:=fun x y G Q=>∃p q xs ys,x= .ref p/\y= .ref q/\G p=some (.lst xs)/\G q=some (.lst ys)/\xs.length+ys.length<=sizeLine/\∀l,G l=none->Q (.ref l) (gup G l (.lst (xs++ys)))
noncomputable def rRep:R3:=fun x y G Q=>∃p xs n,x= .ref p/\y= .int n/\G p=some (.lst xs)/\n.toNat * xs.length<=sizeLine/\n<2^62/\ -(2^62)<n/\∀l,G l=none->Q (.ref l) (gup G l (.lst (List.replicate n.toNat xs).flatten))
def tyT (G:Gp)(T0:String)(x:T):Prop:=match x with
 | .str _=>T0="str"
 | .int _=>T0="int"
 | .ref p=>(T0="list"/\∃xs,G p=some (.lst xs))\/(T0="dict"/\((∃kvs,G p=some (.dck kvs))\/∃kvs,G p=some (.dct kvs)))
 | _=>False
theorem tyT.of {x:T}{a:V}(hg:GRel K H G)(r:Rep K H x a)(h:tyT G T0 x):tyV K T0 a H:=by
 cases x with
 | str z=>cases (show a= .str z from r);exact h
 | int z=>cases (show a= .int z from r);exact h
 | ref p=>
  cases (show a= .ref p from r)
  rcases h with ⟨e,xs,h⟩ | ⟨e,h⟩
  ·obtain⟨vs,h1,_⟩:=hg.lst h;exact .inl ⟨e,vs,.of h1⟩
  ·refine .inr (.inr (.inl ⟨e,?_⟩))
   rcases h with ⟨kvs,h⟩ | ⟨kvs,h⟩
   ·obtain⟨ws,h1,_⟩:=hg p _ h;exact .inl ⟨ws,h1⟩
   ·obtain⟨ws,h1,_⟩:=hg p _ h;exact .inr ⟨ws,h1⟩
 | non=>exact False.elim h
 | bl _=>exact False.elim h
 | ty _=>exact False.elim h
 | tup _=>exact False.elim h
 | scr _=>exact False.elim h
def tBM (T0:String)(r:T->List T->Gp->VK3->Prop)(to:TE3)(t:TA3):TE3:=fun τ G Q=>to τ G fun x G1=>tyT G1 T0 x/\t τ G1 fun xs G2=>r x xs G2 Q
theorem e_bm {id:String}{r:T->List T->Gp->VK3->Prop}{o:Expr}{name:Str}{apos cpos:Pos}(pa:PlainAttrs T0)(slot:Slot T0 name id)(hty:typeOf (.builtin id)=pure (.type "method_descriptor"))(hm:Mt3 X id r)(ho:PE3 X o to)(ha:PA3 X (e::es) t)(hbase:attributeBase o name X.env (eval o X.env)=eval o X.env:=by rfl)(hfew:((backTo cpos (starEach (e::es) X.env)).all (fun x=> !x.1)&&(backToKw cpos (keywordEach [] X.env)).all (fun x=>x.1.isSome)
   &&decide ((e::es).length+([]:List Keyword).length+(if ([]:List Keyword).isEmpty then 0 else 1)<30))=true:=by rfl)(hline:(apos.endLine == cpos.line)=true:=by rfl)(hs:starEach (e::es) X.env=(false,eval e X.env)::starEach es X.env:=by rfl)(hplain:(backTo cpos (starEach es X.env)).any (·.1)=false:=by rfl):
  PE3 X (.Call (.Attribute o name apos) (e::es) [] cpos) (tBM T0 r to t):=by
 intro pins s τ G H Q I h
 refine wpAny_Call_method_late hbase hfew hline rfl (thn (ho pins s τ G H _ I h) fun v s1 w_=>w_.el fun x G1 H1 e1 I1 r1 ⟨ty,q1⟩=> ?_)
 obtain⟨σ,I0,hs0,hg0⟩:=_root_.id I1
 obtain⟨a0,ra0,rv0⟩:=_root_.id r1
 obtain⟨h1,h2⟩:=qX8 I0 rv0 (tyT.of hg0 ra0 ty)
 refine⟨T0,id,pa,slot,hty,h1,h2,?_⟩
 have hA:=ha cpos pins s1 τ G1 H1 _ I1 q1
 rw[hs] at hA ⊢
 refine Calls.callWith_builtin (by show (false||(backTo cpos (starEach es X.env)).any (·.1))=false;rw[hplain]<;>rfl) (Calls.evalArgs_plain ?_)
 exact thn hA fun us s2 w_=>w_.el fun vs G2 H2 e2 I2 r2 q2=>thn (hm pins s2 τ G2 H2 x vs v us Q I2 (r1.mono e2) r2 q2) fun _ _ z=>(z.ext e2).ext e1
def jK3:T->List T->Gp->VK3->Prop:=fun x xs G Q=>∃p ys y,x= .ref p/\xs=[y]/\G p=some (.lst ys)/\ys.length<sizeLine/\Q .non (gup G p (.lst (ys++[y])))
def qVm:T->T->T->Gp->(Gp->Prop)->Prop:=fun o i v G Q=>∃p xs k j,o= .ref p/\i= .int k/\G p=some (.lst xs)/\ixN xs.length k=some j/\Q (gup G p (.lst (xs.set j v)))
theorem s_list:Set3 X qVm:=
 Set3.of qVb fun H G o i v a b c Q hg ra rb rc ⟨p,xs,k,j,eo,ei,hp,hj,q⟩=>by
  subst eo;subst ei
  cases (show a= .ref p from ra);cases (show b= .int k from rb)
  obtain⟨vs,h1,h2⟩:=hg.lst hp
  exact⟨p,vs,k,j,rfl,rfl,h1,by rw[<-h2.length];exact hj,_,.upd (.lst h1),hg.lstNew (h2.set rc j) (.lst h1),q⟩
end
theorem o_cat:Op3 X (binaryOp .Add) rCat:=
 Op3.of op_cat fun H G x y a b Q hg ra rb ⟨p,q,xs,ys,ex,ey,hp,hq,hz,h⟩=>by
  subst ex;subst ey
  cases (show a= .ref p from ra);cases (show b= .ref q from rb)
  obtain⟨vs,h1,h2⟩:=hg.lst hp
  obtain⟨ws,h3,h4⟩:=hg.lst hq
  exact⟨p,q,vs,ws,rfl,rfl,h1,h3,by rw[<-h2.length,<-h4.length];exact hz,fun l hl=>⟨.ref l,_,.upd (.none hl),hg.lstNew (h2.append h4) (.none hl),rfl,h l (hg.fresh hl)⟩⟩
theorem o_rep:Op3 X (binaryOp .Mult) rRep:=
 Op3.of op_rep fun H G x y a b Q hg ra rb ⟨p,xs,n,ex,ey,hp,hz,h1,h2,h⟩=>by
  subst ex;subst ey
  cases (show a= .ref p from ra);cases (show b= .int n from rb)
  obtain⟨vs,h3,h4⟩:=hg.lst hp
  refine⟨p,n,vs,rfl,rfl,h3,by omega,by omega,by rw[<-h4.length,Nat.mul_comm];exact hz,fun l hl=>⟨.ref l,_,.upd (.none hl),hg.lstNew (h4.rep _) (.none hl),rfl,h l (hg.fresh hl)⟩⟩
theorem jQh:Mt3 X "list.append" jK3:=
 Mt3.of qQd fun H G x xs a as Q hg ra ras ⟨p,ys,y,ex,exs,hp,hz,q⟩=>by
  subst ex;subst exs
  cases (show a= .ref p from ra)
  obtain⟨v,rfl,rv⟩:=jU5 ras
  obtain⟨vs,h1,h2⟩:=hg.lst hp
  exact⟨p,vs,v,rfl,rfl,h1,by rw[<-h2.length];exact hz,.non,_,.upd (.lst h1),hg.lstNew (h2.append (.one rv)) (.lst h1),rfl,q⟩
def jKl:TS3:=fun D τ G=>D.nx τ G
def tSeq (t u:TS3):TS3:=fun D τ G=>t {D with nx:=u D} τ G
def jUi (te:TE3):TS3:=fun D τ G=>te τ G fun _ G1=>D.nx τ G1
def tRet (te:TE3):TS3:=fun D τ G=>te τ G D.rt
def tRetN:TS3:=fun D _ G=>D.rt .non G
def tIfS (c:TT3)(t u:TS3):TS3:=fun D τ G=>c τ G fun b G1=>if b=true then t D τ G1 else u D τ G1
variable {st:Stmt}
section
variable {rest:List Stmt}{t u:TS3}
theorem jKn:PSs3 X [] jKl:=fun _ _ τ G H _ I h=>wpAny_execs_nil ⟨τ,G,H,.refl H,I,h⟩
theorem jJf (h1:PS3 X st t)(h2:PSs3 X rest u):PSs3 X (st::rest) (tSeq t u):=by
 intro pins s τ G H D I h
 refine wpAny_execs_cons (thn (h1 pins s τ G H {D with nx:=u D} I h) fun f s1 q=> ?_)
 cases f with
 | next=>
  obtain⟨τ',G',H',e',I',q⟩:=q
  exact thn (h2 pins s1 τ' G' H' D I' q) fun _ _ z=>z.ext e'
 | ret v=>exact q
 | brk=>exact q
 | cont=>exact q
theorem jJk (h1:PS3 X st t):PSs3 X [st] t:=by
 intro pins s τ G H D I h
 refine wpAny_execs_cons (thn (h1 pins s τ G H D I h) fun f s1 q=> ?_)
 cases f with
 | next=>exact wpAny_execs_nil q
 | ret v=>exact q
 | brk=>exact q
 | cont=>exact q
theorem jQ6 (he:PE3 X e te)(hs:swapsWith e none pos.line X.env=pure false:=by rfl):PS3 X (.Expr e pos) (jUi te):=by
 intro pins s τ G H D I h
 obtain⟨σ,I0,hs0,hg0⟩:=id I
 exact wpAny_Expr_any (thn (he pins s τ G H _ I h) fun v s1 w_=>w_.el fun x G1 H1 e1 I1 r1 q1=>⟨τ,G1,H1,e1,I1,q1⟩) I0.quiet hs
theorem jKd (he:PE3 X e te):PS3 X (.Return (some e) pos) (tRet te):=by
 intro pins s τ G H D I h
 exact wpAny_Return_some (thn (he pins s τ G H _ I h) fun v s1 w_=>w_.el fun x G1 H1 e1 I1 r1 q1=>⟨x,τ,G1,H1,e1,I1,r1,q1⟩)
theorem s_if {a b:List Stmt}{tc:TT3}(hc:PT3 X c tc)(ha:PSs3 X a t)(hb:PSs3 X b u):PS3 X (.If c a b pos) (tIfS tc t u):=by
 intro pins s τ G H D I h
 refine wpAny_If (thn (hc pins s τ G H _ I h) fun d s1 w_=>w_.el fun G1 H1 e1 I1 q1=> ?_)
 cases d with
 | true=>exact thn (ha pins s1 τ G1 H1 D I1 q1) fun _ _ z=>z.ext e1
 | false=>exact thn (hb pins s1 τ G1 H1 D I1 q1) fun _ _ z=>z.ext e1
end
abbrev TG3:=T->St3->Gp->(St3->Gp->Prop)->Prop
abbrev TGs3:=List T->St3->Gp->(St3->Gp->Prop)->Prop
def GP3 (X:Cx)(pins:List (Addr×Obj))(H:Hp)(Q:St3->Gp->Prop)(s':Shared):Prop:=∃ τ' G' H',Ext H H'/\Inv3 X pins τ' G' H' s'/\Q τ' G'
def PG3 (X:Cx)(target:Expr)(t:TG3):Prop:=
 ∀(pins:List (Addr×Obj)) (s:Shared) (τ:St3) (G:Gp) (H:Hp) (v:T) (u:Value) (Q:St3->Gp->Prop),Inv3 X pins τ G H s->RU X.K H v u->t v τ G Q->
  wpAny (model X.prog X.w) X.A (assign target X.env u) (fun _ s'=>GP3 X pins H Q s') X.xe s
def PGs3 (X:Cx)(ts:List Expr)(t:TGs3):Prop:=
 ∀(pins:List (Addr×Obj)) (s:Shared) (τ:St3) (G:Gp) (H:Hp) (vs:List T) (us:List Value) (Q:St3->Gp->Prop),Inv3 X pins τ G H s->RUs X.K H vs us->t vs τ G Q->
  wpAny (model X.prog X.w) X.A (assignInOrder ((assignEach ts X.env).map (·.2)) us) (fun _ s'=>GP3 X pins H Q s') X.xe s
def jJg (i:Nat):TG3:=fun v τ G Q=>Q (τ.set i (some v)) G
def gNil:TGs3:=fun vs τ G Q=>vs=[]/\Q τ G
def jJx (t:TG3)(u:TGs3):TGs3:=fun vs τ G Q=>∃v r,vs=v::r/\t v τ G fun τ' G'=>u r τ' G' Q
def gTup (n:Nat)(t:TGs3):TG3:=fun v τ G Q=>∃xs,v= .tup xs/\xs.length=n/\t xs τ G Q
def gSub (to ti:TE3)(t:T->T->T->Gp->(Gp->Prop)->Prop):TG3:=fun v τ G Q=>to τ G fun o G1=>ti τ G1 fun i G2=>t o i v G2 fun G3=>Q τ G3
def tAsg (te:TE3)(g:TG3):TS3:=fun D τ G=>te τ G fun x G1=>g x τ G1 D.nx
variable {i n:Nat}{tg:Expr}{g:TG3}{y:Str}{ta:TA3}{py:Pos}{body:List Stmt}
theorem jJl (hN:X.N.Nodup)(hi:X.N[i]? =some x:=by rfl)(hx:Loc X.env.scope x:=by first | exact Or.inl rfl | exact Or.inr rfl)(hf:X.fn x=true\/X.env.scope.names.lookup x=some .local:=by first | exact .inl rfl | exact .inr rfl):PG3 X (.Name x pos) (jJg i):=by
 rintro pins s τ G H v u Q ⟨σ,I,hs,hg⟩ ⟨a,ra,rv⟩ h
 exact wpAny_assign_Name (jUj I hN hi hx rv (fun s' I'=>⟨_,G,H,.refl H,⟨_,I',hs.set i ra,hg⟩,h⟩) hf)
theorem jKu:PGs3 X [] gNil:=by
 rintro pins s τ G H vs us Q I ⟨as,r,rv⟩ ⟨e,h⟩
 subst e
 cases (show as=[] from r)
 cases rv
 exact assignInOrder_nil ⟨τ,G,H,.refl H,I,h⟩
theorem jJr {t:TG3}{u:TGs3}(h1:PG3 X e t)(h2:PGs3 X es u)(hs:(assignEach (e::es) X.env).map (·.2)=assign e X.env::(assignEach es X.env).map (·.2):=by rfl):PGs3 X (e::es) (jJx t u):=by
 rintro pins s τ G H vs us Q I ⟨as,r,rv⟩ ⟨v,vr,e1,h⟩
 subst e1
 obtain⟨a,ar,rfl,ra,rar⟩:=r
 cases rv with
 | cons q qq=>
  rw[hs]
  refine lXg (thn (h1 pins s τ G H v _ _ I ⟨a,ra,q⟩ h) fun _ s1 ⟨τ1,G1,H1,e1,I1,q1⟩=> ?_)
  exact thn (h2 pins s1 τ1 G1 H1 vr _ Q I1 ⟨ar,Reps.mono e1 _ rar,qq⟩ q1) fun _ s2 ⟨τ2,G2,H2,e2,z⟩=>⟨τ2,G2,H2,e1.trans e2,z⟩
theorem jQx {k:Nat}{t:TGs3}(hc:X.calm=true)(h:PGs3 X es t)(hn:(assignEach es X.env).length=n:=by rfl)(hst:(assignEach es X.env).findIdx? (·.1)=none:=by rfl):PG3 X (.Tuple es k pos) (gTup n t):=by
 rintro pins s τ G H v u Q ⟨σ,I,hs,hg⟩ ⟨a,ra,rv⟩ ⟨xs,ev,hl,hw⟩
 subst ev
 obtain⟨p,vs,e1,h1,r1⟩:=(show ∃p vs,a= .ref p/\H p=some (.tup vs)/\Reps X.K H xs vs from ra)
 subst e1
 cases rv
 obtain⟨its,rv,ht,hz⟩:=I.tuple (.of h1)
 refine assign_Tuple_tuple (I.ok.hd hc) ht (by simp[hn,<-hl,r1.length,rv.length]) hst fun h' hx=> ?_
 have I1:Inv X pins σ H {s with heap:=h'}:=I.kept (t':=s.toks) fun b o e=>hx b o (lJ4 (lJl e)) e
 exact h pins _ τ G H xs _ Q ⟨σ,I1,hs,hg⟩ ⟨vs,r1,by simpa using rv⟩ hw
theorem jXx {o i:Expr}{ti:TE3}{t:T->T->T->Gp->(Gp->Prop)->Prop}(ho:PE3 X o to)(hi:PE3 X i ti)(hs:Set3 X t)(ha:∀v,assign (.Subscript o i pos) X.env v=(do
   let ov <-holding [v] (eval o X.env)
   let iv <-holding [v,ov] (eval i X.env)
   standAt pos
   holding [v,ov,iv] (setItem ov iv v)
   release [v,ov,iv] []):=by intro _;rfl):PG3 X (.Subscript o i pos) (gSub to ti t):=by
 intro pins s τ G H v u Q I r h
 rw[ha]
 refine lJc (lQ2 (thn (ho pins s τ G H _ I h) fun ov s1 w_=>w_.el fun x G1 H1 e1 I1 r1 q1=> ?_))
 refine lJc (lQ2 (thn (hi pins s1 τ G1 H1 _ I1 q1) fun iv s2 w_=>w_.el fun y G2 H2 e2 I2 r2 q2=> ?_))
 refine lJc (wpAny_standAt (lJc (lQ2 (thn (hs pins s2 τ G2 H2 x y v ov iv u _ I2 (r1.mono e2) r2 (r.mono (e1.trans e2)) q2) fun _ s3 ⟨G3,H3,e3,I3,q3⟩=> ?_))))
 exact wpAny_release ⟨τ,G3,H3,(e1.trans e2).trans e3,I3,q3⟩
theorem jVf (he:PE3 X e te)(hg:PG3 X tg g)(hs:swapsWithSole [tg] e pos.line X.env=pure false:=by rfl)(hw:swappedStores [tg] e X.env=pure none:=by rfl)(h1:(assignEach [tg] X.env).map (·.2)=[assign tg X.env]:=by rfl):PS3 X (.Assign [tg] e pos) (tAsg te g):=by
 intro pins s τ G H D I h
 refine wpAny_Assign_stores (thn (he pins s τ G H _ I h) fun v s1 w_=>w_.el fun x G1 H1 e1 I1 r1 q1=> ?_) hs hw
 rw[h1]
 exact thn (hg pins s1 τ G1 H1 x v _ I1 r1 q1) fun _ s2 ⟨τ2,G2,H2,e2,q⟩=>⟨τ2,G2,H2,e1.trans e2,q⟩
theorem jJ3 {pos':Pos}(hN:X.N.Nodup)(he:PE3 X e te)(hi:X.N[i]? =some x:=by rfl)(hx:Loc X.env.scope x:=by first | exact Or.inl rfl | exact Or.inr rfl)(hs:swapsWith e (some (.Name x pos')) pos.line X.env=pure false:=by rfl)(hf:X.fn x=true\/X.env.scope.names.lookup x=some .local:=by first | exact .inl rfl | exact .inr rfl):
  PS3 X (.Assign [.Name x pos'] e pos) (tAsg te (jJg i)):=by
 intro pins s τ G H D I h
 refine wpAny_Assign_Name (thn (he pins s τ G H _ I h) fun v s1 w_=>w_.el fun y G1 H1 e1 i_ r_ q1=>i_.el fun σ I1 hs1 hg1=>r_.el fun a ra rv=> ?_) hs
 exact jUj I1 hN hi hx rv (fun s2 I2=>⟨_,G1,H1,e1,⟨_,I2,hs1.set i ra,hg1⟩,q1⟩) hf
def tPar (i j:Nat)(ta:TA3):TS3:=fun D τ G=>ta τ G fun vs G1=>∃v w,vs=[v,w]/\D.nx ((τ.set i (some v)).set j (some w)) G1
theorem s_par {j:Nat}{px pt:Pos}{kt k2 pt2}(hc:X.calm=true)(hN:X.N.Nodup)(hij:i≠j)(ha:PA3 X [a,b] ta)(hi:X.N[i]? =some x:=by rfl)(hj:X.N[j]? =some y:=by rfl)(hx:X.env.scope.names.lookup x=some .local:=by rfl)(hy:X.env.scope.names.lookup y=some .local:=by rfl)(hw:swappedStores [.Tuple [.Name x px,.Name y py] kt pt] (.Tuple [a,b] k2 pt2) X.env=pure (some [x,y]):=by rfl)(hs:swapsWithSole [.Tuple [.Name x px,.Name y py] kt pt] (.Tuple [a,b] k2 pt2) pos.line X.env=pure false:=by rfl):
  PS3 X (.Assign [.Tuple [.Name x px,.Name y py] kt pt] (.Tuple [a,b] k2 pt2) pos) (tPar i j ta):=by
 intro pins s τ G H D I h
 rw[exec_Assign_arm]
 refine lJc (wpAny_standAt ?_)
 rw[hs]
 refine lJc (lJf ?_)
 rw[lJa (by decide)]
 refine lJc (Tuple_ (thn (ha _ pins s τ G H _ I h) fun us s1 w_=>w_.el fun vs G1 H1 e1 i_ r_ q1=>i_.el fun σ I1 hs1 hg1=>r_.el fun as ras rvs=> ?_))
 obtain⟨v,w,ev,q1⟩:=q1
 subst ev
 obtain⟨a1,a2,rfl,ra1,ra2⟩:=kKd ras
 obtain⟨u1,u2,rfl,rv,rw'⟩:=rvs.two
 refine lK8 ?_ (by show 2<=sizeLine;decide)
 have I2:Inv X pins σ H1 {s1 with heap:=s1.heap.push {cls:= .type "tuple",data:= .seq [u1,u2].toArray} }:=I1.kept (t':=s1.toks) fun b o e=>lJu _ e
 rw[hw]
 refine lJc (lJf ?_)
 show wpAny (model X.prog X.w) X.A (do rule "assign.swapped-stores"; let items <-unpackItems (.ref s1.heap.objs.size) 2 none;assignInOrder [fun v=>bindName X.env y v,fun v=>bindName X.env x v] items.reverse;pure Flow.next) _ _ _
 refine lJc (lK3 (lJc (unpackItems_tuple (items:= #[u1,u2]) (I1.ok.hd hc) (IsTup.new s1.heap _) fun h' hx'=> ?_)))
 have I3:=I2.kept (h':=h') (t':=s1.toks) fun b o e=>hx' b o (lJ4 (lJl e)) e
 show wpAny _ _ (assignInOrder [fun v=>bindName X.env y v,fun v=>bindName X.env x v] [u2,u1] >>= fun _=>pure Flow.next) _ _ _
 refine lJc (lXg (lXv (jUj I3 hN hj (.inl hy) rw' (fun s2 I4=> ?_) (.inr hy))))
 refine lXg (lXv (jUj I4 hN hi (.inl hx) rv (fun s3 I5=>assignInOrder_nil (lJf ?_)) (.inr hx)))
 rw[List.set_comm _ _ (Ne.symm hij)] at I5
 exact⟨_,G1,H1,e1,⟨_,I5,(hs1.set i ra1).set j ra2,hg1⟩,q1⟩
noncomputable def kUo (c:TT3)(tb:TS3):TS3:=fun D τ G=>∃W:Nat->St3->Gp->Prop,(∃m,W m τ G)/\∀m τ G,W m τ G->
 c τ G fun b G1=>if b=true then ∃N:St3->Gp->Prop,(∀ τ' G',N τ' G'->∃m',m'<m/\W m' τ' G')/\tb {D with nx:=N,ct:=N,bk:=D.nx} τ G1 else D.nx τ G1
theorem qKb {tc:TT3}{tb:TS3}(hp:PassesOwn (model X.prog X.w) X.A X.env X.xe)(hc:PT3 X c tc)(hb:PSs3 X body tb):PS3 X (.While c body [] pos) (kUo tc tb):=by
 intro pins s τ G H D I h
 obtain⟨W,⟨m0,w0⟩,turn⟩:=h
 refine wpAny_While (codeAny_whileLoop (fun n s'=>∃ τ' G' H',Ext H H'/\Inv3 X pins τ' G' H' s'/\W n τ' G') ?_ m0 ⟨τ,G,H,.refl H,I,w0⟩)
 rintro n s1 ⟨τ1,G1,H1,e1,I1,w1⟩
 refine lV0 hp (thn (hc pins s1 τ1 G1 H1 _ I1 (turn n τ1 G1 w1)) fun b s2 w_=>w_.el fun G2 H2 e2 I2 q2=> ?_)
 cases b with
 | true=>
  obtain⟨N,hN,q2⟩:=q2
  rw[lJb rfl]
  refine lV0 hp (thn (hb pins s2 τ1 G2 H2 _ I2 q2) fun f s3 q3=> ?_)
  cases f with
  | next=>
   obtain⟨τ3,G3,H3,e3,I3,n3⟩:=q3
   obtain⟨m',hm,w3⟩:=hN τ3 G3 n3
   exact⟨m',hm,τ3,G3,H3,(e1.trans e2).trans e3,I3,w3⟩
  | cont=>
   obtain⟨τ3,G3,H3,e3,I3,n3⟩:=q3
   obtain⟨m',hm,w3⟩:=hN τ3 G3 n3
   exact⟨m',hm,τ3,G3,H3,(e1.trans e2).trans e3,I3,w3⟩
  | brk=>exact SP3.ext (f:= .next) (e1.trans e2) q3
  | ret v=>exact SP3.ext (f:= .ret v) (e1.trans e2) q3
 | false=>
  rw[lJa lJp]
  exact wpAny_execs_nil ⟨τ1,G2,H2,e1.trans e2,I2,q2⟩
def uJ8 (K:PySem.W.Frag)(H0:Hp)(J:It)(xs:List T)(stay:Gp->Prop):Prop:=
 ∀i H G,Ext H0 H->GRel K H G->stay G->(i<xs.length->J.go i H)/\(xs.length<=i->J.stop i H)/\(i<xs.length->∀x H',J.yld i H x H'->Ext H H'/\GRel K H' G/\∃t,xs[i]? =some t/\Rep K H' t x)
abbrev TI3:=St3->Gp->(List T->(Gp->Prop)->Gp->Prop)->Prop
def PIE3 (X:Cx)(pins:List (Addr×Obj))(τ:St3)(H:Hp)(tg:Expr)(R:List T->(Gp->Prop)->Gp->Prop)(itv:Value)(s2:Shared):Prop:=
 ∃(it:Addr) (fp:List Addr) (tn:Nat->Heap->Prop) (J:It) (xs:List T) (stay:Gp->Prop) (G':Gp) (H':Hp),itv= .ref it/\Ext H H'/\Inv3 X pins τ G' H' s2/\Turn X.prog X.w X.K tg J fp it tn/\tn 0 s2.heap/\(∀b∈fp,FpOk X pins H' b)/\
  uJ8 X.K H' J xs stay/\R xs stay G'
def PI3 (X:Cx)(tg iter:Expr)(wi:TI3):Prop:=
 ∀(pins:List (Addr×Obj)) (s:Shared) (τ:St3) (G:Gp) (H:Hp) (R:List T->(Gp->Prop)->Gp->Prop),Inv3 X pins τ G H s->wi τ G R->
  wpAny (model X.prog X.w) X.A (eval iter X.env) (fun v s1=>wpAny (model X.prog X.w) X.A (pyIter v) (PIE3 X pins τ H tg R) X.xe s1) X.xe s
noncomputable def tFor (wi:TI3)(g:TG3)(tb:TS3):TS3:=fun D τ G=>wi τ G fun xs stay G1=>∃P:Nat->St3->Gp->Prop,P 0 τ G1/\(∀i τ G,i<=xs.length->P i τ G->stay G)/\
 (∀i x τ G,xs[i]? =some x->P i τ G->g x τ G fun τ2 G2=>tb {D with nx:=P (i+1),ct:=P (i+1),bk:=D.nx} τ2 G2)/\∀ τ G,P xs.length τ G->D.nx τ G
variable {iter:Expr}{wi:TI3}
theorem jQa {tb:TS3}(hp:PassesOwn (model X.prog X.w) X.A X.env X.xe)(hc:X.calm=true)(hi:PI3 X tg iter wi)(hg:PG3 X tg g)(hb:PSs3 X body tb)(hs:∀x,foldedSetIterable iter X.env x=pure x:=by intro _;rfl):PS3 X (.For tg iter body [] pos) (tFor wi g tb):=by
 intro pins s τ G H D I h
 refine wpAny_For (thn (hi pins s τ G H _ I h) fun v s1 h1=>thn h1 fun itv s2 h2=> ?_) hs
 obtain⟨it,fp,tn,J,xs,stay,G2,H2,e,eH,I2,T0,st2,f2,IT,P,p0,hstay,turn,fin⟩:=h2
 subst e
 have stat:∀ {H':Hp},(∀b∈fp,H' b=none)->∀b∈fp,FpOk X pins H' b:=fun hn b hb=>⟨hn b hb,(f2 b hb).2⟩
 refine codeAny_forLoop_any (fun n s'=>∃i τ' G' H',n=xs.length-i/\i<=xs.length/\Ext H2 H'/\Inv3 X pins τ' G' H' s'/\tn i s'.heap/\(∀b∈fp,H' b=none)/\P i τ' G') ?_ xs.length ⟨0,τ,G2,H2,rfl,lJ9 _,.refl _,I2,st2,fun b hb=>(f2 b hb).1,p0⟩
 rintro n s3 ⟨i,τ3,G3,H3,en,hi3,e3,⟨σ3,I3,hs3,hg3⟩,st3,fr3,p3⟩
 obtain⟨go,stop,yl⟩:=IT i H3 G3 e3 hg3 (hstay i τ3 G3 hi3 p3)
 by_cases hlt:i<xs.length
 ·refine lV0 hp (thn (T0.item X rfl rfl rfl hc i pins s3 σ3 H3 X.xe I3 (stat fr3) st3 (go hlt)) fun r s4 ⟨u,hr,h4⟩=> ?_)
  subst hr
  refine lV0 hp (thn h4 fun _ s5 ⟨x,H5,I5,r5,y5,st5,fr5⟩=> ?_)
  obtain⟨e5,g5,t,ht,rt⟩:=yl hlt x H5 y5
  have I5':=I5.pinned (stat fr5) (T0.obj _ _ st5)
  refine lV0 hp (thn (hg _ s5 τ3 G3 H5 t u _ ⟨σ3,I5',hs3.mono e5,g5⟩ ⟨x,rt,r5⟩ (turn i t τ3 G3 ht p3)) fun _ s6 ⟨τ6,G6,H6,e6,I6,q6⟩=> ?_)
  refine lV0 hp (thn (hb _ s6 τ6 G6 H6 _ I6 q6) fun f s7 q7=> ?_)
  have e36:Ext H2 H6:=(e3.trans e5).trans e6
  have again:∀ {τ7:St3} {G7:Gp} {H7:Hp},Ext H6 H7->Inv3 X (pins++jXk fp s5.heap) τ7 G7 H7 s7->P (i+1) τ7 G7->
    ∃m,m<n/\∃i τ' G' H',m=xs.length-i/\i<=xs.length/\Ext H2 H'/\Inv3 X pins τ' G' H' s7/\tn i s7.heap/\(∀b∈fp,H' b=none)/\P i τ' G':=fun {τ7 G7 H7} e7 ⟨σ7,I7,hs7,hg7⟩ p7=>by
   refine⟨xs.length-(i+1),by omega,i+1,τ7,G7,H7,rfl,hlt,e36.trans e7,⟨σ7,I7.unpinned,hs7,hg7⟩,T0.keep _ _ _ st5 fun b hb o e=>(I7.pin (b,o) (lJ5 _ (lJ5 _ (jXb hb e)))).1,fun b hb=> ?_,p7⟩
   obtain⟨o,e,d⟩:=T0.obj _ _ st5 b hb
   exact (I7.pin (b,o) (lJ5 _ (lJ5 _ (jXb hb e)))).2.1
  have un:∀ {τ7:St3} {G7:Gp} {H7:Hp},Inv3 X (pins++jXk fp s5.heap) τ7 G7 H7 s7->Inv3 X pins τ7 G7 H7 s7:=fun ⟨σ7,I7,a,b⟩=>⟨σ7,I7.unpinned,a,b⟩
  cases f with
  | next=>obtain⟨τ7,G7,H7,e7,I7,n7⟩:=q7;exact again e7 I7 n7
  | cont=>obtain⟨τ7,G7,H7,e7,I7,n7⟩:=q7;exact again e7 I7 n7
  | brk=>obtain⟨τ7,G7,H7,e7,I7,q7⟩:=q7;exact⟨τ7,G7,H7,(eH.trans e36).trans e7,un I7,q7⟩
  | ret v=>obtain⟨x7,τ7,G7,H7,e7,I7,r7,q7⟩:=q7;exact⟨x7,τ7,G7,H7,(eH.trans e36).trans e7,un I7,r7,q7⟩
 ·have ei:i=xs.length:=by omega
  refine lV0 hp (thn (T0.done X rfl rfl rfl hc i pins s3 σ3 H3 X.xe I3 (stat fr3) st3 (stop (by omega))) fun r s4 ⟨hr,I4⟩=> ?_)
  subst hr;subst ei
  exact wpAny_execs_nil ⟨τ3,G3,H3,eH.trans e3,⟨σ3,I4,hs3,hg3⟩,fin τ3 G3 p3⟩
def iSeq (tl:TE3):TI3:=fun τ G R=>tl τ G fun x G1=>∃xs,seqT G1 x=some xs/\R xs (fun G'=>seqT G' x=some xs) G1
theorem jQu {l:Expr}{tl:TE3}(hl:PE3 X l tl):PI3 X tg l (iSeq tl):=by
 intro pins s τ G H R I h
 refine thn (hl pins s τ G H _ I h) fun v s1 w_=>w_.el fun x G1 H1 e1 i_ r_ ⟨xs,hx,q⟩=>i_.el fun σ I1 hs1 hg1=>r_.el fun a ra rv=> ?_
 obtain⟨p,vs,e,hq,r⟩:=jUt hg1 ra hx
 subst e
 cases rv
 have fpk:∀b∈[s1.heap.objs.size],FpOk X pins H1 b:=fun b hb=>by
  have e:b=s1.heap.objs.size:=by simpa using hb
  subst e
  exact I1.fpOk (lJj _) (I1.hok.fresh (lJj _))
 rcases hq with hq | hq
 ·obtain⟨its,rv,pl,hz⟩:=I1.list hq
  refine wpAny_pyIter_list pl.isList ?_
  refine⟨s1.heap.objs.size,[s1.heap.objs.size],_,_,xs,fun G'=>seqT G' x=some xs,G1,H1,rfl,e1,⟨σ,I1.kept (t':=s1.toks) fun b o e=>lJu _ e,hs1,hg1⟩,qJ0 p _,⟨_,lJ8 _ rfl,rfl,rfl⟩,fpk,?_,q⟩
  intro i H2 G2 e2 g2 st
  have ra2:=Rep.mono e2 _ ra
  have now:∃ws,SqL X.K H2 p ws/\Reps X.K H2 xs ws:=by
   cases x with
   | scr ys=>cases hx;obtain⟨p',ws,ep,h1,h2⟩:=(show ∃p' ws,V.ref p= .ref p'/\FrL X.K H2 p' ws/\Reps X.K H2 xs ws from ra2);cases ep;exact⟨ws,h1.sq,h2⟩
   | ref p'=>cases (show V.ref p= .ref p' from ra);obtain⟨ws,h1,h2⟩:=g2.lst (jYo st);exact⟨ws,.of h1,h2⟩
   | tup ys=>
    obtain⟨p',ws,ep,h1,h2⟩:=(show ∃p' ws,V.ref p= .ref p'/\H1 p'=some (.tup ws)/\Reps X.K H1 ys ws from ra)
    cases ep
    exfalso
    obtain⟨its',_,pl',_⟩:=I1.tuple (.of h1)
    obtain⟨o,n,ho,hc,_⟩:=pl
    obtain⟨o',ho',hc',_⟩:=pl'
    rw[ho] at ho';cases ho'
    rw[hc] at hc';exact absurd hc' (by decide)
   | non=>cases hx
   | bl _=>cases hx
   | int _=>cases hx
   | str _=>cases hx
   | ty _=>cases hx
  obtain⟨ws,h1,h2⟩:=now
  have hlen:=h2.length
  refine⟨fun hi=> ?_,fun hi=>⟨ws,h1,by omega⟩,fun _ y H' ⟨eH,hy⟩=> ?_⟩
  ·exact⟨ws,ws[i]'(by omega),h1,by simp[hlen▸hi]⟩
  ·subst eH
   obtain⟨t,ht,rt⟩:=h2.get' (hy ws h1)
   exact⟨.refl _,g2,t,ht,rt⟩
 ·obtain⟨its,rv,pl,hz⟩:=I1.tuple hq
  refine lXw (show s1.heap.IsTuple p its.toArray from pl) ?_
  refine⟨s1.heap.objs.size,[s1.heap.objs.size],_,_,xs,fun G'=>seqT G' x=some xs,G1,H1,rfl,e1,⟨σ,I1.kept (t':=s1.toks) fun b o e=>lJu _ e,hs1,hg1⟩,kZv p _,⟨_,lJ8 _ rfl,rfl,rfl⟩,fpk,?_,q⟩
  intro i H2 G2 e2 g2 st
  have ra2:=Rep.mono e2 _ ra
  have now:∃ws,H2 p=some (.tup ws)/\Reps X.K H2 xs ws:=by
   cases x with
   | tup ys=>cases hx;obtain⟨p',ws,ep,h1,h2⟩:=(show ∃p' ws,V.ref p= .ref p'/\H2 p'=some (.tup ws)/\Reps X.K H2 xs ws from ra2);cases ep;exact⟨ws,h1,h2⟩
   | scr ys=>
    obtain⟨p',ws,ep,h1,h2⟩:=(show ∃p' ws,V.ref p= .ref p'/\FrL X.K H1 p' ws/\Reps X.K H1 ys ws from ra)
    cases ep
    exfalso
    obtain⟨its',_,pl',_⟩:=I1.list h1.sq
    obtain⟨o,n,ho,hc,_⟩:=pl'
    obtain⟨o',ho',hc',_⟩:=pl
    rw[ho] at ho';cases ho'
    rw[hc] at hc';exact absurd hc' (by decide)
   | ref p'=>
    cases (show V.ref p= .ref p' from ra)
    obtain⟨ws,h1,h2⟩:=hg1.lst (jYo hx)
    exfalso
    obtain⟨its',_,pl',_⟩:=I1.list (.of h1)
    obtain⟨o,n,ho,hc,_⟩:=pl'
    obtain⟨o',ho',hc',_⟩:=pl
    rw[ho] at ho';cases ho'
    rw[hc] at hc';exact absurd hc' (by decide)
   | non=>cases hx
   | bl _=>cases hx
   | int _=>cases hx
   | str _=>cases hx
   | ty _=>cases hx
  obtain⟨ws,h1,h2⟩:=now
  have hlen:=h2.length
  refine⟨fun hi=> ?_,fun hi=>⟨ws,.of h1,by omega⟩,fun _ y H' ⟨eH,hy⟩=> ?_⟩
  ·exact⟨ws,ws[i]'(by omega),.of h1,by simp[hlen▸hi]⟩
  ·subst eH
   obtain⟨t,ht,rt⟩:=h2.get' (hy ws (.of h1))
   exact⟨.refl _,g2,t,ht,rt⟩
noncomputable def rngT (lo:Int)(n:Nat):List T:=(List.range n).map fun (k:Nat)=>T.int (lo+k)
def jKc (ta:TA3):TI3:=fun τ G R=>ta τ G fun vs G1=>∃j:Int,vs=[.int j]/\ -(2^62)<=j/\j<2^62/\R (rngT 0 j.toNat) (fun _=>True) G1
def uJh (ta:TA3):TI3:=fun τ G R=>ta τ G fun vs G1=>∃i j:Int,vs=[.int i,.int j]/\(-(2^62)<=i/\i<2^62/\ -(2^62)<=j/\j<2^62)/\R (rngT i (j-i).toNat) (fun _=>True) G1
theorem kVd (lo:Int)(n:Nat):uJ8 K H (Itr lo n) (rngT lo n) fun _=>True:=by
 intro i H' G e g _
 have hl:(rngT lo n).length=n:=by simp[rngT]
 refine⟨fun h=>by rw[hl] at h;exact h,fun h=>by rw[hl] at h;exact h,fun hi x H2 ⟨eH,ex⟩=> ?_⟩
 rw[hl] at hi
 subst eH;subst ex
 exact⟨.refl _,g,.int (lo+i),by simp[rngT,hi],rfl⟩
theorem jJ7 (hg:Gl X "range")(hm:X.mg "range"=none)(ha:PA3 X [a] ta)(hs:starEach [a] X.env=[(false,eval a X.env)]:=by rfl):PI3 X tg (.Call (.Name "range" p) [a] [] pos) (jKc ta):=by
 intro pins s τ G H R I h
 obtain⟨σ,I0,hs0,hg0⟩:=id I
 refine Call_ (jV3 I0 hg hm boot_range (lQ8 (thn (ha pos pins s τ G H _ I h) fun us s1 w_=>w_.el fun xs G1 H1 e1 i_ r_ q1=>i_.el fun σ I1 hs1 hg1=>r_.el fun as ras rvs=> ?_) hs rfl))
 obtain⟨j,e,q1,q2,q⟩:=q1
 subst e
 obtain⟨v,rfl,rv⟩:=jU5 ras
 cases (show v= .int j from rv)
 obtain⟨u,rfl,ru⟩:=rvs.one
 obtain⟨t,rfl⟩:=ru
 refine call_range_1 (thn (kYn (tg:=tg) (R:=fun J H'=>J=Itr 0 j.toNat/\H'=H1) I1 (by omega) (by omega) q1 q2 ⟨by simp,rfl⟩) fun itv s2 z=> ?_)
 obtain⟨it,fp,tn,J,H',ei,I2,T0,st,fk,eJ,eH⟩:=z
 subst eJ;subst eH
 exact⟨it,fp,tn,_,rngT 0 j.toNat,fun _=>True,G1,H',ei,e1,⟨σ,I2,hs1,hg1⟩,T0,st,fk,kVd 0 j.toNat,q⟩
theorem qXd (hg:Gl X "range")(hm:X.mg "range"=none)(ha:PA3 X [a,b] ta)(hs:starEach [a,b] X.env=[(false,eval a X.env),(false,eval b X.env)]:=by rfl)(hs2:starEach [b] X.env=[(false,eval b X.env)]:=by rfl):
  PI3 X tg (.Call (.Name "range" p) [a,b] [] pos) (uJh ta):=by
 intro pins s τ G H R I h
 obtain⟨σ,I0,hs0,hg0⟩:=id I
 refine Call_ (jV3 I0 hg hm boot_range (lQ8 (thn (ha pos pins s τ G H _ I h) fun us s1 w_=>w_.el fun xs G1 H1 e1 i_ r_ q1=>i_.el fun σ I1 hs1 hg1=>r_.el fun as ras rvs=> ?_) (by rw[hs,hs2]) (by rw[hs2];rfl)))
 obtain⟨i,j,e,⟨q1,q2,q3,q4⟩,q⟩:=q1
 subst e
 obtain⟨v,w,rfl,rv,rw'⟩:=kKd ras
 cases (show v= .int i from rv);cases (show w= .int j from rw')
 obtain⟨u,u',rfl,ru,ru'⟩:=rvs.two
 obtain⟨t,rfl⟩:=ru
 obtain⟨t',rfl⟩:=ru'
 refine call_range_2 (thn (kYn (tg:=tg) (R:=fun J H'=>J=Itr i (j-i).toNat/\H'=H1) I1 q1 q2 q3 q4 ⟨rfl,rfl⟩) fun itv s2 z=> ?_)
 obtain⟨it,fp,tn,J,H',ei,I2,T0,st,fk,eJ,eH⟩:=z
 subst eJ;subst eH
 exact⟨it,fp,tn,_,rngT i (j-i).toNat,fun _=>True,G1,H',ei,e1,⟨σ,I2,hs1,hg1⟩,T0,st,fk,kVd i (j-i).toNat,q⟩
abbrev Sp3:=List T->Gp->VK3->Prop
def dn (K:PySem.W.Frag)(n:Nat)(sp:Sp3):Sp:=fun vs H Q _=>vs.length=n/\∃xs G,Reps K H xs vs/\GRel K H G/\sp xs G fun t G'=>∀v H',Ext H H'->GRel K H' G'->Rep K H' t v->Q v H'
def Fn3 (P:Program)(w:World)(K:PySem.W.Frag)(mg:Str->Option Value)(base:Heap)(k:Nat)(f:Addr)(fd:FuncData)(ps:List Str)(sp:Sp3):Prop:=FnOk P w K mg base CX0 k f fd ps (dn K ps.length sp)
def jJo (sp:Sp3)(t:TA3):TE3:=fun τ G Q=>t τ G fun xs G1=>sp xs G1 Q
def Mono (sp:Sp3):Prop:=∀xs G Q Q',(∀t G',Q t G'->Q' t G')->sp xs G Q->sp xs G Q'
noncomputable def jVl (N:List Str)(xs:List T):St3:=xs.map some++List.replicate (N.length-xs.length) none
variable {N:List Str}
theorem qJ4 (r:Reps K H xs vs):SRel K H (start N vs) (jVl N xs):=by
 have hl:=r.length
 refine⟨by simp[L2.start,jVl,hl],fun i t h=> ?_⟩
 unfold jVl at h
 unfold L2.start
 by_cases hi:i<xs.length
 ·rw[lKy (by simpa using hi),lJr] at h
  cases e:xs[i]? with
  | none=>rw[e] at h;cases h
  | some x=>
   rw[e] at h;cases h
   obtain⟨v,hv,rv⟩:=r.get e
   exact⟨v,by rw[lKy (by simp;omega),lJr,hv];rfl,rv⟩
 ·rw[lKq (by simpa using hi),lX1] at h
  split at h<;>cases h
variable {P:Program}{w:World}
theorem fn3 {mg:Str->Option Value}{base:Heap}{qual:Str}{f:Addr}{fd:FuncData}{ps:List Str}{k:Nat}{sp:Sp3}(F:Fun K x qual st f fd)(S:FnScope N ps (jKj st))(hbody:∀(cdv:Value) (A:Around) (outer:List Env) (s:Shared) (H:Hp) (E:XK),Room k (A.deeper (envOfC qual (jKj st) s.heap.objs.size f cdv))->
   ∃t,PSs3 (cxOf CX0 P w K mg base N qual (jKj st) f cdv A outer s H E).nox (jVb st) t/\∀xs G Q,sp xs G Q->t {nx:=fun _ G'=>Q .non G',rt:=Q} (jVl N xs) G):Fn3 P w K mg base (k+1) f fd ps sp:=by
 refine Fun.ok (sp:=dn K ps.length sp) F S (fun vs H Q E h=>h.1) fun cdv A outer s H vs Q E hr hsp=> ?_
 obtain⟨t,ht,hq⟩:=hbody cdv A outer s H E hr
 obtain⟨hl,xs,G,rs,hg,hsp⟩:=hsp
 refine⟨fun D σ H1=>D.nx=(fun _ H'=>Q .non H')/\D.rt=Q/\σ=L2.start N vs/\H1=H,?_,rfl,rfl,rfl,rfl⟩
 rintro pins s1 σ1 H1 D I ⟨e1,e2,e3,e4⟩
 subst e3;subst e4
 have I3:Inv3 (cxOf CX0 P w K mg base N qual (jKj st) f cdv A outer s H1 E).nox pins (jVl N xs) G H1 s1:=⟨_,I,qJ4 rs,hg⟩
 refine thn (ht pins s1 _ G H1 _ I3 (hq xs G _ hsp)) fun fl s2 z=> ?_
 cases fl with
 | next=>obtain⟨τ',G',H',e',⟨σ',I',a,b⟩,q⟩:=z;exact⟨σ',H',I',by rw[e1];exact q .non H' e' b rfl⟩
 | brk=>obtain⟨τ',G',H',e',_,q⟩:=z;exact q.elim
 | cont=>obtain⟨τ',G',H',e',_,q⟩:=z;exact q.elim
 | ret u=>obtain⟨x',τ',G',H',e',⟨σ',I',a,b⟩,⟨v,rv,ru⟩,q⟩:=z;exact⟨v,σ',H',I',ru,by rw[e2];exact q v H' e' b rv⟩
mutual
noncomputable def dep:T->Nat
 | .tup xs=>deps xs+1
 | _=>0
noncomputable def deps:List T->Nat
 | []=>0
 | x::xs=>max (dep x) (deps xs)
end
mutual
noncomputable def tree:T->Bool
 | .tup xs=>jQt xs
 | .ref _=>false
 | .scr _=>false
 | .ty _=>false
 | .non=>true
 | .bl _=>true
 | .int _=>true
 | .str _=>true
noncomputable def jQt:List T->Bool
 | []=>true
 | x::xs=>tree x&&jQt xs
end
mutual
noncomputable def eqT:T->T->Bool
 | .non,.non=>true
 | .bl a,.bl b=>a == b
 | .bl a,.int b=>(if a then 1 else 0) == b
 | .int a,.bl b=>a == (if b then 1 else 0)
 | .int a,.int b=>a == b
 | .str a,.str b=>a == b
 | .tup xs,.tup ys=>eqTs xs ys
 | _,_=>false
noncomputable def eqTs:List T->List T->Bool
 | [],[]=>true
 | x::xs,y::ys=>eqT x y&&eqTs xs ys
 | [],_::_=>false
 | _::_,[]=>false
end
mutual
theorem qXi {K:PySem.W.Frag} {H:Hp}:∀(x y:T) {a:V},tree x=true->tree y=true->Rep K H x a->Rep K H y a->eqT x y=true
 | .non,y,a,hx,hy,r,q=>by
  cases (show a= .non from r)
  cases y<;>first | rfl | (exact absurd (show false=true from hy) lJp) | (cases (show V.non=_ from q)) | (obtain⟨_,_,e,_⟩:=(show ∃c vs,V.non= .ref c/\_ from q);cases e)
 | .bl b,y,a,hx,hy,r,q=>by
  cases (show a= .bl b from r)
  cases y with
  | bl c=>cases (show V.bl b=V.bl c from q);simp[eqT]
  | tup ys=>obtain⟨_,_,e,_⟩:=(show ∃c vs,V.bl b= .ref c/\_ from q);cases e
  | non=>cases (show V.bl b= .non from q)
  | int c=>cases (show V.bl b= .int c from q)
  | str c=>cases (show V.bl b= .str c from q)
  | _=>exact absurd (show false=true from hy) lJp
 | .int b,y,a,hx,hy,r,q=>by
  cases (show a= .int b from r)
  cases y with
  | int c=>cases (show V.int b=V.int c from q);simp[eqT]
  | tup ys=>obtain⟨_,_,e,_⟩:=(show ∃c vs,V.int b= .ref c/\_ from q);cases e
  | non=>cases (show V.int b= .non from q)
  | bl c=>cases (show V.int b= .bl c from q)
  | str c=>cases (show V.int b= .str c from q)
  | _=>exact absurd (show false=true from hy) lJp
 | .str b,y,a,hx,hy,r,q=>by
  cases (show a= .str b from r)
  cases y with
  | str c=>cases (show V.str b=V.str c from q);simp[eqT]
  | tup ys=>obtain⟨_,_,e,_⟩:=(show ∃c vs,V.str b= .ref c/\_ from q);cases e
  | non=>cases (show V.str b= .non from q)
  | bl c=>cases (show V.str b= .bl c from q)
  | int c=>cases (show V.str b= .int c from q)
  | _=>exact absurd (show false=true from hy) lJp
 | .tup xs,y,a,hx,hy,r,q=>by
  obtain⟨p,vs,e,h1,h2⟩:=(show ∃p vs,a= .ref p/\H p=some (.tup vs)/\Reps K H xs vs from r)
  subst e
  cases y with
  | tup ys=>
   obtain⟨p',vs',e',h1',h2'⟩:=(show ∃p' vs',V.ref p= .ref p'/\H p'=some (.tup vs')/\Reps K H ys vs' from q)
   cases e'
   rw[h1] at h1';cases h1'
   exact kVh xs ys (show jQt xs=true from hx) (show jQt ys=true from hy) h2 h2'
  | non=>cases (show V.ref p= .non from q)
  | bl c=>cases (show V.ref p= .bl c from q)
  | int c=>cases (show V.ref p= .int c from q)
  | str c=>cases (show V.ref p= .str c from q)
  | _=>exact absurd (show false=true from hy) lJp
 | .ref _,_,_,hx,_,_,_=>absurd (show false=true from hx) lJp
 | .scr _,_,_,hx,_,_,_=>absurd (show false=true from hx) lJp
 | .ty _,_,_,hx,_,_,_=>absurd (show false=true from hx) lJp
theorem kVh {K:PySem.W.Frag} {H:Hp}:∀(xs ys:List T) {vs:List V},jQt xs=true->jQt ys=true->Reps K H xs vs->Reps K H ys vs->eqTs xs ys=true
 | [],ys,_,_,_,r,q=>by
  cases r
  cases ys with
  | nil=>rfl
  | cons y ys=>obtain⟨_,_,e,_⟩:=q;cases e
 | x::xs,ys,_,hx,hy,⟨v,ws,e,r1,r2⟩,q=>by
  subst e
  cases ys with
  | nil=>cases q
  | cons y ys=>
   obtain⟨v',ws',e',q1,q2⟩:=q
   cases e'
   have hx':tree x=true/\jQt xs=true:=by simpa[jQt] using hx
   have hy':tree y=true/\jQt ys=true:=by simpa[jQt] using hy
   show (eqT x y&&eqTs xs ys)=true
   rw[qXi x y hx'.1 hy'.1 r1 q1,kVh xs ys hx'.2 hy'.2 r2 q2]
   rfl
end
variable {op':CmpOp}
section
def rSub:R3:=rI0 fun i j=> .int (i-j)
def rMod:R3:=rI (fun _ j=>0<j) fun i j=> .int (i%j)
def rFdiv:R3:=rI CDiv fun i j=> .int (i / j)
def rPow:R3:=rI CPow fun i j=> .int (i^j.toNat)
def rLt:R3:=rI0 fun i j=> .bl (decide (i<j))
def rGt:R3:=rI0 fun i j=> .bl (decide (j<i))
def rGe:R3:=rI0 fun i j=> .bl (decide (j<=i))
def rIsN:R3:=fun x y G Q=>y= .non/\Q (.bl (uJd x)) G
def rNotN:R3:=fun x y G Q=>y= .non/\Q (.bl (!uJd x)) G
def qVn:R3:=fun x y G Q=>∃xs ys,x= .tup xs/\y= .tup ys/\xs≠[]/\xs.length+ys.length<=sizeLine/\Q (.tup (xs++ys)) G
theorem o_catT:Op3 X (binaryOp .Add) qVn:=
 Op3.of qZn fun H G x y a b Q hg ra rb ⟨xs,ys,ex,ey,hx,hz,q⟩=>by
  subst ex;subst ey
  obtain⟨p,vs,e1,h1,h2⟩:=(show ∃p vs,a= .ref p/\H p=some (.tup vs)/\Reps X.K H xs vs from ra)
  obtain⟨p',ws,e2,h3,h4⟩:=(show ∃p vs,b= .ref p/\H p=some (.tup vs)/\Reps X.K H ys vs from rb)
  subst e1;subst e2
  have l1:=h2.length
  have l2:=h4.length
  refine⟨p,p',vs,ws,rfl,rfl,.of h1,.of h3,fun z=>hx ?_,by omega,fun z=> ?_,fun z l hl=> ?_⟩
  ·rw[z] at l1;exact lQk.mp l1
  ·rw[z] at l2
   have:ys=[]:=lQk.mp l2
   subst this
   exact⟨.tup (xs++[]),G,.refl H,hg,by rw[lXh];exact ra,q⟩
  ·exact⟨.tup (xs++ys),G,.upd (.none hl),hg.tupNew hl,Rep.tupNew (h2.append h4) hl,q⟩
def rAddI:R3:=rI0 fun i j=> .int (i+j)
def rAddA:R3:=fun x y G Q=>rAddI x y G Q\/rCat x y G Q\/qVn x y G Q
theorem o_addA:Op3 X (binaryOp .Add) rAddA:=o_add.or (o_cat.or o_catT)
def rMulI:R3:=rI CMul fun i j=> .int (i*j)
def rMulA:R3:=fun x y G Q=>rMulI x y G Q\/rRep x y G Q
theorem o_mulA:Op3 X (binaryOp .Mult) rMulA:=o_mul.or o_rep
def rNeg:T->Gp->VK3->Prop:=fun x G Q=>∃i,x= .int i/\Q (.int (-i)) G
theorem kZu:Un3 X (unaryOp .USub) rNeg:=
 Un3.of un_neg fun H G x a Q hg ra ⟨i,e,q⟩=>by
  subst e;cases (show a= .int i from ra)
  exact⟨i,rfl,.int (-i),G,.refl H,hg,rfl,q⟩
theorem jJv (b:Expr)(h:behindInMarks op b=false:=by first | exact nomark _ | with_unfolding_all rfl):behindInMarks op b=false:=h
variable {ta:TE3}
theorem uJp (ho:Op3 X (compareOp op) r)(ho':Op3 X (compareOp op') r')(ha:PE3 X a ta)(hb:PE3 X b tb)(hc:PE3 X c tc)(hm:lastMarks [op,op'] [b,c]=false:=by with_unfolding_all rfl):PE3 X (.Compare a [op,op'] [b,c] pos) (jXz r r' ta tb tc):=by
 intro pins s τ G H Q I h
 refine Compare_chain (thn (ha pins s τ G H _ I h) fun v s1 w_=>w_.el fun x G1 H1 e1 I1 r1 q1=>chain_link (thn (hb pins s1 τ G1 H1 _ I1 q1) fun u s2 ⟨y,G2,H2,e2,I2,r2,q2⟩=>
  thn (ho pins s2 τ G2 H2 x y v u _ I2 (r1.mono e2) r2 q2) fun d s3 w_=>w_.el fun z G3 H3 e3 I3 r_ ⟨k,e,q3⟩=>r_.el fun v' rv' ru'=> ?_)) hm
 subst e
 cases (show v'= .bl k from rv');cases ru'
 refine lVc ?_
 cases k with
 | false=>exact ite_ff ⟨.bl false,G3,H3,(e1.trans e2).trans e3,I3,⟨.bl false,rfl,rfl⟩,q3⟩
 | true=>exact ite_tt (chain_last (thn (hc pins s3 τ G3 H3 _ I3 q3) fun w' s4 w_=>w_.el fun z' G4 H4 e4 I4 r4 q4=>thn (ho' pins s4 τ G4 H4 y z' u w' Q I4 (r2.mono (e3.trans e4)) r4 q4) fun _ _ z=>z.ext (((e1.trans e2).trans e3).trans e4)))
theorem qJ2 (ho:Op3 X (compareOp op) r)(ho':Op3 X (compareOp op') r')(ha:PE3 X a ta)(hb:PE3 X b tb)(hc:PE3 X c tc)(hm:lastMarks [op,op'] [b,c]=false:=by with_unfolding_all rfl):PT3 X (.Compare a [op,op'] [b,c] pos) (jJ1 (jXz r r' ta tb tc)):=by
 intro pins s τ G H Q I h
 refine isTrue_chain (thn (ha pins s τ G H _ I h) fun v s1 w_=>w_.el fun x G1 H1 e1 I1 r1 q1=>test_link (thn (hb pins s1 τ G1 H1 _ I1 q1) fun u s2 ⟨y,G2,H2,e2,I2,r2,q2⟩=>
  thn (ho pins s2 τ G2 H2 x y v u _ I2 (r1.mono e2) r2 q2) fun d s3 w_=>w_.el fun z G3 H3 e3 I3 r_ ⟨k,e,q3⟩=>r_.el fun v' rv' ru'=> ?_)) hm
 subst e
 cases (show v'= .bl k from rv');cases ru'
 refine lVc ?_
 cases k with
 | false=>
  obtain⟨k',e',q'⟩:=q3
  cases e'
  exact ite_ff ⟨G3,H3,(e1.trans e2).trans e3,I3,q'⟩
 | true=>
  refine ite_tt (test_last (thn (hc pins s3 τ G3 H3 _ I3 q3) fun w' s4 w_=>w_.el fun z' G4 H4 e4 I4 r4 q4=>thn (ho' pins s4 τ G4 H4 y z' u w' _ I4 (r2.mono (e3.trans e4)) r4 q4) fun d' s5 w_=>w_.el fun z2 G5 H5 e5 I5 r_ ⟨k2,e2',q5⟩=>r_.el fun v2 rv2 ru2=> ?_))
  subst e2'
  cases (show v2= .bl k2 from rv2);cases ru2
  exact lVc ⟨G5,H5,(((e1.trans e2).trans e3).trans e4).trans e5,I5,q5⟩
mutual
noncomputable def td:T->PyData
 | .tup xs=> .tuple (tds xs)
 | .int i=> .int i
 | .bl b=> .bool b
 | .str x=> .str x
 | .non=> .none
 | .ref _=> .none
 | .scr _=> .none
 | .ty _=> .none
noncomputable def tds:List T->List PyData
 | []=>[]
 | x::xs=>td x::tds xs
end
def eqOk (x:T):Bool:=tree x&&(td x).canLay0&&decide ((td x).depth<=50)
def jZl (xs:List T):Bool:=jQt xs&&PyData.canLayAll0 (tds xs)&&decide ((PyData.list (tds xs)).depth<=50)
noncomputable def eqG (G:Gp)(x y:T):Option Bool:=match x,y with
 | .ref p,.ref q=>match G p,G q with
  | some (.lst xs),some (.lst ys)=>if jZl xs=true/\jZl ys=true then some (eqTs xs ys) else none
  | _,_=>none
 | _,_=>if eqOk x=true/\eqOk y=true then some (eqT x y) else none
def rEqA:R3:=fun x y G Q=>∃b,eqG G x y=some b/\Q (.bl b) G
def rNeA:R3:=fun x y G Q=>∃b,eqG G x y=some b/\Q (.bl (!b)) G
noncomputable def truT (G:Gp):T->Option Bool
 | .non=>some false
 | .bl b=>some b
 | .int i=>some (i != 0)
 | .tup xs=>some (!xs.isEmpty)
 | .ref p=>match G p with
  | some (.lst xs)=>some (!xs.isEmpty)
  | some (.dck kvs)=>some (!kvs.isEmpty)
  | _=>none
 | _=>none
def rTru:T->Gp->(Bool->Gp->Prop)->Prop:=fun x G Q=>∃b,truT G x=some b/\Q b G
theorem jZe (r:Reps K H xs vs):xs.isEmpty=vs.isEmpty:=by
 have:=r.length
 cases xs<;>cases vs<;>simp_all
theorem qY2:Tru3 X rTru:=
 Tru3.of tru_ok fun H G x a Q hg ra ⟨b,hb,q⟩=>by
  refine⟨b,?_,rfl,q⟩
  cases x with
  | non=>cases (show a= .non from ra);cases hb;rfl
  | bl k=>cases (show a= .bl k from ra);cases hb;rfl
  | int k=>cases (show a= .int k from ra);cases hb;rfl
  | tup xs=>
   obtain⟨p,vs,e1,h1,h2⟩:=(show ∃p vs,a= .ref p/\H p=some (.tup vs)/\Reps X.K H xs vs from ra)
   subst e1;cases hb
   exact .inr (.inl ⟨vs,.of h1,by rw[jZe h2]⟩)
  | ref p=>
   cases (show a= .ref p from ra)
   cases hG:G p with
   | none=>simp only[truT,hG] at hb;cases hb
   | some o=>
    simp only[truT,hG] at hb
    cases o with
    | lst xs=>cases hb;obtain⟨vs,h1,h2⟩:=hg.lst hG;exact .inl ⟨vs,.of h1,by rw[jZe h2]⟩
    | dct _=>cases hb
    | fdc _=>cases hb
    | ins _ _=>cases hb
    | dck kvs=>
     cases hb
     obtain⟨ws,h1,h2⟩:=hg p _ hG
     refine .inr (.inr ⟨ws,h1,?_⟩)
     cases h2<;>rfl
  | str _=>cases hb
  | scr _=>cases hb
  | ty _=>cases hb
end
variable {h':Heap}{fp:List Addr}
theorem kVz {t':Nat}(I:Inv X pins σ H s)(k:∀b o,b∉fp->s.heap.get? b=some o->h'.get? b=some o)(hf:∀b∈fp,FpOk X pins H b):Inv X pins σ H {s with heap:=h',toks:=t'}:=by
 have nit:∀b u,H b=some u->b∉fp:=fun b u e z=>by rw[(hf b z).1] at e;cases e
 refine I.step (g':=s.gens) (d':=s.drawn) (ch:=fp) (fun b hb=>⟨(hf b hb).2.2.2.1,(hf b hb).2.1,(hf b hb).2.2.2.2.1,(hf b hb).2.2.2.2.2⟩) (fun b o _ _ hc e _=>k b o hc e) (fun b o _ _ hc e _=>⟨o.slots,k b o hc e⟩) (fun _ _ _ _ n=>n)
  (fun b o hc e=>⟨o,k b o hc e⟩) (fun _ _ e=>e) (fun _ _ _ e=>e) (fun b ps e=>⟨#[],by rw[e];simp⟩) (fun m hm=> ?_) (fun b u e=> ?_) I.bare
 ·obtain⟨o,es,ep,ho,r⟩:=hm
  exact⟨o,es,ep,k _ o (fun z=>(hf _ z).2.1 rfl) ho,r⟩
 ·refine (I.hok b u e).stay (fun c v hc q=>k c v ?_ q) (fun _ q=>q) fun _ _ q=>q
  rcases hc with z | z
  ·rw[z];exact nit b u e
  ·exact nit c _ z
theorem jZ7 {t':Nat}{p:Addr}{us:List Value}(I:Inv X pins σ H s)(k:∀b o,b∉fp->s.heap.get? b=some o->h'.get? b=some o)(hf:∀b∈fp,FpOk X pins H b)(hp:s.heap.objs.size<=p)(ht:TupD h' p us.toArray)(r:Vals vs us)(hz:vs.length<=sizeLine):Inv X pins σ (upd H p (.tup vs)) {s with heap:=h',toks:=t'}:=by
 have hn:H p=none:=I.hok.fresh hp
 have nit:∀b u,H b=some u->b∉fp:=fun b u e z=>by rw[(hf b z).1] at e;cases e
 have old:∀b o,s.heap.get? b=some o->b≠p:=fun b o e=>lJ4 (lKo (lJl e) hp)
 have tr:∀b u,H b=some u->b≠p:=fun b u e z=>by rw[z,hn] at e;cases e
 refine I.step (g':=s.gens) (d':=s.drawn) (ch:=fp) (fun b hb=>⟨(hf b hb).2.2.2.1,(hf b hb).2.1,(hf b hb).2.2.2.2.1,(hf b hb).2.2.2.2.2⟩) (fun b o _ _ hc e _=>k b o hc e) (fun b o _ _ hc e _=>⟨o.slots,k b o hc e⟩) (fun b o _ e n=>by rw[jKg (old b o e)];exact n)
  (fun b o hc e=>⟨o,k b o hc e⟩) (fun b _ e=>by rw[jKg (tr b _ e)];exact e) (fun b _ _ e=>by rw[jKg (tr b _ e)];exact e) (fun b ps e=>⟨#[],by rw[jKg (tr b _ e),e];simp⟩) (fun m hm=> ?_) (fun b u e=> ?_) I.bare
 ·obtain⟨o,es,ep,ho,r⟩:=hm
  exact⟨o,es,ep,k _ o (fun z=>(hf _ z).2.1 rfl) ho,r⟩
 ·by_cases hb:b=p
  ·subst hb
   rw[jQe] at e
   cases e
   exact⟨hz,us,r,ht⟩
  ·rw[jKg hb] at e
   refine (I.hok b u e).stay (fun c v hc q=>k c v ?_ q) (fun c q=>by rw[jKg (tr c _ q)];exact q) fun c _ q=>by rw[jKg (tr c _ q)];exact q
   rcases hc with z | z
   ·rw[z];exact nit b u e
   ·exact nit c _ z
noncomputable def Ite (K:PySem.W.Frag)(a:Addr):It:=
 ⟨fun i H=>∃xs x,SqL K H a xs/\xs[i]? =some x,fun i H x H'=>∃p y,H p=none/\x= .ref p/\(∀xs,SqL K H a xs->xs[i]? =some y)/\H'=upd H p (.tup [.int i,y]),fun i H=>∃xs,SqL K H a xs/\xs.length<=i⟩
variable {elts:List Expr}
theorem qJ1 {k:Nat}(a e it:Addr)(hei:e≠it):
  Turn P w K (.Tuple elts k pos) (Ite K a) [e,it] e (fun i h=>(∃old,IsEnum h e it i old)/\h.IsListIter it a i) where
 mem:=by simp
 obj:=fun i h ⟨⟨old,h1⟩,h2⟩ b hb=>by
  have hb':b=e\/b=it:=by simpa using hb
  rcases hb' with z | z
  ·subst z;exact⟨_,h1,fun v z=>nomatch (show Data.fields _=Data.cell v from z)⟩
  ·subst z
   obtain⟨o,e2,c,d⟩:=h2
   exact⟨o,e2,fun v z=>by rw[d] at z;cases z⟩
 keep:=fun i h h' ⟨⟨old,h1⟩,h2⟩ kp=>⟨⟨old,kp e (by simp) _ h1⟩,h2.at fun o q=>kp it (by simp) o q⟩
 item:=by
  rintro X hP hw hK hc i pins s σ H E I hf ⟨⟨old,he⟩,hit⟩ hg
  subst hP hw hK
  obtain⟨xs,x,hq,hx⟩:=hg
  obtain⟨its,rv,p,hz⟩:=I.list hq
  obtain⟨u,hu,ru⟩:=rv.get hx
  refine wpAny_pyNext_enum_item he hit p.isList (x:=u) (by simpa using hu) hei fun h1 ho hit1 hT hsz hk=> ?_
  refine⟨_,rfl,wpAny_letOwnedTupleGo_enum ho fun h2 he2 hs2=> ?_⟩
  have hel:e<s.heap.objs.size:=lJl he
  have hp2:∀b o,b∉[e,it]->s.heap.get? b=some o->h2.get? b=some o:=fun b o hb q=>by
   have hb1:b≠e:=fun z=>hb (by simp[z])
   have hb2:b≠it:=fun z=>hb (by simp[z])
   exact (hs2.2 b hb1).trans (hk b o hb1 hb2 q)
  have hT2:h2.get? s.heap.objs.size=some {cls:= .type "tuple",data:= .seq #[.int i s.toks,u]}:=(hs2.2 _ (lVe hel)).trans hT
  have I2:=jZ7 (t':=s.toks+1) (h':=h2) (p:=s.heap.objs.size) (vs:=[.int i,x]) (us:=[.int i s.toks,u]) I hp2 hf (lJj _) ⟨_,hT2,rfl,_,rfl,rfl⟩ (.cons ⟨_,rfl⟩ (.cons ru .nil)) (by show 2<=sizeLine;decide)
  refine⟨.ref s.heap.objs.size,_,I2,rfl,⟨_,x,I.hok.fresh (lJj _),rfl,fun ys hy=>by rw[I.list_inj hy hq];exact hx,rfl⟩,⟨⟨u,by simpa using he2⟩,hit1.at fun o q=>(hs2.2 it hei.symm).trans q⟩,fun b hb=> ?_⟩
  have hbs:∃o,s.heap.get? b=some o:=by
   have hb':b=e\/b=it:=by simpa using hb
   rcases hb' with z | z
   ·subst z;exact⟨_,he⟩
   ·subst z;obtain⟨o,q,_⟩:=hit;exact⟨o,q⟩
  obtain⟨o,q⟩:=hbs
  rw[jKg (lJ4 (lJl q))]
  exact (hf b hb).1
 done:=by
  rintro X hP hw hK hc i pins s σ H E I hf ⟨⟨old,he⟩,hit⟩ hg
  subst hP hw hK
  obtain⟨xs,hq,hx⟩:=hg
  obtain⟨its,rv,p,hz⟩:=I.list hq
  have hl:=rv.length
  exact wpAny_pyNext_enum_end (I.ok.hd hc) he hit p.isList (by simp;omega) fun h1 hx1=>⟨rfl,kVz (t':=s.toks) I (fun b o hb q=>hx1 b o (fun z=>hb (by simp[z])) q) hf⟩
 self:=fun _ _ _ _ _ ⟨⟨old,he⟩,_⟩ h=>lYd he h
noncomputable def numT (xs:List T):List T:=(List.range xs.length).map fun (i:Nat)=>T.tup [.int i,xs.getD i .non]
theorem jXa {x:T}(h:xs[i]? =some x):(numT xs)[i]? =some (.tup [.int i,x]):=by
 have hi:i<xs.length:=by
  rcases lQg i xs.length with z | z
  ·exact z
  ·rw[lJ3 z] at h;cases h
 have hx:xs[i]=x:=(lJg.mp h).2
 simp[numT,hi,List.getD,hx]
theorem jK4:(numT xs).length=xs.length:=by simp[numT]
noncomputable def jUx (G:Gp):T->Option (List T)
 | .ref p=>asL (G p)
 | .scr xs=>some xs
 | _=>none
theorem jZy {x:T}{a:V}(hg:GRel K H G)(r:Rep K H x a)(h:jUx G x=some xs):∃p vs,a= .ref p/\SqL K H p vs/\Reps K H xs vs:=by
 cases x with
 | scr ys=>cases h;obtain⟨p,vs,e,h1,h2⟩:=(show ∃p vs,a= .ref p/\FrL K H p vs/\Reps K H xs vs from r);exact⟨p,vs,e,h1.sq,h2⟩
 | ref p=>
  obtain⟨vs,h1,h2⟩:=hg.lst (jYo h)
  exact⟨p,vs,r,.of h1,h2⟩
 | tup _=>cases h
 | non=>cases h
 | bl _=>cases h
 | int _=>cases h
 | str _=>cases h
 | ty _=>cases h
def jY6 (ta:TA3):TI3:=fun τ G R=>ta τ G fun vs G1=>∃x xs,vs=[x]/\jUx G1 x=some xs/\R (numT xs) (fun G'=>jUx G' x=some xs) G1
theorem kK0 {k:Nat}{tpos:Pos}(hg:Gl X "enumerate")(hm:X.mg "enumerate"=none)(hv:bootBuiltins "enumerate"=some (.type "enumerate"))(ha:PA3 X [a] ta)(hs:starEach [a] X.env=[(false,eval a X.env)]:=by rfl):
  PI3 X (.Tuple elts k tpos) (.Call (.Name "enumerate" p) [a] [] pos) (jY6 ta):=by
 intro pins s τ G H R I h
 obtain⟨σ0,I0,hs0,hg0⟩:=id I
 refine Call_ (jV3 I0 hg hm hv (lQ8 (thn (ha pos pins s τ G H _ I h) fun us s1 w_=>w_.el fun xs' G1 H1 e1 i_ r_ q1=>i_.el fun σ I1 hs1 hg1=>r_.el fun as ras rvs=> ?_) hs rfl))
 obtain⟨x,xs,e,hx,q⟩:=q1
 subst e
 obtain⟨v,rfl,rv⟩:=jU5 ras
 obtain⟨u,rfl,ru⟩:=rvs.one
 obtain⟨pa,vs,rfl,hq,r⟩:=jZy hg1 rv hx
 cases ru
 obtain⟨its,rvv,pl,hz⟩:=I1.list hq
 refine call_enumerate_list pl.isList fun h1 he hit hsz hk=> ?_
 have I2:Inv X pins σ H1 {s1 with heap:=h1}:=I1.kept (t':=s1.toks) hk
 refine lYd (Q:=PIE3 X pins τ H (.Tuple elts k tpos) R) he ?_
 have fr:∀b∈[s1.heap.objs.size+1,s1.heap.objs.size],FpOk X pins H1 b:=fun b hb=>by
  have hb':b=s1.heap.objs.size+1\/b=s1.heap.objs.size:=by simpa using hb
  have hle:s1.heap.objs.size<=b:=by omega
  exact I1.fpOk hle (I1.hok.fresh hle)
 refine⟨s1.heap.objs.size+1,[s1.heap.objs.size+1,s1.heap.objs.size],_,_,numT xs,fun G'=>jUx G' x=some xs,G1,H1,rfl,e1,⟨σ,I2,hs1,hg1⟩,qJ1 pa _ _ (Nat.succ_ne_self _),⟨⟨.none,he⟩,hit⟩,fr,?_,q⟩
 intro i H2 G2 e2 g2 st
 obtain⟨pb,ws,eb,h1,h2⟩:=jZy g2 (Rep.mono e2 _ rv) st
 cases eb
 have hlen:=h2.length
 refine⟨fun hi=> ?_,fun hi=>⟨ws,h1,by rw[jK4] at hi;omega⟩,fun hi y H' ⟨pp,z,hn,ey,hy,eH⟩=> ?_⟩
 ·rw[jK4] at hi
  exact⟨ws,ws[i]'(by omega),h1,by simp[hlen▸hi]⟩
 ·subst ey;subst eH
  obtain⟨t,ht,rt⟩:=h2.get' (hy ws h1)
  exact⟨.upd (.none hn),g2.tupNew hn,_,jXa ht,Rep.tupNew ⟨_,_,rfl,rfl,_,_,rfl,rt,rfl⟩ hn⟩
noncomputable def clGo (env:Env):List (Str×NameKind)->List (Str×Addr)->Option (List (Str×Addr))
 | [],cs=>some cs
 | (n,k)::r,cs=>if (k == .free)=true then (match env.cells.lookup n with | some c=>clGo env r ((n,c)::cs) | none=>none) else clGo env r cs
variable {scope:Scope}{env:Env}
theorem kK4 {cl:List (Str×Addr)}(h:clGo env scope.names []=some cl):closureFor scope env=pure cl:=by
 unfold closureFor
 have go:∀(names:List (Str×NameKind)) (cs:List (Str×Addr)),clGo env names cs=some cl->
   (forIn names cs fun (x:Str×NameKind) (r:List (Str×Addr))=>(match x with | (nm,kd)=>if (kd == .free)=true then cellOf env nm >>= fun a=>pure (ForInStep.yield ((nm,a)::r)) else pure (ForInStep.yield r):Sem (ForInStep (List (Str×Addr)))))=pure cl:=by
  intro names
  induction names with
  | nil=>intro cs e;cases e;rfl
  | cons x r ih=>
   obtain⟨n,k⟩:=x
   intro cs e
   unfold clGo at e
   rw[List.forIn_cons]
   by_cases hk:(k == NameKind.free)=true
   ·rw[lJb hk] at e
    cases hc:env.cells.lookup n with
    | none=>rw[hc] at e;cases e
    | some c=>
     rw[hc] at e
     have hco:cellOf env n=pure c:=by unfold cellOf;rw[hc]
     simp only[hk,lK1,hco,pure_bind]
     exact ih _ e
   ·rw[lJa hk] at e
    simp only[hk,pure_bind,lKf,lK4]
    exact ih _ e
 have:=go scope.names [] h
 simpa using this
theorem jZ4 {env:Env} {cl:List (Str×Addr)}:∀ {names:List (Str×NameKind)} {cs:List (Str×Addr)},clGo env names cs=some cl->(∀n c,cs.lookup n=some c->env.cells.lookup n=some c)->∀n c,cl.lookup n=some c->env.cells.lookup n=some c
 | [],cs,e,h=>by cases e;exact h
 | (n,k)::r,cs,e,h=>by
  unfold clGo at e
  by_cases hk:(k == NameKind.free)=true
  ·rw[lJb hk] at e
   cases hc:env.cells.lookup n with
   | none=>rw[hc] at e;cases e
   | some c=>
    rw[hc] at e
    refine jZ4 e fun m d q=> ?_
    rw[lK5] at q
    by_cases hm:(m == n)=true
    ·rw[hm] at q;cases q;rw[eq_of_beq hm];exact hc
    ·simp only[hm] at q;exact h m d q
  ·rw[lJa hk] at e
   exact jZ4 e h
theorem kJ6 {env:Env} {cl:List (Str×Addr)} {m:Str}:∀ {names:List (Str×NameKind)} {cs:List (Str×Addr)},clGo env names cs=some cl->(∃c,cs.lookup m=some c)->∃c,cl.lookup m=some c
 | [],cs,e,h=>by cases e;exact h
 | (n,k)::r,cs,e,h=>by
  unfold clGo at e
  by_cases hk:(k == NameKind.free)=true
  ·rw[lJb hk] at e
   cases hc:env.cells.lookup n with
   | none=>rw[hc] at e;cases e
   | some c=>
    rw[hc] at e
    refine kJ6 e ?_
    rw[lK5]
    by_cases hm:(m == n)=true
    ·rw[hm];exact⟨_,rfl⟩
    ·simp only[hm];exact h
  ·rw[lJa hk] at e
   exact kJ6 e h
theorem jZ5 {env:Env} {cl:List (Str×Addr)} {m:Str}:∀ {names:List (Str×NameKind)} {cs:List (Str×Addr)},clGo env names cs=some cl->names.lookup m=some .free->∃c,cl.lookup m=some c
 | [],cs,e,h=>by simp at h
 | (n,k)::r,cs,e,h=>by
  unfold clGo at e
  rw[lK5] at h
  by_cases hm:(m == n)=true
  ·rw[hm] at h
   cases h
   rw[lJb (show (NameKind.free == NameKind.free)=true from rfl)] at e
   cases hc:env.cells.lookup n with
   | none=>rw[hc] at e;cases e
   | some c=>
    rw[hc] at e
    refine kJ6 e ?_
    rw[lK5,hm];exact⟨_,rfl⟩
  ·simp only[hm] at h
   by_cases hk:(k == NameKind.free)=true
   ·rw[lJb hk] at e
    cases hc:env.cells.lookup n with
    | none=>rw[hc] at e;cases e
    | some c=>rw[hc] at e;exact jZ5 e h
   ·rw[lJa hk] at e
    exact jZ5 e h
theorem jUo {env:Env} {x:Str}:∀ {names:List (Str×NameKind)},(∀y∈names,y.2≠ .cell)->
  ((names.map fun (n,k)=>if (k == NameKind.free&&env.scope.kind == .function&&env.kindOf n == some .cell) then (n,NameKind.cell) else (n,k)).lookup x=some .cell\/
    (names.map fun (n,k)=>if (k == NameKind.free&&env.scope.kind == .function&&env.kindOf n == some .cell) then (n,NameKind.cell) else (n,k)).lookup x=some .free)->names.lookup x=some .free
 | [],_,h=>by simp at h
 | (n,k)::r,hc,h=>by
  have ih:= @jUo env x r (fun y hy=>hc y (lKp _ hy))
  have hk:=hc (n,k) lKn
  rw[lJ6] at h
  rw[lK5]
  by_cases hx:(x == n)=true
  ·rw[hx]
   by_cases hf:(k == NameKind.free&&env.scope.kind == .function&&env.kindOf n == some .cell)=true
   ·have:(k == NameKind.free)=true:=by
     rw[lKu,lKu] at hf;exact hf.1.1
    rw[eq_of_beq this]
   ·simp only[hf,lKf,lK4,lK5,hx] at h
    rcases h with h | h
    ·cases h;exact absurd rfl hk
    ·cases h;rfl
  ·simp only[hx]
   refine ih ?_
   by_cases hf:(k == NameKind.free&&env.scope.kind == .function&&env.kindOf n == some .cell)=true
   ·simpa only[hf,lK1,lK5,hx] using h
   ·simpa only[hf,lKf,lK4,lK5,hx] using h
theorem jU6 {env:Env} {x:Str}:∀ {names:List (Str×NameKind)},
  (names.map fun (n,k)=>if (k == NameKind.free&&env.scope.kind == .function&&env.kindOf n == some .cell) then (n,NameKind.cell) else (n,k)).lookup x=some .local->names.lookup x=some .local
 | [],h=>by simp at h
 | (n,k)::r,h=>by
  have ih:= @jU6 env x r
  rw[lJ6] at h
  rw[lK5]
  by_cases hx:(x == n)=true
  ·rw[hx]
   by_cases hf:(k == NameKind.free&&env.scope.kind == .function&&env.kindOf n == some .cell)=true
   ·simp only[hf,lK1,lK5,hx] at h;cases h
   ·simp only[hf,lKf,lK4,lK5,hx] at h;exact h
  ·simp only[hx]
   refine ih ?_
   by_cases hf:(k == NameKind.free&&env.scope.kind == .function&&env.kindOf n == some .cell)=true
   ·simpa only[hf,lK1,lK5,hx] using h
   ·simpa only[hf,lKf,lK4,lK5,hx] using h
noncomputable def jUz (X:Cx)(scope:Scope)(cl:List (Str×Addr))(C:Addr)(fp:List Addr)(s:Shared)(H:Hp):Cx:=
 {X with env:=compEnvC scope cl C X.env,s₀:=s,H₀:=H,outer:=X.stack,stack:=X.stack,ex:=fp,fn:=fun _=>false,pn:=[],xe:=fun _ _=>False}
structure CmpOk (X:Cx) (scope:Scope) (cl:List (Str×Addr)) (mask:List Bool):Prop where
 cl:clGo X.env scope.names []=some cl
 kind:scope.kind= .function
 nocell:(scope.names.all fun y=>y.2 != .cell)=true
 names:(scope.names.all fun y=>y.2 != .local||scope.names.lookup y.1 == some .local)=true
 vis:(scope.names.all fun y=>y.2 != .free||X.env.kindOf y.1 == some .cell||X.env.kindOf y.1 == some .free)=true
 len:mask.length=X.N.length
 mask:((X.N.zip mask).all fun p=>p.2||scope.names.lookup p.1 != some .local)=true
noncomputable def msk {α:Type}(mask:List Bool)(τ:List (Option α)):List (Option α):=List.zipWith (fun b o=>if b=true then none else o) mask τ
variable {mask:List Bool}
theorem kXq {α:Type}{τ:List (Option α)}{t:α}(h:(msk mask τ)[i]? =some (some t)):mask[i]? =some false/\τ[i]? =some (some t):=by
 unfold msk at h
 rw[lXm] at h
 cases hm:mask[i]? with
 | none=>exact absurd (hm▸h) (by simp)
 | some b=>
  cases ht:τ[i]? with
  | none=>rw[hm,ht] at h;cases h
  | some o=>
   rw[hm,ht] at h
   cases b with
   | true=>simp at h
   | false=>simp at h;exact⟨rfl,by rw[h]⟩
theorem jY1 {α:Type}{τ:List (Option α)}(h:mask.length=τ.length):(msk mask τ).length=τ.length:=by
 unfold msk;rw[List.length_zipWith,h,Nat.min_self]
theorem qQe (h:SRel K H σ τ)(hl:mask.length=τ.length):SRel K H (msk mask σ) (msk mask τ):=by
 refine⟨by rw[jY1 hl,jY1 (hl.trans h.1.symm),h.1],fun i t q=> ?_⟩
 obtain⟨h1,h2⟩:=kXq q
 obtain⟨v,h3,h4⟩:=h.2 i t h2
 refine⟨v,?_,h4⟩
 unfold msk
 rw[lXm,h1,h3]
 simp
section
variable {cl:List (Str×Addr)}
theorem CmpOk.local (c:CmpOk X scope cl mask)(h1:X.N[i]? =some x)(h2:mask[i]? =some false):scope.names.lookup x≠some .local:=by
 have h:=c.mask
 rw[lQc] at h
 have hz:(X.N.zip mask)[i]? =some (x,false):=by rw[lX5];exact⟨h1,h2⟩
 have:=h _ (lJt hz)
 simpa using this
theorem CmpOk.free (c:CmpOk X scope cl mask)(h:scope.names.lookup x=some .free):X.env.kindOf x=some .cell\/X.env.kindOf x=some .free:=by
 have hv:=c.vis
 rw[lQc] at hv
 have:=hv (x,.free) (lV4 h)
 simpa using this
theorem CmpOk.nc (c:CmpOk X scope cl mask):∀y∈scope.names,y.2≠ .cell:=by
 have hv:=c.nocell
 rw[lQc] at hv
 intro y hy
 simpa using hv y hy
theorem CmpOk.nm (c:CmpOk X scope cl mask):∀y∈scope.names,y.2= .local->scope.names.lookup y.1=some .local:=by
 have hv:=c.names
 rw[lQc] at hv
 intro y hy e
 have:=hv y hy
 rw[e] at this
 simpa using this
theorem qUm (c:CmpOk X scope cl mask){h4:Heap}{tk:Nat}(I:Inv X pins σ H s)(hf:∀b∈fp,FpOk X pins H b)(ho:∀b∈fp,∃o,s.heap.get? b=some o)(hns:h4.Ns s.heap.objs.size fun _=>none)(hk:∀b o,s.heap.get? b=some o->h4.get? b=some o):
  Inv (jUz X scope cl s.heap.objs.size fp s H) [] (msk mask σ) H {s with heap:=h4,toks:=tk}:=by
 have sub:=jZ4 c.cl (by simp)
 have ok:(jUz X scope cl s.heap.objs.size fp s H).Ok:=by
  refine⟨I.ok.mod,c.kind,I.ok.glob,I.ok.blt,lJj _,fun x y d h1 h2=>I.ok.inj x y d (sub _ _ h1) (sub _ _ h2),fun x hx=>jZ5 c.cl (jUo (env:=X.env) c.nc hx),fun x d hx=>absurd (show false=true from hx) lJp,I.ok.hd,I.ok.gd,I.ok.frames,.inl rfl,
   fun b hb=> ?_,I.bs,lKb I.ok.bsz I.sz,fun b o e hb=> ?_,fun b hb hz=> ?_,I.stack,I.stkFree⟩
  ·obtain⟨o,e⟩:=ho b hb
   exact⟨lJ4 (lJl e),fun x d hd=>(hf b hb).2.2.2.2.1 x d (sub _ _ hd)⟩
  ·rcases (hf b hb).2.2.2.1 with z | z
   ·exact I.ok.noex b o e z
   ·exact absurd (lKo (lJl e) I.ok.bsz) (Nat.not_lt.mpr z)
  ·rcases lJy.mp (I.stkSub b hz) with z | z
   ·exact (hf b hb).2.1 z
   ·exact (hf b hb).2.2.1 z
 refine⟨ok,rfl,I.bare,Un.kept hk,⟨_,hns,fun i x v h1 h2 h3=> ?_⟩,fun x d hd=> ?_,I.hok.fresh (lJj _),fun x d hd=>I.freeC x d (sub _ _ hd),fun p hp=>absurd (show p∈([]:List (Addr×Obj)) from hp) (by simp),I.hok.kept hk,?_⟩
 ·obtain⟨m1,m2⟩:=kXq h2
  have nl:=c.local h1 m1
  have fr:scope.names.lookup x=some .free:=by
   rcases h3 with z | z | z
   ·exact absurd (jU6 (env:=X.env) z) nl
   ·exact jUo (env:=X.env) c.nc (.inl z)
   ·exact jUo (env:=X.env) c.nc (.inr z)
  have hkk:=c.free fr
  obtain⟨m,hn,hl⟩:=I.loc
  have vis:Vis X.env.scope x:=by rcases hkk with z | z;exact .inr (.inl z);exact .inr (.inr z)
  obtain⟨u,ru,lk⟩:=hl i x v h1 m2 vis
  refine⟨u,ru,?_⟩
  rcases lk with ⟨z,_⟩ | ⟨_,d,hd,cd⟩
  ·exfalso;rcases hkk with q | q<;>(rw[z] at q;cases q)
  ·obtain⟨d',hd'⟩:=jZ5 c.cl fr
   have:d'=d:=by have:=sub _ _ hd';rw[hd] at this;exact (lJ0 this).symm
   subst this
   refine .inr ⟨?_,d',hd',cd.keeps hk⟩
   rcases h3 with z | z | z
   ·exact absurd (jU6 (env:=X.env) z) nl
   ·exact .inl z
   ·exact .inr z
 ·obtain⟨v,hv⟩:=I.cell x d (sub _ _ hd)
  exact⟨v,hv.keeps hk⟩
 ·exact (jY1 (c.len.trans I.len.symm)).trans I.len
theorem uJw {σ':L2.St}{s':Shared}{pl:List (Addr×Obj)}{C:Addr}(I:Inv X pins σ H s)(hf:∀b∈fp,FpOk X pins H b)(hC:s.heap.objs.size<=C)(J:Inv (jUz X scope cl C fp s H) pl σ' H' s')(hb:Heap.SameBut C s'.heap h'):Inv X pins σ H' {s' with heap:=h'}:=by
 have ne:∀b o,s.heap.get? b=some o->b≠C:=fun b o e=>lJ4 (lKo (lJl e) hC)
 have u:=J.base
 have hfree:H' C=none:=J.free
 have u':Un (frs X.stack) fp H H' s.heap h':=⟨fun b o e n hb' hx=>(hb.2 b (ne b o e)).trans (u.keep b o e n hb' hx),fun b o e n hb' hx=>let ⟨sl,z⟩:=u.slot b o e n hb' hx;⟨sl,(hb.2 b (ne b o e)).trans z⟩,
  u.free,fun b o e hx=>let ⟨o',z⟩:=u.there b o e hx;⟨o',(hb.2 b (ne b o e)).trans z⟩,u.tups,u.frzs,u.tbls⟩
 have hok:HOk X.prog X.w H' h':=fun b ob e=>(J.hok b ob e).stay (fun c w' hc q=>(hb.2 c (by
  rintro rfl
  rcases hc with rfl | hc
  ·rw[hfree] at e;cases e
  ·rw[hfree] at hc;cases hc)).trans q) (fun _ q=>q) fun _ _ q=>q
 exact I.call' (s':={s' with heap:=h'}) J.os u' hok J.bare fun b hb=>⟨(hf b hb).2.2.2.1,(hf b hb).2.1,(hf b hb).2.2.2.2.1,(hf b hb).2.2.2.2.2⟩
end
noncomputable abbrev qUk (ifs:List Expr)(env:Env):Sem Bool:=forIn ifs true fun c b=>if b=true then isTrue c env (eval c env) >>= fun d=>pure (ForInStep.yield d) else pure (ForInStep.yield b)
noncomputable def qX5 (M:Model)(A:Around)(elt tg:Expr)(ifs:List Expr)(it acc:Value)(env:Env)(stop more:Shared->Prop):Option Value->Shared->Prop
 | none=>stop
 | some v=>fun z=>wpAny M A (letOwnedTupleGo tg it v) (fun _ z1=>wpAny M A (assign tg env v) (fun _ z2=>wpAny M A (qUk ifs env) (fun ok z3=>if ok=true then wpAny M A (eval elt env) (fun x z4=>wpAny M A (call (.builtin "list.append") [acc,x]) (fun _=>more) (fun _ _=>False) z4) (fun _ _=>False) z3 else more z3) (fun _ _=>False) z2) (fun _ _=>False) z1) (fun _ _=>False) z
variable {elt:Expr}{ifs:List Expr}
theorem qUl {A:Around}{R:Result->Shared->Prop}{it acc:Value}(I:Nat->Shared->Prop)(turn:∀k z,I k z->wpAny (model P w) A (pyNext it) (qX5 (model P w) A elt tg ifs it acc env (R (.ok .next)) fun z'=>∃m,m<k/\I m z') (fun _ _=>False) z)(n:Nat)(h:I n s):codeAny (model P w) A (.compLoop (.ListComp elt [⟨tg,iter,ifs,0⟩] scope pos) 0 it acc env) R s:=by
 refine codeAny_loop rfl I (fun k z hz=>(show wpAny _ A ((compTurn (.ListComp elt [⟨tg,iter,ifs,0⟩] scope pos) 0 it acc env).onRaise _) _ _ z from wpAny_noted ?_)) n h
 rw[compTurn_list]
 refine lJc (wpAny_standAt (lJc (lQr (turn k z hz) (fun r z1 h1=> ?_) fun _ _ e=>e.elim)))
 cases r with
 | none=>exact lJf h1
 | some v=>
  refine lJc (lQr h1 (fun _ z2 h2=>lJc (lQr h2 (fun _ z3 h3=>lJc (lQr h3 (fun ok z4 h4=> ?_) fun _ _ e=>e.elim)) fun _ _ e=>e.elim)) fun _ _ e=>e.elim)
  by_cases hok:ok=true
  ·subst hok
   exact lJc (lJc (lQr h4 (fun x z5 h5=>lJc (lQr h5 (fun _ z6 h6=>lJf (lJf ⟨rfl,h6⟩)) fun _ _ e=>e.elim)) fun _ _ e=>e.elim))
  ·obtain rfl:ok=false:=by simpa using hok
   exact lJf ⟨rfl,h4⟩
def PIf3 (X:Cx)(ifs:List Expr)(t:TT3):Prop:=∀(pins:List (Addr×Obj)) (s:Shared) (τ:St3) (G:Gp) (H:Hp) (Q:Bool->Gp->Prop),Inv3 X pins τ G H s->t τ G Q->
 wpAny (model X.prog X.w) X.A (forIn ifs true fun c r=>if r=true then do let ok <-isTrue c X.env (eval c X.env);pure (ForInStep.yield ok) else pure (ForInStep.yield r)) (TP3 X pins τ H Q) X.xe s
def jK2:TT3:=fun _ G Q=>Q true G
theorem jKy:PIf3 X [] jK2:=fun _ _ _ G H _ I q=>wpAny_tests_nil ⟨G,H,.refl H,I,q⟩
theorem kZa {t:TT3}(h:PT3 X c t):PIf3 X [c] t:=fun pins s τ G H Q I q=>wpAny_tests_one (h pins s τ G H Q I q)
def qJv (mask:List Bool)(g:TG3):Prop:=∀v τ G Q,g v τ G Q->g v τ G fun τ2 G2=>Q τ2 G2/\τ2.length=τ.length/\∀i:Nat,mask[i]? ≠some true->τ2[i]? =τ[i]?
def kZs (mask:List Bool)(g:TGs3):Prop:=∀v τ G Q,g v τ G Q->g v τ G fun τ2 G2=>Q τ2 G2/\τ2.length=τ.length/\∀i:Nat,mask[i]? ≠some true->τ2[i]? =τ[i]?
theorem jJw (h:mask[i]? =some true:=by rfl):qJv mask (jJg i):=fun v τ G Q q=>
 ⟨q,lQ6 ..,fun j hj=>lKt (by rintro rfl;exact hj h)⟩
theorem jYj:kZs mask gNil:=fun v τ G Q ⟨e,q⟩=>⟨e,q,rfl,fun _ _=>rfl⟩
theorem jK0 {t:TG3}{u:TGs3}(h1:qJv mask t)(mono:∀v τ G Q Q',(∀a b,Q a b->Q' a b)->t v τ G Q->t v τ G Q')(h2:kZs mask u)(mono2:∀v τ G Q Q',(∀a b,Q a b->Q' a b)->u v τ G Q->u v τ G Q'):kZs mask (jJx t u):=fun vs τ G Q ⟨v,r,e,q⟩=>by
 refine⟨v,r,e,mono _ _ _ _ _ (fun τ2 G2 ⟨z,l1,k1⟩=> ?_) (h1 _ _ _ _ q)⟩
 exact mono2 _ _ _ _ _ (fun τ3 G3 ⟨z3,l3,k3⟩=>⟨z3,l3.trans l1,fun i hi=>(k3 i hi).trans (k1 i hi)⟩) (h2 _ _ _ _ z)
theorem jJ8:∀v τ G (Q Q':St3->Gp->Prop),(∀a b,Q a b->Q' a b)->jJg i v τ G Q->jJg i v τ G Q':=fun _ _ _ _ _ h q=>h _ _ q
theorem jQs:∀v τ G (Q Q':St3->Gp->Prop),(∀a b,Q a b->Q' a b)->gNil v τ G Q->gNil v τ G Q':=fun _ _ _ _ _ h q=>⟨q.1,h _ _ q.2⟩
theorem jU8 {t:TG3}{u:TGs3}(m1:∀v τ G (Q Q':St3->Gp->Prop),(∀a b,Q a b->Q' a b)->t v τ G Q->t v τ G Q')(m2:∀v τ G (Q Q':St3->Gp->Prop),(∀a b,Q a b->Q' a b)->u v τ G Q->u v τ G Q'):
  ∀v τ G (Q Q':St3->Gp->Prop),(∀a b,Q a b->Q' a b)->jJx t u v τ G Q->jJx t u v τ G Q':=fun _ _ _ _ _ h ⟨v,r,e,q⟩=>⟨v,r,e,m1 _ _ _ _ _ (fun _ _ z=>m2 _ _ _ _ _ h z) q⟩
theorem jYi {u:TGs3}(h:kZs mask u):qJv mask (gTup n u):=fun v τ G Q ⟨xs,e,l,q⟩=>⟨xs,e,l,h _ _ _ _ q⟩
theorem qV0 {τ2:St3}(hl:mask.length=τ.length)(l:τ2.length=(msk mask τ).length)(h:∀i:Nat,mask[i]? ≠some true->τ2[i]? =(msk mask τ)[i]?):msk mask τ2=msk mask τ:=by
 have ll:=jY1 hl
 apply lK2
 intro i
 unfold msk at h ⊢
 rw[lXm,lXm]
 cases hm:mask[i]? with
 | none=>rfl
 | some b=>
  cases b with
  | true=>
   have h1:i<mask.length:=by
    rcases lQg i mask.length with z | z
    ·exact z
    ·rw[lJ3 z] at hm;cases hm
   have h2:i<τ2.length:=by omega
   have h3:i<τ.length:=by omega
   rw[lJi h2,lJi h3]
   simp
  | false=>
   have:=h i (by rw[hm];simp)
   rw[lXm,hm] at this
   rw[this]
   cases τ[i]? with
   | none=>rfl
   | some o=>simp
def kV2 (mask:List Bool)(g:TG3)(tif:TT3)(te:TE3)(τ:St3)(xs:List T)(stay:Gp->Prop)(G:Gp)(Q:VK3):Prop:=
 ∀D,G D=none->∃P:Nat->List T->Gp->Prop,P 0 [] (gup G D (.lst []))/\(∀i acc G,i<=xs.length->P i acc G->stay G/\G D=some (.lst acc))/\
  (∀i x acc G,xs[i]? =some x->P i acc G->g x (msk mask τ) G fun τ2 G2=>tif τ2 G2 fun b G3=>if b=true then te τ2 G3 fun y G4=>G4 D=some (.lst acc)/\acc.length<sizeLine/\P (i+1) (acc++[y]) (gup G4 D (.lst (acc++[y]))) else P (i+1) acc G3)/\
  ∀acc G,P xs.length acc G->Q (.ref D) G
def jKp (mask:List Bool)(wi:TI3)(g:TG3)(tif:TT3)(te:TE3):TE3:=fun τ G Q=>wi τ G fun xs stay G1=>kV2 mask g tif te τ xs stay G1 Q
section
variable {cl:List (Str×Addr)}{tif:TT3}
theorem kK3 (hc:X.calm=true)(ok:CmpOk X scope cl mask)(hgk:qJv mask g)(hg:∀C fp s H,PG3 (jUz X scope cl C fp s H) tg g)(hif:∀C fp s H,PIf3 (jUz X scope cl C fp s H) ifs tif)(he:∀C fp s H,PE3 (jUz X scope cl C fp s H) elt te){itv:Value}{s2:Shared}{E:Value->Shared->Prop}{RR:Value->Addr->Result->Shared->Prop}(h2:PIE3 X pins τ H tg (fun xs stay G=>kV2 mask g tif te τ xs stay G Q) itv s2)(hRR:∀D C s' m,s'.heap.Ns C m->(∃G1 H1,Ext H H1/\H1 C=none/\Q (.ref D) G1/\∀h',Heap.SameBut C s'.heap h'->Inv3 X pins τ G1 H1 {s' with heap:=h'})->(∃oC,s'.heap.get? C=some oC/\C≠X.env.locals/\C∉X.fs/\∀v,oC.data≠ .cell v)->(∀x c,X.env.cells.lookup x=some c->c≠C)->(∀p∈X.pn++pins,p.1≠C)->X.s₀.heap.objs.size<=C->RR (.ref D) C (.ok .next) s'):
  wpAny (model X.prog X.w) X.A (newList []) (fun acc s₃=>wpAny (model X.prog X.w) X.A (newFunctionEnv scope X.env.globals cl [] X.env.qual none .none (some X.env)) (fun cenv s₄=>
   codeAny (model X.prog X.w) X.A (.compStart (.ListComp elt [⟨tg,iter,ifs,0⟩] scope pos) 0 itv acc {cenv with scope:=relabel scope X.env}) (RR acc cenv.locals) s₄) E s₃) E s2:=by
 obtain⟨it,fp,tn,J,xs,stay,G2,H2,e,eH,⟨σ,I2,hs2,hg2⟩,T0,st2,f2,IT,hq⟩:=h2
 subst e
 refine lK8 (wpAny_newFunctionEnv ok.nc (by intro y hy;simp at hy) (fun h4 hns hsb=> ?_) ok.kind)
 dsimp only at hns hsb ⊢
 have hD:H2 s2.heap.objs.size=none:=I2.hok.fresh (lJj _)
 generalize hs3:({s2 with heap:=s2.heap.push {cls:= .type "list",dict:=none,data:= .seq ([]:List Value).toArray} }:Shared)=s3
 have eh3:s2.heap.push {cls:= .type "list",dict:=none,data:= .seq ([]:List Value).toArray}=s3.heap:=by rw[<-hs3]
 have I3:Inv X pins σ (upd H2 s2.heap.objs.size (.lst [])) s3:=by
  rw[<-hs3]
  exact I2.laid (t':=s2.toks) (fun b u e=>lJu _ e) (lJj _) ⟨lJ9 _,[],0,.nil,lJ8 _ rfl⟩
 rw[eh3] at hns hsb ⊢
 generalize hDd:s2.heap.objs.size=D at *
 have e3:Ext H2 (upd H2 D (.lst [])):= .upd (.none hD)
 have hg3:GRel X.K (upd H2 D (.lst [])) (gup G2 D (.lst [])):=hg2.lstNew (show Reps X.K H2 [] [] from rfl) (.none hD)
 have obj2:∀b∈fp,∃o,s2.heap.get? b=some o:=fun b hb=>let ⟨o,e,_⟩:=T0.obj 0 _ st2 b hb;⟨o,e⟩
 have fD:∀b∈fp,b≠D:=fun b hb=>by obtain⟨o,e⟩:=obj2 b hb;rw[<-hDd];exact lJ4 (lJl e)
 have f3:∀b∈fp,FpOk X pins (upd H2 D (.lst [])) b:=fun b hb=>⟨by rw[jKg (fD b hb)];exact (f2 b hb).1,(f2 b hb).2⟩
 have k3:∀b o,s2.heap.get? b=some o->s3.heap.get? b=some o:=fun b o e=>by rw[<-eh3];exact lJu _ e
 have obj3:∀b∈fp,∃o,s3.heap.get? b=some o:=fun b hb=>let ⟨o,e⟩:=obj2 b hb;⟨o,k3 b o e⟩
 have k4:∀b o,s3.heap.get? b=some o->h4.get? b=some o:=fun b o e=>hsb.extBut b o (lJ4 (lJl e)) (lJu _ e)
 have Ic:Inv (jUz X scope cl s3.heap.objs.size fp s3 (upd H2 D (.lst []))) [] (msk mask σ) (upd H2 D (.lst [])) {s3 with heap:=h4,toks:=s3.toks+([]:List (Str×Value)).length}:=qUm ok I3 f3 obj3 hns k4
 have st4:tn 0 h4:=T0.keep _ _ _ st2 fun b _ o e=>k4 b o (k3 b o e)
 have hl3:mask.length=τ.length:=ok.len.trans (I3.len.symm.trans hs2.1)
 obtain⟨P,p0,hst,turn,fin⟩:=hq D (hg2.fresh hD)
 have fpc:∀ {H':Hp} {pl:List (Addr×Obj)},(∀b∈fp,H' b=none)->(∀p∈pl,p.1∉fp)->∀b∈fp,FpOk (jUz X scope cl s3.heap.objs.size fp s3 (upd H2 D (.lst []))) pl H' b:=fun {H' pl} hn hp b hb=>by
  obtain⟨o,e⟩:=obj3 b hb
  refine⟨hn b hb,lJ4 (lJl e),?_,.inl hb,fun x d hd=>(f3 b hb).2.2.2.2.1 x d (jZ4 ok.cl (by simp) _ _ hd),fun p hpp z=> ?_⟩
  ·intro z
   rcases lJy.mp (I3.stkSub b z) with q | q
   ·exact (f3 b hb).2.1 q
   ·exact (f3 b hb).2.2.1 q
  ·have hpp':p∈pl:=by simpa[jUz] using hpp
   exact hp p hpp' (z▸hb)
 have loop:∀s4:Shared,s4={s3 with heap:=h4,toks:=s3.toks+([]:List (Str×Value)).length}->
   codeAny (model X.prog X.w) X.A (.compLoop (.ListComp elt [⟨tg,iter,ifs,0⟩] scope pos) 0 (.ref it) (.ref D) (compEnvC scope cl s3.heap.objs.size X.env)) (RR (.ref D) s3.heap.objs.size) s4:=by
  rintro s4 rfl
  refine qUl (fun n s'=>∃i acc G' H',n=xs.length-i/\i<=xs.length/\Ext H2 H'/\Inv3 (jUz X scope cl s3.heap.objs.size fp s3 (upd H2 D (.lst []))) [] (msk mask τ) G' H' s'/\tn i s'.heap/\(∀b∈fp,H' b=none)/\P i acc G') ?_ xs.length
   ⟨0,[],_,_,rfl,lJ9 _,e3,⟨_,Ic,qQe (hs2.mono e3) hl3,hg3⟩,st4,fun b hb=>(f3 b hb).1,p0⟩
  rintro n s5 ⟨i,acc,G5,H5,en,hi5,e5,⟨σ5,I5,hs5,hg5⟩,st5,fr5,p5⟩
  obtain⟨hstay,hacc⟩:=hst i acc G5 hi5 p5
  obtain⟨go,stop,yl⟩:=IT i H5 G5 e5 hg5 hstay
  by_cases hlt:i<xs.length
  ·refine thn (T0.item (jUz X scope cl s3.heap.objs.size fp s3 (upd H2 D (.lst []))) rfl rfl rfl hc i [] s5 σ5 H5 (fun _ _=>False) I5 (fpc fr5 (by simp)) st5 (go hlt)) fun r s6 ⟨u,hr,h6⟩=> ?_
   subst hr
   refine thn h6 fun _ s7 ⟨x,H7,I7,r7,y7,st7,fr7⟩=> ?_
   obtain⟨e7,g7,t,ht,rt⟩:=yl hlt x H7 y7
   have I7':=I7.pinned (fpc fr7 (by simp)) (T0.obj _ _ st7)
   refine thn (hg _ _ _ _ ([]++jXk fp s7.heap) s7 (msk mask τ) G5 H7 t u _ ⟨σ5,I7',hs5.mono e7,g7⟩ ⟨x,rt,r7⟩ (hgk _ _ _ _ (turn i t acc G5 ht p5))) fun _ s8 ⟨τ8,G8,H8,e8,I8,q8,ql8,qk8⟩=> ?_
   refine thn (hif _ _ _ _ ([]++jXk fp s7.heap) s8 τ8 G8 H8 _ I8 q8) fun b s9 ⟨G9,H9,e9,I9,q9⟩=> ?_
   have back:∀ {Ga:Gp} {Ha:Hp} {sa:Shared} {acc':List T},Ext H7 Ha->Inv3 (jUz X scope cl s3.heap.objs.size fp s3 (upd H2 D (.lst []))) ([]++jXk fp s7.heap) τ8 Ga Ha sa->P (i+1) acc' Ga->
     ∃m,m<n/\∃i acc G' H',m=xs.length-i/\i<=xs.length/\Ext H2 H'/\Inv3 (jUz X scope cl s3.heap.objs.size fp s3 (upd H2 D (.lst []))) [] (msk mask τ) G' H' sa/\tn i sa.heap/\(∀b∈fp,H' b=none)/\P i acc G':=by
    rintro Ga Ha sa acc' ea ⟨σa,Ia,hsa,hga⟩ pa
    have e2a:Ext H5 Ha:=e7.trans ea
    have hla:mask.length=τ8.length:=by rw[ql8,jY1 hl3];exact hl3
    have hsm:=qQe (mask:=mask) hsa hla
    rw[qV0 hl3 ql8 qk8] at hsm
    refine⟨xs.length-(i+1),by omega,i+1,acc',Ga,Ha,rfl,hlt,e5.trans e2a,⟨msk mask σa,(Ia.weak (jY1 (hla.trans hsa.1.symm)) fun j v hv=>(kXq hv).2).pins_of (fun p hp=>absurd hp (by simp)),hsm,hga⟩,?_,fun b hb=> ?_,pa⟩
    ·exact T0.keep _ _ _ st7 fun b hb o e=>(Ia.pin (b,o) (lJ5 _ (lJ5 _ (jXb hb e)))).1
    ·obtain⟨o,e,d⟩:=T0.obj _ _ st7 b hb
     exact (Ia.pin (b,o) (lJ5 _ (lJ5 _ (jXb hb e)))).2.1
   cases b with
   | false=>
    rw[lJa lJp] at q9 ⊢
    exact back (e8.trans e9) I9 q9
   | true=>
    rw[lJb rfl] at q9 ⊢
    refine thn (he _ _ _ _ ([]++jXk fp s7.heap) s9 τ8 G9 H9 _ I9 q9) fun y s10 w_=>w_.el fun ty G10 H10 e10 I10 r10 ⟨hD10,hz10,q10⟩=> ?_
    obtain⟨vy,rvy,ruy⟩:=r10
    refine thn (jQh ([]++jXk fp s7.heap) s10 τ8 G10 H10 (.ref D) [ty] (.ref D) [y] (fun _ G'=>P (i+1) (acc++[ty]) G') I10 ⟨.ref D,rfl,rfl⟩ ⟨[vy],.one rvy,.cons ruy .nil⟩ ⟨D,acc,ty,rfl,rfl,hD10,hz10,q10⟩) fun _ s11 w_=>w_.el fun _ G11 H11 e11 I11 _ q11=> ?_
    exact back (((e8.trans e9).trans e10).trans e11) I11 q11
  ·have ei:i=xs.length:=by omega
   refine thn (T0.done (jUz X scope cl s3.heap.objs.size fp s3 (upd H2 D (.lst []))) rfl rfl rfl hc i [] s5 σ5 H5 (fun _ _=>False) I5 (fpc fr5 (by simp)) st5 (stop (by omega))) fun r s6 ⟨hr,I6⟩=> ?_
   subst hr;subst ei
   obtain⟨m,hn,_⟩:=I6.loc
   obtain⟨oC,es,ep,hoC,hdC,_⟩:=id hn
   refine hRR D s3.heap.objs.size s6 m hn ⟨G5,H5,eH.trans e5,I6.free,fin acc G5 p5,fun h' hb=>⟨σ,uJw I3 f3 (lJj _) I6 hb,hs2.mono e5,hg5⟩⟩
    ⟨oC,hoC,lVe I3.lt,I3.nofs (lJj _),fun v z=>by rw[hdC] at z;cases z⟩ (fun x d hd=> ?_) (fun p hp=> ?_) I3.sz
   ·obtain⟨v,q⟩:=I3.cell x d hd
    exact lJ4 q.lt
   ·exact lJ4 (lJl (I3.pin p hp).1)
 exact codeAny_compStart_list (loop _ (by rw[<-hs3])) (T0.self _ 0 _ _ _ st4 (loop _ (by rw[<-hs3])))
theorem jQr (hc:X.calm=true)(ok:CmpOk X scope cl mask)(hi:PI3 X tg iter wi)(hgk:qJv mask g)(hg:∀C fp s H,PG3 (jUz X scope cl C fp s H) tg g)(hif:∀C fp s H,PIf3 (jUz X scope cl C fp s H) ifs tif)(he:∀C fp s H,PE3 (jUz X scope cl C fp s H) elt te)(hs:∀x,foldedSetIterable iter X.env x=pure x:=by intro _;rfl):PE3 X (.ListComp elt [⟨tg,iter,ifs,0⟩] scope pos) (jKp mask wi g tif te):=by
 intro pins s τ G H Q I h
 rw[eval_ListComp]
 refine wpAny_comprehension_free (use:=none) rfl hs (kK4 ok.cl) ok.kind ok.nm (thn (hi pins s τ G H _ I h) fun xv s1 h1=>thn h1 fun itv s2 h2=> ?_)
 refine kK3 (RR:=fun acc C=>compPost (model X.prog X.w) X.A X.xe none (EP3 X pins τ H Q) acc C) hc ok hgk hg hif he h2 ?_
 rintro D C s' m hn ⟨G1,H1,e1,_,q1,hI⟩ _ _ _ _
 exact⟨m,hn,fun h' hb=>⟨.ref D,G1,H1,e1,hI h' hb,⟨.ref D,rfl,rfl⟩,q1⟩⟩
theorem jXj {spos:Pos}(hc:X.calm=true)(hN:X.N.Nodup)(ok:CmpOk X scope cl mask)(hi:PI3 X tg iter wi)(hgk:qJv mask g)(hg:∀C fp s H,PG3 (jUz X scope cl C fp s H) tg g)(hif:∀C fp s H,PIf3 (jUz X scope cl C fp s H) ifs tif)(he:∀C fp s H,PE3 (jUz X scope cl C fp s H) elt te)(hy:X.N[i]? =some y:=by rfl)(hx:X.env.scope.names.lookup y=some .local:=by rfl)(hsw:swapsWith (.ListComp elt [⟨tg,iter,ifs,0⟩] scope pos) (some (.Name y py)) spos.line X.env=pure true:=by rfl)(hs:∀x,foldedSetIterable iter X.env x=pure x:=by intro _;rfl):PS3 X (.Assign [.Name y py] (.ListComp elt [⟨tg,iter,ifs,0⟩] scope pos) spos) (tAsg (jKp mask wi g tif te) (jJg i)):=by
 intro pins s τ G H D I h
 rw[exec_Assign_Name_used _ _ _ _ hsw];refine lJc (wpAny_standAt (lJc ?_))
 show wpAny _ X.A (do let _ <-comprehension (.ListComp elt [⟨tg,iter,ifs,0⟩] scope pos) scope X.env _ (newList []) false (eval iter X.env) (some (assign (.Name y py) X.env))) _ _ s
 refine lJc (lQr (wpAny_comprehension_free (use:=some (assign (.Name y py) X.env)) (Q:=fun _ s'=>SP3 X pins H D .next s') rfl hs (kK4 ok.cl) ok.kind ok.nm
  (thn (hi pins s τ G H _ I h) fun xv s1 h1=>thn h1 fun itv s2 h2=> ?_)) (fun _ s' hq=>lJf (lJf hq)) fun _ _ e=>e)
 refine kK3 (RR:=fun acc C=>compPost (model X.prog X.w) X.A X.xe (some (assign (.Name y py) X.env)) (fun _ s'=>SP3 X pins H D .next s') acc C) hc ok hgk hg hif he h2 ?_
 rintro Dd C s' m hn ⟨G1,H1,e1,hH1C,q1,hI⟩ ⟨oC,hoC,c1,c2,c3⟩ c4 c5 c6
 show wpAny _ X.A (assign (.Name y py) X.env (.ref Dd)) _ _ _
 obtain⟨σ1,I1,hs1,hg1⟩:=hI s'.heap (.refl ..)
 have I1':Inv X (pins++[(C,oC)]) σ1 H1 s':=I1.pins_of fun p hp=>(lJm.mp hp).elim (fun z=>I1.pin p (lJ5 _ z)) fun z=>by
  obtain rfl:p=(C,oC):=by simpa using z
  exact⟨hoC,hH1C,c1,c2,c3⟩
 refine wpAny_assign_Name (jUj I1' hN hy (.inl hx) (v:= .ref Dd) rfl (fun s2 I2=> ?_) (.inr hx))
 have hC2:s2.heap.get? C=some oC:=(I2.pin (C,oC) (lJ5 _ (lJ5 _ (by simp)))).1
 obtain⟨oC',es,ep,hoC',r⟩:=hn
 have eo:oC'=oC:=by rw[hoC] at hoC';exact (lJ0 hoC').symm
 subst eo
 refine⟨m,⟨oC',es,ep,hC2,r⟩,fun h' hb=>⟨_,G1,H1,e1,⟨_,?_,hs1.set i (show Rep X.K H1 (.ref Dd) (.ref Dd) from rfl),hg1⟩,q1⟩⟩
 exact I2.unpinned.turned (t':=s2.toks) (fun b o hb' e=>(hb.2 b hb').trans e) hH1C c1 (.inr c6) c4 c5
end
end L3
namespace HT
open PySem PyProof.Rows
noncomputable def lexLe:(xs ys:List Int)->Bool
 | [],_=>true
 | _::_,[]=>false
 | x::xs,y::ys=>if x=y then lexLe xs ys else decide (x<=y)
theorem lexLe_cons (x y:Int)(xs ys:List Int):lexLe (x::xs) (y::ys)=if x=y then lexLe xs ys else decide (x<=y):=rfl
theorem lexLe_nil (ys:List Int):lexLe [] ys=true:=by cases ys<;>rfl
theorem kKl (x:Int)(xs:List Int):lexLe (x::xs) []=false:=rfl
theorem qVl (A:Around)(s:Shared)(a:Int)(t:Tok)(c:Int)(u:Tok)(prog:Program)(w:World)(E:Value->Shared->Prop)(Q:Value->Shared->Prop)(h:Q (.bool (decide (a<=c))) s):
  wpAny (model prog w) A (richCompare .LtE (.int a t) (.int c u)) Q E s:=
 (PyProof.Rows.le_int h:wpAny (model prog w) A (compareOp .LtE (.int a t) (.int c u)) Q E s)
section
open PySem.SeqAt
open PySem.AutoSeq1 (wpAny_loadPart')
open PySem.MeetsSeq PySem.MeetsSeq2 PySem.MeetsSeq3
theorem kK9 (l b:Addr)(items items2:Array Value)(n n2:Nat)(dd dd2:Option Addr)(sl sl2:Array (Option Value))(ns ms:List Int)(hi:IntsAre items.toList ns)(hj:IntsAre items2.toList ms):
  Meets (Builtin.«tuple.__le__» ⟨[.ref l,.ref b],[]⟩)
   (fun _ R s=>s.heap.get? l=some {cls:= .type "tuple",dict:=dd,data:= .seq items n,slots:=sl}/\s.heap.get? b=some {cls:= .type "tuple",dict:=dd2,data:= .seq items2 n2,slots:=sl2}/\
    R (.ok (.ret (.bool (lexLe ns ms)))) s):=
 .of_wp fun prog w A R s h=>by
  obtain⟨hp,g,d,tk,os⟩:=s;obtain⟨hl,hb,h⟩:=h
  have f2:=AutoSeq1.sub_tuple_tuple
  have z1:items.size=ns.length:=by rw[<-hi.length];simp
  have z2:items2.size=ms.length:=by rw[<-hj.length];simp
  wp_walk using wpAny_loadPart' hl,wpAny_loadPart' hb,wpAny_forIn_list _ (fun rest b s'=>b.1=none/\s'=⟨hp,g,d,tk,os⟩/\∃(vs ws:List Value) (ns' ms':List Int),rest=vs.zip ws/\
   IntsAre vs ns'/\IntsAre ws ms'/\ns'.length+items2.size=ms'.length+items.size/\R (.ok (.ret (.bool (lexLe ns' ms')))) ⟨hp,g,d,tk,os⟩) _
  case turn=>
   rintro⟨y,x⟩ rest b s' ⟨hb',rfl,vs,ws,ns',ms',hz,hvi,hwi,hlen,hR⟩
   cases hvi with
   | nil=>rw[List.zip_nil_left] at hz;cases hz
   | cons a t hvi'=>
    cases hwi with
    | nil=>rw[List.zip_nil_right] at hz;cases hz
    | cons c u hwi'=>
     rw[lV8] at hz
     injection hz with hyx hrest
     injection hyx with hy hx
     subst hy hx
     rw[lexLe_cons] at hR
     simp only[lKc] at hlen
     obtain⟨e,he,hiff⟩:=qXl A.in1 ⟨hp,g,d,tk,os⟩ a t c u
     refine lJc (he prog w _ _ ?_)
     cases e with
     | true=>
      rw[lJb (hiff.mp rfl)] at hR
      wp_walk
      exact⟨rfl,rfl,_,_,_,_,hrest,hvi',hwi',by omega,hR⟩
     | false=>
      rw[lJa (fun q=>absurd (hiff.mpr q) lJp)] at hR
      have hri:=qVl A.in1 ⟨hp,g,d,tk,os⟩ a t c u prog w
      wp_walk using hri
      exact⟨_,rfl,by simpa using hR⟩
  case fin=>
   rintro⟨b1,b2⟩ s' ⟨hb',rfl,vs,ws,ns',ms',hz,hvi,hwi,hlen,hR⟩
   simp only at hb'
   subst hb'
   have hv:lexLe ns' ms'=decide (items.size<=items2.size):=by
    cases hvi with
    | nil=>
     simp only[lQh] at hlen
     rw[lexLe_nil]
     exact (lJq (by omega)).symm
    | cons a t hv=>
     cases hwi with
     | nil=>
      simp only[lQh,lKc] at hlen
      rw[kKl]
      exact (lJk (by omega)).symm
     | cons c u hw=>
      rw[lV8] at hz
      cases hz
   rw[hv] at hR
   wp_walk
   exact⟨_,rfl,by simpa[Builtin.Tuple.tupleCompareSizes] using hR⟩
  case h=>
   exact⟨rfl,rfl,items.toList,items2.toList,ns,ms,rfl,hi,hj,by omega,h⟩
end
theorem le_tupInts {prog:Program}{w:World}{A:Around}{E:Value->Shared->Prop}{s:Shared}{l b:Addr}{items items2:Array Value}{ns ms:List Int}{Q:Value->Shared->Prop}(hl:IsTup s.heap l items)(hb:IsTup s.heap b items2)(hi:IntsAre items.toList ns)(hj:IntsAre items2.toList ms)(hu:A.units<cLine)(h:Q (.bool (lexLe ns ms)) s):wpAny (model prog w) A (compareOp .LtE (.ref l) (.ref b)) Q E s:=by
 obtain⟨⟨cls,dd,data,sl⟩,ho,hc,n,hd⟩:=id hl
 obtain⟨⟨cls2,dd2,data2,sl2⟩,ho2,hc2,n2,hd2⟩:=id hb
 simp only at hc hd hc2 hd2
 subst hc hd hc2 hd2
 exact richCompare_meets_room (op:= .LtE) ⟨_,ho,rfl⟩ ⟨_,ho2,rfl⟩ PySem.F.slot_tuple_le PySem.F.entry_tuple_le (PySem.F.args_tuple_le_2 _ _) (kK9 l b items items2 n n2 dd dd2 sl sl2 ns ms hi hj)
  ⟨ho,ho2,show Value.bool (lexLe ns ms)≠Value.notImplemented/\Q (.bool (lexLe ns ms)) s from⟨(fun x=>nomatch x),h⟩⟩ hu
end HT
namespace L3
open PySem PySem.Spec PyProof.Rows L2
variable {X:Cx}{G:Gp}{x y:T}{b:Bool}{pins:List (Addr×Obj)}{σ:L2.St}{H:Hp}{s:Shared}{a:V}{u:Value}
theorem jUe {K:PySem.W.Frag} {H:Hp}:∀ {ns:List Int} {vs:List V},Reps K H (ns.map T.int) vs->vs=ns.map V.int
 | [],_,h=>h
 | n::ns,_,⟨v,ws,e,r,rs⟩=>by
  subst e;cases (show v= .int n from r)
  rw[jUe rs];rfl
def rLeT:R3:=fun x y G Q=>∃ns ms,x= .tup (ns.map T.int)/\y= .tup (ms.map T.int)/\Q (.bl (HT.lexLe ns ms)) G
theorem o_leT (hu:X.A.units<cLine):Op3 X (compareOp .LtE) rLeT:=by
 rintro pins s τ G H x y v u Q ⟨σ,I,hs,hg⟩ ⟨a,ra,rv⟩ ⟨b,rb,ru⟩ ⟨ns,ms,ex,ey,q⟩
 subst ex;subst ey
 obtain⟨p,vs,e1,h1,h2⟩:=(show ∃p vs,a= .ref p/\H p=some (.tup vs)/\Reps X.K H (ns.map T.int) vs from ra)
 obtain⟨p',ws,e2,h3,h4⟩:=(show ∃p vs,b= .ref p/\H p=some (.tup vs)/\Reps X.K H (ms.map T.int) vs from rb)
 subst e1;subst e2
 cases rv;cases ru
 rw[jUe h2] at h1
 rw[jUe h4] at h3
 obtain⟨its,r1,p1,_⟩:=I.tuple (.of h1)
 obtain⟨its2,r2,p2,_⟩:=I.tuple (.of h3)
 exact HT.le_tupInts p1 p2 (show IntsAre its.toArray.toList ns from kKz r1) (show IntsAre its2.toArray.toList ms from kKz r2) hu ⟨.bl _,G,H,.refl H,⟨σ,I,hs,hg⟩,⟨.bl _,rfl,rfl⟩,q⟩
def rLeI:R3:=rI0 fun i j=> .bl (decide (i<=j))
def rLeA:R3:=fun x y G Q=>rLeI x y G Q\/rLeT x y G Q
theorem o_leA (hu:X.A.units+20<cLine):Op3 X (compareOp .LtE) rLeA:=o_le.or (o_leT (by omega))
theorem qQ6 (h:eqG G x y=some b):
  (∃p q xs ys,x= .ref p/\y= .ref q/\G p=some (.lst xs)/\G q=some (.lst ys)/\jZl xs=true/\jZl ys=true/\b=eqTs xs ys)\/(eqOk x=true/\eqOk y=true/\b=eqT x y):=by
 by_cases hr:∃p q,x= .ref p/\y= .ref q
 ·obtain⟨p,q,ex,ey⟩:=hr
  subst ex;subst ey
  refine .inl ?_
  simp only[eqG] at h
  split at h
  ·rename_i xs ys h1 h2
   split at h
   ·rename_i hc
    cases h
    exact⟨p,q,xs,ys,rfl,rfl,h1,h2,hc.1,hc.2,rfl⟩
   ·cases h
  ·cases h
 ·refine .inr ?_
  have e:eqG G x y=if eqOk x=true/\eqOk y=true then some (eqT x y) else none:=by
   cases x with
   | ref p=>cases y with
    | ref q=>exact absurd ⟨p,q,rfl,rfl⟩ hr
    | _=>rfl
   | _=>rfl
  rw[e] at h
  split at h
  ·rename_i hc
   cases h
   exact⟨hc.1,hc.2,rfl⟩
  ·cases h
mutual
theorem kV6 {X:Cx} {pins:List (Addr×Obj)} {σ:L2.St} {H:Hp} {s:Shared} (I:Inv X pins σ H s):∀(x:T) {a:V} {u:Value},tree x=true->Rep X.K H x a->RelV a u->∃as,Reads s.heap u (td x) as
 | .non,a,u,_,r,q=>by cases (show a= .non from r);cases q;exact⟨_,.none⟩
 | .bl b,a,u,_,r,q=>by cases (show a= .bl b from r);cases q;exact⟨_,.bool b⟩
 | .int b,a,u,_,r,q=>by cases (show a= .int b from r);obtain⟨t,rfl⟩:=q;exact⟨_,.int b t⟩
 | .str b,a,u,_,r,q=>by cases (show a= .str b from r);obtain⟨t,rfl⟩:=q;exact⟨_,.str b t⟩
 | .tup xs,a,u,ht,r,q=>by
  obtain⟨p,vs,e1,h1,h2⟩:=(show ∃p vs,a= .ref p/\H p=some (.tup vs)/\Reps X.K H xs vs from r)
  subst e1;cases q
  obtain⟨its,rv,⟨o,ho,hc,n,hd⟩,_⟩:=I.tuple (.of h1)
  obtain⟨as,ra⟩:=jZu I xs (show jQt xs=true from ht) h2 rv
  exact⟨_,.tuple ho hc hd (by simpa using ra)⟩
 | .ref _,_,_,ht,_,_=>absurd (show false=true from ht) lJp
 | .scr _,_,_,ht,_,_=>absurd (show false=true from ht) lJp
 | .ty _,_,_,ht,_,_=>absurd (show false=true from ht) lJp
theorem jZu {X:Cx} {pins:List (Addr×Obj)} {σ:L2.St} {H:Hp} {s:Shared} (I:Inv X pins σ H s):∀(xs:List T) {vs:List V} {us:List Value},jQt xs=true->Reps X.K H xs vs->Vals vs us->∃as,ReadsAll s.heap us (tds xs) as
 | [],_,_,_,r,q=>by cases r;cases q;exact⟨_,.nil⟩
 | x::xs,_,_,ht,⟨v,ws,e,r1,r2⟩,q=>by
  subst e
  cases q with
  | cons q1 q2=>
   have hx:tree x=true/\jQt xs=true:=by simpa[jQt] using ht
   obtain⟨as,ra⟩:=kV6 I x hx.1 r1 q1
   obtain⟨bs,rb⟩:=jZu I xs hx.2 r2 q2
   exact⟨_,.cons ra rb⟩
end
mutual
theorem eqv_T:∀(x y:T),tree x=true->tree y=true->PyData.eqv (td x) (td y)=eqT x y
 | .non,y,_,hy=>by cases y<;>first | rfl | exact absurd (show false=true from hy) lJp
 | .bl b,y,_,hy=>by cases y<;>first | rfl | exact absurd (show false=true from hy) lJp
 | .int b,y,_,hy=>by cases y<;>first | rfl | exact absurd (show false=true from hy) lJp
 | .str b,y,_,hy=>by cases y<;>first | rfl | exact absurd (show false=true from hy) lJp
 | .tup xs,y,hx,hy=>by
  cases y with
  | tup ys=>exact qQ4 xs ys (show jQt xs=true from hx) (show jQt ys=true from hy)
  | _=>first | rfl | exact absurd (show false=true from hy) lJp
 | .ref _,_,ht,_=>absurd (show false=true from ht) lJp
 | .scr _,_,ht,_=>absurd (show false=true from ht) lJp
 | .ty _,_,ht,_=>absurd (show false=true from ht) lJp
theorem qQ4:∀(xs ys:List T),jQt xs=true->jQt ys=true->PyData.eqvAll (tds xs) (tds ys)=eqTs xs ys
 | [],[],_,_=>rfl
 | [],_::_,_,_=>rfl
 | _::_,[],_,_=>rfl
 | x::xs,y::ys,hx,hy=>by
  have hx':tree x=true/\jQt xs=true:=by simpa[jQt] using hx
  have hy':tree y=true/\jQt ys=true:=by simpa[jQt] using hy
  show (PyData.eqv (td x) (td y)&&PyData.eqvAll (tds xs) (tds ys))=(eqT x y&&eqTs xs ys)
  rw[eqv_T x y hx'.1 hy'.1,qQ4 xs ys hx'.2 hy'.2]
end
theorem kZf {b:V}{v:Value}{k:Bool}(I:Inv X pins σ H s)(hg:GRel X.K H G)(ra:Rep X.K H x a)(rb:Rep X.K H y b)(ru:RelV a u)(rv:RelV b v)(h:eqG G x y=some k):
  ∃da db as bs,Reads s.heap u da as/\Reads s.heap v db bs/\da.canLay0=true/\db.canLay0=true/\da.depth<=50/\PyData.eqv da db=k:=by
 rcases qQ6 h with ⟨p,q,xs,ys,ex,ey,hp,hq,ox,oy,e⟩ | ⟨ox,oy,e⟩
 ·subst ex;subst ey
  cases (show a= .ref p from ra);cases (show b= .ref q from rb)
  cases ru;cases rv
  obtain⟨vs,h1,h2⟩:=hg.lst hp
  obtain⟨ws,h3,h4⟩:=hg.lst hq
  obtain⟨its,r1,⟨o,n,ho,hc,_,hd⟩,_⟩:=I.list (.of h1)
  obtain⟨its',r2,⟨o',n',ho',hc',_,hd'⟩,_⟩:=I.list (.of h3)
  simp only[jZl,lKu,lKs] at ox oy
  obtain⟨as,r3⟩:=jZu I xs ox.1.1 h2 r1
  obtain⟨bs,r4⟩:=jZu I ys oy.1.1 h4 r2
  exact⟨.list (tds xs),.list (tds ys),_,_,.list ho hc hd (by simpa using r3),.list ho' hc' hd' (by simpa using r4),ox.1.2,oy.1.2,ox.2,by rw[e];exact qQ4 xs ys ox.1.1 oy.1.1⟩
 ·simp only[eqOk,lKu,lKs] at ox oy
  obtain⟨as,r3⟩:=kV6 I x ox.1.1 ra ru
  obtain⟨bs,r4⟩:=kV6 I y oy.1.1 rb rv
  exact⟨td x,td y,_,_,r3,r4,ox.1.2,oy.1.2,ox.2,by rw[e];exact eqv_T x y ox.1.1 oy.1.1⟩
theorem jY0 (hu:X.A.units+64<cLine):Op3 X (compareOp .Eq) rEqA:=by
 rintro pins s τ G H x y v u Q ⟨σ,I,hs,hg⟩ ⟨a,ra,rv⟩ ⟨b,rb,ru⟩ ⟨k,hk,q⟩
 obtain⟨da,db,as,bs,r1,r2,c1,c2,d,e⟩:=kZf I hg ra rb rv ru hk
 exact SeqAt.compareEq_reads r1 r2 c1 c2 (by omega) ⟨.bl k,G,H,.refl H,⟨σ,I,hs,hg⟩,⟨.bl k,rfl,by rw[e];rfl⟩,q⟩
theorem qJb (hu:X.A.units+64<cLine):Op3 X (compareOp .NotEq) rNeA:=by
 rintro pins s τ G H x y v u Q ⟨σ,I,hs,hg⟩ ⟨a,ra,rv⟩ ⟨b,rb,ru⟩ ⟨k,hk,q⟩
 obtain⟨da,db,as,bs,r1,r2,c1,c2,d,e⟩:=kZf I hg ra rb rv ru hk
 exact SeqAt.compareNe_reads r1 r2 c1 c2 (by omega) ⟨.bl (!k),G,H,.refl H,⟨σ,I,hs,hg⟩,⟨.bl (!k),rfl,by rw[e];rfl⟩,q⟩
variable {K:PySem.W.Frag}{pos:Pos}
noncomputable def jYl:T->Bool
 | .non=>true
 | .bl _=>true
 | .int _=>true
 | .str _=>true
 | _=>false
theorem jZ1 (r:Rep K H x a)(f:jYl x=true):kKn a=true:=by
 cases x with
 | non=>cases (show a= .non from r);rfl
 | bl _=>cases (show a= .bl _ from r);rfl
 | int _=>cases (show a= .int _ from r);rfl
 | str _=>cases (show a= .str _ from r);rfl
 | _=>exact absurd (show false=true from f) lJp
theorem qQ0 {b:V}(r:Rep K H x a)(q:Rep K H y b)(f:jYl x=true)(g:jYl y=true):eqV a b=eqT x y:=by
 cases x with
 | non=>cases (show a= .non from r);cases y with
  | non=>cases (show b= .non from q);rfl
  | bl _=>cases (show b= .bl _ from q);rfl
  | int _=>cases (show b= .int _ from q);rfl
  | str _=>cases (show b= .str _ from q);rfl
  | _=>exact absurd (show false=true from g) lJp
 | bl _=>cases (show a= .bl _ from r);cases y with
  | non=>cases (show b= .non from q);rfl
  | bl _=>cases (show b= .bl _ from q);rfl
  | int _=>cases (show b= .int _ from q);rfl
  | str _=>cases (show b= .str _ from q);rfl
  | _=>exact absurd (show false=true from g) lJp
 | int _=>cases (show a= .int _ from r);cases y with
  | non=>cases (show b= .non from q);rfl
  | bl _=>cases (show b= .bl _ from q);rfl
  | int _=>cases (show b= .int _ from q);rfl
  | str _=>cases (show b= .str _ from q);rfl
  | _=>exact absurd (show false=true from g) lJp
 | str _=>cases (show a= .str _ from r);cases y with
  | non=>cases (show b= .non from q);rfl
  | bl _=>cases (show b= .bl _ from q);rfl
  | int _=>cases (show b= .int _ from q);rfl
  | str _=>cases (show b= .str _ from q);rfl
  | _=>exact absurd (show false=true from g) lJp
 | _=>exact absurd (show false=true from f) lJp
def inT (x:T)(xs:List T):Bool:=xs.any fun y=>eqT y x
theorem kQ6 {K:PySem.W.Frag} {H:Hp} {x:T} {a:V} (r:Rep K H x a) (f:jYl x=true):∀ {xs:List T} {vs:List V},Reps K H xs vs->xs.all jYl=true->vs.all kKn=true/\inV a vs=inT x xs
 | [],_,h,_=>by cases h;exact⟨rfl,rfl⟩
 | y::ys,_,⟨v,ws,e,r1,r2⟩,g=>by
  subst e
  rw[lKv,lKu] at g
  obtain⟨h1,h2⟩:=kQ6 r f r2 g.2
  refine⟨by rw[lKv,jZ1 r1 g.1,h1];rfl,?_⟩
  unfold inV inT at h2 ⊢
  rw[lQt,lQt,qQ0 r1 r g.1 f,h2]
def rInF (neg:Bool):R3:=fun x y G Q=>∃xs,seqT G y=some xs/\jYl x=true/\xs.all jYl=true/\Q (.bl (if neg then !inT x xs else inT x xs)) G
theorem qQt {neg:Bool}{op:CmpOp}(h:OpR X (compareOp op) (L2.rIn X.K neg)):Op3 X (compareOp op) (rInF neg):=
 Op3.of h fun H G x y a b Q hg ra rb ⟨xs,hx,fx,fs,q⟩=>by
  obtain⟨p,vs,e,hq,r⟩:=jUt hg rb hx
  obtain⟨h1,h2⟩:=kQ6 ra fx r fs
  exact⟨p,vs,e,hq,jZ1 ra fx,h1,.bl _,G,.refl H,hg,by rw[h2];rfl,q⟩
theorem o_inF:Op3 X (compareOp .In) (rInF false):=qQt qK0
theorem o_notInF:Op3 X (compareOp .NotIn) (rInF true):=qQt kU0
noncomputable def kKm:T->Option Key
 | .int i=>some (.inl i)
 | .str x=>some (.inr x)
 | _=>none
noncomputable def allK {K:Type} (f:T->Option K):List T->Option (List K)
 | []=>some []
 | x::xs=>match f x,allK f xs with
  | some k,some ks=>some (k::ks)
  | _,_=>none
noncomputable def key1:T->Option K1
 | .tup ts=>(allK kKm ts).map .inr
 | x=>(kKm x).map .inl
noncomputable def key2:T->Option K2
 | .tup ts=>(allK key1 ts).map .inr
 | x=>(kKm x).map .inl
noncomputable def jQw:List T->Option TKey:=allK key2
theorem kJs {k:Key}(h:kKm x=some k)(r:Rep K H x a):a=kV k:=by
 cases x with
 | int i=>cases h;exact r
 | str i=>cases h;exact r
 | non=>cases h
 | bl _=>cases h
 | tup _=>cases h
 | scr _=>cases h
 | ref _=>cases h
 | ty _=>cases h
theorem jZ6 {K:PySem.W.Frag} {H:Hp} {κ:Type} {f:T->Option κ} {R:κ->V->Prop} (hf:∀x k a,f x=some k->Rep K H x a->R k a):∀ {xs:List T} {vs:List V} {ks:List κ},allK f xs=some ks->Reps K H xs vs->Paired R ks vs
 | [],_,_,h,r=>by cases h;cases (show _=[] from r);exact .nil
 | x::xs,_,ks,h,⟨v,ws,e,r1,r2⟩=>by
  subst e
  unfold allK at h
  cases e1:f x with
  | none=>rw[e1] at h;cases h
  | some k=>
   cases e2:allK f xs with
   | none=>rw[e1,e2] at h;cases h
   | some ks'=>
    rw[e1,e2] at h;cases h
    exact .cons (hf _ _ _ e1 r1) (jZ6 hf e2 r2)
theorem qV9 (x:T)(k:K1)(a:V)(h:key1 x=some k)(r:Rep K H x a):Rk1 H k a:=by
 cases x with
 | tup ts=>
  obtain⟨ks,h1,rfl⟩:=lQu.mp (show (allK kKm ts).map Sum.inr=some k from h)
  obtain⟨p,vs,e,h3,h4⟩:=(show ∃p vs,a= .ref p/\H p=some (.tup vs)/\Reps K H ts vs from r)
  exact⟨p,vs,e,h3,jZ6 (fun x k a h r=>kJs h r) h1 h4⟩
 | int i=>cases h;exact r
 | str i=>cases h;exact r
 | non=>cases h
 | bl _=>cases h
 | scr _=>cases h
 | ref _=>cases h
 | ty _=>cases h
theorem qV8 (x:T)(k:K2)(a:V)(h:key2 x=some k)(r:Rep K H x a):Rk2 H k a:=by
 cases x with
 | tup ts=>
  obtain⟨ks,h1,rfl⟩:=lQu.mp (show (allK key1 ts).map Sum.inr=some k from h)
  obtain⟨p,vs,e,h3,h4⟩:=(show ∃p vs,a= .ref p/\H p=some (.tup vs)/\Reps K H ts vs from r)
  exact⟨p,vs,e,h3,jZ6 qV9 h1 h4⟩
 | int i=>cases h;exact r
 | str i=>cases h;exact r
 | non=>cases h
 | bl _=>cases h
 | scr _=>cases h
 | ref _=>cases h
 | ty _=>cases h
theorem jXd {xs:List T}{vs:List V}{ks:TKey}{p:Addr}(h:jQw xs=some ks)(e:H p=some (.tup vs))(r:Reps K H xs vs):TKeyAt H ks p:=⟨vs,e,jZ6 qV8 h r⟩
noncomputable def valT {κ:Type}[DecidableEq κ](kvs:List (κ×T))(k:κ):Option T:=(kvs.find? fun kv=>decide (kv.1=k)).map (·.2)
noncomputable def putT {κ:Type}[DecidableEq κ](kvs:List (κ×T))(k:κ)(v:T):List (κ×T):=
 if (kvs.any fun kv=>decide (kv.1=k))=true then kvs.map (fun kv=>if kv.1=k then (kv.1,v) else kv) else kvs++[(k,v)]
theorem PKV.val {κ:Type}[DecidableEq κ]{kvs:List (κ×T)}{ws:List (κ×V)}(r:PKV K H kvs ws)(k:κ):(∀t,valT kvs k=some t->∃v,valV ws k=some v/\Rep K H t v)/\(valT kvs k).isSome=(valV ws k).isSome:=by
 unfold PKV at r
 induction r with
 | nil=>exact⟨fun t h=>by simp[valT] at h,rfl⟩
 | @cons p q ps qs h t ih=>
  by_cases e:p.1=k
  ·have e':q.1=k:=h.1.symm.trans e
   have b:valT (p::ps) k=some p.2:=by simp[valT,lQj,e]
   rw[b,jZo e']
   exact⟨fun t ht=>by cases ht;exact⟨q.2,rfl,h.2⟩,rfl⟩
  ·have e':¬ q.1=k:=fun z=>e (h.1.trans z)
   have b:valT (p::ps) k=valT ps k:=by simp[valT,lQj,e]
   rw[b,jZp e']
   exact ih
theorem PKV.any {κ:Type}[DecidableEq κ]{kvs:List (κ×T)}{ws:List (κ×V)}(r:PKV K H kvs ws)(k:κ):(kvs.any fun kv=>decide (kv.1=k))=ws.any fun kv=>decide (kv.1=k):=by
 unfold PKV at r
 induction r with
 | nil=>rfl
 | cons h t ih=>rw[lQt,lQt,ih,h.1]
theorem PKV.put {κ:Type}[DecidableEq κ]{kvs:List (κ×T)}{ws:List (κ×V)}(r:PKV K H kvs ws)(k:κ){t:T}{v:V}(rt:Rep K H t v):PKV K H (putT kvs k t) (putK ws k v):=by
 unfold putT putK
 rw[r.any k]
 by_cases e:(ws.any fun kv=>decide (kv.1=k))=true
 ·rw[lJb e,lJb e]
  unfold PKV at r ⊢
  clear e
  induction r with
  | nil=>exact .nil
  | @cons p q ps qs h t' ih=>
   rw[lJ6,lJ6]
   refine .cons ?_ ih
   obtain⟨h1,h2⟩:=h
   by_cases e:p.1=k
   ·rw[lJb e,lJb (h1.symm.trans e)];exact⟨h1,rt⟩
   ·rw[lJa e,lJa (fun z=>e (h1.trans z))];exact⟨h1,h2⟩
 ·rw[lJa e,lJa e];exact Paired.snoc r ⟨rfl,rt⟩
theorem PKV.length {κ:Type}{kvs:List (κ×T)}{ws:List (κ×V)}(r:PKV K H kvs ws):kvs.length=ws.length:=lQ4 r
noncomputable def dAt (G:Gp)(x y:T):Option (Option T):=match x with
 | .ref p=>match G p with
  | some (.dct kvs)=>match y with
   | .tup ys=>match jQw ys with
    | some ks=>some (valT kvs ks)
    | none=>none
   | _=>none
  | some (.dck kvs)=>match kKm y with
   | some k=>some (valT kvs k)
   | none=>none
  | some (.fdc kvs)=>match y with
   | .tup ys=>match jQw ys with
    | some ks=>some (valT kvs ks)
    | none=>none
   | _=>none
  | _=>none
 | _=>none
theorem kX0 {b:V}{o:Option T}(hg:GRel K H G)(ra:Rep K H x a)(rb:Rep K H y b)(h:dAt G x y=some o):
  ∃p ov,a= .ref p/\DGet H p b ov/\o.isSome=ov.isSome/\∀t,o=some t->∃v,ov=some v/\Rep K H t v:=by
 unfold dAt at h
 split at h
 ·rename_i p
  cases (show a= .ref p from ra)
  split at h
  ·rename_i kvs hG
   split at h
   ·rename_i ys
    split at h
    ·rename_i ks hk
     cases h
     obtain⟨ws,h1,h2⟩:=hg p _ hG
     obtain⟨q,vs,e,h3,h4⟩:=(show ∃q vs,b= .ref q/\H q=some (.tup vs)/\Reps K H ys vs from rb)
     subst e
     exact⟨p,_,rfl,DGet.t h1 (jXd hk h3 h4),(h2.val ks).2,(h2.val ks).1⟩
    ·cases h
   ·cases h
  ·rename_i kvs hG
   split at h
   ·rename_i k hk
    cases h
    obtain⟨ws,h1,h2⟩:=hg p _ hG
    rw[kJs hk rb]
    exact⟨p,_,rfl,DGet.k h1,(h2.val k).2,(h2.val k).1⟩
   ·cases h
  ·rename_i kvs hG
   split at h
   ·rename_i ys
    split at h
    ·rename_i ks hk
     cases h
     obtain⟨ob,ws,h1,h2⟩:=(show ∃ob ws,H p=some (.frz ob (.dT ws))/\PKV K H kvs ws from hg p _ hG)
     obtain⟨q,vs,e,h3,h4⟩:=(show ∃q vs,b= .ref q/\H q=some (.tup vs)/\Reps K H ys vs from rb)
     subst e
     exact⟨p,_,rfl,.inr ⟨ws,ks,q,.inr ⟨ob,h1⟩,rfl,jXd hk h3 h4,rfl⟩,(h2.val ks).2,(h2.val ks).1⟩
    ·cases h
   ·cases h
  ·cases h
 ·cases h
def rDGet:R3:=fun x y G Q=>∃t,dAt G x y=some (some t)/\Q t G
theorem qZ5 (hu:X.A.units+20<cLine):Ix3 X rDGet:=by
 rintro value slice pins s τ G H x y v u Q ⟨σ,I,hs,hg⟩ ⟨a,ra,rv⟩ ⟨b,rb,ru⟩ ⟨t,hd,q⟩ hsl
 obtain⟨p,ov,e,g,_,hh⟩:=kX0 hg ra rb hd
 obtain⟨w,ew,rw'⟩:=hh t rfl
 subst e;subst ew
 cases rv
 have hT:s.TypeIs (.ref p) "dict":=kXz I g
 unfold subscriptTail
 refine lJc ?_
 rw[getitemInPython_of_ne hT.not_modules]
 refine lJc (wpAny_specialOf hT PySem.F.slot_dict_getitem.lookup ?_)
 have fin:wpAny (model X.prog X.w) X.A (subscripted slice false (.ref p) u) (fun r s₃=>wpAny (model X.prog X.w) X.A (letTemporaryGo value (.ref p) r >>= fun _=>pure r) (EP3 X pins τ H Q) X.xe s₃) X.xe s:=by
  rw[hsl]
  exact wpAny_operating (qUh hu I g ru fun w' s' I' r'=>lJc (wpAny_letTemporaryGo (lJf ⟨t,G,H,.refl H,⟨σ,I',hs,hg⟩,⟨w,rw',r'⟩,q⟩)))
 first
  | exact lJf (lJc fin)
  | exact lJc (lJf (lJc fin))
  | exact lJc fin
theorem Ix3.or {r r':R3}(h:Ix3 X r)(h':Ix3 X r'):Ix3 X (fun x y G Q=>r x y G Q\/r' x y G Q):=by
 intro value slice pins s τ G H x y v u Q I rx ry q hs
 rcases q with q | q
 ·exact h value slice pins s τ G H x y v u Q I rx ry q hs
 ·exact h' value slice pins s τ G H x y v u Q I rx ry q hs
def rIxA:R3:=fun x y G Q=>rIx x y G Q\/rDGet x y G Q
theorem qZ6 (hu:X.A.units+20<cLine):Ix3 X rIxA:=ix_any.or (qZ5 hu)
def rDIn:R3:=fun x y G Q=>∃o,dAt G y x=some o/\Q (.bl o.isSome) G
def qKv:R3:=fun x y G Q=>∃o,dAt G y x=some o/\Q (.bl (!o.isSome)) G
theorem o_dIn (hu:X.A.units+20<cLine):Op3 X (compareOp .In) rDIn:=by
 rintro pins s τ G H x y v u Q ⟨σ,I,hs,hg⟩ ⟨a,ra,rv⟩ ⟨b,rb,ru⟩ ⟨o,hd,q⟩
 obtain⟨p,ov,e,g,e2,_⟩:=kX0 hg rb ra hd
 subst e;cases ru
 exact d_in hu I g rv fun s' I'=>⟨.bl _,G,H,.refl H,⟨σ,I',hs,hg⟩,⟨.bl _,rfl,by rw[<-e2];rfl⟩,q⟩
theorem qVt (hu:X.A.units+20<cLine):Op3 X (compareOp .NotIn) qKv:=by
 rintro pins s τ G H x y v u Q ⟨σ,I,hs,hg⟩ ⟨a,ra,rv⟩ ⟨b,rb,ru⟩ ⟨o,hd,q⟩
 obtain⟨p,ov,e,g,e2,_⟩:=kX0 hg rb ra hd
 subst e;cases ru
 exact uJu hu I g rv fun s' I'=>⟨.bl _,G,H,.refl H,⟨σ,I',hs,hg⟩,⟨.bl _,rfl,by rw[<-e2];rfl⟩,q⟩
def rInL:R3:=fun x y G Q=>rInF false x y G Q\/rDIn x y G Q
def qKt:R3:=fun x y G Q=>rInF true x y G Q\/qKv x y G Q
theorem o_in (hu:X.A.units+20<cLine):Op3 X (compareOp .In) rInL:=o_inF.or (o_dIn hu)
theorem qZq (hu:X.A.units+20<cLine):Op3 X (compareOp .NotIn) qKt:=o_notInF.or (qVt hu)
def jQ1:TE3:=fun _ G Q=>(∀p,G p=none->Q (.ref p) (gup G p (.dct [])))\/∀p,G p=none->Q (.ref p) (gup G p (.dck []))
theorem qUb:PE3 X (.Dict [] [] pos) jQ1:=by
 rintro pins s τ G H Q ⟨σ,I,hs,hg⟩ h
 rcases h with h | h
 ·exact thn (qVp pins s σ H (up X.K H Q) I fun p hp=>⟨.ref p,_,.upd (.none hp),hg.upd (.none hp) (go:= .dct []) ⟨[],jQe,.nil⟩,rfl,h p (hg.fresh hp)⟩) fun u s' z=>jVz hs z
 ·exact thn (qVq pins s σ H (up X.K H Q) I fun p hp=>⟨.ref p,_,.upd (.none hp),hg.upd (.none hp) (go:= .dck []) ⟨[],jQe,.nil⟩,rfl,h p (hg.fresh hp)⟩) fun u s' z=>jVz hs z
noncomputable def qYg:T->T->T->Gp->(Gp->Prop)->Prop:=fun o i v G Q=>∃p ys ks kvs,o= .ref p/\i= .tup ys/\jQw ys=some ks/\G p=some (.dct kvs)/\kvs.length<sizeLine/\Q (gup G p (.dct (putT kvs ks v)))
def qYh:T->T->T->Gp->(Gp->Prop)->Prop:=fun o i v G Q=>∃p k kvs,o= .ref p/\kKm i=some k/\G p=some (.dck kvs)/\kvs.length<sizeLine/\Q (gup G p (.dck (putT kvs k v)))
theorem qZa (hu:X.A.units+20<cLine):Set3 X qYg:=by
 rintro pins s τ G H o i v ov iv u Q ⟨σ,I,hs,hg⟩ ⟨a,ra,rv⟩ ⟨b,rb,ru⟩ ⟨c,rc,rw'⟩ ⟨p,ys,ks,kvs,eo,ei,hk,hG,hz,q⟩
 subst eo;subst ei
 cases (show a= .ref p from ra);cases rv
 obtain⟨ws,h1,h2⟩:=hg p _ hG
 obtain⟨b',vs,e,h3,h4⟩:=(show ∃q vs,b= .ref q/\H q=some (.tup vs)/\Reps X.K H ys vs from rb)
 subst e
 have h3:=jXd hk h3 h4
 have e:Ext H (upd H p (.dT (putK ws ks c))):= .upd (.dT h1)
 exact kVl hu I (DPut.t h1 h3 (by rw[<-h2.length];exact hz)) ru rw' fun s' I'=>⟨_,_,e,⟨σ,I',hs.mono e,hg.upd (.dT h1) (go:= .dct (putT kvs ks v)) ⟨_,jQe,(h2.put ks rc).mono e⟩⟩,q⟩
theorem qZb (hu:X.A.units+20<cLine):Set3 X qYh:=by
 rintro pins s τ G H o i v ov iv u Q ⟨σ,I,hs,hg⟩ ⟨a,ra,rv⟩ ⟨b,rb,ru⟩ ⟨c,rc,rw'⟩ ⟨p,k,kvs,eo,hk,hG,hz,q⟩
 subst eo
 cases (show a= .ref p from ra);cases rv
 obtain⟨ws,h1,h2⟩:=hg p _ hG
 have eb:=kJs hk rb
 subst eb
 have e:Ext H (upd H p (.dK (putK ws k c))):= .upd (.dK h1)
 exact kVl hu I (DPut.k h1 (by rw[<-h2.length];exact hz)) ru rw' fun s' I'=>⟨_,_,e,⟨σ,I',hs.mono e,hg.upd (.dK h1) (go:= .dck (putT kvs k v)) ⟨_,jQe,(h2.put k rc).mono e⟩⟩,q⟩
theorem Set3.or {r r':T->T->T->Gp->(Gp->Prop)->Prop}(h:Set3 X r)(h':Set3 X r'):Set3 X (fun o i v G Q=>r o i v G Q\/r' o i v G Q):=by
 intro pins s τ G H o i v ov iv u Q I ro ri rv q
 rcases q with q | q
 ·exact h pins s τ G H o i v ov iv u Q I ro ri rv q
 ·exact h' pins s τ G H o i v ov iv u Q I ro ri rv q
def rSetA:T->T->T->Gp->(Gp->Prop)->Prop:=fun o i v G Q=>qVm o i v G Q\/qYg o i v G Q\/qYh o i v G Q
theorem s_any (hu:X.A.units+20<cLine):Set3 X rSetA:=s_list.or ((qZa hu).or (qZb hu))
noncomputable def jZf (G:Gp):T->Option String
 | .non=>some "NoneType"
 | .bl _=>some "bool"
 | .int _=>some "int"
 | .str _=>some "str"
 | .tup _=>some "tuple"
 | .scr _=>some "list"
 | .ref p=>match G p with
  | some (.lst _)=>some "list"
  | some (.dct _)=>some "dict"
  | some (.dck _)=>some "dict"
  | some (.fdc _)=>none
  | some (.ins _ _)=>none
  | none=>none
 | .ty _=>none
noncomputable def subT (t n:String):Option Bool:=
 if n="bool"\/n="int"\/n="str"\/n="list"\/n="tuple" then some (t == n||(t == "bool"&&n == "int")) else none
variable {n:String}
theorem qV7 (K:PySem.W.Frag)(h:subT "bool" n=some b):PySem.W.kitOne K (.type "bool") (.type n)=some b:=by
 unfold subT at h
 split at h
 ·rename_i hn
  rcases hn with rfl | rfl | rfl | rfl | rfl<;>(cases h;kernel_rfl)
 ·cases h
theorem qV6 (K:PySem.W.Frag)(h:subT "NoneType" n=some b):PySem.W.kitOne K (.type "NoneType") (.type n)=some b:=by
 unfold subT at h
 split at h
 ·rename_i hn
  rcases hn with rfl | rfl | rfl | rfl | rfl<;>(cases h;kernel_rfl)
 ·cases h
theorem qZ3 (K:PySem.W.Frag)(h:subT "int" n=some b):PySem.W.kitOne K (.type "int") (.type n)=some b:=by
 unfold subT at h
 split at h
 ·rename_i hn
  rcases hn with rfl | rfl | rfl | rfl | rfl<;>(cases h;kernel_rfl)
 ·cases h
theorem qZ2 (K:PySem.W.Frag)(h:subT "str" n=some b):PySem.W.kitOne K (.type "str") (.type n)=some b:=by
 unfold subT at h
 split at h
 ·rename_i hn
  rcases hn with rfl | rfl | rfl | rfl | rfl<;>(cases h;kernel_rfl)
 ·cases h
theorem qQk (K:PySem.W.Frag)(h:subT "tuple" n=some b):PySem.W.kitOne K (.type "tuple") (.type n)=some b:=by
 unfold subT at h
 split at h
 ·rename_i hn
  rcases hn with rfl | rfl | rfl | rfl | rfl<;>(cases h;kernel_rfl)
 ·cases h
theorem kY4 (K:PySem.W.Frag)(h:subT "list" n=some b):PySem.W.kitOne K (.type "list") (.type n)=some b:=by
 unfold subT at h
 split at h
 ·rename_i hn
  rcases hn with rfl | rfl | rfl | rfl | rfl<;>(cases h;kernel_rfl)
 ·cases h
theorem kY5 (K:PySem.W.Frag)(h:subT "dict" n=some b):PySem.W.kitOne K (.type "dict") (.type n)=some b:=by
 unfold subT at h
 split at h
 ·rename_i hn
  rcases hn with rfl | rfl | rfl | rfl | rfl<;>(cases h;kernel_rfl)
 ·cases h
variable {e:Expr}{te:TE3}
theorem e_ty {x:Str}(hg:Gl X x)(hm:X.mg x=none)(hv:bootBuiltins x=some (.type n))(hn:x≠"__name__":=by decide)(hd:(x == ("__debug__":Str))=false:=by decide):PE3 X (.Name x pos) (tC (.ty n)):=
 fun pins s τ G H Q ⟨σ,I,hs,hg'⟩ q=>thn (qZl (v:= .ty n) hg hm hv rfl hn hd pins s σ H (up X.K H Q) I ⟨.ty n,G,.refl H,hg',rfl,q⟩) fun u s' h=>jVz hs h
noncomputable def kitT (t:String):List T->Option Bool
 | []=>some false
 | .ty n::r=>match subT t n with
  | some true=>some true
  | some false=>kitT t r
  | none=>none
 | _::_=>none
noncomputable def isiC:Option String->T->Option Bool
 | some t,.ty n=>subT t n
 | some t,.tup cs=>kitT t cs
 | _,_=>none
def isiT (G:Gp)(x c:T):Option Bool:=isiC (jZf G x) c
def rIsi:List T->Gp->VK3->Prop:=fun xs G Q=>∃x c b,xs=[x,c]/\isiT G x c=some b/\Q (.bl b) G
theorem qQl {K:PySem.W.Frag} {H:Hp} {t:String} (ok:∀n b,subT t n=some b->PySem.W.kitOne K (.type t) (.type n)=some b):∀ {cs:List T} {vs:List V} {us:List Value} {b:Bool},Reps K H cs vs->Vals vs us->kitT t cs=some b->PySem.W.kitAny K (.type t) us=some b
 | [],_,_,_,r,q,h=>by cases r;cases q;exact h
 | c::cs,_,_,b,⟨v,ws,e,r1,r2⟩,q,h=>by
  subst e
  cases q with
  | cons q1 q2=>
   cases c with
   | ty n=>
    cases (show v= .ty n from r1)
    cases q1
    unfold kitT at h
    unfold PySem.W.kitAny
    cases e:subT t n with
    | none=>rw[e] at h;cases h
    | some k=>
     rw[e] at h
     rw[ok n k e]
     cases k with
     | true=>exact h
     | false=>exact qQl ok r2 q2 h
   | _=>cases h
theorem jUc {τ:St3}{c:T}{cv:V}{cu:Value}{t:String}{Q:VK3}{Hh:Heap->Prop}(I:Inv X pins σ H s)(hs:SRel X.K H σ τ)(hg:GRel X.K H G)(Z:PySem.W.KitX X.K u (.type t) Hh)(p:Hh s.heap)(hx:u≠ .builtin "__main__.__loader__#opaque")(ok:∀n b,subT t n=some b->PySem.W.kitOne X.K (.type t) (.type n)=some b)(rc:Rep X.K H c cv)(ru:RelV cv cu)(h:isiC (some t) c=some b)(q:Q (.bl b) G):
  wpAny (model X.prog X.w) X.A (call (.builtin "isinstance") [u,cu]) (EP3 X pins τ H Q) X.xe s:=by
 have fin:∀tk,EP3 X pins τ H Q (.bool b) {s with toks:=tk}:=fun tk=>⟨.bl b,G,H,.refl H,⟨σ,I.tok tk,hs,hg⟩,⟨.bl b,rfl,rfl⟩,q⟩
 cases c with
 | ty n=>
  cases (show cv= .ty n from rc);cases ru
  exact PySem.W.kia_one Z I.kIn p (ok n b h) hx fin
 | tup cs=>
  obtain⟨pp,vs,e,h1,h2⟩:=(show ∃p vs,cv= .ref p/\H p=some (.tup vs)/\Reps X.K H cs vs from rc)
  subst e;cases ru
  obtain⟨its,rv,⟨⟨cls,dd,data,sl⟩,ho,hc,n,hd⟩,_⟩:=I.tuple (.of h1)
  simp only at hc hd
  subst hc hd
  exact PySem.W.kia_tup Z I.kIn p ho (qQl ok h2 rv h) hx fin
 | _=>cases h
theorem kKp:Call3 X (.builtin "isinstance") rIsi:=by
 rintro pins s τ G H xs us Q ⟨σ,I,hs,hg⟩ ⟨as,ras,rvs⟩ ⟨x,c,b,e,h,q⟩
 subst e
 obtain⟨a,cv,rfl,ra,rc⟩:=kKd ras
 obtain⟨u,cu,rfl,ru,rcu⟩:=rvs.two
 unfold isiT at h
 cases x with
 | non=>cases (show a= .non from ra);cases ru;exact jUc I hs hg PySem.W.kitx_none True.intro (fun z=>nomatch z) (fun n b=>qV6 _) rc rcu h q
 | bl k=>cases (show a= .bl k from ra);cases ru;exact jUc I hs hg PySem.W.kitx_bool True.intro (fun z=>nomatch z) (fun n b=>qV7 _) rc rcu h q
 | int k=>cases (show a= .int k from ra);obtain⟨t,rfl⟩:=ru;exact jUc I hs hg PySem.W.kitx_int True.intro (fun z=>nomatch z) (fun n b=>qZ3 _) rc rcu h q
 | str k=>cases (show a= .str k from ra);obtain⟨t,rfl⟩:=ru;exact jUc I hs hg PySem.W.kitx_str True.intro (fun z=>nomatch z) (fun n b=>qZ2 _) rc rcu h q
 | tup ys=>
  obtain⟨p,vs,e,h1,h2⟩:=(show ∃p vs,a= .ref p/\H p=some (.tup vs)/\Reps X.K H ys vs from ra)
  subst e;cases ru
  obtain⟨its,rv,⟨o,ho,hc,_⟩,_⟩:=I.tuple (.of h1)
  exact jUc I hs hg PySem.W.kitx_tuple ⟨o,ho,hc⟩ (fun z=>nomatch z) (fun n b=>qQk _) rc rcu h q
 | scr ys=>
  obtain⟨p,vs,e,h1,h2⟩:=(show ∃p vs,a= .ref p/\FrL X.K H p vs/\Reps X.K H ys vs from ra)
  subst e;cases ru
  obtain⟨its,rv,⟨o,n,ho,hc,_⟩,_⟩:=I.list h1.sq
  exact jUc I hs hg PySem.W.kitx_list ⟨o,ho,hc⟩ (fun z=>nomatch z) (fun n b=>kY4 _) rc rcu h q
 | ref p=>
  cases (show a= .ref p from ra);cases ru
  cases hG:G p with
  | none=>simp only[jZf,hG] at h;cases h
  | some g=>
   cases g with
   | lst ys=>
    simp only[jZf,hG] at h
    obtain⟨vs,h1,h2⟩:=hg.lst hG
    obtain⟨its,rv,⟨o,n,ho,hc,_⟩,_⟩:=I.list (.of h1)
    exact jUc I hs hg PySem.W.kitx_list ⟨o,ho,hc⟩ (fun z=>nomatch z) (fun n b=>kY4 _) rc rcu h q
   | fdc kvs=>simp only[jZf,hG] at h;cases h
   | ins _ _=>simp only[jZf,hG] at h;cases h
   | dct kvs=>
    simp only[jZf,hG] at h
    obtain⟨ws,h1,_⟩:=hg p _ hG
    obtain⟨_,_,xs,_,o,es,ep,h3,h4,_⟩:=(show ObjOk X.prog X.w H s.heap p (.dT ws) from I.hok p _ h1)
    exact jUc I hs hg PySem.W.kitx_dict ⟨o,h3,h4.1⟩ (fun z=>nomatch z) (fun n b=>kY5 _) rc rcu h q
   | dck kvs=>
    simp only[jZf,hG] at h
    obtain⟨ws,h1,_⟩:=hg p _ hG
    obtain⟨_,_,vs,_,pp⟩:=(show ObjOk X.prog X.w H s.heap p (.dK ws) from I.hok p _ h1)
    obtain⟨o,es,ep,h3,h4,_⟩:=pp
    exact jUc I hs hg PySem.W.kitx_dict ⟨o,h3,h4.1⟩ (fun z=>nomatch z) (fun n b=>kY5 _) rc rcu h q
 | ty _=>cases h
abbrev TO3:=St3->Gp->(Option Int->Gp->Prop)->Prop
def PO3 (X:Cx)(e:Option Expr)(t:TO3):Prop:=
 ∀(pins:List (Addr×Obj)) (s:Shared) (τ:St3) (G:Gp) (H:Hp) (Q:Option Int->Gp->Prop),Inv3 X pins τ G H s->t τ G Q->
  wpAny (model X.prog X.w) X.A (evalPart e X.env) (fun u s'=>∃o G' H',Ext H H'/\Inv3 X pins τ G' H' s'/\IsPart u o/\Q o G') X.xe s
def jJ5:TO3:=fun _ G Q=>Q none G
def jQd (t:TE3):TO3:=fun τ G Q=>t τ G fun x G1=>∃i,x= .int i/\Q (some i) G1
theorem jVy:PO3 X none jJ5:=by
 intro pins s τ G H Q I h
 rw[evalPart_none]
 exact lJf ⟨none,G,H,.refl H,I,.none,h⟩
theorem jUp (h:PE3 X e te):PO3 X (some e) (jQd te):=by
 intro pins s τ G H Q I hw
 rw[evalPart_some]
 refine thn (h pins s τ G H _ I hw) fun u s1 w_=>w_.el fun x G1 H1 e1 I1 r_ ⟨i,ex,q⟩=>r_.el fun v rv ru=> ?_
 subst ex
 cases (show v= .int i from rv)
 obtain⟨t,rfl⟩:=ru
 exact⟨some i,G1,H1,e1,I1,.int i t,q⟩
def Sl3 (X:Cx)(r:T->Option Int->Option Int->Gp->VK3->Prop):Prop:=
 ∀(pins:List (Addr×Obj)) (s:Shared) (τ:St3) (G:Gp) (H:Hp) (x:T) (v vl vu:Value) (lo hi:Option Int) (sl:Addr) (Q:VK3),Inv3 X pins τ G H s->RU X.K H x v->s.heap.IsSliceOf sl vl vu .none->IsPart vl lo->IsPart vu hi->r x lo hi G Q->
  ∃T id,typeLookup (.type T) "__getitem__"=pure (some (.builtin id))/\s.TypeIs v T/\wpAny (model X.prog X.w) X.A (getItem v (.ref sl)) (EP3 X pins τ H Q) X.xe s
def tSl (r:T->Option Int->Option Int->Gp->VK3->Prop)(te:TE3)(tl th:TO3):TE3:=fun τ G Q=>te τ G fun x G1=>tl τ G1 fun l G2=>th τ G2 fun u G3=>r x l u G3 Q
theorem jQ5 {r:T->Option Int->Option Int->Gp->VK3->Prop}{lo hi:Option Expr}{tl th:TO3}{p2:Pos}(hr:Sl3 X r)(he:PE3 X e te)(hl:PO3 X lo tl)(hu:PO3 X hi th):PE3 X (.Subscript e (.Slice lo hi none p2) pos) (tSl r te tl th):=by
 intro pins s τ G H Q I h
 refine Subscript_ (thn (he pins s τ G H _ I h) fun v s1 w_=>w_.el fun x G1 H1 e1 I1 r1 q1=> ?_)
 refine wpAny_Slice (thn (hl pins s1 τ G1 H1 _ I1 q1) fun vl s2 ⟨l,G2,H2,e2,I2,pl,q2⟩=>thn (hu pins s2 τ G2 H2 _ I2 q2) fun vu s3 ⟨u,G3,H3,e3,⟨σ,I3,hs3,hg3⟩,pu,q3⟩=> ?_)
 rw[evalPart_none]
 refine lJf ?_
 have I4:Inv X pins σ H3 {s3 with heap:=s3.heap.push {cls:= .type "slice",data:= .fields #[vl,vu,.none]} }:=I3.kept (t':=s3.toks) fun b ob q=>lJu _ q
 obtain⟨T0,id,hT,ht,hg⟩:=hr pins {s3 with heap:=s3.heap.push {cls:= .type "slice",data:= .fields #[vl,vu,.none]} } τ G3 H3 x v vl vu l u s3.heap.objs.size Q ⟨σ,I4,hs3,hg3⟩ ((r1.mono e2).mono e3) (Heap.IsSliceOf.new ..) pl pu q3
 show wpAny (model X.prog X.w) X.A (subscriptTail e (.Slice lo hi none p2) v (.ref s3.heap.objs.size)) (EP3 X pins τ H Q) X.xe {s3 with heap:=s3.heap.push {cls:= .type "slice",data:= .fields #[vl,vu,.none]} }
 exact thn (tail_any (ops:=[.ref s3.heap.objs.size,v]) ht hT hg (by with_unfolding_all rfl)) fun _ _ z=>z.ext ((e1.trans e2).trans e3)
noncomputable def cutT (xs:List T)(lo hi:Option Int):List T:=(xs.drop (HT.sIx xs.length 0 lo)).take (HT.sIx xs.length xs.length hi-HT.sIx xs.length 0 lo)
noncomputable def rSlA:T->Option Int->Option Int->Gp->VK3->Prop:=fun x lo hi G Q=>
 (∃xs,jUx G x=some xs/\∀p,G p=none->Q (.ref p) (gup G p (.lst (cutT xs lo hi))))\/∃xs,x= .tup xs/\Q (.tup (cutT xs lo hi)) G
end L3
namespace HT
open PySem PyProof.Rows
theorem getItem_tuple_whole {prog:Program}{w:World}{A:Around}{E:Value->Shared->Prop}{s:Shared}{t sl:Addr}{items:Array Value}{vl vu:Value}{lo hi:Option Int}{Q:Value->Shared->Prop}(ht:IsTup s.heap t items)(hs:s.heap.IsSliceOf sl vl vu .none)(pl:IsPart vl lo)(pu:IsPart vu hi)(hw:sIx items.size 0 lo=0/\sIx items.size items.size hi=items.size)(h:Q (.ref t) s):wpAny (model prog w) A (getItem (.ref t) (.ref sl)) Q E s:=by
 obtain⟨os,hos,hcs,hds⟩:=id hs
 have hTs:s.TypeIs (.ref sl) "slice":=⟨os,hos,hcs⟩
 unfold getItem
 try with_reducible refine lQ2 ?_
 first | refine lJc (lJf ?_) | skip
 refine lJc (wpAny_sequenceKey ht.typeIs (by decide) ?_)
 refine lJc (lVl (name:=Str.ofString "__getitem__") ht.typeIs lV6
  (lQ3 lV6 ht.typeIs entry_tuple_getitem ?_ (args_tuple_getitem _ _)))
 show wpAny _ _ (Builtin.Tuple.tupleItemsOf (.ref t) >>= _) _ _ s
 refine lJc (tupleItemsOf_ ht ?_)
 refine lJc (wpAny_typeOf hTs ?_)
 rw[lJb (by decide)]
 refine lJc (jVc hs pl pu ?_)
 have hyes:(((sIx items.size 0 lo:Nat):Int) == 0&&(1:Int) == 1&&(sIx items.size items.size hi-sIx items.size 0 lo) == items.size)=true:=by
  rw[hw.1,hw.2];simp
 show wpAny _ _ (if (((sIx items.size 0 lo:Nat):Int) == 0&&(1:Int) == 1&&(sIx items.size items.size hi-sIx items.size 0 lo) == items.size)=true then _ else _) _ _ s
 rw[lJb hyes]
 refine lJc ?_
 unfold Builtin.Tuple.tupleIsExact
 refine lJc (wpAny_typeOf ht.typeIs (lJf ?_))
 rw[lJb (by decide)]
 exact lJc (lK3 (lJf ⟨_,rfl,lJf h⟩))
end HT
namespace L3
open PySem PySem.Spec PyProof.Rows L2
variable {X:Cx}{K:PySem.W.Frag}{H:Hp}{xs:List T}{vs:List V}
theorem Reps.cut (r:Reps K H xs vs)(lo hi:Option Int):Reps K H (cutT xs lo hi) (cutV vs lo hi):=by
 unfold cutT cutV
 rw[<-r.length]
 exact (r.drop _).take _
theorem qJp {lo hi:Option Int}(h:HT.sIx xs.length 0 lo=0/\HT.sIx xs.length xs.length hi=xs.length):cutT xs lo hi=xs:=by
 unfold cutT
 rw[h.1,h.2]
 simp
theorem sl_any:Sl3 X rSlA:=by
 rintro pins s τ G H x v vl vu lo hi sl Q ⟨σ,I,hs,hg⟩ ⟨a,ra,rv⟩ hsl pl pu h
 rcases h with ⟨xs,hx,q⟩ | ⟨xs,ex,q⟩
 ·obtain⟨p,vs,e,hq,r⟩:=jZy hg ra hx
  subst e
  obtain⟨T0,id,h1,h2,h3⟩:=qY8 pins s σ H (.ref p) v vl vu lo hi sl (up X.K H Q) I rv hsl pl pu ⟨p,vs,rfl,hq,fun l hl=>⟨.ref l,_,.upd (.none hl),hg.lstNew (r.cut lo hi) (.none hl),rfl,q l (hg.fresh hl)⟩⟩
  exact⟨T0,id,h1,h2,thn h3 fun _ _ z=>jVz hs z⟩
 ·subst ex
  obtain⟨p,vs,e,h1,h2⟩:=(show ∃p vs,a= .ref p/\H p=some (.tup vs)/\Reps X.K H xs vs from ra)
  subst e
  by_cases hw:HT.sIx xs.length 0 lo=0/\HT.sIx xs.length xs.length hi=xs.length
  ·cases rv
   obtain⟨its,rv',ht,hz⟩:=I.tuple (.of h1)
   have hlen:its.toArray.size=xs.length:=by rw[lJs,<-rv'.length,h2.length]
   refine⟨"tuple",_,lV6.lookup,ht.typeIs,HT.getItem_tuple_whole ht hsl pl pu (by rw[hlen];exact hw) ?_⟩
   rw[qJp hw] at q
   exact⟨.tup xs,G,H,.refl H,⟨σ,I,hs,hg⟩,⟨.ref p,ra,rfl⟩,q⟩
  ·obtain⟨T0,id,h3,h4,h5⟩:=sl_tup pins s σ H (.ref p) v vl vu lo hi sl (up X.K H Q) I rv hsl pl pu ⟨p,vs,rfl,.of h1,by rw[<-h2.length];exact hw,fun l hl=>⟨.tup (cutT xs lo hi),G,.upd (.none hl),hg.tupNew hl,Rep.tupNew (h2.cut lo hi) hl,q⟩⟩
   exact⟨T0,id,h3,h4,thn h5 fun _ _ z=>jVz hs z⟩
def jV8 (ta:TA3):TE3:=fun τ G Q=>ta τ G fun vs G1=>∃j:Int,vs=[.int j]/\ -(2^62)<=j/\j<=2^20/\∀p,G1 p=none->Q (.ref p) (gup G1 p (.lst (rngT 0 j.toNat)))
theorem qVf {n:Nat}(hl:vs.length=n)(h:∀(i:Nat) v,vs[i]? =some v->v= .int (0+i)):Reps K H (rngT 0 n) vs:=by
 have e:vs=(List.range n).map fun (k:Nat)=>V.int (0+k):=by
  apply lK2
  intro i
  cases hv:vs[i]? with
  | none=>
   have:n<=i:=by rw[<-hl];exact List.getElem?_eq_none_iff.mp hv
   simp[this]
  | some v=>
   have hi:i<n:=by rw[<-hl];exact (lJg.mp hv).1
   rw[h i v hv];simp[hi]
 rw[e]
 unfold rngT
 generalize List.range n=l
 induction l with
 | nil=>rfl
 | cons k ks ih=>exact⟨_,_,rfl,rfl,ih⟩
variable {pos p:Pos}
theorem kXx {a:Expr}{ta:TA3}{p2 p3:Pos}(hgl:Gl X "list")(hml:X.mg "list"=none)(hgr:Gl X "range")(hmr:X.mg "range"=none)(hc:X.calm=true)(ha:PA3 X [a] ta)(hs:starEach [a] X.env=[(false,eval a X.env)]:=by rfl)(ho:starEach [Expr.Call (.Name "range" p2) [a] [] p3] X.env=[(false,eval (.Call (.Name "range" p2) [a] [] p3) X.env)]:=by rfl):
  PE3 X (.Call (.Name "list" p) [.Call (.Name "range" p2) [a] [] p3] [] pos) (jV8 ta):=by
 intro pins s τ G H Q I h
 obtain⟨σ0,I0,hs0,hg0⟩:=id I
 refine lYc (jV3 I0 hgl hml (u:= .type "list") (by rfl) ?_)
 refine lQ8 (T:="list") ?_ ho rfl
 rw[ho]
 show wpAny _ _ (spliced ((false,eval (.Call (.Name "range" p2) [a] [] p3) X.env)::backTo pos [])) _ _ s
 refine Calls.spliced_cons ?_
 refine Call_ (jV3 I0 hgr hmr boot_range (lQ8 (thn (ha p3 pins s τ G H _ I h) fun us s1 w_=>w_.el fun xs G1 H1 e1 i_ r_ ⟨j,e,q1,q2,q⟩=>i_.el fun σ I1 hs1 hg1=>r_.el fun as ras rvs=> ?_) hs rfl))
 subst e
 obtain⟨v,rfl,rv⟩:=jU5 ras
 cases (show v= .int j from rv)
 obtain⟨u,rfl,ru⟩:=rvs.one
 obtain⟨t,rfl⟩:=ru
 refine call_range_1 ?_
 refine Calls.spliced_nil ?_
 have I2:Inv X pins σ H1 {s1 with heap:=s1.heap.push {cls:= .type "range",data:= .fields #[.int 0 s1.toks,.int j t,.int 1 (s1.toks+1)]},toks:=s1.toks+1+1}:=I1.kept fun b o e=>lJu _ e
 refine call_list_range (n:=j.toNat) (I1.ok.hd hc) (IsRange.new ..) (small_one (by omega) (by omega) q1 (by omega)) (by rw[rangeSize_one];split<;>omega) (by omega) fun h' tk acc' c' hk hobj hit=> ?_
 have hf:H1 (s1.heap.push {cls:= .type "range",data:= .fields #[.int 0 s1.toks,.int j t,.int 1 (s1.toks+1)]}).objs.size=none:=I2.hok.fresh (lJj _)
 have hz:acc'.size<=sizeLine:=by rw[hit.1,lK7];omega
 obtain⟨vs,hvs,rr⟩:∃vs:List V,Vals vs acc'.toList/\Reps X.K H1 (rngT 0 j.toNat) vs:=by
  refine⟨(List.range j.toNat).map fun (k:Nat)=>V.int (0+k),?_,qVf (by simp) (fun i v hv=> ?_)⟩
  ·have all:∀(l:List Value) (n0:Nat),(∀(i:Nat) v,l[i]? =some v->∃t,v= .int ((0:Int)+((n0+i:Nat):Int)*1) t)->Vals ((List.range' n0 l.length).map fun (k:Nat)=>V.int (0+k)) l:=by
    intro l
    induction l with
    | nil=>intro n0 _;exact .nil
    | cons v l ih=>
     intro n0 hh
     obtain⟨t,ht⟩:=hh 0 v rfl
     rw[lKc,List.range'_succ,lJ6]
     refine .cons ⟨t,by rw[ht];simp⟩ (ih (n0+1) fun i w hw=> ?_)
     obtain⟨t',ht'⟩:=hh (i+1) w (by simpa using hw)
     exact⟨t',by rw[ht'];congr 1;omega⟩
   have:=all acc'.toList 0 (fun i v hv=>by
    obtain⟨t,ht⟩:=hit.2 i v (by simpa using hv)
    exact⟨t,by rw[ht];simp⟩)
   rw[List.range_eq_range']
   rw[show acc'.toList.length=j.toNat by simpa using hit.1] at this
   exact this
  ·rw[lJr] at hv
   cases e:(List.range j.toNat)[i]? with
   | none=>rw[e] at hv;cases hv
   | some k=>
    rw[e] at hv;cases hv
    have:=lJg.mp e
    obtain⟨h1,h2⟩:=this
    simp at h2;rw[<-h2]
 refine⟨.ref _,_,_,e1.trans (.upd (.none hf)),⟨σ,I2.laid (t':=tk) (o:= .lst vs) hk (lJj _) ⟨by rw[hvs.length];simpa using hz,acc'.toList,c',hvs,by simpa using hobj⟩,hs1.mono (.upd (.none hf)),hg1.lstNew rr (.none hf)⟩,⟨.ref _,rfl,rfl⟩,q _ (hg1.fresh hf)⟩
noncomputable def insT (xs:List T)(k:Nat)(y:T):List T:=xs.take k++y::xs.drop k
noncomputable def kJk:T->List T->Gp->VK3->Prop:=fun x as G Q=>∃p xs k y,x= .ref p/\as=[.int k,y]/\G p=some (.lst xs)/\0<=k/\k<=xs.length/\xs.length<sizeLine/\Q .non (gup G p (.lst (insT xs k.toNat y)))
theorem kYy:Mt3 X "list.insert" kJk:=by
 rintro pins s τ G H x as v us Q ⟨σ,I,hs,hg⟩ ⟨a,ra,rv⟩ ⟨bs,rbs,rus⟩ ⟨p,xs,k,y,ex,ea,hp,k0,k1,hz,q⟩
 subst ex;subst ea
 cases (show a= .ref p from ra);cases rv
 obtain⟨b1,b2,rfl,r1,r2⟩:=kKd rbs
 cases (show b1= .int k from r1)
 obtain⟨u1,u2,rfl,ru1,ru2⟩:=rus.two
 obtain⟨t,rfl⟩:=ru1
 obtain⟨vs,h1,h2⟩:=hg.lst hp
 obtain⟨z,its,n,r,hl,e⟩:=I.lstM h1
 have hlen:=h2.length
 have hfit:¬ (!Builtin.List.listFitsIndex k)=true:=by
  have h63:=kKw
  rw[fitsIndex_both (by omega) (by omega)]
  exact lJp
 refine lVz F.slot_list_insert ⟨_,e,rfl⟩ F.entry_list_insert (F.args_list_insert_3 _ _ _) (AutoSeq1.list_insert_list_int_val_1 p its.toArray n k t u2 hfit (by rw[lJs];omega)) ⟨e,?_⟩
 have e2:Ext H (upd H p (.lst (vs.take k.toNat++b2::vs.drop k.toNat))):= .upd (.lst h1)
 refine⟨.non,_,_,e2,⟨σ,I.lset (its':=its.take k.toNat++u2::its.drop k.toNat) h1 e ?_ ((r.take _).append (.cons ru2 (r.drop _))) ?_,hs.mono e2,hg.lstNew (xs:=insT xs k.toNat y) ((h2.take _).append ⟨b2,_,rfl,r2,h2.drop _⟩) (.lst h1)⟩,⟨.non,rfl,rfl⟩,q⟩
 ·have hk:¬ k<0:=by omega
  have hm:min k.toNat its.toArray.size=k.toNat:=by rw[lJs];omega
  simp only[hk,lKf,hm]
  apply Array.ext'
  simp[Array.toList_extract]
  rw[lQd (Nat.le_of_eq (by simp))]
 ·simp only[lJv,lKc,lQ5,lV5]
  omega
def qKw:T->List T->Gp->VK3->Prop:=fun x as G Q=>∃p xs y,x= .ref p/\as=[y]/\G p=some (.lst xs)/\jYl y=true/\xs.all jYl=true/\Q (.int (xs.countP fun z=>eqT z y)) G
theorem kVn {K:PySem.W.Frag} {H:Hp} {y:T} {b:V} (ry:Rep K H y b) (fy:jYl y=true):∀ {xs:List T} {vs:List V} {us:List Value},Reps K H xs vs->Vals vs us->xs.all jYl=true->us.countP (eqU b)=xs.countP fun z=>eqT z y
 | [],_,_,r,q,_=>by cases r;cases q;rfl
 | x::xs,_,_,⟨v,ws,e,r1,r2⟩,q,f=>by
  subst e
  cases q with
  | cons q1 q2=>
   rw[lKv,lKu] at f
   rw[List.countP_cons,List.countP_cons,kVn ry fy r2 q2 f.2,qQ5 q1 (jZ1 r1 f.1),qQ0 r1 ry f.1 fy]
theorem qZy:Mt3 X "list.count" qKw:=by
 rintro pins s τ G H x as v us Q ⟨σ,I,hs,hg⟩ ⟨a,ra,rv⟩ ⟨bs,rbs,rus⟩ ⟨p,xs,y,ex,ea,hp,fy,fs,q⟩
 subst ex;subst ea
 cases (show a= .ref p from ra);cases rv
 obtain⟨b,rfl,rb⟩:=jU5 rbs
 obtain⟨u,rfl,ru⟩:=rus.one
 obtain⟨vs,h1,h2⟩:=hg.lst hp
 obtain⟨z,its,n,r,hl,e⟩:=I.lstM h1
 have fl:=(kQ6 rb fy h2 fs).1
 refine lVz F.slot_list_count ⟨_,e,rfl⟩ F.entry_list_count (F.args_list_count_2 _ _) (SeqAt.list_countAt p its.toArray n none #[] u (eqU b)) ⟨e,fun w hw=>jXc ru (jZ1 rb fy) r fl w (by simpa using hw),?_⟩
 refine⟨.int _,G,H,.refl H,⟨σ,I.tok _,hs,hg⟩,⟨.int _,rfl,s.toks,?_⟩,q⟩
 rw[<-kVn rb fy h2 r fs]
def tBM0 (T0:String)(r:T->List T->Gp->VK3->Prop)(to:TE3):TE3:=fun τ G Q=>to τ G fun x G1=>tyT G1 T0 x/\r x [] G1 Q
theorem e_bm0 {T0 id:String}{r:T->List T->Gp->VK3->Prop}{o:Expr}{name:Str}{apos cpos:Pos}{to:TE3}(pa:PlainAttrs T0)(slot:Slot T0 name id)(hty:typeOf (.builtin id)=pure (.type "method_descriptor"))(hm:Mt3 X id r)(ho:PE3 X o to)(hbase:attributeBase o name X.env (eval o X.env)=eval o X.env:=by rfl)(hline:(apos.endLine == cpos.line)=true:=by rfl):PE3 X (.Call (.Attribute o name apos) [] [] cpos) (tBM0 T0 r to):=by
 intro pins s τ G H Q I h
 refine wpAny_Call_method0_late hbase hline (thn (ho pins s τ G H _ I h) fun v s1 w_=>w_.el fun x G1 H1 e1 I1 r1 ⟨ty,q1⟩=> ?_)
 obtain⟨σ,I0,hs0,hg0⟩:=_root_.id I1
 obtain⟨a0,ra0,rv0⟩:=_root_.id r1
 obtain⟨h1,h2⟩:=qX8 I0 rv0 (tyT.of hg0 ra0 ty)
 exact⟨T0,id,pa,slot,hty,h1,h2,Calls.callWith_builtin rfl (PySem.evalArgs_none (thn (hm pins s1 τ G1 H1 x [] v [] Q I1 r1 ⟨[],rfl,.nil⟩ q1) fun _ _ z=>z.ext e1))⟩
noncomputable def kX4:List T->Option Bool
 | []=>some true
 | .bl b::r=>match kX4 r with
  | some c=>some (b&&c)
  | none=>none
 | _::_=>none
def rAll:List T->Gp->VK3->Prop:=fun as G Q=>∃p xs b,as=[.ref p]/\G p=some (.lst xs)/\kX4 xs=some b/\Q (.bl b) G
theorem kVx:∀ {xs:List T} {b:Bool},kX4 xs=some b->∃bs:List Bool,xs=bs.map T.bl/\b=bs.all (fun x=>x)
 | [],b,h=>by cases h;exact⟨[],rfl,rfl⟩
 | .bl c::r,b,h=>by
  unfold kX4 at h
  cases e:kX4 r with
  | none=>rw[e] at h;cases h
  | some d=>
   rw[e] at h;cases h
   obtain⟨bs,h1,h2⟩:=kVx e
   exact⟨c::bs,by rw[h1];rfl,by rw[h2];rfl⟩
 | .non::_,_,h=>by cases h
 | .int _::_,_,h=>by cases h
 | .str _::_,_,h=>by cases h
 | .tup _::_,_,h=>by cases h
 | .scr _::_,_,h=>by cases h
 | .ref _::_,_,h=>by cases h
 | .ty _::_,_,h=>by cases h
theorem kYm {K:PySem.W.Frag} {H:Hp}:∀ {bs:List Bool} {vs:List V} {us:List Value},Reps K H (bs.map T.bl) vs->Vals vs us->us=bs.map Value.bool
 | [],_,_,h,q=>by cases h;cases q;rfl
 | n::ns,_,_,⟨v,ws,e,r,rs⟩,q=>by
  subst e;cases (show v= .bl n from r)
  cases q with
  | cons q1 q2=>cases q1;rw[kYm rs q2];rfl
theorem kVw:∀(bs:List Bool),bs.all (fun x=>x)=(List.range bs.length).all fun i=>bs.getD i true
 | []=>rfl
 | b::bs=>by
  rw[lKv,kVw bs,lKc,List.range_succ_eq_map,lKv,List.all_map]
  simp[Function.comp_def,List.getD]
theorem qXw (hc:X.calm=true):Call3 X (.builtin "all") rAll:=by
 rintro pins s τ G H as us Q ⟨σ,I,hs,hg⟩ ⟨bs',rbs,rus⟩ ⟨p,xs,b,e,hp,hb,q⟩
 subst e
 obtain⟨a,rfl,ra⟩:=jU5 rbs
 cases (show a= .ref p from ra)
 obtain⟨u,rfl,ru⟩:=rus.one
 cases ru
 obtain⟨vs,h1,h2⟩:=hg.lst hp
 obtain⟨bs,ex,eb⟩:=kVx hb
 subst ex
 obtain⟨its,rv,pl,hz⟩:=I.list (.of h1)
 have eit:=kYm h2 rv
 subst eit
 refine call_all_walk (wpAny_pyIter_list pl.isList ?_)
 have hne:p≠s.heap.objs.size:=by obtain⟨o,n,ho,_⟩:=pl;exact lJ4 (lJl ho)
 refine⟨s.heap.objs.size,[s.heap.objs.size,p],[s.heap.objs.size],(bs.map Value.bool).toArray.size,_,_,fun i=>bs.getD i true,rfl,Walks.list (A:=X.A.in1) (show X.A.in1.handled=none from I.ok.hd hc) s.heap.objs.size p hne (bs.map Value.bool).toArray,⟨⟨_,lJ8 _ rfl,rfl,rfl⟩,pl.isList.push _⟩,?_,?_⟩
 ·intro i v s' Q' E' hP hQ
  have hP':(bs.map Value.bool)[i]? =some v:=by simpa using hP
  rw[lJr] at hP'
  cases e:bs[i]? with
  | none=>rw[e] at hP';cases hP'
  | some c=>
   rw[e] at hP';cases hP'
   have:bs.getD i true=c:=by simp[List.getD,e]
   have hQ':Q' (bs.getD i true) s':=hQ
   rw[this] at hQ'
   exact lVc hQ'
 ·intro h' tk hk
  have hk2:∀b o,s.heap.get? b=some o->h'.get? b=some o:=fun b o e=>hk b o (by simpa using lJ4 (lJl e)) (lJu _ e)
  refine⟨.bl b,G,H,.refl H,⟨σ,I.kept hk2,hs,hg⟩,⟨.bl b,rfl,?_⟩,q⟩
  rw[eb,kVw]
  simp
  rfl
structure Cal (P:Program) (w:World) (K:PySem.W.Frag) (mg:Str->Option Value) (base:Heap) (k:Nat) (x:Str) (ps:List Str) (sp:Sp3):Prop where
 ex:∃f fd,Fn3 P w K mg base k f fd ps sp/\mg x=some (.ref f)/\PySem.W.keepIn K (.ref f)=true/\Binds K fd ps []
 mono:Mono sp
 len:∀xs G Q,sp xs G Q->xs.length=ps.length
theorem jJy {k:Nat}{ps:List Str}{sp:Sp3}{x:Str}{e:Expr}{es:List Expr}{t:TA3}(C:Cal X.prog X.w X.K X.mg X.base k x ps sp)(hr:Room k X.A)(ha:PA3 X (e::es) t)(hg:Gl X x:=by rfl)(hdb:(x == ("__debug__":Str))=false:=by decide)(he:starEach (e::es) X.env=(false,eval e X.env)::starEach es X.env:=by rfl)(hpl:(backTo pos (starEach es X.env)).any (·.1)=false:=by rfl):
  PE3 X (.Call (.Name x p) (e::es) [] pos) (jJo sp t):=by
 intro pins s τ G H Q I h
 obtain⟨f,fd,F,hm,hk,hb⟩:=C.ex
 obtain⟨σ0,I0,hs0,hg0⟩:=id I
 refine lYc (qZ1 I0 hg hm ?_ hdb)
 refine PySem.W.callWith_K (h₀:=X.base) I0.ok.mod.kin hk (thn (ha pos pins s τ G H _ I h) fun us s1 w_=>w_.el fun xs G1 H1 e1 i_ r_ q=>i_.el fun σ I1 hs1 hg1=>r_.el fun as ras rvs=>⟨I1.kIn,?_⟩) he hpl
 refine thn (run_fn (dvs:=[]) (ds:=[]) (E:=E0) (Q:=up X.K H1 Q) F hr hb .nil pass0 I1 rvs ?_) fun u s' z=>(jVz hs1 z).ext e1
 rw[lXh]
 exact⟨by rw[<-ras.length];exact C.len _ _ _ q,xs,G1,ras,hg1,C.mono _ _ _ _ (fun t G' hq v H' e g r=>⟨t,G',e,g,r,hq⟩) q⟩
def jVx:=jXt
theorem kUf:Call3 X (.type "list") jVx:=c_list
end L3
namespace L3
open PySem PySem.Spec PyProof.Rows
inductive Res where
 | val (t:T) | newL (xs:List T)
def fin3:Res->Gp->VK3->Prop
 | .val t,G,Q=>Q t G
 | .newL xs,G,Q=>∀p,G p=none->Q (.ref p) (gup G p (.lst xs))
variable {X:L2.Cx}{r r':R3}
theorem Op3.imp {f:Value->Value->Sem Value}(h:Op3 X f r)(i:∀x y G Q,r' x y G Q->r x y G Q):Op3 X f r':=fun pins s τ G H x y v u Q I rx ry q=>h pins s τ G H x y v u Q I rx ry (i x y G Q q)
theorem Ix3.imp (h:Ix3 X r)(i:∀x y G Q,r' x y G Q->r x y G Q):Ix3 X r':=fun a b pins s τ G H x y v u Q I rx ry q hs=>h a b pins s τ G H x y v u Q I rx ry (i x y G Q q) hs
theorem Set3.imp {r r':T->T->T->Gp->(Gp->Prop)->Prop}(h:Set3 X r)(i:∀o j v G Q,r' o j v G Q->r o j v G Q):Set3 X r':=fun pins s τ G H o j v a b c Q I ro rj rv q=>h pins s τ G H o j v a b c Q I ro rj rv (i o j v G Q q)
theorem Sl3.imp {r r':T->Option Int->Option Int->Gp->VK3->Prop}(h:Sl3 X r)(i:∀x l u G Q,r' x l u G Q->r x l u G Q):Sl3 X r':=fun pins s τ G H x v vl vu lo hi sl Q I rx hs pl pu q=>h pins s τ G H x v vl vu lo hi sl Q I rx hs pl pu (i x lo hi G Q q)
noncomputable def addR (G:Gp):T->T->Option Res
 | .int i,.int j=>some (.val (.int (i+j)))
 | .ref p,.ref q=>match G p,G q with
  | some (.lst xs),some (.lst ys)=>if xs.length+ys.length<=sizeLine then some (.newL (xs++ys)) else none
  | _,_=>none
 | .tup xs,.tup ys=>if xs.length≠0/\xs.length+ys.length<=sizeLine then some (.val (.tup (xs++ys))) else none
 | _,_=>none
def jJt:R3:=fun x y G Q=>∃r,addR G x y=some r/\fin3 r G Q
variable {x y:T}{G:Gp}{Q:VK3}
theorem add_F (h:jJt x y G Q):rAddA x y G Q:=by
 obtain⟨r,hr,q⟩:=h
 unfold addR at hr
 split at hr
 ·cases hr;exact .inl ⟨_,_,rfl,rfl,q⟩
 ·rename_i p q'
  split at hr
  ·rename_i xs ys h1 h2
   split at hr
   ·rename_i hz;cases hr;exact .inr (.inl ⟨p,q',xs,ys,rfl,rfl,h1,h2,hz,q⟩)
   ·cases hr
  ·cases hr
 ·rename_i xs ys
  split at hr
  ·rename_i hz;cases hr;exact .inr (.inr ⟨xs,ys,rfl,rfl,fun z=>hz.1 (by rw[z];rfl),hz.2,q⟩)
  ·cases hr
 ·cases hr
theorem jJu:Op3 X (binaryOp .Add) jJt:=o_addA.imp fun _ _ _ _=>add_F
noncomputable def mulR (G:Gp):T->T->Option Res
 | .int i,.int j=>some (.val (.int (i*j)))
 | .ref p,.int n=>match G p with
  | some (.lst xs)=>if n.toNat * xs.length<=sizeLine/\n<2^62/\ -(2^62)<n then some (.newL (List.replicate n.toNat xs).flatten) else none
  | _=>none
 | _,_=>none
def mulC:T->T->Prop
 | .int i,.int j=>L2.CMul i j
 | _,_=>True
def jVh:R3:=fun x y G Q=>∃r,mulR G x y=some r/\mulC x y/\fin3 r G Q
theorem mul_F (h:jVh x y G Q):rMulA x y G Q:=by
 obtain⟨r,hr,c,q⟩:=h
 unfold mulR at hr
 split at hr
 ·cases hr;exact .inl ⟨_,_,rfl,rfl,c,q⟩
 ·rename_i p n
  split at hr
  ·rename_i xs h1
   split at hr
   ·rename_i hz;cases hr;exact .inr ⟨p,xs,n,rfl,rfl,h1,hz.1,hz.2.1,hz.2.2,q⟩
   ·cases hr
  ·cases hr
 ·cases hr
theorem jUg:Op3 X (binaryOp .Mult) jVh:=o_mulA.imp fun _ _ _ _=>mul_F
def ixR (G:Gp)(x y:T):Option T:=match seqT G x with
 | some xs=>match y with
  | .int i=>L2.atI xs i
  | _=>none
 | none=>match dAt G x y with
  | some o=>o
  | none=>none
def rIxF:R3:=fun x y G Q=>∃t,ixR G x y=some t/\Q t G
theorem ix_F' (h:rIxF x y G Q):rIxA x y G Q:=by
 obtain⟨t,ht,q⟩:=h
 unfold ixR at ht
 split at ht
 ·rename_i xs hx
  split at ht
  ·rename_i i;exact .inl ⟨xs,i,t,hx,rfl,ht,q⟩
  ·cases ht
 ·split at ht
  ·rename_i o ho;subst ht;exact .inr ⟨t,ho,q⟩
  ·cases ht
theorem ix_F (hu:X.A.units+20<cLine):Ix3 X rIxF:=(qZ6 hu).imp fun _ _ _ _=>ix_F'
noncomputable def setR (G:Gp)(o i v:T):Option Gp:=match o with
 | .ref p=>match G p with
  | some (.lst xs)=>match i with
   | .int k=>match L2.ixN xs.length k with
    | some j=>some (gup G p (.lst (xs.set j v)))
    | none=>none
   | _=>none
  | some (.dct kvs)=>match i with
   | .tup ys=>match jQw ys with
    | some ks=>if kvs.length<sizeLine then some (gup G p (.dct (putT kvs ks v))) else none
    | none=>none
   | _=>none
  | some (.dck kvs)=>match kKm i with
   | some k=>if kvs.length<sizeLine then some (gup G p (.dck (putT kvs k v))) else none
   | none=>none
  | some (.fdc _)=>none
  | some (.ins _ _)=>none
  | none=>none
 | _=>none
def jUu:T->T->T->Gp->(Gp->Prop)->Prop:=fun o i v G Q=>∃G',setR G o i v=some G'/\Q G'
theorem set_F' {o i v:T}{Q:Gp->Prop}(h:jUu o i v G Q):rSetA o i v G Q:=by
 obtain⟨G',hr,q⟩:=h
 unfold setR at hr
 split at hr
 ·rename_i p
  split at hr
  ·rename_i xs h1
   split at hr
   ·rename_i k
    split at hr
    ·rename_i j hj;cases hr;exact .inl ⟨p,xs,k,j,rfl,rfl,h1,hj,q⟩
    ·cases hr
   ·cases hr
  ·rename_i kvs h1
   split at hr
   ·rename_i ys
    split at hr
    ·rename_i ks hk
     split at hr
     ·rename_i hz;cases hr;exact .inr (.inl ⟨p,ys,ks,kvs,rfl,rfl,hk,h1,hz,q⟩)
     ·cases hr
    ·cases hr
   ·cases hr
  ·rename_i kvs h1
   split at hr
   ·rename_i k hk
    split at hr
    ·rename_i hz;cases hr;exact .inr (.inr ⟨p,k,kvs,rfl,hk,h1,hz,q⟩)
    ·cases hr
   ·cases hr
  ·cases hr
  ·cases hr
  ·cases hr
 ·cases hr
theorem s_F (hu:X.A.units+20<cLine):Set3 X jUu:=(s_any hu).imp fun _ _ _ _ _=>set_F'
noncomputable def rLeF:R3:=fun x y G Q=>∃b,(match x,y with
 | .int i,.int j=>some (decide (i<=j))
 | .tup [.int a,.int b],.tup [.int c,.int d]=>some (HT.lexLe [a,b] [c,d])
 | _,_=>none)=some b/\Q (.bl b) G
theorem le_F' (h:rLeF x y G Q):rLeA x y G Q:=by
 obtain⟨b,hb,q⟩:=h
 split at hb
 ·cases hb;exact .inl ⟨_,_,rfl,rfl,q⟩
 ·cases hb;exact .inr ⟨_,_,rfl,rfl,q⟩
 ·cases hb
theorem qK8 (hu:X.A.units+20<cLine):Op3 X (compareOp .LtE) rLeF:=(o_leA hu).imp fun _ _ _ _=>le_F'
noncomputable def inR (G:Gp)(x y:T):Option Bool:=match seqT G y with
 | some xs=>if jYl x=true/\xs.all jYl=true then some (inT x xs) else none
 | none=>match dAt G y x with
  | some o=>some o.isSome
  | none=>none
def kQu:R3:=fun x y G Q=>∃b,inR G x y=some b/\Q (.bl b) G
def jQo:R3:=fun x y G Q=>∃b,inR G x y=some b/\Q (.bl (!b)) G
theorem in_F' (h:kQu x y G Q):rInL x y G Q:=by
 obtain⟨b,hb,q⟩:=h
 unfold inR at hb
 split at hb
 ·rename_i xs hx
  split at hb
  ·rename_i hc;cases hb;exact .inl ⟨xs,hx,hc.1,hc.2,q⟩
  ·cases hb
 ·split at hb
  ·rename_i o ho;cases hb;exact .inr ⟨o,ho,q⟩
  ·cases hb
theorem qVv (h:jQo x y G Q):qKt x y G Q:=by
 obtain⟨b,hb,q⟩:=h
 unfold inR at hb
 split at hb
 ·rename_i xs hx
  split at hb
  ·rename_i hc;cases hb;exact .inl ⟨xs,hx,hc.1,hc.2,q⟩
  ·cases hb
 ·split at hb
  ·rename_i o ho;cases hb;exact .inr ⟨o,ho,q⟩
  ·cases hb
theorem qK9 (hu:X.A.units+20<cLine):Op3 X (compareOp .In) kQu:=(o_in hu).imp fun _ _ _ _=>in_F'
theorem jYe (hu:X.A.units+20<cLine):Op3 X (compareOp .NotIn) jQo:=(qZq hu).imp fun _ _ _ _=>qVv
noncomputable def slR (G:Gp)(x:T)(lo hi:Option Int):Option Res:=match x with
 | .tup xs=>some (.val (.tup (cutT xs lo hi)))
 | .scr xs=>some (.newL (cutT xs lo hi))
 | .ref p=>match G p with
  | some (.lst xs)=>some (.newL (cutT xs lo hi))
  | _=>none
 | _=>none
def rSlF:T->Option Int->Option Int->Gp->VK3->Prop:=fun x lo hi G Q=>∃r,slR G x lo hi=some r/\fin3 r G Q
theorem sl_F' {lo hi:Option Int}(h:rSlF x lo hi G Q):rSlA x lo hi G Q:=by
 obtain⟨r,hr,q⟩:=h
 unfold slR at hr
 split at hr
 ·cases hr;exact .inr ⟨_,rfl,q⟩
 ·cases hr;exact .inl ⟨_,rfl,q⟩
 ·split at hr
  ·rename_i xs h1;cases hr;exact .inl ⟨xs,by simp only[jUx,h1,asL],q⟩
  ·cases hr
 ·cases hr
theorem sl_F:Sl3 X rSlF:=sl_any.imp fun _ _ _ _ _=>sl_F'
end L3
namespace L2
open PySem PySem.Spec PyProof.Rows
noncomputable def Its (lo c:Int)(n:Nat):It:=⟨fun i _=>i<n,fun i H x H'=>H'=H/\x= .int (lo+i*c),fun i _=>n<=i⟩
variable {tg:Expr}
theorem kV0 {P:Program}{w:World}{K:PySem.W.Frag}(it:Addr)(lo c:Int)(n:Nat):Turn P w K tg (Its lo c n) [it] it (fun i h=>IsRangeIter h it (lo+(i:Nat)*c) ((n:Int)-(i:Nat)) c) where
 mem:=by simp
 obj:=fun i h st b hb=>by
  have e:b=it:=by simpa using hb
  subst e
  exact⟨_,st,fun v z=>by
   have z':Data.fields _=Data.cell v:=z
   cases z'⟩
 keep:=fun i h h' st k=>k it (by simp) _ st
 item:=by
  intro X hP hw hK hc i pins s σ H E I hf st hg
  subst hP hw hK
  obtain⟨f0,f1,f2,f3,f4,f5⟩:=hf it (by simp)
  have W:=Walks.range (prog:=X.prog) (w:=X.w) (I.ok.hd hc) it lo c n
  refine W.item i s _ _ hg st fun v h' tk hv st' kk=> ?_
  obtain⟨t,rfl⟩:=hv
  have I1:Inv X pins σ H {s with heap:=h',toks:=tk}:=I.turned (fun b o hb e=>kk b o (by simpa using hb) e) f0 f1 f3 f4 f5
  exact⟨_,rfl,qQx (s:={s with heap:=h',toks:=tk}) (n:="range_iterator") st' rfl rfl (by decide) ⟨.int (lo+i*c),H,I1,⟨t,rfl⟩,⟨rfl,rfl⟩,st',fun b hb=>(hf b hb).1⟩⟩
 done:=by
  intro X hP hw hK hc i pins s σ H E I hf st hg
  subst hP hw hK
  obtain⟨f0,f1,f2,f3,f4,f5⟩:=hf it (by simp)
  exact wpAny_pyNext_range_end (I.ok.hd hc) st (by have:n<=i:=hg;omega) fun h' eb=>⟨rfl,I.turned (t':=s.toks) (fun b o hb e=>eb b o hb e) f0 f1 f3 f4 f5⟩
 self:=fun _ _ _ _ _ st h=>wpAny_pyIter_rangeiter st h
section
variable {X:Cx}
theorem qKq {pins:List (Addr×Obj)}{σ:St}{H:Hp}{s:Shared}{R:It->Hp->Prop}{E:Value->Shared->Prop}{lo hi c:Int}{t u v:Tok}{tk:Nat}(I:Inv X pins σ H s)(hsm:Builtin.Range.small lo hi c=true)(q:R (Its lo c (Builtin.Range.rangeSize lo hi c).toNat) H):wpAny (model X.prog X.w) X.A (pyIter (.ref s.heap.objs.size)) (PIE X pins σ tg R) E {s with heap:=s.heap.push {cls:= .type "range",data:= .fields #[.int lo t,.int hi u,.int c v]},toks:=tk}:=by
 refine wpAny_pyIter_range (IsRange.new ..) hsm ?_
 have I1:Inv X pins σ H {s with heap:=s.heap.push {cls:= .type "range",data:= .fields #[.int lo t,.int hi u,.int c v]},toks:=tk}:=I.kept fun b o e=>lJu _ e
 refine⟨(s.heap.push {cls:= .type "range",data:= .fields #[.int lo t,.int hi u,.int c v]}).objs.size,[(s.heap.push {cls:= .type "range",data:= .fields #[.int lo t,.int hi u,.int c v]}).objs.size],_,_,H,rfl,
  I1.kept (t':=tk) fun b o e=>lJu _ e,kV0 _ lo c (Builtin.Range.rangeSize lo hi c).toNat,?_,fun b hb=> ?_,q⟩
 ·show IsRangeIter _ _ (lo+((0:Nat):Int)*c) ((((Builtin.Range.rangeSize lo hi c).toNat:Nat):Int)-((0:Nat):Int)) c
  rw[<-rangeSize_toNat,show lo+((0:Nat):Int)*c=lo by simp,show Builtin.Range.rangeSize lo hi c-((0:Nat):Int)=Builtin.Range.rangeSize lo hi c by simp]
  exact lJ8 _ rfl
 ·have e:b=(s.heap.push {cls:= .type "range",data:= .fields #[.int lo t,.int hi u,.int c v]}).objs.size:=by simpa using hb
  subst e
  exact I1.fpOk (lJj _) (I1.hok.fresh (lJj _))
end
end L2
namespace L3
open PySem PySem.Spec PyProof.Rows L2
noncomputable def rngS (lo c:Int)(n:Nat):List T:=(List.range n).map fun (k:Nat)=>T.int (lo+k*c)
noncomputable def qXe (ta:TA3):TI3:=fun τ G R=>ta τ G fun vs G1=>∃i j c:Int,vs=[.int i,.int j,.int c]/\(c≠0/\c.natAbs<1073741824/\Builtin.Range.small i j c=true)/\R (rngS i c (Builtin.Range.rangeSize i j c).toNat) (fun _=>True) G1
variable {K:PySem.W.Frag}
theorem qJi {H:Hp}(lo c:Int)(n:Nat):uJ8 K H (Its lo c n) (rngS lo c n) fun _=>True:=by
 intro i H' G e g _
 have hl:(rngS lo c n).length=n:=by simp[rngS]
 refine⟨fun h=>by rw[hl] at h;exact h,fun h=>by rw[hl] at h;exact h,fun hi x H2 ⟨eH,ex⟩=> ?_⟩
 rw[hl] at hi
 subst eH;subst ex
 exact⟨.refl _,g,.int (lo+i*c),by simp[rngS,hi],rfl⟩
variable {X:Cx}{pos p:Pos}{a b:Expr}{ta:TA3}
theorem qXc {tg:Expr}{c:Expr}(hg:Gl X "range")(hm:X.mg "range"=none)(ha:PA3 X [a,b,c] ta)(hs:starEach [a,b,c] X.env=[(false,eval a X.env),(false,eval b X.env),(false,eval c X.env)]:=by rfl)(hs2:starEach [b,c] X.env=[(false,eval b X.env),(false,eval c X.env)]:=by rfl):
  PI3 X tg (.Call (.Name "range" p) [a,b,c] [] pos) (qXe ta):=by
 intro pins s τ G H R I h
 obtain⟨σ,I0,hs0,hg0⟩:=id I
 refine Call_ (jV3 I0 hg hm boot_range (lQ8 (thn (ha pos pins s τ G H _ I h) fun us s1 w_=>w_.el fun xs G1 H1 e1 i_ r_ q1=>i_.el fun σ I1 hs1 hg1=>r_.el fun as ras rvs=> ?_) (by rw[hs,hs2]) (by rw[hs2];rfl)))
 obtain⟨i,j,k,e,⟨q1,q2,q3⟩,q⟩:=q1
 subst e
 obtain⟨v,as1,rfl,rv,ras1⟩:=ras
 obtain⟨w,z,rfl,rw',rz⟩:=kKd ras1
 cases (show v= .int i from rv);cases (show w= .int j from rw');cases (show z= .int k from rz)
 cases rvs with
 | cons ru rvs=>
  obtain⟨u',u'',rfl,ru',ru''⟩:=Vals.two rvs
  obtain⟨t,rfl⟩:=ru
  obtain⟨t',rfl⟩:=ru'
  obtain⟨t'',rfl⟩:=ru''
  refine call_range_3 q1 (thn (qKq (tg:=tg) (R:=fun J H'=>J=Its i k (Builtin.Range.rangeSize i j k).toNat/\H'=H1) I1 q3 ⟨rfl,rfl⟩) fun itv s2 z=> ?_) (Or.inl (PyProof.noPylong_small q2))
  obtain⟨it,fp,tn,J,H',ei,I2,T0,st,fk,eJ,eH⟩:=z
  subst eJ;subst eH
  exact⟨it,fp,tn,_,rngS i k (Builtin.Range.rangeSize i j k).toNat,fun _=>True,G1,H',ei,e1,⟨σ,I2,hs1,hg1⟩,T0,st,fk,qJi i k _,q⟩
def Off (cs:List Addr)(g g':Heap):Prop:=∀c,c∉cs->∀o,g.get? c=some o->g'.get? c=some o
variable {cs:List Addr}{g g':Heap}
theorem Off.then {g'':Heap}(p:Off cs g g')(q:Off cs g' g''):Off cs g g'':=fun c n o e=>q c n o (p c n o e)
variable {c:Addr}
theorem Off.ext (h:Heap.ExtBut c g g')(m:c∈cs):Off cs g g':=fun b n o e=>h b o (fun q=>n (q▸m)) e
theorem Off.one (h:Heap.SameBut c g g')(m:c∈cs):Off cs g g':= .ext h.extBut m
theorem Off.new (cs:List Addr)(g:Heap)(o:Obj):Off cs g (g.push o):=fun _ _ _ e=>lJu _ e
theorem Off.at (p:Off cs g g'){o:Obj}(n:c∉cs)(e:g.get? c=some o):g'.get? c=some o:=p c n o e
def kJ8 (cs:List Addr)(S:Heap->Prop):Prop:=∀g g',Off cs g g'->S g->S g'
def Draw (P:Program)(w:World)(A:Around)(i:Addr)(r:Option Value)(S S':Heap->Prop):Prop:=
 ∀(s:Shared) (Q E:Value->Shared->Prop),S s.heap->
  (∀x g,r=some x->S' g->Heap.SameBut i s.heap g->Q x {s with heap:=g})->
  (∀g e o,r=none->Heap.ExtBut i s.heap g->g.get? e=some o->o.cls= .type "StopIteration"->E (.ref e) {s with heap:=g})->
  wpAny (model P w) A (Builtin.SmallTypes.nextOf (.ref i)) Q E s
def OnTup (i t:Addr)(k:Nat)(xs:Array Value)(h:Heap):Prop:=h.IsTupleIter i t k/\h.IsTuple t xs
variable {i:Addr}{xs:Array Value}
theorem OnTup.still {t:Addr}{k:Nat}(hi:i∉cs)(ht:t∉cs):kJ8 cs (OnTup i t k xs):=
 fun _ _ p ⟨⟨o,e,c⟩,⟨q,e',c'⟩⟩=>⟨⟨o,p.at hi e,c⟩,⟨q,p.at ht e',c'⟩⟩
variable {P:Program}{w:World}{A:Around}
theorem jU1 {t:Addr}{k:Nat}(hh:A.handled=none)(ne:t≠i):Draw P w A i xs[k]? (OnTup i t k xs) (OnTup i t (k+1) xs):=by
 rintro s Q E ⟨⟨o,ho,hc,hd⟩,q,hq,hqc,n,hn⟩ item stop
 have ty:s.TypeIs (.ref i) "tuple_iterator":=⟨o,ho,hc⟩
 refine lJc (lVl (name:=Str.ofString "__next__") ty F.slot_tuple_iterator_next (lQ3 F.slot_tuple_iterator_next ty F.entry_tuple_iterator_next ?_ (F.args_tuple_iterator_next_1 _)))
 refine (show wpAny _ _ (field (.ref i) 0 >>= _) _ _ s from lJc (lQ1 ho hd (x:= .ref t) rfl ?_))
 refine (show wpAny _ _ (if (Value.ref t == Value.none)=true then _ else field (.ref i) 1 >>= _) _ _ s from ?_)
 rw[lJa (by exact lJp)]
 refine lJc (lQ1 ho hd (x:= .int k 0) rfl (show wpAny _ _ (seqItems? (.ref t) >>= _) _ _ s from lJc (lXf hq hn ?_)))
 cases hx:xs[k]? with
 | some x=>
  simp only[hx,lXk]
  have up:OnTup i t (k+1) xs (s.heap.update i (Obj.mapFields (·.setIfInBounds 1 (rawInt ((k:Int)+1))))):=by
   refine⟨⟨_,lX2 _ ho (Obj.isFreed_of_fields (Obj.data_mapFields hd _)),(Obj.cls_mapFields ..).trans hc,?_⟩,q,(lVh ..).extBut t q ne hq,hqc,n,hn⟩
   rw[Obj.data_mapFields hd];simp[rawInt]
  exact lJc (wpAny_setField ho hd (by simp) (lJf ⟨x,rfl,lJf (item x _ hx up (lVh ..))⟩))
 | none=>
  simp only[hx,lXk]
  refine lJc (lK3 (lJc (wpAny_setField ho hd (by simp) (show wpAny _ _ (newExc (.type "StopIteration") [] >>= _) _ _ _ from lJc ?_))))
  simp only[newExc,newTuple,raiseNew]
  refine lJc (lK8 (lJc (m:=firstArgMember _ _) (wpAny_of_eq (a:=Value.none) (by first | rfl | (simp only[firstArgMember];rfl)) (lK8 ?_ (by size_fits)))) (by size_fits))
  refine lJc (wpAny_handled ?_);rw[show A.in1.handled=none from hh]
  exact lJc (lJf (wpAny_throw (stop _ _ _ hx (((lVh ..).extBut.push _).push _) (lJ8 _ rfl) rfl)))
structure ZipAt (z TI TO i j:Addr):Prop where
 nd:[z,TI,TO,i,j].Nodup
variable {z j:Addr}{r1 r2:Option Value}{S S' U U':Heap->Prop}{s:Shared}{Q E:Value->Shared->Prop}
theorem qU3 {TI TO:Addr}{a b:Value}(D1:Draw P w A i r1 S S')(D2:Draw P w A j r2 U U')(nd:ZipAt z TI TO i j)(s1:kJ8 [z,TO,j] S)(s1':kJ8 [z,TO,j] S')(s2:kJ8 [z,TO,i] U)(s2':kJ8 [z,TO,i] U')(hz:IsZip s.heap z TI TO .none)(hTI:IsPair s.heap TI (.ref i) (.ref j))(hTO:IsPair s.heap TO a b)(h1:S s.heap)(h2:U s.heap)(item:∀x y g,r1=some x->r2=some y->IsZip g z TI TO (rawInt s.heap.objs.size)->IsPair g TO x y->S' g->U' g->IsPair g s.heap.objs.size x y->Off [z,TO,i,j] s.heap g->Q (.ref s.heap.objs.size) {s with heap:=g})(stop:∀g e o,(r1=none\/r2=none)->Off [z,TO,i,j] s.heap g->g.get? e=some o->o.cls= .type "StopIteration"->E (.ref e) {s with heap:=g}):
  wpAny (model P w) A (Builtin.«zip.__next__» ⟨[.ref z],[]⟩) (fun f s'=>∃v,f= .done (.ret v)/\Q v s') E s:=by
 have ap:=nd.nd
 simp only[lQb,lJy,lKi,lK9,not_or] at ap
 obtain⟨⟨zTI,zTO,zi,zj⟩,⟨TITO,TIi,TIj⟩,⟨TOi,TOj⟩,ij,_⟩:=ap
 refine (show wpAny _ _ (field (.ref z) 2 >>= _) _ _ _ from lJc (lQ1 hz rfl (x:= .bool false) rfl (show wpAny _ _ (field (.ref z) 3 >>= _) _ _ _ from lJc (lQ1 hz rfl (x:= .ref TI) rfl (lJc (lXf hTI rfl ?_))))))
 refine (show wpAny _ _ (Builtin.SmallTypes.ownedTupleIsFree (.ref z) >>= _) _ _ _ from lJc ?_)
 unfold Builtin.SmallTypes.ownedTupleIsFree;refine lJc (lQ1 hz rfl (x:= .none) rfl (lJf ?_))
 rw[lJb rfl]
 refine lJc (lK3 (lJc (lQ1 hz rfl (x:= .ref TO) rfl (lJc (lXx hz (by simp) fun g1 hz1 b1=>lJc ?_)))))
 replace hz1:IsZip g1 z TI TO .ellipsis:=hz1
 have o1:Off [z,TO,i,j] s.heap g1:= .one b1 (by simp)
 simp only[List.forIn_cons,List.forIn_nil,List.zipIdx_cons,List.zipIdx_nil]
 refine lJc (lJc (wpAny_onRaise (show wpAny _ _ (Builtin.SmallTypes.nextOf (.ref i) >>= _) _ _ _ from lJc (D1 _ _ _ (s1 _ _ (.one b1 (by simp)) h1) (fun x g2 ex S2 b2=>lJf ?_) fun g2 e o en b2 he hc=> ?_))))
 ·have o2:Off [z,TO,i,j] s.heap g2:=o1.then (.one b2 (by simp))
  have hz2:IsZip g2 z TI TO .ellipsis:=b2.extBut _ _ zi hz1
  have hp2:IsPair g2 TO a b:=b2.extBut _ _ TOi (b1.extBut _ _ (Ne.symm zTO) hTO)
  refine lJc (lXf hp2 rfl (lJc (wpAny_updateSeq_pair hp2 fun g3 hp3 b3=>lJc (wpAny_letGo (lJf ?_)))))
  replace hp3:IsPair g3 TO x b:=hp3
  have o3:Off [z,TO,i,j] s.heap g3:=o2.then (.one b3 (by simp))
  have hz3:IsZip g3 z TI TO .ellipsis:=b3.extBut _ _ zTO hz2
  have U3:U g3:=s2 _ _ (((Off.one b1 (by simp)).then (.one b2 (by simp))).then (.one b3 (by simp))) h2
  refine lJc (lJc (wpAny_onRaise (show wpAny _ _ (Builtin.SmallTypes.nextOf (.ref j) >>= _) _ _ _ from lJc (D2 _ _ _ U3 (fun y g4 ey U4 b4=>lJf ?_) fun g4 e o en b4 he hc=> ?_))))
  ·have hp4:IsPair g4 TO x b:=b4.extBut _ _ TOj hp3
   refine lJc (lXf hp4 rfl (lJc (wpAny_updateSeq_pair hp4 fun g5 hp5 b5=>lJc (wpAny_letGo (lJf (lJf ?_))))))
   replace hp5:IsPair g5 TO x y:=hp5
   have o5:Off [z,TO,i,j] s.heap g5:=(o3.then (.one b4 (by simp))).then (.one b5 (by simp))
   have hz5:IsZip g5 z TI TO .ellipsis:=b5.extBut _ _ zTO (b4.extBut _ _ zj hz3)
   have S5:S' g5:=s1' _ _ (((Off.one b3 (by simp)).then (.one b4 (by simp))).then (.one b5 (by simp))) S2
   have U5:U' g5:=s2' _ _ (.one b5 (by simp)) U4
   have n5:g5.objs.size=s.heap.objs.size:=by rw[b5.1,b4.1,b3.1,b2.1,b1.1]
   refine lJc (lXf hp5 rfl (lJc (wpAny_newTuple ?_)))
   refine (show wpAny _ _ (Builtin.SmallTypes.ownedTupleHandOut (.ref z) (.ref g5.objs.size) >>= _) _ _ _ from lJc ?_)
   unfold Builtin.SmallTypes.ownedTupleHandOut;refine lJc (lXx (show IsZip (g5.push {cls:= .type "tuple",data:= .seq #[x,y]}) z TI TO .ellipsis from lJu _ hz5) (by simp) fun g6 hz6 b6=> ?_)
   refine lXx hz6 (by simp) fun g7 hz7 b7=>lJf ⟨_,rfl,?_⟩
   have o7:Off [z] g5 g7:=((Off.new _ _ _).then (.one b6 (by simp))).then (.one b7 (by simp))
   have zl:z<g5.objs.size:=lJl hz5
   have new:IsPair g7 g5.objs.size x y:=b7.extBut _ _ (lVe zl) (b6.extBut _ _ (lVe zl) (lJ8 _ rfl))
   replace hz7:IsZip g7 z TI TO (rawInt g5.objs.size):=hz7
   show Q (.ref g5.objs.size) _
   rw[n5] at hz7 new ⊢
   have w1:∀ {cs:List Addr},z∈cs->Off cs g5 g7:=fun m c n=>o7 c (by simp only[lJn];exact fun q=>n (q▸m))
   exact item x y g7 ex ey hz7 (o7.at (by simpa using Ne.symm zTO) hp5) (s1' _ _ (w1 (by simp)) S5) (s2' _ _ (w1 (by simp)) U5) new (o5.then (w1 (by simp)))
  ·have hz4:IsZip g4 z TI TO .ellipsis:=b4 _ _ zj hz3
   have ez:e≠z:=fun q=>by subst q;rw[hz4] at he;cases he;simp at hc
   exact lXx hz4 (by simp) fun g5 _ b5=>stop g5 e o (.inr en) ((o3.then (.ext b4 (by simp))).then (.one b5 (by simp))) (b5.extBut _ _ ez he) hc
 ·have hz2:IsZip g2 z TI TO .ellipsis:=b2 _ _ zi hz1
  have ez:e≠z:=fun q=>by subst q;rw[hz2] at he;cases he;simp at hc
  exact lXx hz2 (by simp) fun g3 _ b3=>stop g3 e o (.inl en) ((o1.then (.ext b2 (by simp))).then (.one b3 (by simp))) (b3.extBut _ _ ez he) hc
theorem kYb {TI TO:Addr}{a b:Value}{Q:Option Value->Shared->Prop}(D1:Draw P w A.in1 i r1 S S')(D2:Draw P w A.in1 j r2 U U')(nd:ZipAt z TI TO i j)(s1:kJ8 [z,TO,j] S)(s1':kJ8 [z,TO,j] S')(s2:kJ8 [z,TO,i] U)(s2':kJ8 [z,TO,i] U')(hz:IsZip s.heap z TI TO .none)(hTI:IsPair s.heap TI (.ref i) (.ref j))(hTO:IsPair s.heap TO a b)(h1:S s.heap)(h2:U s.heap)(item:∀x y g,r1=some x->r2=some y->IsZip g z TI TO (rawInt s.heap.objs.size)->IsPair g TO x y->S' g->U' g->IsPair g s.heap.objs.size x y->Off [z,TO,i,j] s.heap g->Q (some (.ref s.heap.objs.size)) {s with heap:=g})(stop:∀g,(r1=none\/r2=none)->Off [z,TO,i,j] s.heap g->Q none {s with heap:=g}):wpAny (model P w) A (pyNext (.ref z)) Q E s:=by
 have ty:s.TypeIs (.ref z) "zip":=⟨_,hz,rfl⟩
 refine lJc (wpAny_attempt (lVl (name:=Str.ofString "__next__") ty F.slot_zip_next (lQ3 F.slot_zip_next ty F.entry_zip_next ?_ (F.args_zip_next_1 _))))
 refine qU3 D1 D2 nd s1 s1' s2 s2' hz hTI hTO h1 h2 (fun x y g q1 q2 q3 q4 q5 q6 q7 q8=>lJf (item x y g q1 q2 q3 q4 q5 q6 q7 q8)) fun g e o en f he hc=> ?_
 exact lJc (wpAny_isInstance (T:="StopIteration") (b:=true) ⟨o,he,hc⟩ isSubtype_stop (lJf (stop g en f)))
noncomputable def itOf (t:Addr):Obj:={cls:= .type "tuple_iterator",data:= .fields #[.ref t,.int 0 0]}
noncomputable def jYr (xs:Array Value):Obj:={cls:= .type "tuple",data:= .seq xs}
noncomputable def zips (g:Heap)(t u:Addr):Heap:=
 let g2:=(g.push (itOf t)).push (itOf u)
 let g3:=g2.push (jYr #[.ref g.objs.size,.ref (g.push (itOf t)).objs.size])
 let g4:=g3.push (jYr #[.none,.none])
 g4.push {cls:= .type "zip",data:= .fields #[.none,.bool false,.bool false,.ref g2.objs.size,.ref g3.objs.size]}
theorem qYx (t u:Addr)(xs ys:Array Value):
  Meets (Builtin.«zip.__new__» ⟨[.type "zip",.ref t,.ref u],[]⟩) fun _ R s=>s.heap.IsTuple t xs/\s.heap.IsTuple u ys/\R (.ok (.ret (.ref (((((s.heap.push (itOf t)).push (itOf u)).push (jYr #[.ref s.heap.objs.size,.ref (s.heap.push (itOf t)).objs.size])).push (jYr #[.none,.none])).objs.size)))) {s with heap:=zips s.heap t u}:=by
 refine .of_wp fun P w A R s ⟨ht,hu,h⟩=> ?_
 obtain⟨g,a1,a2,a3,a4⟩:=s
 have sb:=sub_zip
 have m1:Heap.IsTuple (Shared.heap ⟨g,a1,a2,a3,a4⟩) t xs:=ht
 have m2:Heap.IsTuple (Shared.heap ⟨g.push {cls:= .type "tuple_iterator",data:= .fields #[.ref t,.int 0 0]},a1,a2,a3,a4⟩) u ys:=hu.push _
 wp_walk using wpAny_pyIter_tuple m1,wpAny_pyIter_tuple m2
 exact⟨_,rfl,h⟩
theorem qU2 {t u:Addr}{ys:Array Value}(ht:s.heap.IsTuple t xs)(hu:s.heap.IsTuple u ys)(h:∀g n,n=s.heap.objs.size->IsZip g (n+4) (n+2) (n+3) .none->IsPair g (n+2) (.ref n) (.ref (n+1))->IsPair g (n+3) .none .none->OnTup n t 0 xs g->OnTup (n+1) u 0 ys g->
   (∀c o,s.heap.get? c=some o->g.get? c=some o)->Q (.ref (n+4)) {s with heap:=g}):wpAny (model P w) A (call (.type "zip") [.ref t,.ref u]) Q E s:=by
 refine callType_new F.called_zip (by decide) (F.typeCall_zip_2 _ _) (F.newCall_zip_2 _ _) (fun obj=>F.args_object_init_3 obj _ _) F.entry_zip_new (qYx t u xs ys) ⟨ht,hu,?_⟩
 have hn:∀(g:Heap) (o:Obj),(g.push o).objs.size=g.objs.size+1:=fun _ _=>Heap.size_push ..
 have up:∀ {g:Heap} {o q:Obj} {c:Addr},g.get? c=some q->(g.push o).get? c=some q:=fun e=>lJu _ e
 have at':∀(g:Heap) (o:Obj),o.isFreed=false->(g.push o).get? g.objs.size=some o:=fun g o h=>lJ8 _ h
 have kp:∀c o,s.heap.get? c=some o->(zips s.heap t u).get? c=some o:=fun c o e=>up (up (up (up (up e))))
 obtain⟨q,hq,hr⟩:=ht
 obtain⟨q',hq',hr'⟩:=hu
 have c0:(zips s.heap t u).get? s.heap.objs.size=some (itOf t):=up (up (up (up (at' _ _ rfl))))
 have c1:(zips s.heap t u).get? (s.heap.push (itOf t)).objs.size=some (itOf u):=up (up (up (at' _ _ rfl)))
 have c2:=up (g:=((s.heap.push (itOf t)).push (itOf u)).push (jYr #[.ref s.heap.objs.size,.ref (s.heap.push (itOf t)).objs.size])) (o:=jYr #[.none,.none]) (at' ((s.heap.push (itOf t)).push (itOf u)) (jYr #[.ref s.heap.objs.size,.ref (s.heap.push (itOf t)).objs.size]) rfl)
 have c2':(zips s.heap t u).get? ((s.heap.push (itOf t)).push (itOf u)).objs.size=some (jYr #[.ref s.heap.objs.size,.ref (s.heap.push (itOf t)).objs.size]):=up c2
 have c3:(zips s.heap t u).get? (((s.heap.push (itOf t)).push (itOf u)).push (jYr #[.ref s.heap.objs.size,.ref (s.heap.push (itOf t)).objs.size])).objs.size=some (jYr #[.none,.none]):=up (at' _ _ rfl)
 have c4:(zips s.heap t u).get? ((((s.heap.push (itOf t)).push (itOf u)).push (jYr #[.ref s.heap.objs.size,.ref (s.heap.push (itOf t)).objs.size])).push (jYr #[.none,.none])).objs.size=some {cls:= .type "zip",data:= .fields #[.none,.bool false,.bool false,.ref ((s.heap.push (itOf t)).push (itOf u)).objs.size,.ref (((s.heap.push (itOf t)).push (itOf u)).push (jYr #[.ref s.heap.objs.size,.ref (s.heap.push (itOf t)).objs.size])).objs.size]}:=at' _ _ rfl
 show _/\_
 simp only[hn] at c1 c2' c3 c4 ⊢
 exact⟨⟨_,c4,rfl⟩,h _ _ rfl c4 c2' c3 ⟨⟨_,c0,rfl,rfl⟩,q,kp _ _ hq,hr⟩ ⟨⟨_,c1,rfl,rfl⟩,q',kp _ _ hq',hr'⟩ kp⟩
noncomputable def Itz (K:PySem.W.Frag)(a1 a2:Addr):It:=
 ⟨fun i H=>∃xs ys x y,SqT K H a1 xs/\SqT K H a2 ys/\xs[i]? =some x/\ys[i]? =some y,
  fun i H v H'=>∃p x y,H p=none/\v= .ref p/\(∀xs,SqT K H a1 xs->xs[i]? =some x)/\(∀ys,SqT K H a2 ys->ys[i]? =some y)/\H'=upd H p (.tup [x,y]),
  fun i H=>∃xs ys,SqT K H a1 xs/\SqT K H a2 ys/\(xs.length<=i\/ys.length<=i)⟩
variable {i1 i2 a1 a2:Addr}
theorem qX6 {TI TO:Addr}(D:ZipApart z TI TO i1 i2 a1 a2):ZipAt z TI TO i1 i2:=
 ⟨by simp[D.TIz.symm,D.TOz.symm,D.i1z.symm,D.i2z.symm,D.TITO,D.TIi1,D.TIi2,D.TOi1,D.TOi2,D.i12]⟩
theorem kQf {TI TO:Addr}{k:Nat}(D:ZipApart z TI TO i1 i2 a1 a2):kJ8 [z,TO,i2] (OnTup i1 a1 k xs):=
 OnTup.still (by simp[D.i1z,D.TOi1.symm,D.i12]) (by simp[D.l1z,D.l1TO,D.l1i2])
theorem kQe {TI TO:Addr}{k:Nat}(D:ZipApart z TI TO i1 i2 a1 a2):kJ8 [z,TO,i1] (OnTup i2 a2 k xs):=
 OnTup.still (by simp[D.i2z,D.TOi2.symm,D.i12.symm]) (by simp[D.l2z,D.l2TO,D.l2i1])
variable {elts:List Expr}
theorem qU4 {k:Nat}(z TI TO i1 i2 a1 a2:Addr)(D:ZipApart z TI TO i1 i2 a1 a2):
  Turn P w K (.Tuple elts k pos) (Itz K a1 a2) [z,TI,TO,i1,i2] z (fun i h=>IsZip h z TI TO .none/\IsPair h TI (.ref i1) (.ref i2)/\(∃a b,IsPair h TO a b)/\h.IsTupleIter i1 a1 i/\h.IsTupleIter i2 a2 i) where
 mem:=by simp
 obj:=fun i h ⟨hz,hTI,⟨a,b,hTO⟩,h1,h2⟩ c hc=>by
  simp only[lJy,lKi,lK9] at hc
  rcases hc with rfl | rfl | rfl | rfl | rfl
  ·exact⟨_,hz,fun v z=>nomatch (show Data.fields _=Data.cell v from z)⟩
  ·exact⟨_,hTI,fun v z=>nomatch (show Data.seq _ _=Data.cell v from z)⟩
  ·exact⟨_,hTO,fun v z=>nomatch (show Data.seq _ _=Data.cell v from z)⟩
  ·obtain⟨o,e,c,d⟩:=h1;exact⟨o,e,fun v z=>by rw[d] at z;cases z⟩
  ·obtain⟨o,e,c,d⟩:=h2;exact⟨o,e,fun v z=>by rw[d] at z;cases z⟩
 keep:=fun i h h' ⟨hz,hTI,⟨a,b,hTO⟩,h1,h2⟩ kp=>⟨kp z (by simp) _ hz,kp TI (by simp) _ hTI,⟨a,b,kp TO (by simp) _ hTO⟩,h1.at fun o q=>kp i1 (by simp) o q,h2.at fun o q=>kp i2 (by simp) o q⟩
 item:=by
  rintro X hP hw hK hc i pins s σ H E I hf ⟨hz,hTI,⟨a,b,hTO⟩,h1,h2⟩ hg
  subst hP hw hK
  obtain⟨xs,ys,x,y,hq1,hq2,hx,hy⟩:=hg
  obtain⟨its1,rv1,p1,hz1⟩:=I.tuple hq1
  obtain⟨its2,rv2,p2,hz2⟩:=I.tuple hq2
  obtain⟨u1,hu1,ru1⟩:=rv1.get hx
  obtain⟨u2,hu2,ru2⟩:=rv2.get hy
  refine kYb (r1:=its1.toArray[i]?) (r2:=its2.toArray[i]?) (jU1 (I.ok.hd hc) D.l1i1) (jU1 (I.ok.hd hc) D.l2i2) (qX6 D) (kQf D) (kQf D) (kQe D) (kQe D) hz hTI hTO ⟨h1,p1⟩ ⟨h2,p2⟩ (fun x' y' g1 ex ey ho gTO g3 g4 hT hk=> ?_) (fun g en _=> ?_)
  rotate_left
  ·rcases en with e | e
   ·rw[show its1.toArray[i]? =some u1 by simpa using hu1] at e;cases e
   ·rw[show its2.toArray[i]? =some u2 by simpa using hu2] at e;cases e
  obtain rfl:u1=x':=by simpa[hu1] using ex
  obtain rfl:u2=y':=by simpa[hu2] using ey
  refine⟨_,rfl,wpAny_letOwnedTupleGo_zip ho fun g2 gz hs2=> ?_⟩
  have hzl:z<s.heap.objs.size:=lJl hz
  have hp2:∀b o,b∉[z,TI,TO,i1,i2]->s.heap.get? b=some o->g2.get? b=some o:=fun b o hb q=>by
   simp only[lJy,lKi,lK9,not_or] at hb
   exact (hs2.2 b hb.1).trans (hk b (by simp only[lJy,lKi,lK9,not_or];exact⟨hb.1,hb.2.2.1,hb.2.2.2.1,hb.2.2.2.2⟩) o q)
  have hT2:g2.get? s.heap.objs.size=some {cls:= .type "tuple",data:= .seq #[u1,u2]}:=(hs2.2 _ (lVe hzl)).trans hT
  have I2:=jZ7 (t':=s.toks) (h':=g2) (p:=s.heap.objs.size) (vs:=[x,y]) (us:=[u1,u2]) I hp2 hf (lJj _) ⟨_,hT2,rfl,_,rfl,rfl⟩ (.cons ru1 (.cons ru2 .nil)) (by show 2<=sizeLine;decide)
  refine⟨.ref s.heap.objs.size,_,I2,rfl,⟨_,x,y,I.hok.fresh (lJj _),rfl,fun zs hz=>by rw[I.tuple_inj hz hq1];exact hx,fun zs hz=>by rw[I.tuple_inj hz hq2];exact hy,rfl⟩,
   ⟨gz,(hs2.2 _ D.TIz).trans (hk _ (by simp[D.TIz,D.TITO,D.TIi1,D.TIi2]) _ hTI),⟨_,_,(hs2.2 _ D.TOz).trans gTO⟩,g3.1.at fun o q=>(hs2.2 _ D.i1z).trans q,g4.1.at fun o q=>(hs2.2 _ D.i2z).trans q⟩,fun b hb=> ?_⟩
  have hbs:∃o,s.heap.get? b=some o:=by
   have hbq:=hb
   simp only[lJy,lKi,lK9] at hbq
   rcases hbq with rfl | rfl | rfl | rfl | rfl
   ·exact⟨_,hz⟩
   ·exact⟨_,hTI⟩
   ·exact⟨_,hTO⟩
   ·obtain⟨o,q,_⟩:=h1;exact⟨o,q⟩
   ·obtain⟨o,q,_⟩:=h2;exact⟨o,q⟩
  obtain⟨o,q⟩:=hbs
  rw[jKg (lJ4 (lJl q))]
  exact (hf b hb).1
 done:=by
  rintro X hP hw hK hc i pins s σ H E I hf ⟨hz,hTI,⟨a,b,hTO⟩,h1,h2⟩ hg
  subst hP hw hK
  obtain⟨xs,ys,hq1,hq2,hx⟩:=hg
  obtain⟨its1,rv1,p1,hz1⟩:=I.tuple hq1
  obtain⟨its2,rv2,p2,hz2⟩:=I.tuple hq2
  have hl1:=rv1.length
  have hl2:=rv2.length
  refine kYb (r1:=its1.toArray[i]?) (r2:=its2.toArray[i]?) (jU1 (I.ok.hd hc) D.l1i1) (jU1 (I.ok.hd hc) D.l2i2) (qX6 D) (kQf D) (kQf D) (kQe D) (kQe D) hz hTI hTO ⟨h1,p1⟩ ⟨h2,p2⟩ (fun x' y' g1 ex ey _ _ _ _ _ _=> ?_) (fun g1 _ hk=>⟨rfl,kVz (t':=s.toks) (fp:=[z,TI,TO,i1,i2]) I (fun b o hb q=> ?_) hf⟩)
  ·have q1:i<its1.length:=by simpa using (lYg.mp ex).1
   have q2:i<its2.length:=by simpa using (lYg.mp ey).1
   omega
  ·exact hk b (fun m=>hb (by simp only[lJy,lKi,lK9] at m ⊢; rcases m with h | h | h | h<;>simp[h])) o q
 self:=fun _ _ _ _ _ ⟨hz,_⟩ h=>wpAny_pyIter_zip hz h
theorem zapart {n a b:Nat}(ha:a<n)(hb:b<n):ZipApart (n+4) (n+2) (n+3) n (n+1) a b:=by
 constructor<;>(show @Ne Nat _ _;omega)
noncomputable def zipT (xs ys:List T):List T:=(xs.zip ys).map fun p=>T.tup [p.1,p.2]
def iZip (ta:TA3):TI3:=fun τ G R=>ta τ G fun vs G1=>∃xs ys,vs=[.tup xs,.tup ys]/\R (zipT xs ys) (fun _=>True) G1
theorem uJg {k:Nat}{tpos:Pos}(hg:Gl X "zip")(hm:X.mg "zip"=none)(hv:bootBuiltins "zip"=some (.type "zip"))(ha:PA3 X [a,b] ta)(hs:starEach [a,b] X.env=[(false,eval a X.env),(false,eval b X.env)]:=by rfl)(hs2:starEach [b] X.env=[(false,eval b X.env)]:=by rfl):
  PI3 X (.Tuple elts k tpos) (.Call (.Name "zip" p) [a,b] [] pos) (iZip ta):=by
 intro pins s τ G H R I h
 obtain⟨σ0,I0,hs0,hg0⟩:=id I
 refine Call_ (jV3 I0 hg hm hv (lQ8 (thn (ha pos pins s τ G H _ I h) fun us s1 w_=>w_.el fun xs' G1 H1 e1 i_ r_ q1=>i_.el fun σ I1 hs1 hg1=>r_.el fun as ras rvs=> ?_) (by rw[hs,hs2]) (by rw[hs2];rfl)))
 obtain⟨xs,ys,e,q⟩:=q1
 subst e
 obtain⟨v,w,rfl,rv,rw'⟩:=kKd ras
 obtain⟨u,u',rfl,ru,ru'⟩:=rvs.two
 obtain⟨pa,vs,rfl,hq1,r1⟩:=(show ∃p vs,v= .ref p/\H1 p=some (.tup vs)/\Reps X.K H1 xs vs from rv)
 obtain⟨pb,ws,rfl,hq2,r2⟩:=(show ∃p vs,w= .ref p/\H1 p=some (.tup vs)/\Reps X.K H1 ys vs from rw')
 cases ru;cases ru'
 obtain⟨its1,rv1,p1,hz1⟩:=I1.tuple (.of hq1)
 obtain⟨its2,rv2,p2,hz2⟩:=I1.tuple (.of hq2)
 have hal:pa<s1.heap.objs.size:=by obtain⟨o,ho,_⟩:=p1;exact lJl ho
 have hbl:pb<s1.heap.objs.size:=by obtain⟨o,ho,_⟩:=p2;exact lJl ho
 refine qU2 (show s1.heap.IsTuple pa its1.toArray from p1) (show s1.heap.IsTuple pb its2.toArray from p2) fun h1 n hn hz hTI hTO hi1 hi2 hk=> ?_
 subst hn
 have I2:Inv X pins σ H1 {s1 with heap:=h1}:=I1.kept (t':=s1.toks) hk
 refine wpAny_pyIter_zip hz ?_
 have fr:∀c∈[s1.heap.objs.size+4,s1.heap.objs.size+2,s1.heap.objs.size+3,s1.heap.objs.size,s1.heap.objs.size+1],FpOk X pins H1 c:=fun c hc=>by
  simp only[lJy,lKi,lK9] at hc
  have hle:s1.heap.objs.size<=c:=by omega
  exact I1.fpOk hle (I1.hok.fresh hle)
 have D:ZipApart (s1.heap.objs.size+4) (s1.heap.objs.size+2) (s1.heap.objs.size+3) s1.heap.objs.size (s1.heap.objs.size+1) pa pb:=zapart hal hbl
 refine⟨s1.heap.objs.size+4,_,_,_,zipT xs ys,fun _=>True,G1,H1,rfl,e1,⟨σ,I2,hs1,hg1⟩,qU4 _ _ _ _ _ pa pb D,⟨hz,hTI,⟨_,_,hTO⟩,hi1.1,hi2.1⟩,fr,?_,q⟩
 intro i H2 G2 e2 g2 _
 obtain⟨pa',vs',ea,ha',ra'⟩:=(show ∃p vs,V.ref pa= .ref p/\H2 p=some (.tup vs)/\Reps X.K H2 xs vs from Rep.mono e2 _ rv)
 obtain⟨pb',ws',eb,hbq,rb'⟩:=(show ∃p vs,V.ref pb= .ref p/\H2 p=some (.tup vs)/\Reps X.K H2 ys vs from Rep.mono e2 _ rw')
 cases ea;cases eb
 have hl1:=ra'.length
 have hl2:=rb'.length
 have hzl:(zipT xs ys).length=min xs.length ys.length:=by simp[zipT]
 refine⟨fun hi=> ?_,fun hi=>⟨vs',ws',.of ha',.of hbq,by omega⟩,fun hi y H' ⟨pp,x1,x2,hn,ey,hy1,hy2,eH⟩=> ?_⟩
 ·exact⟨vs',ws',vs'[i]'(by omega),ws'[i]'(by omega),.of ha',.of hbq,lJi _,lJi _⟩
 ·subst ey;subst eH
  obtain⟨t1,ht1,rt1⟩:=ra'.get' (hy1 vs' (.of ha'))
  obtain⟨t2,ht2,rt2⟩:=rb'.get' (hy2 ws' (.of hbq))
  have hzi:(zipT xs ys)[i]? =some (.tup [t1,t2]):=by
   unfold zipT
   rw[lJr,show (xs.zip ys)[i]? =some (t1,t2) from lX5.mpr ⟨ht1,ht2⟩];rfl
  exact⟨.upd (.none hn),g2.tupNew hn,_,hzi,Rep.tupNew ⟨_,_,rfl,rt1,_,_,rfl,rt2,rfl⟩ hn⟩
end L3
namespace L3
open PySem
variable {n:Nat}
theorem atN {α:Type}{xs:List α}:L2.atI xs (n:Int)=xs[n]? :=by
 unfold L2.atI L2.ixN
 by_cases h:n<xs.length
 ·simp[h]
 ·simp[h]
theorem at0 {α:Type}{x:α}{xs:List α}:L2.atI (x::xs) 0=some x:=(atN (n:=0)).trans rfl
theorem at1 {α:Type}{x y:α}{xs:List α}:L2.atI (x::y::xs) 1=some y:=(atN (n:=1)).trans rfl
theorem at2 {α:Type}{x y z:α}{xs:List α}:L2.atI (x::y::z::xs) 2=some z:=(atN (n:=2)).trans rfl
variable {i:Int}
theorem atZ {α:Type}{xs:List α}(h:0<=i):L2.atI xs i=xs[i.toNat]? :=by
 obtain⟨n,rfl⟩:=lKj h
 simpa using atN
theorem uJ0 {α:Type}{xs:List α}{y:α}:L2.atI (xs++[y]) (-1)=some y:=by
 unfold L2.atI L2.ixN
 have:¬ (0:Int)<= -1:=by decide
 simp only[this,lKf]
 rw[lJb (by simp;omega)]
 have e:(-1+((xs++[y]).length:Int)).toNat=xs.length:=by simp;omega
 rw[e];simp
theorem kQ4 {k:Nat}(h:k<n):L2.ixN n (k:Int)=some k:=by simp[L2.ixN,h]
theorem ix0:L2.ixN (n+1) 0=some 0:=kQ4 (k:=0) (by omega)
theorem ix1:L2.ixN (n+2) 1=some 1:=kQ4 (k:=1) (by omega)
theorem ix2:L2.ixN (n+3) 2=some 2:=kQ4 (k:=2) (by omega)
theorem ix30:L2.ixN 3 0=some 0:=ix0
theorem ix31:L2.ixN 3 1=some 1:=ix1
theorem ix32:L2.ixN 3 2=some 2:=ix2
theorem ixZ {k:Int}(h0:0<=k)(h:k<n):L2.ixN n k=some k.toNat:=by simp[L2.ixN,h0,h]
variable {G:Gp}{j:Int}
theorem qXx:addR G (.int i) (.int j)=some (.val (.int (i+j))):=rfl
variable {p:Addr}{xs:List T}
theorem jXh {q:Addr}{ys:List T}(h1:G p=some (.lst xs))(h2:G q=some (.lst ys))(hz:xs.length+ys.length<=sizeLine):addR G (.ref p) (.ref q)=some (.newL (xs++ys)):=by simp only[addR,h1,h2,hz,lK1]
theorem qVx:mulR G (.int i) (.int j)=some (.val (.int (i*j))):=rfl
theorem qVz:mulC (.int i) (.int j)=L2.CMul i j:=rfl
theorem qVy:mulC (.ref p) (.int j)=True:=rfl
variable {Q:VK3}
theorem uJk {t:T}:fin3 (.val t) G Q=Q t G:=rfl
theorem jU9:fin3 (.newL xs) G Q=∀p,G p=none->Q (.ref p) (gup G p (.lst xs)):=rfl
theorem qZ7:ixR G (.tup xs) (.int i)=L2.atI xs i:=rfl
theorem qZ8:ixR G (.scr xs) (.int i)=L2.atI xs i:=rfl
theorem jJ6 (h:G p=some (.lst xs)):ixR G (.ref p) (.int i)=L2.atI xs i:=by simp only[ixR,seqT,h,asL]
variable {v:T}
theorem jX5 {k:Int}{j:Nat}(h:G p=some (.lst xs))(hj:L2.ixN xs.length k=some j):setR G (.ref p) (.int k) v=some (gup G p (.lst (xs.set j v))):=by simp only[setR,h,hj]
theorem qVd:seqT G (.tup xs)=some xs:=rfl
theorem jJm (h:G p=some (.lst xs)):seqT G (.ref p)=some xs:=by simp only[seqT,h,asL]
theorem qJ9 {k:Int}(h:G p=some (.lst xs)):setR G (.ref p) (.int k) v=(L2.ixN xs.length k).map fun j=>gup G p (.lst (xs.set j v)):=by
 cases e:L2.ixN xs.length k with
 | none=>simp only[setR,h,e,Option.map_none]
 | some j=>simp only[setR,h,e,lQe]
theorem qVc {k:Int}:setR (gup G p (.lst xs)) (.ref p) (.int k) v=(L2.ixN xs.length k).map fun j=>gup G p (.lst (xs.set j v)):=by
 rw[qJ9 jJh];simp only[qQw]
theorem qZ9:ixR (gup G p (.lst xs)) (.ref p) (.int i)=L2.atI xs i:=jJ6 jJh
theorem qVe:seqT (gup G p (.lst xs)) (.ref p)=some xs:=jJm jJh
def uJ9 (g:TG3)(tb:TS3)(D:Ends3)(τ:St3)(xs:List T)(stay:Gp->Prop)(G:Gp):Prop:=∃P:Nat->St3->Gp->Prop,P 0 τ G/\(∀i τ G,i<=xs.length->P i τ G->stay G)/\
 (∀i x τ G,xs[i]? =some x->P i τ G->g x τ G fun τ2 G2=>tb {D with nx:=P (i+1),ct:=P (i+1),bk:=D.nx} τ2 G2)/\∀ τ G,P xs.length τ G->D.nx τ G
variable {wi:TI3}{g:TG3}{τ:St3}
theorem jJ2 {tb:TS3}{D:Ends3}:tFor wi g tb D τ G=wi τ G fun xs stay G1=>uJ9 g tb D τ xs stay G1:=rfl
def kK7 (mask:List Bool)(g:TG3)(tif:TT3)(te:TE3)(τ:St3)(xs:List T)(stay:Gp->Prop)(G:Gp)(Q:VK3):Prop:=kV2 mask g tif te τ xs stay G Q
variable {mask:List Bool}{tif:TT3}{te:TE3}
theorem qU7:jKp mask wi g tif te τ G Q=wi τ G fun xs stay G1=>kK7 mask g tif te τ xs stay G1 Q:=rfl
def Sub (G G':Gp):Prop:=∀c o,G c=some o->G' c=some o
theorem Sub.refl (G:Gp):Sub G G:=fun _ _ h=>h
theorem Sub.trans {G1 G2:Gp}(h:Sub G G1)(h':Sub G1 G2):Sub G G2:=fun c o e=>h' c o (h c o e)
variable {o:GO}
theorem Sub.new (hp:G p=none):Sub G (gup G p o):=fun c u e=>by rw[jJs];exact e;rintro rfl;rw[hp] at e;cases e
variable {G':Gp}
theorem Sub.over (h:Sub G G')(hp:G p=none):Sub G (gup G' p o):=fun c u e=>by rw[jJs];exact h c u e;rintro rfl;rw[hp] at e;cases e
theorem Sub.none (h:Sub G G')(hp:G' p=none):G p=none:=by
 cases e:G p with
 | none=>rfl
 | some o=>rw[h p o e] at hp;cases hp
variable {a:Addr}
theorem jK7 (h:gup G a o p=none):p≠a/\G p=none:=by
 by_cases e:p=a
 ·subst e;rw[jJh] at h;cases h
 ·rw[jJs e] at h;exact⟨e,h⟩
theorem jJe (h:G a=some o)(hp:G p=none):a≠p:=by rintro rfl;rw[h] at hp;cases hp
theorem jKz {α β:Type}{enc:α->β}{es:List α}{i:Nat}{x:β}(h:(es.map enc)[i]? =some x):∃e,es[i]? =some e/\x=enc e:=by
 rw[lJr] at h
 cases e1:es[i]? with
 | none=>rw[e1] at h;cases h
 | some e=>rw[e1] at h;exact⟨e,rfl,(lJ0 h).symm⟩
theorem jYm {α:Type}{es:List α}{enc:α->T}{stay:Gp->Prop}(f:α->Option T)(hz:es.length<=sizeLine)(hst:∀G',Sub G G'->stay G')(h:∀(i:Nat) e,es[i]? =some e->∀G' (K:T->Gp->Prop) (K0:Gp->Prop),Sub G G'->(∀y G4,f e=some y->Sub G' G4->K y G4)->(f e=none->∀G4,Sub G' G4->K0 G4)->g (enc e) (msk mask τ) G' fun τ2 G2=>tif τ2 G2 fun b G3=>if b=true then te τ2 G3 K else K0 G3)(hq:∀D G',G D=none->G' D=some (.lst (es.filterMap f))->Sub G G'->Q (.ref D) G'):kK7 mask g tif te τ (es.map enc) stay G Q:=by
 intro D hD
 refine⟨fun i acc G'=>acc=(es.take i).filterMap f/\G' D=some (.lst acc)/\Sub G G',⟨by simp,jJh,.new hD⟩,?_,?_,?_⟩
 ·rintro i acc G' hi ⟨ea,eg,hs⟩
  exact⟨hst G' hs,eg⟩
 ·rintro i x acc G' hx0 ⟨ea,eg,hs⟩
  obtain⟨e,hx,rfl⟩:=jKz hx0
  have hi:i<es.length:=(lJg.mp hx).1
  have tk:es.take (i+1)=es.take i++[e]:=by rw[lKz,hx];rfl
  have hlen:acc.length<sizeLine:=by
   have h1:acc.length<=(es.take i).length:=by rw[ea];exact List.length_filterMap_le _ _
   rw[lQ5] at h1;omega
  refine h i e hx G' _ _ hs (fun y G4 hy h4=>⟨h4 D _ eg,hlen,?_,jJh,(hs.trans h4).over hD⟩) fun hn G4 h4=>⟨?_,h4 D _ eg,hs.trans h4⟩
  ·rw[tk,lV9,<-ea];simp[hy]
  ·rw[tk,lV9,<-ea];simp[hn]
 ·rintro acc G' ⟨ea,eg,hs⟩
  rw[lJe,lQl] at ea
  rw[ea] at eg
  exact hq D G' hD eg hs
theorem jKm {α:Type}{es:List α}{enc:α->T}{stay:Gp->Prop}(f:α->T)(hz:es.length<=sizeLine)(hst:∀G',Sub G G'->stay G')(h:∀(i:Nat) e,es[i]? =some e->∀G' (K:T->Gp->Prop) (K0:Gp->Prop),Sub G G'->(∀G4,Sub G' G4->K (f e) G4)->g (enc e) (msk mask τ) G' fun τ2 G2=>tif τ2 G2 fun b G3=>if b=true then te τ2 G3 K else K0 G3)(hq:∀D G',G D=none->G' D=some (.lst (es.map f))->Sub G G'->Q (.ref D) G'):kK7 mask g tif te τ (es.map enc) stay G Q:=by
 refine jYm (fun e=>some (f e)) hz hst (fun i e he G' K K0 hs hk _=>h i e he G' K K0 hs fun G4 h4=>hk _ G4 rfl h4) fun D G' hD h1 h2=>hq D G' hD ?_ h2
 rw[h1];congr 2;induction es with
 | nil=>rfl
 | cons a as ih=>simp
theorem jK1 (h:G p=some (.lst xs)):tyT G "list" (.ref p)=True:=by simp[tyT,h]
theorem qY0:tyT (gup G p (.lst xs)) "list" (.ref p)=True:=jK1 jJh
theorem kK2 {α:Type}{es:List α}{enc:α->T}{stay:Gp->Prop}(f:α->List T)(hz:es.length<=sizeLine)(hst:∀G',Sub G G'->stay G')(h:∀(i:Nat) e,es[i]? =some e->∀G' (K:T->Gp->Prop) (K0:Gp->Prop),Sub G G'->(∀p G4,G' p=none->G4 p=some (.lst (f e))->Sub G' G4->K (.ref p) G4)->g (enc e) (msk mask τ) G' fun τ2 G2=>tif τ2 G2 fun b G3=>if b=true then te τ2 G3 K else K0 G3)(hq:∀D rs G',G D=none->G' D=some (.lst (rs.map T.ref))->Sub G G'->rs.length=es.length->(D::rs).Nodup->(∀(i:Nat) (r:Addr) (e:α),rs[i]? =some r->es[i]? =some e->G r=none/\G' r=some (.lst (f e)))->Q (.ref D) G'):kK7 mask g tif te τ (es.map enc) stay G Q:=by
 intro D hD
 refine⟨fun i acc G'=>∃rs:List Addr,acc=rs.map T.ref/\rs.length=i/\G' D=some (.lst acc)/\Sub G G'/\(D::rs).Nodup/\(∀(i:Nat) (r:Addr) (e:α),rs[i]? =some r->es[i]? =some e->G r=none/\G' r=some (.lst (f e))),⟨[],rfl,rfl,jJh,.new hD,by simp,by simp⟩,?_,?_,?_⟩
 ·rintro i acc G' hi ⟨rs,ea,hl,eg,hs,hn,hr⟩
  exact⟨hst G' hs,eg⟩
 ·rintro i x acc G' hx0 ⟨rs,ea,hl,eg,hs,hn,hr⟩
  obtain⟨e,hx,rfl⟩:=jKz hx0
  have hi:i<es.length:=(lJg.mp hx).1
  have hlen:acc.length<sizeLine:=by rw[ea,lJe];omega
  refine h i e hx G' _ _ hs fun p G4 hp h4 s4=>⟨s4 D _ eg,hlen,rs++[p],by simp[ea],by simp[hl],jJh,(hs.trans s4).over hD,?_,?_⟩
  ·have hDp:D≠p:=jJe eg hp
   have hpr:p∉rs:=by
    intro hm
    obtain⟨j,hj⟩:∃j:Nat,_:=lJ7 hm
    have hjl:j<rs.length:=(lJg.mp hj).1
    have:=(hr j p es[j] hj (lJi (by omega))).2
    rw[hp] at this;cases this
   rw[lQb] at hn
   simp only[lQb,lJm,lJn,not_or,lVp,lKi,not_false_eq_true,lXl,and_true]
   exact⟨⟨hn.1,hDp⟩,hn.2,trivial,fun a ha b hb=>by subst hb;rintro rfl;exact hpr ha⟩
  ·intro j r e' hj he'
   have hjl:j<rs.length+1:=by have:=(lJg.mp hj).1;simpa using this
   by_cases hjr:j<rs.length
   ·rw[lKy hjr] at hj
    obtain⟨q1,q2⟩:=hr j r e' hj he'
    have:r≠D:=by rintro rfl;exact (lQb.mp hn).1 (lJt hj)
    exact⟨q1,by rw[jJs this];exact s4 _ _ q2⟩
   ·have hj2:j=rs.length:=by omega
    subst hj2
    rw[lKq (lJj _)] at hj
    simp at hj
    subst hj
    rw[hl,hx] at he';cases he'
    exact⟨hs.none hp,by rw[jJs (jJe eg hp).symm];exact h4⟩
 ·rintro acc G' ⟨rs,ea,hl,eg,hs,hn,hr⟩
  rw[ea] at eg
  exact hq D rs G' hD eg hs (by simpa using hl) hn hr
end L3
namespace L3
open PySem PySem.Spec PyProof.Rows L2
variable {X:Cx}
variable {P:Program}{w:World}{A:Around}
theorem qUe (hh:A.handled=none)(it t:Addr)(ne:t≠it)(xs:Array Value):Draws P w A it [it,t] xs.size (fun i v=>xs[i]? =some v) (fun i h=>OnTup it t i xs h) where
 live:=fun _ _ ⟨⟨o,ho,_⟩,_⟩=>⟨o,ho⟩
 frame:=fun _ _ _ ⟨⟨o,ho,r⟩,⟨q,hq,r'⟩⟩ k=>⟨⟨o,k it (by simp) o ho,r⟩,⟨q,k t (by simp) q hq,r'⟩⟩
 item:=fun i s Q E hi st hQ=>jU1 hh ne s Q E st (fun x g e s' b=>hQ x g s.toks e s' b) fun _ _ _ e=>by rw[lK0 hi] at e;cases e
 done:=fun s Q E st hE=>jU1 hh ne s Q E st (fun x _ e=>by rw[lVi (lJj _)] at e;cases e) fun g e o _ b he hc=>hE g e b ⟨o,he,hc⟩
noncomputable def kZi (i:Addr):Obj:={cls:= .type "enumerate",data:= .fields #[.none,.bool false,.ref i,rawInt 0,.none,.none]}
theorem qXm (t:Addr)(xs:Array Value):
  Meets (Builtin.«enumerate.__new__» ⟨[.type "enumerate",.ref t],[]⟩) fun _ R s=>s.heap.IsTuple t xs/\R (.ok (.ret (.ref (s.heap.push (itOf t)).objs.size))) {s with heap:=(s.heap.push (itOf t)).push (kZi s.heap.objs.size)}:=by
 refine .of_wp fun P w A R s ⟨ht,h⟩=> ?_
 obtain⟨g,a1,a2,a3,a4⟩:=s
 have sb:=sub_enumerate
 have m1:Heap.IsTuple (Shared.heap ⟨g,a1,a2,a3,a4⟩) t xs:=ht
 obtain⟨⟨c,dct,dt,sl⟩,hl,hc,n,hd⟩:=id ht
 replace hc:c= .type "tuple":=hc
 replace hd:dt= .seq xs n:=hd
 subst hc hd
 wp_walk using AutoSeq1.wpAny_loadPart' hl
 refine wpAny_stack_any (fun stk=>lJf ?_)
 split
 ·rename_i k _ _ _ _ _
  cases (k == Value.type "enumerate")<;>(wp_walk using AutoSeq1.wpAny_loadPart' hl,wpAny_pyIter_tuple m1;exact⟨_,rfl,h⟩)
 ·wp_walk using AutoSeq1.wpAny_loadPart' hl,wpAny_pyIter_tuple m1;exact⟨_,rfl,h⟩
variable {s:Shared}{xs:Array Value}{E:Value->Shared->Prop}
theorem qQ7 {t:Addr}{Q:Value->Shared->Prop}(ht:s.heap.IsTuple t xs)(h:∀g n,n=s.heap.objs.size->IsEnum g (n+1) n 0 .none->OnTup n t 0 xs g->(∀c o,s.heap.get? c=some o->g.get? c=some o)->Q (.ref (n+1)) {s with heap:=g}):wpAny (model P w) A (call (.type "enumerate") [.ref t]) Q E s:=by
 refine callType_new F.called_enumerate (by decide) (F.typeCall_enumerate_1 _) (F.newCall_enumerate_1 _) (fun obj=>F.args_object_init_2 obj _) F.entry_enumerate_new (qXm t xs) ⟨ht,?_⟩
 have hn:∀(g:Heap) (o:Obj),(g.push o).objs.size=g.objs.size+1:=fun _ _=>Heap.size_push ..
 have up:∀ {g:Heap} {o q:Obj} {c:Addr},g.get? c=some q->(g.push o).get? c=some q:=fun e=>lJu _ e
 obtain⟨q,hq,hr⟩:=ht
 have c0:((s.heap.push (itOf t)).push (kZi s.heap.objs.size)).get? s.heap.objs.size=some (itOf t):=up (lJ8 _ rfl)
 have c1:((s.heap.push (itOf t)).push (kZi s.heap.objs.size)).get? (s.heap.push (itOf t)).objs.size=some (kZi s.heap.objs.size):=lJ8 _ rfl
 show _/\_
 simp only[hn] at c1 ⊢
 exact⟨⟨_,c1,rfl⟩,h _ _ rfl c1 ⟨⟨_,c0,rfl,rfl⟩,q,up (up hq),hr⟩ fun c o e=>up (up e)⟩
variable {e it:Addr}{i:Int}{old:Value}
theorem jU0 {t:Addr}{k:Nat}{Q:Option Value->Shared->Prop}(hh:A.handled=none)(ne:t≠it)(he:IsEnum s.heap e it i old)(st:OnTup it t k xs s.heap)(hk:xs.size<=k)(hQ:∀g,Heap.ExtBut it s.heap g->Q none {s with heap:=g}):wpAny (model P w) A (pyNext (.ref e)) Q E s:=by
 have ty:s.TypeIs (.ref e) "enumerate":=⟨_,he,rfl⟩
 refine lJc (wpAny_attempt (lVl (name:=Str.ofString "__next__") ty F.slot_enumerate_next (lQ3 F.slot_enumerate_next ty F.entry_enumerate_next ?_ (F.args_enumerate_next_1 _))))
 refine (show wpAny _ _ (field (.ref e) 2 >>= _) _ _ _ from lJc (lQ1 he rfl (x:= .ref it) rfl (lJc ?_)))
 refine jU1 (A:=A.in1) hh ne s _ _ st (fun x _ e=>by rw[lVi hk] at e;cases e) fun g x o _ b hx hc=> ?_
 exact lJc (wpAny_isInstance (T:="StopIteration") (b:=true) ⟨o,hx,hc⟩ isSubtype_stop (lJf (hQ g b)))
noncomputable def Itn (K:PySem.W.Frag)(a:Addr):It:=
 ⟨fun i H=>∃xs x,SqT K H a xs/\xs[i]? =some x,fun i H x H'=>∃p y,H p=none/\x= .ref p/\(∀xs,SqT K H a xs->xs[i]? =some y)/\H'=upd H p (.tup [.int i,y]),fun i H=>∃xs,SqT K H a xs/\xs.length<=i⟩
theorem kZh {h:Heap}{a:Addr}{k:Nat}(he:IsEnum h e it i old)(hi:h.IsTupleIter it a k)(ht:h.IsTuple a xs):a≠it/\e∉[it,a]:=by
 obtain⟨o,ho,hc,_⟩:=hi
 obtain⟨q,hq,hqc,_⟩:=ht
 refine⟨fun z=> ?_,fun m=> ?_⟩
 ·subst z;rw[ho] at hq;cases hq;rw[hc] at hqc;simp at hqc
 ·simp only[lJy,lKi,lK9] at m
  rcases m with rfl | rfl
  ·rw[he] at ho;cases ho;simp at hc
  ·rw[he] at hq;cases hq;simp at hqc
variable {elts:List Expr}{pos:Pos}
theorem kZx {K:PySem.W.Frag}{k:Nat}(a e it:Addr)(hei:e≠it):
  Turn P w K (.Tuple elts k pos) (Itn K a) [e,it] e (fun i h=>(∃old,IsEnum h e it i old)/\h.IsTupleIter it a i) where
 mem:=lKn ..
 obj:=fun i h ⟨⟨old,h1⟩,h2⟩ b hb=>by
  simp only[lKi,lJy,lK9] at hb
  rcases hb with rfl | rfl
  ·exact⟨_,h1,fun v z=>nomatch (show Data.fields _=Data.cell v from z)⟩
  ·obtain⟨o,e2,c,d⟩:=h2
   exact⟨o,e2,fun v z=>by rw[d] at z;cases z⟩
 keep:=fun i h h' ⟨⟨old,h1⟩,h2⟩ kp=>⟨⟨old,kp e (by simp) _ h1⟩,h2.at fun o q=>kp it (by simp) o q⟩
 item:=by
  rintro X hP hw hK hc i pins s σ H E I hf ⟨⟨old,he⟩,hit⟩ ⟨xs,x,hq,hx⟩
  subst hP hw hK
  obtain⟨its,rv,p,hz⟩:=I.tuple hq
  obtain⟨u,hu,ru⟩:=rv.get hx
  have p':s.heap.IsTuple a its.toArray:=p
  obtain⟨nei,hef⟩:=kZh he hit p'
  have hlt:i<its.toArray.size:=by simpa using (lJg.mp hu).1
  refine wpAny_pyNext_enum_itemD (qUe (A:=X.A.in1) (I.ok.hd hc) it a nei its.toArray) he ⟨hit,p'⟩ hlt hei hef fun x' h1 tk hx' ho hit1 hT hsz hk=> ?_
  obtain rfl:u=x':=by simpa[hu] using hx'
  refine⟨_,rfl,wpAny_letOwnedTupleGo_enum ho fun h2 he2 hs2=> ?_⟩
  have hel:e<s.heap.objs.size:=lJl he
  have hp2:∀b o,b∉[e,it]->s.heap.get? b=some o->h2.get? b=some o:=fun b o hb q=>by
   simp only[lJy,lKi,lK9,not_or] at hb
   exact (hs2.2 b hb.1).trans (hk b o hb.1 hb.2 q)
  have hT2:h2.get? s.heap.objs.size=some {cls:= .type "tuple",data:= .seq #[.int i tk,u]}:=(hs2.2 _ (lVe hel)).trans hT
  have I2:=jZ7 (t':=tk+1) (h':=h2) (p:=s.heap.objs.size) (vs:=[.int i,x]) (us:=[.int i tk,u]) I hp2 hf (lJj _) ⟨_,hT2,rfl,_,rfl,rfl⟩ (.cons ⟨_,rfl⟩ (.cons ru .nil)) (by show 2<=sizeLine;decide)
  refine⟨.ref s.heap.objs.size,_,I2,rfl,⟨_,x,I.hok.fresh (lJj _),rfl,fun ys hy=>by rw[I.tuple_inj hy hq];exact hx,rfl⟩,⟨⟨u,by simpa using he2⟩,hit1.1.at fun o q=>(hs2.2 it hei.symm).trans q⟩,fun b hb=> ?_⟩
  have hbs:∃o,s.heap.get? b=some o:=by
   have hb':=hb
   simp only[lKi,lJy,lK9] at hb'
   rcases hb' with rfl | rfl
   ·exact⟨_,he⟩
   ·obtain⟨o,q,_⟩:=hit;exact⟨o,q⟩
  obtain⟨o,q⟩:=hbs
  rw[jKg (lJ4 (lJl q))]
  exact (hf b hb).1
 done:=by
  rintro X hP hw hK hc i pins s σ H E I hf ⟨⟨old,he⟩,hit⟩ ⟨xs,hq,hx⟩
  subst hP hw hK
  obtain⟨its,rv,p,hz⟩:=I.tuple hq
  have p':s.heap.IsTuple a its.toArray:=p
  obtain⟨nei,hef⟩:=kZh he hit p'
  have hl:=rv.length
  refine jU0 (I.ok.hd hc) nei he ⟨hit,p'⟩ (by simp;omega) fun h1 hx1=>⟨rfl,kVz (t':=s.toks) I (fun b o hb q=>hx1 b o (fun z=>hb (by simp[z])) q) hf⟩
 self:=fun _ _ _ _ _ ⟨⟨old,he⟩,_⟩ h=>lYd he h
def iEnT (ta:TA3):TI3:=fun τ G R=>ta τ G fun vs G1=>∃xs,vs=[.tup xs]/\R (numT xs) (fun _=>True) G1
theorem i_enT {k:Nat}{tpos p:Pos}{a:Expr}{ta:TA3}(hg:Gl X "enumerate")(hm:X.mg "enumerate"=none)(hv:bootBuiltins "enumerate"=some (.type "enumerate"))(ha:PA3 X [a] ta)(hs:starEach [a] X.env=[(false,eval a X.env)]:=by rfl):
  PI3 X (.Tuple elts k tpos) (.Call (.Name "enumerate" p) [a] [] pos) (iEnT ta):=by
 intro pins s τ G H R I h
 obtain⟨σ0,I0,_,_⟩:=id I
 refine Call_ (jV3 I0 hg hm hv (lQ8 (thn (ha pos pins s τ G H _ I h) fun us s1 w_=>w_.el fun xs' G1 H1 e1 i_ r_ q1=>i_.el fun σ I1 hs1 hg1=>r_.el fun as ras rvs=> ?_) hs rfl))
 obtain⟨xs,e,q⟩:=q1
 subst e
 obtain⟨v,rfl,rv⟩:=jU5 ras
 obtain⟨u,rfl,ru⟩:=rvs.one
 obtain⟨pa,vs,rfl,hq,r⟩:=(show ∃p vs,v= .ref p/\H1 p=some (.tup vs)/\Reps X.K H1 xs vs from rv)
 cases ru
 obtain⟨its,rvv,pl,hz⟩:=I1.tuple (.of hq)
 refine qQ7 (show s1.heap.IsTuple pa its.toArray from pl) fun h1 n hn he hit hk=> ?_
 subst hn
 have I2:Inv X pins σ H1 {s1 with heap:=h1}:=I1.kept (t':=s1.toks) hk
 refine lYd (Q:=PIE3 X pins τ H (.Tuple elts k tpos) R) he ?_
 have fr:∀b∈[s1.heap.objs.size+1,s1.heap.objs.size],FpOk X pins H1 b:=fun b hb=>by
  simp only[lKi,lJy,lK9] at hb
  have hle:s1.heap.objs.size<=b:=by omega
  exact I1.fpOk hle (I1.hok.fresh hle)
 refine⟨s1.heap.objs.size+1,[s1.heap.objs.size+1,s1.heap.objs.size],_,_,numT xs,fun _=>True,G1,H1,rfl,e1,⟨σ,I2,hs1,hg1⟩,kZx pa _ _ (Nat.succ_ne_self _),⟨⟨.none,he⟩,hit.1⟩,fr,?_,q⟩
 intro i H2 G2 e2 g2 _
 obtain⟨pb,ws,eb,h1',h2⟩:=(show ∃p vs,V.ref pa= .ref p/\H2 p=some (.tup vs)/\Reps X.K H2 xs vs from Rep.mono e2 _ rv)
 cases eb
 have hlen:=h2.length
 refine⟨fun hi=> ?_,fun hi=>⟨ws,.of h1',by rw[jK4] at hi;omega⟩,fun hi y H' ⟨pp,z,hn,ey,hy,eH⟩=> ?_⟩
 ·rw[jK4] at hi
  exact⟨ws,ws[i]'(by omega),.of h1',by simp[hlen▸hi]⟩
 ·subst ey;subst eH
  obtain⟨t,ht,rt⟩:=h2.get' (hy ws (.of h1'))
  exact⟨.upd (.none hn),g2.tupNew hn,_,jXa ht,Rep.tupNew ⟨_,_,rfl,rfl,_,_,rfl,rt,rfl⟩ hn⟩
end L3
namespace L3
open PySem PySem.Spec PyProof.Rows L2 MeetsSeq
section
variable {X:Cx}
end
end L3
namespace L3
open PySem PySem.Spec PyProof.Rows L2
variable {X:Cx}
variable {Q:Value->Shared->Prop}
section
variable {P:Program}{w:World}{A:Around}{E:Value->Shared->Prop}{s:Shared}{d:Addr}
theorem jZd {o:Obj}{es:Array DictEntry}{ep:Nat}(hd:(d == sysModules)=false)(ho:s.heap.get? d=some o)(hc:o.ExactDict)(hx:o.data= .dict es ep)(hz:es.size<=sizeLine)(h:Q (.int es.size (s.toks+1)) {s with toks:=s.toks+1+1}):wpAny (model P w) A (call (.builtin "len") [.ref d]) Q E s:=by
 have hsl:=lK7
 have ty:s.TypeIs (.ref d) "dict":=⟨o,ho,hc.1⟩
 refine Calls.call_function_entry kind_len plain_len entry_len (args_len1 _) ?_;unfold Builtin.«len»; refine lJc (m:=oneArg "len" _) (lJf ?_)
 have M:MeetsIn P w (Builtin.«dict.__len__» ⟨[.ref d],[]⟩) (fun _ R z=>(∃o es ep,z.heap.get? d=some o/\o.data= .dict es ep/\R (.ok (.ret (.int es.size z.toks))) {z with toks:=z.toks+1})):=
  .of_wp fun A R z ⟨o,es,ep,ho,hx,h⟩=>by
   refine (show wpAny _ _ (dictSize d >>= _) _ _ z from ?_)
   unfold dictSize;refine lJc (lJc (lXy ho hx (lJf ?_)))
   refine (show wpAny _ _ (Builtin.Dict.pendingCount d >>= _) _ _ z from lJc (wpAny_pendingCount_other hd (wpAny_ret_mkInt ?_)))
   rw[lVq];exact h
 refine lJc (m:=callSpecial? (.ref d) (Str.ofString "__len__")) (lVl (name:=Str.ofString "__len__") ty F.slot_dict_len (call_meetsIn F.slot_dict_len ty F.entry_dict_len (F.args_dict_len_1 _) M ⟨o,es,ep,ho,hx,?_⟩))
 refine (show wpAny _ _ _ _ _ {s with toks:=s.toks+1} from lJc (lQ2 (lJf (lJc (wpAny_letGo ?_)))))
 refine (show wpAny _ _ (if ((es.size:Nat):Int)<0 then _ else _) _ _ _ from ?_);rw[lJa (by omega)]
 refine (show wpAny _ _ (if ((es.size:Nat):Int)>=2^63 then _ else _) _ _ _ from ?_);rw[lJa (by omega)]
 exact (lJc (wpAny_mkInt (lJf ⟨_,rfl,h⟩)))
theorem jZ9 {K:Type}[DecidableEq K]{knd:HeapKind P w K}{a:Addr}{xs:List (K×Addr×Value)}{k:K}{v:Value}(hu:knd.room A)(hkey:knd.is s.heap k a)(hm:s.heap.DictOfH knd d xs)(hz:xs.length<=sizeLine)(h1:∀p,atKey xs k=some p->Q p.2 {s with toks:=s.toks+knd.draws k})(h2:atKey xs k=none->∀h',h'.DictOfH knd d (storedH xs k a v)->Heap.SameBut d s.heap h'->Q v {s with heap:=h',toks:=s.toks+knd.draws k}):wpAny (model P w) A (dictSetDefault d (.ref a) v) Q E s:=by
 obtain⟨o,es,ep,ho,hc,hd,he,his,hn⟩:=hm;unfold dictSetDefault;refine lQ2 (lJc (knd.pyHash hu hkey (lJc (wpAny_dictFind_heap (s:={s with toks:=s.toks+knd.draws k}) hu hkey ho hd he his hn ?_ ?_))))
 ·intro no
  have an:=atKey_none_of_get no
  have nk:k∉xs.map (·.1):=not_mem_keys_of_get no
  refine lJc (lK3 (lJc (wpAny_updateDictKeys (hz:=by have e:=size_of_entries he;omega) (s:={s with toks:=s.toks+knd.draws k}) ho hd (lJf (h2 an _ ⟨_,_,ep+1,lX2 _ ho (Obj.isFreed_of_dict (Obj.data_mapDictKeys hd _)),hc.mapDictKeys _,Obj.data_mapDictKeys hd _,?_,?_,?_⟩ (lVh ..))))))
  ·rw[storedH_new an];simp[he,entryOfKey]
  ·rw[storedH_new an];intro x hx
   rcases (lJm.mp hx) with z | z
   ·exact knd.keeps (his x z) ho hd (lVh ..)
   ·rw[lJn.mp z];exact knd.keeps hkey ho hd (lVh ..)
  ·rw[storedH_new an,lKw];rw[lVp]
   refine⟨hn,by simp,fun x hx y hy=> ?_⟩
   have:y=k:=by simpa using hy
   subst this;exact fun e=>nk (e▸hx)
 ·intro j p hj
  refine lJc (lXy (s:={s with toks:=s.toks+knd.draws k}) ho hd ?_);rw[entry_at he j,hj]
  exact lJc (lK3 (lJf (h1 p (atKey_of_get hn hj))))
theorem jY2 {K:Type}[DecidableEq K](knd:HeapKind P w K)(a:Addr)(v:Value)(hd:(d == sysModules)=false):
  MeetsIn P w (Builtin.«dict.setdefault» ⟨[.ref d,.ref a,v],[]⟩) (fun A R s=>knd.room A.in1/\∃k xs,knd.is s.heap k a/\s.heap.DictOfH knd d xs/\xs.length<=sizeLine/\
   (∀p,atKey xs k=some p->R (.ok (.ret p.2)) {s with toks:=s.toks+knd.draws k})/\(atKey xs k=none->∀h',h'.DictOfH knd d (storedH xs k a v)->Heap.SameBut d s.heap h'->R (.ok (.ret v)) {s with heap:=h',toks:=s.toks+knd.draws k})):=
 .of_wp fun A R s ⟨hu,k,xs,hkey,hm,hz,h1,h2⟩=>by
  unfold Builtin.«dict.setdefault»; refine lJc ?_
  unfold Builtin.Dict.keyAndDefault;refine lJc (wpAny_notOrdered_dict hm.typeIs ?_)
  refine (show wpAny _ _ (pure (d,Value.ref a,some v)) _ _ s from lJf ?_)
  refine (show wpAny _ _ (if (d == sysModules)=true then _ else (dictSetDefault d (.ref a) v >>= _)) _ _ s from ?_)
  rw[lJa (by rw[hd];exact lJp)];exact lJc (jZ9 hu hkey hm hz (fun p hp=>lJf ⟨p.2,rfl,h1 p hp⟩) fun hn h' hm' hs'=>lJf ⟨v,rfl,h2 hn h' hm' hs'⟩)
end
noncomputable def lenG (G:Gp):T->Option Nat
 | .ref p=>match G p with
  | some (.lst xs)=>some xs.length
  | some (.dct kvs)=>some kvs.length
  | some (.dck kvs)=>some kvs.length
  | some (.fdc _)=>none
  | some (.ins _ _)=>none
  | none=>none
 | .tup xs=>some xs.length
 | .scr xs=>some xs.length
 | _=>none
def qKu:List T->Gp->VK3->Prop:=fun xs G Q=>∃x n,xs=[x]/\lenG G x=some n/\Q (.int (n:Nat)) G
theorem qYu:Call3 X (.builtin "len") qKu:=by
 rintro pins s τ G H xs us Q I rs ⟨x,n,ex,hx,q⟩
 by_cases hd:∃p,x= .ref p/\((∃kvs,G p=some (.dct kvs))\/∃kvs,G p=some (.dck kvs))
 ·subst ex
  obtain⟨p,rfl,hk⟩:=hd
  obtain⟨σ,I,hs,hg⟩:=I
  obtain⟨as,ras,rvs⟩:=rs
  obtain⟨v,rfl,rv⟩:=jU5 ras
  obtain⟨u,rfl,ru⟩:=rvs.one
  cases (show v= .ref p from rv);cases ru
  rcases hk with ⟨kvs,hG⟩ | ⟨kvs,hG⟩
  ·simp only[lenG,hG] at hx;cases hx
   obtain⟨ws,h1,h2⟩:=hg p _ hG
   obtain⟨z,y,xs,r,o,es,ep,e1,e2,e3,e4,e5⟩:=(show ObjOk X.prog X.w H s.heap p (.dT ws) from I.hok p _ h1)
   have l1:es.size=kvs.length:=by
    have a1:=lKa List.length e4
    have a2:=lQ4 r
    have a3:=h2.length
    simp at a1;omega
   refine jZd y e1 e2 e3 (by have:=h2.length;omega) ?_
   rw[l1]
   exact⟨.int (kvs.length:Nat),G,H,.refl H,⟨σ,I.tok _,hs,hg⟩,⟨.int _,rfl,_,rfl⟩,q⟩
  ·simp only[lenG,hG] at hx;cases hx
   obtain⟨ws,h1,h2⟩:=hg p _ hG
   obtain⟨z,y,vs,rel,o,es,ep,e1,e2,e3,e4,e5,e6⟩:=(show ObjOk X.prog X.w H s.heap p (.dK ws) from I.hok p _ h1)
   have l1:es.size=kvs.length:=by
    have a1:=e5.length
    have a2:=rel.length
    have a3:=h2.length
    simp at a1;omega
   refine jZd y e1 e2 e3 (by have:=h2.length;omega) ?_
   rw[l1]
   exact⟨.int (kvs.length:Nat),G,H,.refl H,⟨σ,I.tok _,hs,hg⟩,⟨.int _,rfl,_,rfl⟩,q⟩
 ·refine jKk pins s τ G H xs us Q I rs ?_
  cases x with
  | ref p=>
   cases hG:G p with
   | none=>simp only[lenG,hG] at hx;cases hx
   | some g=>
    cases g with
    | lst ys=>simp only[lenG,hG] at hx;cases hx;exact⟨_,ys,ex,by simp only[seqT,hG,asL],q⟩
    | dct kvs=>exact absurd ⟨p,rfl,.inl ⟨kvs,hG⟩⟩ hd
    | fdc kvs=>simp only[lenG,hG] at hx;cases hx
    | ins _ _=>simp only[lenG,hG] at hx;cases hx
    | dck kvs=>exact absurd ⟨p,rfl,.inr ⟨kvs,hG⟩⟩ hd
  | tup ys=>cases hx;exact⟨_,ys,ex,rfl,q⟩
  | scr ys=>cases hx;exact⟨_,ys,ex,rfl,q⟩
  | non=>cases hx
  | bl _=>cases hx
  | int _=>cases hx
  | str _=>cases hx
  | ty _=>cases hx
noncomputable def qKs:T->List T->Gp->VK3->Prop:=fun x as G Q=>∃p ys ks kvs v,x= .ref p/\as=[.tup ys,v]/\jQw ys=some ks/\G p=some (.dct kvs)/\kvs.length<sizeLine/\Q (match valT kvs ks with | some t=>t | none=>v) (match valT kvs ks with | some _=>G | none=>gup G p (.dct (putT kvs ks v)))
theorem qV3 (hu:X.A.units+20<cLine):Mt3 X "dict.setdefault" qKs:=by
 rintro pins s τ G H x as v us Q ⟨σ,I,hs,hg⟩ ⟨a,ra,rv⟩ ⟨bs,rbs,rus⟩ ⟨p,ys,ks,kvs,v',ex,ea,hk,hG,hz,q⟩
 subst ex;subst ea
 cases (show a= .ref p from ra);cases rv
 obtain⟨b,c,rfl,rb,rc⟩:=kKd rbs
 obtain⟨u1,u2,rfl,ru1,ru2⟩:=rus.two
 obtain⟨ws,h1,h2⟩:=hg p _ hG
 obtain⟨q',vs,e,h3,h4⟩:=(show ∃q vs,b= .ref q/\H q=some (.tup vs)/\Reps X.K H ys vs from rb)
 subst e
 cases (show u1=Value.ref q' from ru1)
 have eb:=jXd hk h3 h4
 obtain⟨z,hd,xs,rel,dd⟩:=dt_of I.hok h1
 have hl:xs.length<=sizeLine:=by rw[<-lQ4 rel];exact z
 refine call_meetsIn PySem.F.slot_dict_setdefault dd.typeIs PySem.F.entry_dict_setdefault (PySem.F.args_dict_setdefault_3 _ _ _) (jY2 (jKi X.prog X.w) q' u2 hd) ⟨jKr hu,ks,xs,kJr I.hok eb,dd,hl,fun pp hp=> ?_,fun hn h' dd' hsb=> ?_⟩
 ·have ro:=rel.val ks
  rw[hp] at ro
  obtain⟨g1,g2⟩:=h2.val ks
  cases ev:valV ws ks with
  | none=>rw[ev] at ro;exact (show False from ro).elim
  | some wv=>
   rw[ev] at ro g2
   obtain⟨t,ht⟩:=lX0.mp (g2.trans rfl)
   obtain⟨wv',e',rt⟩:=g1 t ht
   rw[ev] at e';cases e'
   rw[ht] at q
   exact⟨t,G,H,.refl H,⟨σ,I.tok _,hs,hg⟩,⟨wv,rt,ro⟩,q⟩
 ·have ro:=rel.val ks
  rw[hn] at ro
  obtain⟨g1,g2⟩:=h2.val ks
  have en:valT kvs ks=none:=by
   cases et:valT kvs ks with
   | none=>rfl
   | some t=>
    obtain⟨wv,e',_⟩:=g1 t et
    rw[e'] at ro;exact (show False from ro).elim
  rw[en] at q
  have hl':(putK ws ks c).length<=sizeLine:=by have:=jXw ws ks c;have:=h2.length;omega
  obtain⟨qo,es,ep,hq,k2,k3,k4,_,k5⟩:=dd'
  have I':=kUb (t':=s.toks+(jKi X.prog X.w).draws ks) I (by rw[h1];exact True.intro) hsb ⟨qo,hq⟩ (ob:= .dT (putK ws ks c)) ⟨hl',hd,_,(rel.put ks eb ru2).keeps (fun b' ys' ec=>by rw[jKg (qZu ec h1 (fun z=>nomatch z))];exact ec),qo,es,ep,hq,k2,k3,k4,k5⟩
  have e:Ext H (upd H p (.dT (putK ws ks c))):= .upd (.dT h1)
  exact⟨v',_,_,e,⟨σ,I',hs.mono e,hg.upd (.dT h1) (go:= .dct (putT kvs ks v')) ⟨_,jQe,(h2.put ks rc).mono e⟩⟩,⟨c,Rep.mono e _ rc,ru2⟩,q⟩
noncomputable def jV2 (b:Int):List Int->Int
 | []=>b
 | x::xs=>jV2 (if x<b then x else b) xs
theorem kXu (xs:List Int):∀(b y:Int),jV2 b (xs++[y])=if y<jV2 b xs then y else jV2 b xs:=by
 induction xs with
 | nil=>intro b y;rfl
 | cons x xs ih=>intro b y;exact ih _ y
theorem kUi (f:Nat->Int):∀k,f (argBest (fun i j=>decide (f i<f j)) k)=jV2 (f 0) ((List.range k).map fun i=>f (i+1)):=by
 intro k
 induction k with
 | zero=>rfl
 | succ k ih=>
  rw[lQ9,lKw,List.map_singleton,kXu,<-ih]
  simp only[argBest,lKs]
  by_cases h:f (k+1)<f (argBest (fun i j=>decide (f i<f j)) k)
  ·rw[lJb h,lJb h]
  ·rw[lJa h,lJa h]
theorem jVj:∀ {is:List Int} {us:List Value},Vals (is.map V.int) us->∃ps:List (Int×Tok),us=ps.map (fun p=> .int p.1 p.2)/\ps.map (·.1)=is
 | [],_,.nil=>⟨[],rfl,rfl⟩
 | i::is,_,.cons ⟨t,e⟩ r=>by
  obtain⟨ps,e1,e2⟩:=jVj r
  subst e1;subst e2;subst e
  exact⟨(i,t)::ps,rfl,rfl⟩
theorem qUo (hc:X.calm=true):kUn X (.builtin "min") (fun xs H Q=>∃p i is,xs=[.ref p]/\SqL X.K H p ((i::is).map V.int)/\Q (.int (jV2 i is)) H):=by
 intro pins s σ H xs us Q I r h
 obtain⟨p,i,is,rfl,hx,q⟩:=h
 obtain⟨u,rfl,ru⟩:=kVy r
 cases ru
 obtain⟨its,r',pl,hz⟩:=I.list hx
 obtain⟨ps,e1,e2⟩:=jVj r'
 subst e1
 have hne:0<ps.toArray.size:=by
  have:=lKa List.length e2
  simp at this ⊢; omega
 have eI:(ps.map (fun p=>Value.int p.1 p.2)).toArray=intItems ps.toArray:=by simp[intItems]
 refine min_intList (xs:=ps.toArray) (I.ok.hd hc) (eI▸pl.isList) hne fun v h' tk hv k=> ?_
 obtain⟨t,rfl⟩:=(intItems_at hv)
 have hl:ps.toArray.size-1=is.length:=by
  have:=lKa List.length e2
  simp at this ⊢; omega
 have hn:∀j,numAt ps.toArray j=((i::is)[j]?).getD 0:=fun j=>by rw[<-e2];simp[numAt]
 refine⟨.int (jV2 i is),H,I.kept k,?_,q⟩
 refine⟨t,?_⟩
 rw[kUi (numAt ps.toArray),hl]
 have a0:numAt ps.toArray 0=i:=by rw[hn];rfl
 have a1:((List.range is.length).map fun j=>numAt ps.toArray (j+1))=is:=by
  apply lK2 ; intro j
  rw[lJr]
  by_cases hj:j<is.length
  ·rw[lQv hj,lQe,hn,List.getElem?_cons_succ,lJi hj];rfl
  ·rw[lJ3 (by simpa using hj),lJ3 (by simpa using hj)];rfl
 rw[a0,a1]
def qZk:List T->Gp->VK3->Prop:=fun xs G Q=>∃p i is,xs=[.ref p]/\G p=some (.lst ((i::is).map T.int))/\Q (.int (jV2 i is)) G
theorem c_minL (hc:X.calm=true):Call3 X (.builtin "min") qZk:=
 Call3.of (qUo hc) fun H G xs as Q hg ra ⟨p,i,is,e,hG,q⟩=>by
  subst e
  obtain⟨v,rfl,rv⟩:=jU5 ra
  cases (show v= .ref p from rv)
  obtain⟨vs,h1,h2⟩:=hg.lst hG
  have e:=jUe h2
  subst e
  exact⟨p,i,is,rfl,.of h1,.int _,G,.refl H,hg,rfl,q⟩
variable {pos:Pos}
theorem qJx:∀ {xs:List V} {us:List Value},Vals xs us->Vals xs.reverse us.reverse
 | _,_,.nil=> .nil
 | x::xs,u::us,.cons r rs=>by
  rw[lX6,(lX6)]
  exact Vals.append (qJx rs) (.cons r .nil)
theorem qKf {K:PySem.W.Frag} {H:Hp}:∀ {xs:List T} {vs:List V},Reps K H xs vs->Reps K H xs.reverse vs.reverse
 | [],_,h=>by cases (show _=_ from h);rfl
 | x::xs,_,⟨v,ws,e,r,rs⟩=>by
  subst e
  rw[lX6,(lX6)]
  exact (qKf rs).append ⟨v,[],rfl,r,rfl⟩
def qY4 (te:TE3)(tk:TO3):TE3:=fun τ G Q=>te τ G fun x G1=>tk τ G1 fun k G2=>k=some (-1)/\∃xs,jUx G2 x=some xs/\∀p,G2 p=none->Q (.ref p) (gup G2 p (.lst xs.reverse))
theorem e_revL {e st:Expr}{te:TE3}{tk:TO3}{p2:Pos}(he:PE3 X e te)(hk:PO3 X (some st) tk):PE3 X (.Subscript e (.Slice none none (some st) p2) pos) (qY4 te tk):=by
 intro pins s τ G H Q I h
 refine Subscript_ (thn (he pins s τ G H _ I h) fun v s1 w_=>w_.el fun x G1 H1 e1 I1 r1 q1=> ?_)
 refine wpAny_Slice ?_
 rw[evalPart_none]
 refine lJf (lJf (thn (hk pins s1 τ G1 H1 _ I1 q1) fun vk s3 ⟨k,G3,H3,e3,⟨σ,I3,hs3,hg3⟩,pk,ek,xs,hx,q3⟩=> ?_))
 subst ek
 have I4:Inv X pins σ H3 {s3 with heap:=s3.heap.push {cls:= .type "slice",data:= .fields #[.none,.none,vk]} }:=I3.kept (t':=s3.toks) fun b ob q=>lJu _ q
 obtain⟨a,ra,rv⟩:=r1.mono e3
 obtain⟨p,vs,ea,hq,r⟩:=jZy hg3 ra hx
 subst ea
 cases rv
 obtain⟨its,rr,ht,hz⟩:=I4.list hq
 have hlen:=rr.length
 have hg:wpAny (model X.prog X.w) X.A (getItem (.ref p) (.ref s3.heap.objs.size)) (EP3 X pins τ H3 Q) X.xe {s3 with heap:=s3.heap.push {cls:= .type "slice",data:= .fields #[.none,.none,vk]} }:=by
  refine wpAny_getItem_list_slice ht.isList (Heap.IsSliceOf.new ..) .none .none pk (by simp) ?_ (by rw[lJs]<;>omega)
  rw[PySem.W.krv_pick]
  refine jVz hs3 ⟨.ref _,_,I4.laid (t':=s3.toks) (o:= .lst vs.reverse) (fun b ob q=>lJu _ q) (lJj _) ⟨by rw[List.length_reverse];exact hz,_,0,qJx rr,lJ8 _ rfl⟩,rfl,?_⟩
  exact⟨.ref _,_,.upd (.none (I4.hok.fresh (lJj _))),hg3.lstNew (qKf r) (.none (I4.hok.fresh (lJj _))),rfl,q3 _ (hg3.fresh (I4.hok.fresh (lJj _)))⟩
 show wpAny (model X.prog X.w) X.A (subscriptTail e (.Slice none none (some st) p2) (.ref p) (.ref s3.heap.objs.size)) (EP3 X pins τ H Q) X.xe {s3 with heap:=s3.heap.push {cls:= .type "slice",data:= .fields #[.none,.none,vk]} }
 exact thn (tail_any (ops:=[.ref p,.ref s3.heap.objs.size]) ht.isList.typeIs slot_list_getitem.lookup hg (by with_unfolding_all rfl)) fun _ _ z=>z.ext (e1.trans e3)
def qU5 (i j k:Nat)(ta:TA3):TS3:=fun D τ G=>ta τ G fun vs G1=>∃u v w,vs=[u,v,w]/\D.nx (((τ.set i (some u)).set j (some v)).set k (some w)) G1
theorem s_par3 {i j k:Nat}{x y z:Str}{a b c:Expr}{ta:TA3}{px py pz pt:Pos}{kt k2 pt2}(hc:X.calm=true)(hN:X.N.Nodup)(hij:i≠j)(hik:i≠k)(hjk:j≠k)(ha:PA3 X [a,b,c] ta)(hi:X.N[i]? =some x:=by rfl)(hj:X.N[j]? =some y:=by rfl)(hk:X.N[k]? =some z:=by rfl)(hx:X.env.scope.names.lookup x=some .local:=by rfl)(hy:X.env.scope.names.lookup y=some .local:=by rfl)(hz:X.env.scope.names.lookup z=some .local:=by rfl)(hw:swappedStores [.Tuple [.Name x px,.Name y py,.Name z pz] kt pt] (.Tuple [a,b,c] k2 pt2) X.env=pure (some [x,y,z]):=by rfl)(hs:swapsWithSole [.Tuple [.Name x px,.Name y py,.Name z pz] kt pt] (.Tuple [a,b,c] k2 pt2) pos.line X.env=pure false:=by rfl):
  PS3 X (.Assign [.Tuple [.Name x px,.Name y py,.Name z pz] kt pt] (.Tuple [a,b,c] k2 pt2) pos) (qU5 i j k ta):=by
 intro pins s τ G H D I h
 rw[exec_Assign_arm]
 refine lJc (wpAny_standAt ?_)
 rw[hs]
 refine lJc (lJf ?_)
 rw[lJa (by decide)]
 refine lJc (Tuple_ (thn (ha _ pins s τ G H _ I h) fun us s1 w_=>w_.el fun vs G1 H1 e1 i_ r_ q1=>i_.el fun σ I1 hs1 hg1=>r_.el fun as ras rvs=> ?_))
 obtain⟨v1,v2,v3,ev,q1⟩:=q1
 subst ev
 obtain⟨a1,t1,et1,ra1,rr1⟩:=(show ∃v ws,as=v::ws/\Rep X.K H1 v1 v/\Reps X.K H1 [v2,v3] ws from ras)
 subst et1
 obtain⟨a2,a3,et2,ra2,ra3⟩:=kKd rr1
 subst et2
 obtain⟨u1,us1,eu,rv1,rvs1⟩:∃u us',us=u::us'/\RelV a1 u/\Vals [a2,a3] us':=by
  cases rvs with
  | cons r q=>exact⟨_,_,rfl,r,q⟩
 subst eu
 obtain⟨u2,u3,eu2,rv2,rv3⟩:=rvs1.two
 subst eu2
 refine lK8 ?_ (by show 3<=sizeLine;decide)
 have I2:Inv X pins σ H1 {s1 with heap:=s1.heap.push {cls:= .type "tuple",data:= .seq [u1,u2,u3].toArray} }:=I1.kept (t':=s1.toks) fun b o e=>lJu _ e
 rw[hw]
 refine lJc (lJf ?_)
 show wpAny (model X.prog X.w) X.A (do rule "assign.swapped-stores"; let items <-unpackItems (.ref s1.heap.objs.size) 3 none;assignInOrder [fun v=>bindName X.env z v,fun v=>bindName X.env y v,fun v=>bindName X.env x v] items.reverse;pure Flow.next) _ _ _
 refine lJc (lK3 (lJc (unpackItems_tuple (items:= #[u1,u2,u3]) (I1.ok.hd hc) (IsTup.new s1.heap _) fun h' hx'=> ?_)))
 have I3:=I2.kept (h':=h') (t':=s1.toks) fun b o e=>hx' b o (lJ4 (lJl e)) e
 show wpAny _ _ (assignInOrder [fun v=>bindName X.env z v,fun v=>bindName X.env y v,fun v=>bindName X.env x v] [u3,u2,u1] >>= fun _=>pure Flow.next) _ _ _
 refine lJc (lXg (lXv (jUj I3 hN hk (.inl hz) rv3 (fun s2 I4=> ?_) (.inr hz))))
 refine lXg (lXv (jUj I4 hN hj (.inl hy) rv2 (fun s3 I5=> ?_) (.inr hy)))
 refine lXg (lXv (jUj I5 hN hi (.inl hx) rv1 (fun s4 I6=>assignInOrder_nil (lJf ?_)) (.inr hx)))
 rw[List.set_comm (i:=j) (j:=i) _ _ (Ne.symm hij),List.set_comm (i:=k) (j:=i) _ _ (Ne.symm hik),List.set_comm (i:=k) (j:=j) _ _ (Ne.symm hjk)] at I6
 exact⟨_,G1,H1,e1,⟨_,I6,((hs1.set i ra1).set j ra2).set k ra3,hg1⟩,q1⟩
theorem szle {n:Nat}(h:Nat.ble n 16777216=true):n<=sizeLine:=by rw[PySem.sizeLine_eq];exact Nat.le_of_ble_eq_true h
end L3
namespace L3
theorem xe1 {A0:Type}{σ:Type}{f:A0->σ}{p:A0->Prop}{τ:σ}{C:σ->Prop}(h:∃a0,τ=f a0/\p a0)(k:∀a0,p a0->C (f a0)):C τ:=by
 obtain⟨a0,e,h⟩:=h;rw[e];exact k _ h
theorem xi1 {A0:Type}{σ:Type}{f:A0->σ}{p:A0->Prop}{τ:σ}(a0:A0)(e:τ=f a0)(h:p a0):∃a0,τ=f a0/\p a0:=⟨a0,e,h⟩
theorem xe2 {A0 A1:Type}{σ:Type}{f:A0->A1->σ}{p:A0->A1->Prop}{τ:σ}{C:σ->Prop}(h:∃a0 a1,τ=f a0 a1/\p a0 a1)(k:∀a0 a1,p a0 a1->C (f a0 a1)):C τ:=by
 obtain⟨a0,a1,e,h⟩:=h;rw[e];exact k _ _ h
theorem xi2 {A0 A1:Type}{σ:Type}{f:A0->A1->σ}{p:A0->A1->Prop}{τ:σ}(a0:A0)(a1:A1)(e:τ=f a0 a1)(h:p a0 a1):∃a0 a1,τ=f a0 a1/\p a0 a1:=⟨a0,a1,e,h⟩
theorem xe3 {A0 A1 A2:Type}{σ:Type}{f:A0->A1->A2->σ}{p:A0->A1->A2->Prop}{τ:σ}{C:σ->Prop}(h:∃a0 a1 a2,τ=f a0 a1 a2/\p a0 a1 a2)(k:∀a0 a1 a2,p a0 a1 a2->C (f a0 a1 a2)):C τ:=by
 obtain⟨a0,a1,a2,e,h⟩:=h;rw[e];exact k _ _ _ h
theorem xe4 {A0 A1 A2 A3:Type}{σ:Type}{f:A0->A1->A2->A3->σ}{p:A0->A1->A2->A3->Prop}{τ:σ}{C:σ->Prop}(h:∃a0 a1 a2 a3,τ=f a0 a1 a2 a3/\p a0 a1 a2 a3)(k:∀a0 a1 a2 a3,p a0 a1 a2 a3->C (f a0 a1 a2 a3)):C τ:=by
 obtain⟨a0,a1,a2,a3,e,h⟩:=h;rw[e];exact k _ _ _ _ h
theorem xi4 {A0 A1 A2 A3:Type}{σ:Type}{f:A0->A1->A2->A3->σ}{p:A0->A1->A2->A3->Prop}{τ:σ}(a0:A0)(a1:A1)(a2:A2)(a3:A3)(e:τ=f a0 a1 a2 a3)(h:p a0 a1 a2 a3):∃a0 a1 a2 a3,τ=f a0 a1 a2 a3/\p a0 a1 a2 a3:=⟨a0,a1,a2,a3,e,h⟩
theorem xe5 {A0 A1 A2 A3 A4:Type}{σ:Type}{f:A0->A1->A2->A3->A4->σ}{p:A0->A1->A2->A3->A4->Prop}{τ:σ}{C:σ->Prop}(h:∃a0 a1 a2 a3 a4,τ=f a0 a1 a2 a3 a4/\p a0 a1 a2 a3 a4)(k:∀a0 a1 a2 a3 a4,p a0 a1 a2 a3 a4->C (f a0 a1 a2 a3 a4)):C τ:=by
 obtain⟨a0,a1,a2,a3,a4,e,h⟩:=h;rw[e];exact k _ _ _ _ _ h
theorem xi5 {A0 A1 A2 A3 A4:Type}{σ:Type}{f:A0->A1->A2->A3->A4->σ}{p:A0->A1->A2->A3->A4->Prop}{τ:σ}(a0:A0)(a1:A1)(a2:A2)(a3:A3)(a4:A4)(e:τ=f a0 a1 a2 a3 a4)(h:p a0 a1 a2 a3 a4):∃a0 a1 a2 a3 a4,τ=f a0 a1 a2 a3 a4/\p a0 a1 a2 a3 a4:=⟨a0,a1,a2,a3,a4,e,h⟩
theorem xe6 {A0 A1 A2 A3 A4 A5:Type}{σ:Type}{f:A0->A1->A2->A3->A4->A5->σ}{p:A0->A1->A2->A3->A4->A5->Prop}{τ:σ}{C:σ->Prop}(h:∃a0 a1 a2 a3 a4 a5,τ=f a0 a1 a2 a3 a4 a5/\p a0 a1 a2 a3 a4 a5)(k:∀a0 a1 a2 a3 a4 a5,p a0 a1 a2 a3 a4 a5->C (f a0 a1 a2 a3 a4 a5)):C τ:=by
 obtain⟨a0,a1,a2,a3,a4,a5,e,h⟩:=h;rw[e];exact k _ _ _ _ _ _ h
theorem xi6 {A0 A1 A2 A3 A4 A5:Type}{σ:Type}{f:A0->A1->A2->A3->A4->A5->σ}{p:A0->A1->A2->A3->A4->A5->Prop}{τ:σ}(a0:A0)(a1:A1)(a2:A2)(a3:A3)(a4:A4)(a5:A5)(e:τ=f a0 a1 a2 a3 a4 a5)(h:p a0 a1 a2 a3 a4 a5):∃a0 a1 a2 a3 a4 a5,τ=f a0 a1 a2 a3 a4 a5/\p a0 a1 a2 a3 a4 a5:=⟨a0,a1,a2,a3,a4,a5,e,h⟩
theorem xe7 {A0 A1 A2 A3 A4 A5 A6:Type}{σ:Type}{f:A0->A1->A2->A3->A4->A5->A6->σ}{p:A0->A1->A2->A3->A4->A5->A6->Prop}{τ:σ}{C:σ->Prop}(h:∃a0 a1 a2 a3 a4 a5 a6,τ=f a0 a1 a2 a3 a4 a5 a6/\p a0 a1 a2 a3 a4 a5 a6)(k:∀a0 a1 a2 a3 a4 a5 a6,p a0 a1 a2 a3 a4 a5 a6->C (f a0 a1 a2 a3 a4 a5 a6)):C τ:=by
 obtain⟨a0,a1,a2,a3,a4,a5,a6,e,h⟩:=h;rw[e];exact k _ _ _ _ _ _ _ h
theorem xi7 {A0 A1 A2 A3 A4 A5 A6:Type}{σ:Type}{f:A0->A1->A2->A3->A4->A5->A6->σ}{p:A0->A1->A2->A3->A4->A5->A6->Prop}{τ:σ}(a0:A0)(a1:A1)(a2:A2)(a3:A3)(a4:A4)(a5:A5)(a6:A6)(e:τ=f a0 a1 a2 a3 a4 a5 a6)(h:p a0 a1 a2 a3 a4 a5 a6):∃a0 a1 a2 a3 a4 a5 a6,τ=f a0 a1 a2 a3 a4 a5 a6/\p a0 a1 a2 a3 a4 a5 a6:=⟨a0,a1,a2,a3,a4,a5,a6,e,h⟩
theorem xe8 {A0 A1 A2 A3 A4 A5 A6 A7:Type}{σ:Type}{f:A0->A1->A2->A3->A4->A5->A6->A7->σ}{p:A0->A1->A2->A3->A4->A5->A6->A7->Prop}{τ:σ}{C:σ->Prop}(h:∃a0 a1 a2 a3 a4 a5 a6 a7,τ=f a0 a1 a2 a3 a4 a5 a6 a7/\p a0 a1 a2 a3 a4 a5 a6 a7)(k:∀a0 a1 a2 a3 a4 a5 a6 a7,p a0 a1 a2 a3 a4 a5 a6 a7->C (f a0 a1 a2 a3 a4 a5 a6 a7)):C τ:=by
 obtain⟨a0,a1,a2,a3,a4,a5,a6,a7,e,h⟩:=h;rw[e];exact k _ _ _ _ _ _ _ _ h
theorem xi8 {A0 A1 A2 A3 A4 A5 A6 A7:Type}{σ:Type}{f:A0->A1->A2->A3->A4->A5->A6->A7->σ}{p:A0->A1->A2->A3->A4->A5->A6->A7->Prop}{τ:σ}(a0:A0)(a1:A1)(a2:A2)(a3:A3)(a4:A4)(a5:A5)(a6:A6)(a7:A7)(e:τ=f a0 a1 a2 a3 a4 a5 a6 a7)(h:p a0 a1 a2 a3 a4 a5 a6 a7):∃a0 a1 a2 a3 a4 a5 a6 a7,τ=f a0 a1 a2 a3 a4 a5 a6 a7/\p a0 a1 a2 a3 a4 a5 a6 a7:=⟨a0,a1,a2,a3,a4,a5,a6,a7,e,h⟩
theorem xe9 {A0 A1 A2 A3 A4 A5 A6 A7 A8:Type}{σ:Type}{f:A0->A1->A2->A3->A4->A5->A6->A7->A8->σ}{p:A0->A1->A2->A3->A4->A5->A6->A7->A8->Prop}{τ:σ}{C:σ->Prop}(h:∃a0 a1 a2 a3 a4 a5 a6 a7 a8,τ=f a0 a1 a2 a3 a4 a5 a6 a7 a8/\p a0 a1 a2 a3 a4 a5 a6 a7 a8)(k:∀a0 a1 a2 a3 a4 a5 a6 a7 a8,p a0 a1 a2 a3 a4 a5 a6 a7 a8->C (f a0 a1 a2 a3 a4 a5 a6 a7 a8)):C τ:=by
 obtain⟨a0,a1,a2,a3,a4,a5,a6,a7,a8,e,h⟩:=h;rw[e];exact k _ _ _ _ _ _ _ _ _ h
theorem xe12 {A0 A1 A2 A3 A4 A5 A6 A7 A8 A9 A10 A11:Type}{σ:Type}{f:A0->A1->A2->A3->A4->A5->A6->A7->A8->A9->A10->A11->σ}{p:A0->A1->A2->A3->A4->A5->A6->A7->A8->A9->A10->A11->Prop}{τ:σ}{C:σ->Prop}(h:∃a0 a1 a2 a3 a4 a5 a6 a7 a8 a9 a10 a11,τ=f a0 a1 a2 a3 a4 a5 a6 a7 a8 a9 a10 a11/\p a0 a1 a2 a3 a4 a5 a6 a7 a8 a9 a10 a11)(k:∀a0 a1 a2 a3 a4 a5 a6 a7 a8 a9 a10 a11,p a0 a1 a2 a3 a4 a5 a6 a7 a8 a9 a10 a11->C (f a0 a1 a2 a3 a4 a5 a6 a7 a8 a9 a10 a11)):C τ:=by
 obtain⟨a0,a1,a2,a3,a4,a5,a6,a7,a8,a9,a10,a11,e,h⟩:=h;rw[e];exact k _ _ _ _ _ _ _ _ _ _ _ _ h
variable {a0 a1 C:Prop}
theorem ae2 (h:a0/\a1)(k:a0->a1->C):C:=k h.1 h.2
variable {a2:Prop}
theorem ae3 (h:a0/\a1/\a2)(k:a0->a1->a2->C):C:=k h.1 h.2.1 h.2.2
variable {a3:Prop}
theorem ae4 (h:a0/\a1/\a2/\a3)(k:a0->a1->a2->a3->C):C:=k h.1 h.2.1 h.2.2.1 h.2.2.2
variable {a4:Prop}
theorem ae5 (h:a0/\a1/\a2/\a3/\a4)(k:a0->a1->a2->a3->a4->C):C:=k h.1 h.2.1 h.2.2.1 h.2.2.2.1 h.2.2.2.2
variable {a5:Prop}
theorem ae6 (h:a0/\a1/\a2/\a3/\a4/\a5)(k:a0->a1->a2->a3->a4->a5->C):C:=k h.1 h.2.1 h.2.2.1 h.2.2.2.1 h.2.2.2.2.1 h.2.2.2.2.2
variable {a6:Prop}
theorem ae7 (h:a0/\a1/\a2/\a3/\a4/\a5/\a6)(k:a0->a1->a2->a3->a4->a5->a6->C):C:=k h.1 h.2.1 h.2.2.1 h.2.2.2.1 h.2.2.2.2.1 h.2.2.2.2.2.1 h.2.2.2.2.2.2
variable {a7:Prop}
theorem ae8 (h:a0/\a1/\a2/\a3/\a4/\a5/\a6/\a7)(k:a0->a1->a2->a3->a4->a5->a6->a7->C):C:=k h.1 h.2.1 h.2.2.1 h.2.2.2.1 h.2.2.2.2.1 h.2.2.2.2.2.1 h.2.2.2.2.2.2.1 h.2.2.2.2.2.2.2
theorem ae10 {a8 a9:Prop}(h:a0/\a1/\a2/\a3/\a4/\a5/\a6/\a7/\a8/\a9)(k:a0->a1->a2->a3->a4->a5->a6->a7->a8->a9->C):C:=k h.1 h.2.1 h.2.2.1 h.2.2.2.1 h.2.2.2.2.1 h.2.2.2.2.2.1 h.2.2.2.2.2.2.1 h.2.2.2.2.2.2.2.1 h.2.2.2.2.2.2.2.2.1 h.2.2.2.2.2.2.2.2.2
end L3
namespace L3
open PySem PySem.Spec PyProof.Rows L2
variable {X:Cx}
variable {P:Program}{w:World}{s:Shared}{d:Addr}{es:Array DictEntry}{ep:Nat}{Q:Option Value->Shared->Prop}
section
variable {A:Around}{E:Value->Shared->Prop}{it:Addr}{o:Obj}{i:Nat}
theorem kKx {Q:Value->Shared->Prop}(hd:(d == sysModules)=false)(ho:s.heap.get? d=some o)(hc:o.ExactDict)(hx:o.data= .dict es ep)(hQ:Q (.ref s.heap.objs.size) {s with heap:=s.heap.push {cls:= .type "dict_keyiterator",data:= .fields #[.ref d,.int 0 0,.int es.size 0,.int ep 0]} }):wpAny (model P w) A (pyIter (.ref d)) Q E s:=by
 have hT:s.TypeIs (.ref d) "dict":=⟨o,ho,hc.1⟩
 refine wpAny_pyIter_slot hT PySem.F.slot_dict_iter (lQ3 PySem.F.slot_dict_iter hT PySem.F.entry_dict_iter ?_ (PySem.F.args_dict_iter_1 _));unfold Builtin.«dict.__iter__»
 refine lJc ?_;unfold Builtin.Dict.dictSlotNone;refine lJc (wpAny_notOrdered_dict hT ?_)
 refine (show wpAny _ _ (pure (Value.ref d)) _ _ s from lJf ?_);refine (show wpAny _ _ (Builtin.Dict.showsAll d >>= _) _ _ s from ?_)
 unfold Builtin.Dict.showsAll;rw[lJa (by rw[hd];exact lJp)];refine lJc (lJf (lJc (lXy ho hx (lJc (wpAny_dictEpoch ho hx ?_)))))
 exact lJc (lK8 (lJf ⟨_,rfl,"dict_keyiterator",_,⟨_,lJ8 _ rfl,rfl⟩,lXn.lookup,by simpa[rawInt] using hQ⟩))
theorem kKu {e:DictEntry}(hit:s.heap.IsKeyIter it d i es.size ep)(ho:s.heap.get? d=some o)(hx:o.data= .dict es ep)(hi:es[i]? =some e)(hQ:∀h',h'.IsKeyIter it d (i+1) es.size ep->Heap.SameBut it s.heap h'->Q (some e.key) {s with heap:=h'}):wpAny (model P w) A (pyNext (.ref it)) Q E s:=by
 obtain⟨oi,hoi,hci,hdi⟩:=id hit
 unfold pyNext;refine lJc (wpAny_attempt (lVl (name:=Str.ofString "__next__") hit.typeIs lXn (lQ3 lXn hit.typeIs PySem.F.entry_dict_keyiterator_next ?_ (PySem.F.args_dict_keyiterator_next_1 _))))
 refine lJc (lJf (lJc (lJc ?_)))
 first | refine lJc (lYe hit.typeIs (lJf (lJc (wpAny_fieldsOf hoi hdi ?_)))) | refine lJc (lYf hit.typeIs (lJf (lJc (wpAny_fieldsOf hoi hdi ?_))))
 simp only[show Builtin.Dict_items.ownsTuple "dict_keyiterator"=false by decide,lK4,lKf]
 refine (show wpAny _ _ (if (Value.ref d == Value.none)=true then _ else _) _ _ s from ?_);rw[lJa (show ¬ ((Value.ref d == Value.none)=true) from lJp)]
 refine lJc (lJf (lJc (lXy ho hx ?_)));rw[lJa (by simp)];refine lJc (lJf (lJc (wpAny_dictEpoch ho hx ?_)));rw[lJa (by simp)];refine lJf ?_
 simp only[show ¬ ((i:Int)<0) from by omega,lKf,lXk,hi];refine lJc ?_
 first | refine lJc (lYe hit.typeIs (lJf (lJc (wpAny_isOneOf_keyiter hit.typeIs ?_)))) | refine lJc (lYf hit.typeIs (lJf (lJc (wpAny_isOneOf_keyiter hit.typeIs ?_))))
 refine (show wpAny _ _ (setField (.ref it) 1 (rawInt ((i:Int)+1)) >>= _) _ _ s from lJc (wpAny_setField hoi hdi (by simp) ?_))
 have hit':(s.heap.update it (Obj.mapFields (·.setIfInBounds 1 (rawInt ((i:Int)+1))))).IsKeyIter it d (i+1) es.size ep:=⟨_,lX2 _ hoi (Obj.isFreed_of_fields (Obj.data_mapFields hdi _)),(Obj.cls_mapFields ..).trans hci,by rw[Obj.data_mapFields hdi];simp[rawInt]⟩
 refine lJc (lQ2 (lJc (wpAny_isOneOf_keyiter (s:={s with heap:=s.heap.update it (Obj.mapFields (·.setIfInBounds 1 (rawInt ((i:Int)+1))))}) hit'.typeIs ?_)))
 exact (show wpAny _ _ (pure e.key) _ _ _ from lJf (lJf ⟨_,rfl,lJf (hQ _ hit' (lVh ..))⟩))
theorem kVj (hh:A.handled=none)(hit:s.heap.IsKeyIter it d i es.size ep)(ho:s.heap.get? d=some o)(hx:o.data= .dict es ep)(hi:es.size<=i)(hQ:∀h',Heap.ExtBut it s.heap h'->Q none {s with heap:=h'}):wpAny (model P w) A (pyNext (.ref it)) Q E s:=by
 obtain⟨oi,hoi,hci,hdi⟩:=id hit
 unfold pyNext;refine lJc (wpAny_attempt (lVl (name:=Str.ofString "__next__") hit.typeIs lXn (lQ3 lXn hit.typeIs PySem.F.entry_dict_keyiterator_next ?_ (PySem.F.args_dict_keyiterator_next_1 _))))
 refine lJc (lJf (lJc (lJc ?_)))
 first | refine lJc (lYe hit.typeIs (lJf (lJc (wpAny_fieldsOf hoi hdi ?_)))) | refine lJc (lYf hit.typeIs (lJf (lJc (wpAny_fieldsOf hoi hdi ?_))))
 simp only[show Builtin.Dict_items.ownsTuple "dict_keyiterator"=false by decide,lK4,lKf]
 refine (show wpAny _ _ (if (Value.ref d == Value.none)=true then _ else _) _ _ s from ?_);rw[lJa (show ¬ ((Value.ref d == Value.none)=true) from lJp)]
 refine lJc (lJf (lJc (lXy ho hx ?_)));rw[lJa (by simp)];refine lJc (lJf (lJc (wpAny_dictEpoch ho hx ?_)));rw[lJa (by simp)];refine lJf ?_
 simp only[show ¬ ((i:Int)<0) from by omega,lKf,lXk,lVi hi];refine lJc ?_
 first | refine (lJc (lYe hit.typeIs (lJf ?_))) | refine lJc (lYf hit.typeIs (lJf ?_))
 refine (show wpAny _ _ (setField (.ref it) 0 .none >>= _) _ _ s from lJc (wpAny_setField hoi hdi (by simp) ?_));refine (show wpAny _ _ (newExc (.type "StopIteration") [] >>= _) _ _ _ from lJc ?_)
 simp only[newExc,newTuple];refine lJc (lK8 ?_ (by size_fits));refine lJc (m:=firstArgMember _ _) (wpAny_of_eq (a:=Value.none) (by first | rfl | (simp only[firstArgMember];rfl)) (lK8 ?_ (by size_fits)))
 simp only[raiseNew];refine lJc (wpAny_handled ?_);rw[show A.in1.handled=none from hh];refine lJc (lJf (wpAny_throw ?_))
 exact lJc (wpAny_isInstance (T:="StopIteration") (b:=true) ⟨_,lJ8 _ rfl,rfl⟩ isSubtype_stop (lJf (hQ _ (((lVh ..).extBut.push _).push _))))
end
variable {K:PySem.W.Frag}{H:Hp}{ob:Obj}{ws:List (TKey×V)}{tg:Expr}
theorem qJg {x:T}{a:V}{k:Key}(h:kKm x=some k)(r:a=kV k):Rep K H x a:=by
 subst r
 cases x with
 | int i=>cases h;exact rfl
 | str i=>cases h;exact rfl
 | _=>cases h
theorem jV4 {K:PySem.W.Frag} {H:Hp} {κ:Type} {f:T->Option κ} {R:κ->V->Prop} (hf:∀x k a,f x=some k->R k a->Rep K H x a):∀(xs:List T) {vs:List V} {ks:List κ},allK f xs=some ks->Paired R ks vs->Reps K H xs vs
 | [],_,_,h,r=>by cases h;cases r;exact rfl
 | x::xs,_,ks,h,r=>by
  unfold allK at h
  cases e1:f x with
  | none=>rw[e1] at h;cases h
  | some k=>
   cases e2:allK f xs with
   | none=>rw[e1,e2] at h;cases h
   | some ks'=>
    rw[e1,e2] at h;cases h
    cases r with
    | cons r1 r2=>exact⟨_,_,rfl,hf _ _ _ e1 r1,jV4 hf xs e2 r2⟩
theorem qQp (x:T)(k:K1)(a:V)(h:key1 x=some k)(r:Rk1 H k a):Rep K H x a:=by
 cases x with
 | tup ts=>
  obtain⟨ks,h1,rfl⟩:=lQu.mp (show (allK kKm ts).map Sum.inr=some k from h)
  obtain⟨p,vs,e,h3,h4⟩:=(show ∃p vs,a= .ref p/\H p=some (.tup vs)/\Paired (fun k v=>v=kV k) ks vs from r)
  exact⟨p,vs,e,h3,jV4 (fun x k a h r=>qJg h r) _ h1 h4⟩
 | int i=>cases h;exact r
 | str i=>cases h;exact r
 | _=>cases h
theorem kVa (x:T)(k:K2)(a:V)(h:key2 x=some k)(r:Rk2 H k a):Rep K H x a:=by
 cases x with
 | tup ts=>
  obtain⟨ks,h1,rfl⟩:=lQu.mp (show (allK key1 ts).map Sum.inr=some k from h)
  obtain⟨p,vs,e,h3,h4⟩:=(show ∃p vs,a= .ref p/\H p=some (.tup vs)/\Paired (Rk1 H) ks vs from r)
  exact⟨p,vs,e,h3,jV4 qQp _ h1 h4⟩
 | int i=>cases h;exact r
 | str i=>cases h;exact r
 | _=>cases h
theorem jUv {α β:Type} {F:α->β->Prop}:∀ {l:List α} {m:List β} {i:Nat} {x:α},Paired F l m->l[i]? =some x->∃y,m[i]? =some y/\F x y
 | _,_,_,_,.nil,h=>by simp at h
 | _,_,0,_,.cons r t,h=>by cases h;exact⟨_,rfl,r⟩
 | _,_,i+1,_,.cons r t,h=>jUv (i:=i) t h
noncomputable def Itd (d:Addr)(ob:Obj)(ws:List (TKey×V)):It:=
 ⟨fun i H=>H d=some (.frz ob (.dT ws))/\i<ws.length,fun i H x H'=>H'=H/\∃b kv,ws[i]? =some kv/\x= .ref b/\TKeyAt H kv.1 b,fun i H=>H d=some (.frz ob (.dT ws))/\ws.length<=i⟩
theorem fd_at {pins:List (Addr×Obj)}{σ:L2.St}(I:Inv X pins σ H s)(h:H d=some (.frz ob (.dT ws)))(hx:ob.data= .dict es ep):
  s.heap.get? d=some ob/\es.size=ws.length/\∀(i:Nat) (e:DictEntry),es[i]? =some e->∃b kv,ws[i]? =some kv/\e.key= .ref b/\TKeyAt H kv.1 b:=by
 obtain⟨ho,z,hd,xs,rel,o,es',ep',ho',hc,hx',he,hn⟩:=(show s.heap.get? d=some ob/\ObjOk X.prog X.w H s.heap d (.dT ws) from I.hok d _ h)
 rw[ho] at ho';cases ho'
 rw[hx] at hx';cases hx'
 have l1:es.size=ws.length:=by
  have a1:=lKa List.length he
  have a2:=lQ4 rel
  simp at a1;omega
 refine⟨ho,l1,fun i e hi=> ?_⟩
 have hil:i<ws.length:=by rw[<-l1];exact (lYg.mp hi).1
 obtain⟨q,h1,h2,h3,h4⟩:=jUv rel (lJi hil)
 have:=entry_at he i
 rw[hi,h1] at this
 cases this
 exact⟨q.2.1,ws[i],lJi hil,rfl,h3⟩
theorem qY1 (d it:Addr)(hx:ob.data= .dict es ep):Turn P w K tg (Itd d ob ws) [it] it (fun i h=>h.IsKeyIter it d i es.size ep) where
 mem:=by simp
 obj:=fun i h st b hb=>by
  have e:b=it:=by simpa using hb
  subst e
  obtain⟨o,e,c,dd⟩:=st
  exact⟨o,e,fun v z=>by rw[dd] at z;cases z⟩
 keep:=fun i h h' st k=>st.at fun o e=>k it (by simp) o e
 item:=by
  intro X hP hw hK hc i pins s σ H E I hf st hg
  subst hP hw hK
  obtain⟨hH,hi⟩:=hg
  obtain⟨ho,l1,hat⟩:=fd_at I hH hx
  have he:es[i]? =some (es[i]'(by omega)):=lK0 _
  obtain⟨b,kv,h1,h2,h3⟩:=hat i _ he
  obtain⟨f0,f1,f2,f3,f4,f5⟩:=hf it (by simp)
  refine kKu st ho hx he fun h' st' sb=> ?_
  have I1:Inv X pins σ H {s with heap:=h'}:=I.turned (t':=s.toks) (fun b o hb e=>(sb.2 b hb).trans e) f0 f1 f3 f4 f5
  obtain⟨o,e,c,dd⟩:=id st'
  rw[h2]
  exact⟨_,rfl,qQx (s:={s with heap:=h'}) e c dd (by decide) ⟨.ref b,H,I1,rfl,⟨rfl,b,kv,h1,rfl,h3⟩,st',fun b hb=>(hf b hb).1⟩⟩
 done:=by
  intro X hP hw hK hc i pins s σ H E I hf st hg
  subst hP hw hK
  obtain⟨hH,hi⟩:=hg
  obtain⟨ho,l1,hat⟩:=fd_at I hH hx
  obtain⟨f0,f1,f2,f3,f4,f5⟩:=hf it (by simp)
  exact kVj (I.ok.hd hc) st ho hx (by omega) fun h' eb=>⟨rfl,I.turned (t':=s.toks) (fun b o hb e=>eb b o hb e) f0 f1 f3 f4 f5⟩
 self:=fun _ _ _ _ _ st h=>wpAny_pyIter_keyiter st h
noncomputable def iFd (tl:TE3):TI3:=fun τ G R=>tl τ G fun x G1=>∃(p:Addr) (kvs:List (TKey×T)) (yss:List (List T)),x= .ref p/\G1 p=some (.dct kvs)/\yss.map jQw=kvs.map (fun kv=>some kv.1)/\R (yss.map T.tup) (fun _=>True) (gup G1 p (.fdc kvs))
theorem i_fd {l:Expr}{tl:TE3}(hl:PE3 X l tl):PI3 X tg l (iFd tl):=by
 intro pins s τ G H R I h
 refine thn (hl pins s τ G H _ I h) fun v s1 w_=>w_.el fun x G1 H1 e1 i_ r_ ⟨p,kvs,yss,ex,hG,hy,q⟩=>i_.el fun σ I1 hs1 hg1=>r_.el fun a ra rv=> ?_
 subst ex
 cases (show a= .ref p from ra);cases rv
 obtain⟨ws,h1,h2⟩:=(show ∃ws,H1 p=some (.dT ws)/\PKV X.K H1 kvs ws from hg1 p _ hG)
 obtain⟨z,hd,xs,rel,o,es,ep,ho,hc,hx,he,hn⟩:=(show ObjOk X.prog X.w H1 s1.heap p (.dT ws) from I1.hok p _ h1)
 refine kKx hd ho hc hx ?_
 have rel':KT (upd H1 p (.frz o (.dT ws))) ws xs:=KT.keeps rel fun b' ys' ec=>by rw[jKg (qZu ec h1 (fun z=>nomatch z))];exact ec
 have I2:Inv X pins σ (upd H1 p (.frz o (.dT ws))) {s1 with heap:=s1.heap,toks:=s1.toks}:=kUb (t':=s1.toks) I1 (by rw[h1];exact True.intro) (Heap.SameBut.refl _ _) ⟨o,ho⟩ ⟨ho,z,hd,xs,rel',o,es,ep,ho,hc,hx,he,hn⟩
 have ext:Ext H1 (upd H1 p (.frz o (.dT ws))):= .upd (.dT h1)
 have fpk:∀b∈[s1.heap.objs.size],FpOk X pins (upd H1 p (.frz o (.dT ws))) b:=fun b hb=>by
  have e:b=s1.heap.objs.size:=by simpa using hb
  subst e
  exact I2.fpOk (lJj _) (I2.hok.fresh (lJj _))
 refine⟨s1.heap.objs.size,[s1.heap.objs.size],_,_,yss.map T.tup,fun _=>True,_,_,rfl,e1.trans ext,⟨σ,I2.kept (t':=s1.toks) fun b o e=>lJu _ e,hs1.mono ext,hg1.upd (.dT h1) (go:= .fdc kvs) ⟨o,ws,jQe,h2.mono ext⟩⟩,qY1 p _ (ob:=o) (ws:=ws) hx,⟨_,lJ8 _ rfl,rfl,rfl⟩,fpk,?_,q⟩
 intro i H2 G2 e2 g2 _
 have hH2:=e2.frz p o (.dT ws) jQe
 have hlen:yss.length=ws.length:=by
  have a1:=lKa List.length hy
  rw[lJe,lJe] at a1
  have a2:=h2.length
  omega
 rw[lJe]
 refine⟨fun hi=>⟨hH2,by omega⟩,fun hi=>⟨hH2,by omega⟩,fun hi y H' ⟨eH,b,kv,g1,g2',g3⟩=> ?_⟩
 subst eH;subst g2'
 refine⟨.refl _,g2,.tup (yss[i]'hi),by rw[lJr,lJi hi];rfl,?_⟩
 have hk:i<kvs.length:=by have:=h2.length;omega
 obtain⟨w',k1,k2,_⟩:=jUv h2 (lJi hk)
 rw[g1] at k1;cases k1
 have hyi:=lKa (fun l=>l[i]?) hy
 simp only[lJr,lJi hi,lJi hk,lQe,lQw] at hyi
 obtain⟨vs,t1,t2⟩:=g3
 rw[k2] at hyi
 exact⟨b,vs,rfl,t1,jV4 kVa _ hyi t2⟩
end L3
namespace L3
open PySem
namespace St
open SetTable
end St
end L3
namespace L3
open PySem
namespace St
open SetTable
end St
end L3
namespace L3
open PySem PySem.Spec PyProof.Rows L2
def kUk (h h':Heap):Prop:=∀b o,h.get? b=some o->o.cls= .type "tuple"->h'.get? b=some o
variable {prog:Program}{w:World}{h h':Heap}
section
variable {K:Type}[DecidableEq K]{c:Nat}
def Stab (V:KeyV prog w K c):Prop:=∀ {h h':Heap} {k:K} {v:Value},kUk h h'->V.is h k v->V.is h' k v
theorem kZy {V:KeyV prog w K c}(hV:Stab V)(kp:kUk h h'){ks:List K}{vs:List Value}(hi:ItemsV V h ks vs):ItemsV V h' ks vs:=by
 induction hi with
 | nil=>exact .nil
 | cons a _ ih=>exact .cons (hV kp a) ih
theorem kYg {V:KeyV prog w K c}(hV:Stab V):Stab (jVk V):=by
 rintro h h' k v kp ⟨a,o,items,n,rfl,ho,hc,hd,hi⟩
 exact⟨a,o,items,n,rfl,kp a o ho hc,hc,hd,kZy hV kp hi⟩
theorem kYh {V:KeyV prog w K c}(hV:Stab V):Stab (qU8 V):=by
 rintro h h' (k | k) v kp hx
 ·exact hx
 ·exact kYg hV kp hx
theorem qJ5:Stab (kK6 prog w):=fun _ hx=>hx
theorem kUq {k:TKey}{a:Addr}(kp:kUk h h')(hx:(jKi prog w).is h k a):(jKi prog w).is h' k a:=kYg (kYh (kYh qJ5)) kp hx
noncomputable def intK:Key->Bool
 | .inl _=>true
 | .inr _=>false
noncomputable def intS {α:Type}(f:α->Bool):Key ⊕ List α->Bool
 | .inl k=>intK k
 | .inr ks=>ks.all f
noncomputable def intT:TKey->Bool:=fun ks=>ks.all (intS (intS intK))
end
variable {A:Around}{E:Value->Shared->Prop}{s:Shared}
section
section
variable {R:Result->Shared->Prop}{I:Addr}{fp:List Addr}{G:Array GenState->Array GenState->Prop}{n:Nat}{P:Nat->Value->Prop}{St:Nat->Shared->Prop}
end
end
namespace Si
theorem own:Manifest.owners.lookup (String.ofList ['r','o','t','a','r','e','t','i','_','t','e','s'].reverse)=some Manifest.sig_set_iterator:=by kernel_rfl
end Si
section
variable {prog:Program} {w:World} {A:Around} {E:Value->Shared->Prop} {s:Shared}
end
end L3
namespace L3
open PySem PySem.Spec PyProof.Rows L2
noncomputable def lexLt {K:Type} [DecidableEq K] (lt:K->K->Option Bool):List K->List K->Option Bool
 | [],[]=>some false
 | [],_::_=>some true
 | _::_,[]=>some false
 | x::xs,y::ys=>if x=y then lexLt lt xs ys else lt x y
noncomputable def ltI:Key->Key->Option Bool
 | .inl i,.inl j=>some (decide (i<j))
 | _,_=>none
def ltS {K:Type}[DecidableEq K](lt:K->K->Option Bool):Key ⊕ List K->Key ⊕ List K->Option Bool
 | .inl x,.inl y=>ltI x y
 | .inr x,.inr y=>lexLt lt x y
 | _,_=>none
def ltK:TKey->TKey->Option Bool:=lexLt (ltS (ltS ltI))
section
variable {prog:Program}{w:World}{K:Type}[DecidableEq K]{c:Nat}
def LtV (V:KeyV prog w K c)(lt:K->K->Option Bool):Prop:=∀ {A:Around} {E:Value->Shared->Prop} {s:Shared} {x y:K} {u v:Value} {b:Bool} {Q:Value->Shared->Prop},A.units+c<cLine->V.is s.heap x u->V.is s.heap y v->lt x y=some b->Q (.bool b) s->wpAny (model prog w) A (compareOp .Lt u v) Q E s
theorem qQh:LtV (kK6 prog w) ltI:=by
 intro A E s x y u v b Q _ hx hy hl h
 rcases jJz (show jY4 x u=true from hx) with ⟨i,t,rfl,rfl⟩ | ⟨i,t,rfl,rfl⟩
 ·rcases jJz (show jY4 y v=true from hy) with ⟨j,t',rfl,rfl⟩ | ⟨j,t',rfl,rfl⟩
  ·cases hl
   exact PyProof.Rows.lt_int h
  ·cases hl
 ·cases hl
open PySem.SeqAt in
open PySem.AutoSeq1 (wpAny_loadPart') in
open PySem.MeetsSeq PySem.MeetsSeq2 PySem.MeetsSeq3 in
theorem lt_tup {V:KeyV prog w K c}{lt:K->K->Option Bool}(hV:LtV V lt):LtV (jVk V) (lexLt lt):=by
 rintro A E s x y u v b Q hu ⟨a1,o1,its1,n1,rfl,ho1,hc1,hd1,hi1⟩ ⟨a2,o2,its2,n2,rfl,ho2,hc2,hd2,hi2⟩ hl h
 obtain⟨cls,dd,data,sl⟩:=o1
 obtain⟨cls2,dd2,data2,sl2⟩:=o2
 simp only at hc1 hd1 hc2 hd2
 subst hc1 hd1 hc2 hd2
 have hT1:s.TypeIs (.ref a1) "tuple":=⟨_,ho1,rfl⟩
 have hT2:s.TypeIs (.ref a2) "tuple":=⟨_,ho2,rfl⟩
 refine (show wpAny _ _ (richCompare .Lt (.ref a1) (.ref a2)) _ _ s from wpAny_richCompare_same_room hT1 hT2 PySem.F.slot_tuple_lt (lQ3 PySem.F.slot_tuple_lt hT1 PySem.F.entry_tuple_lt ?_ (PySem.F.args_tuple_lt_2 _ _)) (by omega))
 have f2:=AutoSeq1.sub_tuple_tuple
 (obtain⟨hp,g,d,tk,os⟩:=s)
 have z1:its1.size=x.length:=by rw[hi1.length];simp
 have z2:its2.size=y.length:=by rw[hi2.length];simp
 wp_walk using wpAny_loadPart' ho1,wpAny_loadPart' ho2,wpAny_forIn_list _ (fun rest bb s'=>bb.1=none/\s'=⟨hp,g,d,tk,os⟩/\∃(vs ws:List Value) (x' y':List K),rest=vs.zip ws/\ItemsV V hp x' vs/\ItemsV V hp y' ws/\x'.length+its2.size=y'.length+its1.size/\lexLt lt x' y'=some b) _
 case turn=>
  rintro⟨p,q⟩ rest bb s' ⟨hb',rfl,vs,ws,x',y',hz,hv1,hv2,hlen,hR⟩
  cases hv1 with
  | nil=>rw[List.zip_nil_left] at hz;cases hz
  | @cons k1 v1 ks1 vs1 h1 hv1'=>
   cases hv2 with
   | nil=>rw[List.zip_nil_right] at hz;cases hz
   | @cons k2 v2 ks2 vs2 h2 hv2'=>
    rw[lV8] at hz
    injection hz with hyx hrest
    injection hyx with hy hx
    subst hy hx
    simp only[lKc] at hlen
    have he:=V.eqAt (A:=A.in1) (s:=⟨hp,g,d,tk,os⟩) (by rw[lVm];omega) h1 h2
    refine lJc (he prog w _ _ ?_)
    by_cases e:k1=k2
    ·have hR':lexLt lt ks1 ks2=some b:=by
      have:=hR
      unfold lexLt at this
      rw[lJb e] at this;exact this
     rw[lJq e]
     wp_walk
     exact⟨rfl,rfl,_,_,_,_,hrest,hv1',hv2',by omega,hR'⟩
    ·have hR':lt k1 k2=some b:=by
      have:=hR
      unfold lexLt at this
      rw[lJa e] at this;exact this
     rw[lJk e]
     have hri:∀ {Q':Value->Shared->Prop} {E':Value->Shared->Prop},Q' (.bool b) ⟨hp,g,d,tk,os⟩->wpAny (model prog w) A.in1 (richCompare .Lt p q) Q' E' ⟨hp,g,d,tk,os⟩:=fun hq=>(hV (A:=A.in1) (s:=⟨hp,g,d,tk,os⟩) (by rw[lVm];omega) h1 h2 hR' hq:wpAny (model prog w) A.in1 (compareOp .Lt p q) _ _ _)
     wp_walk using hri
     exact⟨_,rfl,(fun z=>nomatch z),h⟩
 case fin=>
  rintro⟨b1,b2⟩ s' ⟨hb',rfl,vs,ws,x',y',hz,hv1,hv2,hlen,hR⟩
  simp only at hb'
  subst hb'
  have hv:b=decide (its1.size<its2.size):=by
   cases hv1 with
   | nil=>
    cases hv2 with
    | nil=>simp only[lQh] at hlen;cases hR;exact (lJk (by omega)).symm
    | cons _ _=>simp only[lQh,lKc] at hlen;cases hR;exact (lJq (by omega)).symm
   | cons _ hv1'=>
    cases hv2 with
    | nil=>simp only[lQh,lKc] at hlen;cases hR;exact (lJk (by omega)).symm
    | cons _ _=>rw[lV8] at hz;cases hz
  wp_walk
  refine⟨_,rfl,(fun z=>nomatch z),?_⟩
  simpa[Builtin.Tuple.tupleCompareSizes,<-hv] using h
 case h=>
  exact⟨rfl,rfl,its1.toList,its2.toList,x,y,rfl,hi1,hi2,by omega,hl⟩
theorem qYl {V:KeyV prog w K c}{lt:K->K->Option Bool}(hV:LtV V lt):LtV (qU8 V) (ltS lt):=by
 rintro A E s (x | x) (y | y) u v b Q hu hx hy hl h
 ·exact qQh (by omega) hx hy hl h
 ·cases hl
 ·cases hl
 ·exact lt_tup hV hu hx hy hl h
end
end L3
namespace L3
open PySem PySem.Spec PyProof.Rows L2 PySem.W
section
variable {n:Nat}{lt:Nat->Nat->Bool}
end
structure KOrd {K:Type} (lt:K->K->Option Bool):Prop where
 neg:∀ {a b},a≠b->∀ {c},lt a b=some c->lt b a=some !c
 tr:∀ {a b c},a≠b->b≠c->lt a b=some true->lt b c=some true->lt a c=some true
 ir:∀ {a b},a≠b->lt a b=some true->lt b a=some true->False
theorem kord_I:KOrd ltI:=by
 refine⟨?_,?_,?_⟩
 ·rintro (a | a) (b | b) h c e
  ·have hab:a≠b:=fun z=>h (by rw[z])
   simp only[ltI,lQw] at e ⊢
   rw[<-e]
   by_cases q:a<b
   ·rw[lJq q,lJk (by omega)];rfl
   ·rw[lJk q,lJq (by omega)];rfl
  ·cases e
  ·cases e
  ·cases e
 ·rintro (a | a) (b | b) (c | c) _ _ e1 e2<;>first | cases e1;done | cases e2;done | skip
  simp only[ltI,lQw,lKs] at e1 e2 ⊢
  omega
 ·rintro (a | a) (b | b) _ e1 e2<;>first | cases e1;done | skip
  simp only[ltI,lQw,lKs] at e1 e2
  omega
section
variable {K:Type}[DecidableEq K]{lt:K->K->Option Bool}
theorem kXt (o:KOrd lt):∀ {a b:List K},a≠b->∀ {c},lexLt lt a b=some c->lexLt lt b a=some !c
 | [],[],h,_,_=>absurd rfl h
 | [],_::_,_,c,e=>by cases e;rfl
 | _::_,[],_,c,e=>by cases e;rfl
 | x::xs,y::ys,h,c,e=>by
  unfold lexLt at e ⊢
  by_cases q:x=y
  ·rw[lJb q] at e;rw[lJb q.symm]
   exact kXt o (fun z=>h (by rw[q,z])) e
  ·rw[lJa q] at e;rw[lJa (fun z=>q z.symm)]
   exact o.neg q e
theorem kY1:∀(a:List K),lexLt lt a a=some false
 | []=>rfl
 | x::xs=>by unfold lexLt;rw[lJb rfl];exact kY1 xs
theorem kY0 (o:KOrd lt):∀ {a b c:List K},lexLt lt a b=some true->lexLt lt b c=some true->lexLt lt a c=some true
 | [],[],_,e,_=>by cases e
 | _::_,[],_,e,_=>by cases e
 | [],_::_,[],_,e=>by cases e
 | [],_::_,_::_,_,_=>(rfl)
 | _::_,_::_,[],_,e=>by cases e
 | x::xs,y::ys,z::zs,e1,e2=>by
  unfold lexLt at e1 e2 ⊢
  by_cases q1:x=y
  ·subst q1
   rw[lJb rfl] at e1
   by_cases q2:x=z
   ·rw[lJb q2] at e2 ⊢
    exact kY0 o e1 e2
   ·rw[lJa q2] at e2 ⊢
    exact e2
  ·rw[lJa q1] at e1
   by_cases q2:y=z
   ·subst q2
    rw[lJa q1]
    exact e1
   ·rw[lJa q2] at e2
    by_cases q3:x=z
    ·subst q3
     exact (o.ir q1 e1 e2).elim
    ·rw[lJa q3]
     exact o.tr q1 q2 e1 e2
theorem kQ3 (o:KOrd lt):KOrd (lexLt lt):=by
 refine⟨?_,?_,?_⟩
 ·intro a b h c e;exact kXt o h e
 ·intro a b c _ _ e1 e2;exact kY0 o e1 e2
 ·intro a b h e1 e2
  have:=kXt o h e1
  rw[e2] at this;cases this
theorem kY3 (o:KOrd lt):KOrd (ltS lt):=by
 refine⟨?_,?_,?_⟩
 ·rintro (a | a) (b | b) h c e
  ·exact kord_I.neg (fun z=>h (by rw[z])) e
  ·cases e
  ·cases e
  ·exact (kQ3 o).neg (fun z=>h (by rw[z])) e
 ·rintro (a | a) (b | b) (c | c) h1 h2 e1 e2<;>first | cases e1;done | cases e2;done | skip
  ·exact kord_I.tr (fun z=>h1 (by rw[z])) (fun z=>h2 (by rw[z])) e1 e2
  ·exact kY0 o e1 e2
 ·rintro (a | a) (b | b) h e1 e2<;>first | cases e1;done | skip
  ·exact kord_I.ir (fun z=>h (by rw[z])) e1 e2
  ·exact (kQ3 o).ir (fun z=>h (by rw[z])) e1 e2
end
theorem kord:KOrd ltK:=kQ3 (kY3 (kY3 kord_I))
theorem qQj {a b c:TKey}(h1:ltK a b=some true)(h2:ltK b c=some true):ltK a c=some true:=kY0 (kY3 (kY3 kord_I)) h1 h2
def kVe:TKey->Bool->Prop
 | .inl _::_,b=>b=true
 | .inr _::_,b=>b=false
 | [],_=>False
variable {prog:Program}{w:World}{A:Around}{E:Value->Shared->Prop}{s:Shared}{b:Bool}
theorem kVc {Q:Bool->Shared->Prop} {b:Bool} {n1 n2:Nat} {c:Bool} (hu:A.units+6<cLine) (hq:Q c s):∀(i:Nat) (x y:TKey) (vs ws:List Value),ItemsV (vk2 prog w) s.heap x vs->ItemsV (vk2 prog w) s.heap y ws->x.length+n2=y.length+n1->lexLt (ltS (ltS ltI)) x y=some c->((b&&i == 0)=true->(∀k,k∈x->i=0->x.head? =some k->∃z,k= .inl z)/\(∀k,k∈y->i=0->y.head? =some k->∃z,k= .inl z))->
  KatLex prog w A b (decide (n1<n2)) Q (vs.zip ws) i s
 | i,_,_,_,_,.nil,.nil,hn,hl,_=>by
  simp only[lQh] at hn
  cases hl
  refine kat_nil ?_
  rw[lJk (by omega)];exact hq
 | i,_,_,_,_,.nil,.cons _ _,hn,hl,_=>by
  simp only[lQh,lKc] at hn
  cases hl
  refine kat_nil ?_
  rw[lJq (by omega)];exact hq
 | i,_,_,_,_,.cons _ _,.nil,hn,hl,_=>by
  simp only[lQh,lKc] at hn
  cases hl
  refine kat_nil ?_
  rw[lJk (by omega)];exact hq
 | i,_,_,_,_,@ItemsV.cons _ _ _ _ _ _ _ k1 v1 ks1 vs1 h1 t1,@ItemsV.cons _ _ _ _ _ _ _ k2 v2 ks2 vs2 h2 t2,hn,hl,hb=>by
  simp only[lKc] at hn
  rw[lV8]
  refine kat_cons (((vk2 prog w).eqAt (by omega) h1 h2) prog w _ _ ?_)
  unfold lexLt at hl
  by_cases e:k1=k2
  ·rw[lJb e] at hl
   rw[lJq e]
   refine kat_yes (kVc hu hq (i+1) _ _ _ _ t1 t2 (by omega) hl fun z=> ?_)
   simp at z
  ·rw[lJa e] at hl
   rw[lJk e]
   refine kat_no ?_
   cases q:(b&&i == 0) with
   | false=>exact kat_one _ _ (qYl (qYl qQh) (by omega) h1 h2 hl hq)
   | true=>
    have hi:i=0:=by simp at q;exact q.2
    obtain⟨z1,z2⟩:=hb q
    obtain⟨a,rfl⟩:=z1 k1 (lKn ..) hi rfl
    obtain⟨a',rfl⟩:=z2 k2 (lKn ..) hi rfl
    rcases jJz (show jY4 a v1=true from h1) with ⟨p,t,rfl,rfl⟩ | ⟨p,t,rfl,rfl⟩
    ·rcases jJz (show jY4 a' v2=true from h2) with ⟨p',t',rfl,rfl⟩ | ⟨p',t',rfl,rfl⟩
     ·cases hl
      exact oneLt_int hq
     ·cases hl
    ·cases hl
theorem ask_ok {x y:TKey}{a1 a2:Addr}{c:Bool}{Q:Bool->Shared->Prop}(hu:A.units+6<cLine)(h1:(jKi prog w).is s.heap x a1)(h2:(jKi prog w).is s.heap y a2)(hl:ltK x y=some c)(hx:kVe x b)(hy:kVe y b)(hq:Q c s):wpAny (model prog w) A (keyLt' (tuples' b) (.ref a1) (.ref a2)) Q E s:=by
 obtain⟨p1,o1,its1,n1,e1,ho1,hc1,hd1,hi1⟩:=(show kKb _ _ _ _ from h1)
 obtain⟨p2,o2,its2,n2,e2,ho2,hc2,hd2,hi2⟩:=(show kKb _ _ _ _ from h2)
 cases e1;cases e2
 refine kat_lt ho1 hd1 ho2 hd2 (kVc hu hq 0 x y _ _ hi1 hi2 ?_ hl fun z=> ?_)
 ·have l1:=hi1.length
  have l2:=hi2.length
  simp at l1 l2
  omega
 ·have hb:b=true:=by simpa using z
  subst hb
  refine⟨fun k _ _ hk=> ?_,fun k _ _ hk=> ?_⟩
  ·match x,hx,hk with
   | .inl u::_,_,e=>cases e;exact⟨u,rfl⟩
  ·match y,hy,hk with
   | .inl u::_,_,e=>cases e;exact⟨u,rfl⟩
noncomputable def tyOf (b:Bool):Value:=if b=true then .type "int" else .type "tuple"
theorem kU8 {b:Bool}:∀(es:List (TKey×Addr)),(∀e,e∈es->(jKi prog w).is s.heap e.1 e.2/\kVe e.1 b/\intT e.1=true)->∃fs,KatTups s.heap (es.map fun e=> .ref e.2) fs/\fs.length=es.length/\∀v,v∈fs->Looks (model prog w) s.heap (typeOf v) (tyOf b)
 | [],_=>⟨[],.nil,rfl,fun v hv=>absurd hv (lKi)⟩
 | (k,a)::es,h=>by
  obtain⟨fs,t,l,hf⟩:=kU8 es fun e he=>h e (lKp _ he)
  obtain⟨h1,h2,h3⟩:=h (k,a) (lKn ..)
  obtain⟨p1,o1,its1,n1,e1,ho1,hc1,hd1,hi1⟩:=(show kKb _ _ _ _ from h1)
  cases e1
  match k,h2,h3,hi1 with
  | .inl u::ks,hb,h3,hi=>
   cases (show b=true from hb)
   generalize hits:its1.toList=its at hi
   cases hi with
   | @cons _ v _ vs hv ht=>
    refine⟨v::fs,.cons ho1 hc1 hd1 (by rw[<-lJ1,hits];rfl) t,by simp[l],fun x hx=> ?_⟩
    (rcases lJy.mp hx with rfl | hx)
    ·rcases jJz (show jY4 u x=true from hv) with ⟨i,tk,_,rfl⟩ | ⟨i,tk,rfl,rfl⟩
     ·exact Looks.of_pure rfl
     ·simp[intT,intS,intK] at h3
    ·exact hf x hx
  | .inr u::ks,hb,h3,hi=>
   cases (show b=false from hb)
   generalize hits:its1.toList=its at hi
   cases hi with
   | @cons _ v _ vs hv ht=>
    obtain⟨p2,o2,its2,n2,e2,ho2,hc2,hd2,hi2⟩:=(show kKb _ _ u v from hv)
    subst e2
    refine⟨.ref p2::fs,.cons ho1 hc1 hd1 (by rw[<-lJ1,hits];rfl) t,by simp[l],fun x hx=> ?_⟩
    (rcases lJy.mp hx with rfl | hx)
    ·have:=(Looks.ld (M:=model prog w) (part:=none) ho2).andThen (f:=fun o=>pure o.cls) .now
     rw[hc2] at this
     exact this
    ·exact hf x hx
theorem qZ4 {es:List (TKey×Addr)}(h:∀e,e∈es->(jKi prog w).is s.heap e.1 e.2/\kVe e.1 b/\intT e.1=true)(hne:0<es.length){Q:SortKind->Shared->Prop}(hq:Q (tuples' b) s):wpAny (model prog w) A (keyKind' (List.toArray (es.map fun e=>Value.ref e.2))) Q E s:=by
 obtain⟨fs,t,l,hf⟩:=kU8 es h
 refine kat_kind (T:=tyOf b) t (by omega) hf (by cases b<;>decide) ?_
 rw[show (tyOf b != Value.type "tuple")=b by cases b<;>decide]
 exact hq
theorem jXu {α β:Type}{f:α->β}{l l':List β}(h:l.Perm l'):∀es:List α,l'=es.map f->∃es':List α,es'.Perm es/\l=es'.map f:=by
 induction h with
 | nil=>intro es e;cases es with | nil=>exact⟨[],.refl _,rfl⟩ | cons _ _=>cases e
 | cons x _ ih=>
  intro es e
  cases es with
  | nil=>cases e
  | cons a es=>
   rw[lJ6,lVr] at e
   obtain⟨es',h1,h2⟩:=ih es e.2
   exact⟨a::es',h1.cons a,by rw[lJ6,e.1,h2]⟩
 | swap x y l=>
  intro es e
  match es,e with
  | a::b::es,e=>
   rw[lJ6,lJ6,lVr,lVr] at e
   exact⟨b::a::es,.swap _ _ _,by rw[lJ6,lJ6,e.1,e.2.1,e.2.2]⟩
 | trans _ _ ih1 ih2=>
  intro es e
  obtain⟨es',h1,h2⟩:=ih2 es e
  obtain⟨es'',h3,h4⟩:=ih1 es' h2
  exact⟨es'',h3.trans h1,h4⟩
def SKey (b:Bool)(ts:List T)(k:TKey):Prop:=jQw ts=some k/\kVe k b/\intT k=true
theorem kV5 {K:PySem.W.Frag} {H:Hp}:∀(tb:List ((List T×TKey)×Addr)),(∀e,e∈tb->Rep K H (.tup e.1.1) (.ref e.2))->Reps K H (tb.map fun e=> .tup e.1.1) (tb.map fun e=>V.ref e.2)
 | [],_=>rfl
 | e::tb,h=>⟨_,_,rfl,h e (lKn ..),kV5 tb fun x hx=>h x (lKp _ hx)⟩
theorem jYp:∀(bs:List ((List T×TKey)×Addr)),Vals (bs.map fun e=>V.ref e.2) (bs.map fun e=>Value.ref e.2)
 | []=> .nil
 | e::bs=> .cons rfl (jYp bs)
section
variable {X:Cx}
end
end L3
namespace L3
open PySem PySem.Spec PyProof.Rows L2
variable {X:Cx}
noncomputable def kQv:T->List T->Gp->VK3->Prop:=fun x as G Q=>∃p q xs ys,x= .ref p/\as=[.ref q]/\G p=some (.lst xs)/\G q=some (.lst ys)/\xs.length+ys.length<=sizeLine/\Q .non (gup G p (.lst (xs++ys)))
theorem kYz:Mt3 X "list.extend" kQv:=by
 rintro pins s τ G H x as v us Q ⟨σ,I,hs,hg⟩ ⟨a,ra,rv⟩ ⟨bs,rbs,rus⟩ ⟨p,q,xs,ys,ex,ea,hp,hq,hz,k⟩
 subst ex;subst ea
 cases (show a= .ref p from ra);cases rv
 obtain⟨b1,rfl,r1⟩:=jU5 rbs
 cases (show b1= .ref q from r1)
 obtain⟨u1,rfl,ru1⟩:=rus.one
 cases ru1
 obtain⟨vs,h1,h2⟩:=hg.lst hp
 obtain⟨ws,h3,h4⟩:=hg.lst hq
 obtain⟨z,its,n,r,hl,e⟩:=I.lstM h1
 obtain⟨z',its',n',r',hl',e'⟩:=I.lstM h3
 have hlen:=h2.length
 have hlen':=h4.length
 have q1:=r.length
 have q2:=r'.length
 have hc:¬(!its.toArray.isEmpty&&Builtin.List.listTooLong (its.toArray.size+its'.toArray.size))=true:=by
  have:Builtin.List.listTooLong (its.toArray.size+its'.toArray.size)=false:=by
   unfold Builtin.List.listTooLong
   (rw[lJs,lJs])
   exact lJk (by omega)
  rw[this,Bool.and_false];exact lJp
 refine lVz F.slot_list_extend ⟨_,e,rfl⟩ F.entry_list_extend (F.args_list_extend_2 _ _) (AutoSeq1.list_extend_list_list_0 p its.toArray n q its'.toArray n' hc (by rw[lJs];omega) (by rw[lJs,lJs];omega)) ⟨e,e',?_⟩
 have e2:Ext H (upd H p (.lst (vs++ws))):= .upd (.lst h1)
 refine⟨.non,_,_,e2,⟨σ,I.lset (its':=its++its') h1 e ?_ (r.append r') ?_,hs.mono e2,hg.lstNew (xs:=xs++ys) (h2.append h4) (.lst h1)⟩,⟨.non,rfl,rfl⟩,k⟩
 ·simp
 ·rw[lJv];omega
theorem Reps.dropLast {K:PySem.W.Frag}{H:Hp}{xs:List T}{vs:List V}(r:Reps K H xs vs):Reps K H xs.dropLast vs.dropLast:=by
 rw[List.dropLast_eq_take,List.dropLast_eq_take,r.length];exact r.take _
def qZj:T->List T->Gp->VK3->Prop:=fun x as G Q=>∃(p:Addr) (ys:List T) (y:T),x= .ref p/\as=[]/\G p=some (.lst (ys++[y]))/\Q y (gup G p (.lst ys))
theorem m_pop:Mt3 X "list.pop" qZj:=
 Mt3.of mt_pop fun H G x xs a as Q hg ra ras ⟨p,ys,y,ex,exs,hp,q⟩=>by
  subst ex;subst exs
  cases (show a= .ref p from ra)
  cases (show as=[] from ras)
  obtain⟨vs,h1,h2⟩:=hg.lst hp
  have hl:=h2.length
  rw[lJv] at hl
  obtain⟨v,h3,h4⟩:=h2.get (i:=ys.length) (x:=y) (by simp)
  have e:Ext H (upd H p (.lst vs.dropLast)):= .upd (.lst h1)
  refine⟨p,vs,v,rfl,rfl,h1,by rw[<-hl];exact h3,y,_,e,hg.lstNew (xs:=ys) ?_ (.lst h1),Rep.mono e _ h4,q⟩
  have:=h2.dropLast
  rw[List.dropLast_concat] at this
  exact this
variable {P:Program}{w:World}
section
variable {d:Addr}
end
variable {A:Around}{E:Value->Shared->Prop}{s:Shared}
section
variable {prog:Program}
end
section
variable {it l:Addr}{xs:Array Value}
end
section
variable {pos:Pos}{e a:Expr}{es:List Expr}{te ta:TE3}{t:TA3}{st:Stmt}{rest:List Stmt}{ts us:TS3}
structure PEi (X:Cx) (e:Expr) (t:TE3):Prop where
 out:PE3 X e t
structure PAi (X:Cx) (es:List Expr) (t:TA3):Prop where
 out:PA3 X es t
structure PSi (X:Cx) (s:Stmt) (t:TS3):Prop where
 out:PS3 X s t
structure PSsi (X:Cx) (s:List Stmt) (t:TS3):Prop where
 out:PSs3 X s t
theorem kVk {i j}:PEi X (.Constant (.int i) j pos) (tC (.int i)):=⟨jJj⟩
theorem qXn {b j}:PEi X (.Constant (.bool b) j pos) (tC (.bl b)):=⟨e_bl⟩
theorem qYr {j}:PEi X (.Constant .none j pos) (tC .non):=⟨qUa⟩
theorem kZl {x j}:PEi X (.Constant (.str x) j pos) (tC (.str x)):=⟨e_str⟩
theorem qYs (h:PEi X a ta):PEi X (.UnaryOp .USub a pos) (tUn rNeg ta):=⟨e_un kZu h.out⟩
theorem kJ0 {x1}(h:PAi X es t):PEi X (.Tuple es x1 pos) (tTup t):=⟨jJ4 h.out⟩
theorem qQ9 (h:PAi X es t):PEi X (.List es pos) (tLst t):=⟨jKe h.out⟩
theorem jXm:PAi X [] tNil:=⟨jJd⟩
theorem jKf (ha:PEi X e te)(hr:PAi X es t)(hs:starEach (e::es) X.env=(false,eval e X.env)::starEach es X.env:=by rfl):PAi X (e::es) (jJa te t):=⟨jJb ha.out hr.out hs⟩
theorem si_set {i:Nat}{x:Str}{pos':Pos}(hN:X.N.Nodup)(he:PEi X e te)(hi:X.N[i]? =some x:=by rfl)(hx:Loc X.env.scope x:=by first | exact Or.inl rfl | exact Or.inr rfl)(hs:swapsWith e (some (.Name x pos')) pos.line X.env=pure false:=by rfl)(hf:X.fn x=true\/X.env.scope.names.lookup x=some .local:=by first | exact .inl rfl | exact .inr rfl):
  PSi X (.Assign [.Name x pos'] e pos) (tAsg te (jJg i)):=⟨jJ3 hN he.out hi hx hs hf⟩
theorem si_ret (he:PEi X e te):PSi X (.Return (some e) pos) (tRet te):=⟨jKd he.out⟩
theorem qY5 (h:PSi X st ts):PSsi X [st] ts:=⟨jJk h.out⟩
theorem qU9 (h:PSi X st ts)(h':PSsi X rest us):PSsi X (st::rest) (tSeq ts us):=⟨jJf h.out h'.out⟩
end
end L3
namespace PySem
open Sem (wp)
set_option maxRecDepth 100000
end PySem
namespace L3
open PySem PySem.Spec PyProof.Rows L2
section
variable {prog:Program}{w:World}{A:Around}{E:Value->Shared->Prop}{s:Shared}
end
variable {X:Cx}
mutual
inductive RdG (G:Gp):T->PyData->Prop
 | non:RdG G .non .none
 | bl (b:Bool):RdG G (.bl b) (.bool b)
 | int (i:Int):RdG G (.int i) (.int i)
 | str (x:Str):RdG G (.str x) (.str x)
 | tup {xs:List T} {ds:List PyData}:RdGs G xs ds->RdG G (.tup xs) (.tuple ds)
 | lst {p:Addr} {xs:List T} {ds:List PyData}:G p=some (.lst xs)->RdGs G xs ds->RdG G (.ref p) (.list ds)
inductive RdGs (G:Gp):List T->List PyData->Prop
 | nil:RdGs G [] []
 | cons {x:T} {d:PyData} {xs:List T} {ds:List PyData}:RdG G x d->RdGs G xs ds->RdGs G (x::xs) (d::ds)
end
mutual
theorem kJb {pins:List (Addr×Obj)} {σ:L2.St} {H:Hp} {s:Shared} {G:Gp} (I:Inv X pins σ H s) (hg:GRel X.K H G):∀ {x:T} {d:PyData} {a:V} {u:Value},RdG G x d->Rep X.K H x a->RelV a u->∃as,Reads s.heap u d as
 | _,_,a,u,.non,r,q=>by cases (show a= .non from r);cases q;exact⟨_,.none⟩
 | _,_,a,u,.bl b,r,q=>by cases (show a= .bl b from r);cases q;exact⟨_,.bool b⟩
 | _,_,a,u,.int b,r,q=>by cases (show a= .int b from r);obtain⟨t,rfl⟩:=q;exact⟨_,.int b t⟩
 | _,_,a,u,.str b,r,q=>by cases (show a= .str b from r);obtain⟨t,rfl⟩:=q;exact⟨_,.str b t⟩
 | .tup xs,_,a,u,.tup h,r,q=>by
  obtain⟨p,vs,e1,h1,h2⟩:=(show ∃p vs,a= .ref p/\H p=some (.tup vs)/\Reps X.K H xs vs from r)
  subst e1;cases q
  obtain⟨its,rv,⟨o,ho,hc,n,hd⟩,_⟩:=I.tuple (.of h1)
  obtain⟨as,ra⟩:=kQj I hg h h2 rv
  exact⟨_,.tuple ho hc hd (by simpa using ra)⟩
 | .ref p,_,a,u,.lst hp h,r,q=>by
  cases (show a= .ref p from r);cases q
  obtain⟨vs,h1,h2⟩:=hg.lst hp
  obtain⟨its,rv,⟨o,n,ho,hc,_,hd⟩,_⟩:=I.list (.of h1)
  obtain⟨as,ra⟩:=kQj I hg h h2 rv
  exact⟨_,.list ho hc hd (by simpa using ra)⟩
theorem kQj {pins:List (Addr×Obj)} {σ:L2.St} {H:Hp} {s:Shared} {G:Gp} (I:Inv X pins σ H s) (hg:GRel X.K H G):∀ {xs:List T} {ds:List PyData} {vs:List V} {us:List Value},RdGs G xs ds->Reps X.K H xs vs->Vals vs us->∃as,ReadsAll s.heap us ds as
 | _,_,_,_,.nil,r,q=>by cases r;cases q;exact⟨_,.nil⟩
 | _,_,_,_,.cons h hs,⟨v,ws,e,r1,r2⟩,q=>by
  subst e
  cases q with
  | cons q1 q2=>
   obtain⟨as,ra⟩:=kJb I hg h r1 q1
   obtain⟨bs,rb⟩:=kQj I hg hs r2 q2
   exact⟨_,.cons ra rb⟩
end
def rEqD:R3:=fun x y G Q=>∃dx dy,RdG G x dx/\RdG G y dy/\dx.canLay0=true/\dy.canLay0=true/\dx.depth<=50/\Q (.bl (PyData.eqv dx dy)) G
def rNeD:R3:=fun x y G Q=>∃dx dy,RdG G x dx/\RdG G y dy/\dx.canLay0=true/\dy.canLay0=true/\dx.depth<=50/\Q (.bl (!PyData.eqv dx dy)) G
theorem o_eqD (hu:X.A.units+64<cLine):Op3 X (compareOp .Eq) rEqD:=by
 rintro pins s τ G H x y v u Q ⟨σ,I,hs,hg⟩ ⟨a,ra,rv⟩ ⟨b,rb,ru⟩ ⟨dx,dy,h1,h2,c1,c2,d,q⟩
 obtain⟨as,r1⟩:=kJb I hg h1 ra rv
 obtain⟨bs,r2⟩:=kJb I hg h2 rb ru
 exact SeqAt.compareEq_reads r1 r2 c1 c2 (by omega) ⟨.bl (PyData.eqv dx dy),G,H,.refl H,⟨σ,I,hs,hg⟩,⟨.bl (PyData.eqv dx dy),rfl,rfl⟩,q⟩
theorem o_neD (hu:X.A.units+64<cLine):Op3 X (compareOp .NotEq) rNeD:=by
 rintro pins s τ G H x y v u Q ⟨σ,I,hs,hg⟩ ⟨a,ra,rv⟩ ⟨b,rb,ru⟩ ⟨dx,dy,h1,h2,c1,c2,d,q⟩
 obtain⟨as,r1⟩:=kJb I hg h1 ra rv
 obtain⟨bs,r2⟩:=kJb I hg h2 rb ru
 exact SeqAt.compareNe_reads r1 r2 c1 c2 (by omega) ⟨.bl (!PyData.eqv dx dy),G,H,.refl H,⟨σ,I,hs,hg⟩,⟨.bl (!PyData.eqv dx dy),rfl,rfl⟩,q⟩
def qZi:List T->Gp->VK3->Prop:=fun xs G Q=>∃i:Int,xs=[.int i]/\i.natAbs.log2<1920/\Q (.str (Str.ofString (toString i))) G
theorem c_strI:Call3 X (.type "str") qZi:=by
 rintro pins s τ G H xs us Q ⟨σ,I,hs,hg⟩ ⟨as,ras,rvs⟩ ⟨i,ex,hl,q⟩
 subst ex
 obtain⟨v,rfl,rv⟩:=jU5 ras
 obtain⟨u,rfl,ru⟩:=rvs.one
 cases (show v= .int i from rv)
 obtain⟨tk,rfl⟩:=(show ∃tk,u= .int i tk from ru)
 refine PySem.P.str_of_int hl ?_
 exact⟨.str _,G,H,.refl H,⟨σ,I.kept (fun b o e=>e),hs,hg⟩,⟨.str _,rfl,⟨_,rfl⟩⟩,q⟩
def kYp:List T->Gp->VK3->Prop:=fun xs G Q=>∃i:Int,xs=[.int i]/\Q (.bl (i != 0)) G
theorem uJz:Call3 X (.type "bool") kYp:=by
 rintro pins s τ G H xs us Q ⟨σ,I,hs,hg⟩ ⟨as,ras,rvs⟩ ⟨i,ex,q⟩
 subst ex
 obtain⟨v,rfl,rv⟩:=jU5 ras
 obtain⟨u,rfl,ru⟩:=rvs.one
 cases (show v= .int i from rv)
 obtain⟨tk,rfl⟩:=(show ∃tk,u= .int i tk from ru)
 refine PySem.call_bool_int ?_
 exact⟨.bl _,G,H,.refl H,⟨σ,I,hs,hg⟩,⟨.bl _,rfl,rfl⟩,q⟩
end L3
namespace L3
open PySem PyProof.Rows
noncomputable def uJi:Bool->Keyed->Array Keyed->Nat->Nat->Nat->StateT SortSt Sem (Option Nat):=sortPriv%PySem.Builtin.gallop
noncomputable def qV1:Array Keyed->Array Keyed->StateT SortSt Sem (Array Keyed):=sortPriv%PySem.Builtin.mergeLo
noncomputable def qV2:Array Keyed->Array Keyed->StateT SortSt Sem (Array Keyed):=sortPriv%PySem.Builtin.mergeHi
variable {A:Around}{E:Value->Shared->Prop}{s:Shared}{M:Model}{κ:SortKind}{le:Keyed->Keyed->Prop}{x y key:Keyed}{st:SortSt}{Q:Option Bool->SortSt->Prop}{arr:Array Keyed}{i n:Nat}{left:Bool}
section
structure Asks (M:Model) (A:Around) (s:Shared) (κ:SortKind) (mem:Keyed->Prop) (le:Keyed->Keyed->Prop) [∀x y,Decidable (le x y)]:Prop where
 ask:∀x y,mem x->mem y->∀(E:Value->Shared->Prop) (Q:Bool->Shared->Prop),Q (!decide (le y x)) s->wpAny M A (keyLt' κ x.1 y.1) Q E s
 tot:∀x y,mem x->mem y->le x y\/le y x
 tr:∀x y z,mem x->mem y->mem z->le x y->le y z->le x z
variable {mem:Keyed->Prop}[∀x y,Decidable (le x y)]
theorem qQg (H:Asks M A s κ mem le)(hx:mem x)(hy:mem y)(hk:kindOf st=κ)(h:Q (some (!decide (le y x))) st):wpS M A E s (lt' x y) Q st:=by
 rw[lt'_eq]
 refine lJd (lQa ?_)
 rw[hk]
 refine lJd (wpS_lift (wpAny_attempt (H.ask x y hx hy _ _ ?_)))
 exact⟨rfl,lJh h⟩
theorem jKh {Q:Keyed->SortSt->Prop}(hi:arr[i]? =some x)(h:Q x st):wpS M A E s (elem' arr i) Q st:=by
 rw[elem'_eq,hi];exact lJh h
noncomputable def bey (le:Keyed->Keyed->Prop)[∀x y,Decidable (le x y)](left:Bool)(key x:Keyed):Bool:=if left=true then !decide (le key x) else decide (le x key)
theorem qUt (H:Asks M A s κ mem le){b:Nat}(hk:kindOf st=κ)(hkey:mem key)(hx:arr[b]? =some x)(hm:mem x)(h:Q (some (bey le left key x)) st):
  wpS M A E s (do let y <-elem' arr b;if left=true then lt' y key else do let r <-lt' key y;pure (r.map fun z=> !z)) Q st:=by
 refine lJd (jKh hx ?_)
 cases left with
 | true=>rw[lJb rfl];exact qQg H hm hkey hk h
 | false=>
  rw[lJa (by decide)]
  refine lJd (qQg H hkey hm hk (lJh ?_))
  simpa[bey] using h
theorem jUy {base hint:Nat}{Q:Option Nat->SortSt->Prop}(H:Asks M A s κ mem le)(hk:kindOf st=κ)(hkey:mem key){f:Nat->Keyed}(hf:∀i,i<n->arr[base+i]? =some (f i))(hm:∀i,i<n->mem (f i))(hs:∀i j,i<=j->j<n->le (f i) (f j))(hh:hint<n)(h:∀k,k<=n->(∀i,i<k->bey le left key (f i)=true)->(∀i,k<=i->i<n->bey le left key (f i)=false)->Q (some k) st):
  wpS M A E s (uJi left key arr base n hint) Q st:=by
 have ask:∀(i:Nat) {Q:Option Bool->SortSt->Prop},i<n->Q (some (bey le left key (f i))) st->wpS M A E s (do let y <-elem' arr (base+i);if left=true then lt' y key else do let r <-lt' key y;pure (r.map fun z=> !z)) Q st:=fun i {Q} hi q=>qUt H hk hkey (hf i hi) (hm i hi) q
 have mono:∀i j,i<=j->j<n->bey le left key (f j)=true->bey le left key (f i)=true:=by
  intro i j hij hj hb
  unfold bey at hb ⊢
  cases left with
  | true=>
   rw[lJb rfl] at hb ⊢
   simp only[lX7,lV1] at hb ⊢
   exact fun z=>hb (H.tr _ _ _ hkey (hm i (by omega)) (hm j hj) z (hs i j hij hj))
  | false=>
   rw[lJa (by decide)] at hb ⊢
   rw[lKs] at hb ⊢
   exact H.tr _ _ _ (hm i (by omega)) (hm j hj) hkey (hs i j hij hj) hb
 refine lJd (ask hint hh ?_)
 cases hbh:bey le left key (f hint) with
 | true=>
  dsimp only
  rw[lJb rfl]
  refine lJd (lKl (lKm (I:=fun i (c:Option (Option Nat)×Nat×Nat) st'=>st=st'/\c.1=none/\c.2.1<c.2.2/\i+1<=c.2.2/\hint+c.2.1<n/\bey le left key (f (hint+c.2.1))=true)
   (Q:=fun (c:Option (Option Nat)×Nat×Nat) st'=>st=st'/\c.1=none/\c.2.1<c.2.2/\hint+c.2.1<n/\bey le left key (f (hint+c.2.1))=true/\(c.2.2<n-hint->bey le left key (f (hint+c.2.2))=false)) ?_ ?_ ⟨rfl,rfl,by decide,by decide,hh,hbh⟩) ?_)
  ·rintro x ⟨r,la,of⟩ st' _ hx ⟨rfl,rfl,i1,i2,i3,i4⟩
   dsimp only at i1 i2 i3 i4 ⊢
   by_cases c:of>=n-hint
   ·rw[lJb c]
    exact wpS_pure ⟨rfl,rfl,i1,i3,i4,fun z=>absurd c (by dsimp only at z;omega)⟩
   ·rw[lJa c]
    refine lJd (ask _ (by omega) ?_)
    cases hbo:bey le left key (f (hint+of)) with
    | false=>
     dsimp only
     (rw[lJb (show (!false)=true from rfl)])
     exact lJh ⟨rfl,rfl,i1,i3,i4,fun _=>hbo⟩
    | true=>
     dsimp only
     rw[lJa (by decide)]
     exact wpS_pure ⟨rfl,rfl,by dsimp only;omega,by dsimp only;omega,by dsimp only;omega,hbo⟩
  ·rintro⟨r,la,of⟩ st' ⟨rfl,rfl,i1,i2,i3,i4⟩
   dsimp only at i1 i2 i3 i4 ⊢
   exact⟨rfl,rfl,i1,i3,i4,fun z=>absurd z (by omega)⟩
  ·rintro⟨r,la,of⟩ st' ⟨rfl,rfl,i1,i3,i4,i5⟩
   dsimp only at i1 i3 i4 i5 ⊢
   have PL:∀i,i<hint+la+1->bey le left key (f i)=true:=fun i hi=>mono i _ (by omega) i3 i4
   have PH:∀i,hint+min of (n-hint)<=i->i<n->bey le left key (f i)=false:=fun i hi hin=>by
    have hon:=i5 (by omega)
    cases hbi:bey le left key (f i) with
    | false=>rfl
    | true=>rw[mono (hint+of) i (by omega) hin hbi] at hon;cases hon
   have LO:hint+la+1<=hint+min of (n-hint):=by omega
   have HI:hint+min of (n-hint)<=n:=by omega
   refine lJd (lKl (lKm (I:=fun i (c:Option (Option Nat)×Nat×Nat) st'=>st=st'/\c.1=none/\c.2.1<=c.2.2/\c.2.2<=n/\c.2.2-c.2.1<=n-i/\(∀i,i<c.2.1->bey le left key (f i)=true)/\(∀i,c.2.2<=i->i<n->bey le left key (f i)=false))
    (Q:=fun (c:Option (Option Nat)×Nat×Nat) st'=>st=st'/\c.1=none/\c.2.2<=n/\(∀i,i<c.2.2->bey le left key (f i)=true)/\(∀i,c.2.2<=i->i<n->bey le left key (f i)=false)) ?_ ?_ ⟨rfl,rfl,LO,HI,by dsimp only;omega,PL,PH⟩) ?_)
   ·rintro x ⟨r,lo,hi⟩ st' _ hx ⟨rfl,rfl,i1,i2,i3,i4,i5⟩
    dsimp only at i1 i2 i3 i4 i5 ⊢
    by_cases c:lo>=hi
    ·rw[lJb c]
     exact wpS_pure ⟨rfl,rfl,i2,fun i hi'=>i4 i (by dsimp only at hi';omega),i5⟩
    ·rw[lJa c]
     have hmm:lo+(hi-lo) / 2<hi:=by omega
     refine lJd (ask _ (by omega) ?_)
     cases hbm:bey le left key (f (lo+(hi-lo) / 2)) with
     | true=>
      dsimp only
      rw[lJb rfl]
      exact wpS_pure ⟨rfl,rfl,by dsimp only;omega,i2,by dsimp only;omega,fun i hi'=>mono i _ (by dsimp only at hi';omega) (by omega) hbm,i5⟩
     | false=>
      dsimp only
      rw[lJa (by decide)]
      refine wpS_pure ⟨rfl,rfl,by dsimp only;omega,by dsimp only;omega,by dsimp only;omega,i4,fun i hi' hin=> ?_⟩
      dsimp only at hi'
      cases hbi:bey le left key (f i) with
      | false=>rfl
      | true=>rw[mono _ i hi' hin hbi] at hbm;cases hbm
   ·rintro⟨r,lo,hi⟩ st' ⟨rfl,rfl,i1,i2,i3,i4,i5⟩
    dsimp only at i1 i2 i3 i4 i5 ⊢
    exact⟨rfl,rfl,i2,fun i hi'=>i4 i (by omega),i5⟩
   ·rintro⟨r,lo,hi⟩ st' ⟨rfl,rfl,i1,i2,i3⟩
    dsimp only at i1 i2 i3 ⊢
    exact lJh (h hi i1 i2 i3)
 | false=>
  dsimp only
  rw[lJa (by decide)]
  refine lJd (lKl (lKm (I:=fun i (c:Option (Option Nat)×Nat×Nat) st'=>st=st'/\c.1=none/\c.2.1<c.2.2/\i+1<=c.2.2/\c.2.1<=hint/\bey le left key (f (hint-c.2.1))=false)
   (Q:=fun (c:Option (Option Nat)×Nat×Nat) st'=>st=st'/\c.1=none/\c.2.1<c.2.2/\c.2.1<=hint/\bey le left key (f (hint-c.2.1))=false/\(c.2.2<hint+1->bey le left key (f (hint-c.2.2))=true)) ?_ ?_ ⟨rfl,rfl,by decide,by decide,lJ9 _,hbh⟩) ?_)
  ·rintro x ⟨r,la,of⟩ st' _ hx ⟨rfl,rfl,i1,i2,i3,i4⟩
   dsimp only at i1 i2 i3 i4 ⊢
   by_cases c:of>=hint+1
   ·rw[lJb c]
    exact wpS_pure ⟨rfl,rfl,i1,i3,i4,fun z=>absurd c (by dsimp only at z;omega)⟩
   ·rw[lJa c]
    refine lJd (ask _ (by omega) ?_)
    cases hbo:bey le left key (f (hint-of)) with
    | true=>
     dsimp only
     rw[lJb rfl]
     exact lJh ⟨rfl,rfl,i1,i3,i4,fun _=>hbo⟩
    | false=>
     dsimp only
     rw[lJa (by decide)]
     exact wpS_pure ⟨rfl,rfl,by dsimp only;omega,by dsimp only;omega,by dsimp only;omega,hbo⟩
  ·rintro⟨r,la,of⟩ st' ⟨rfl,rfl,i1,i2,i3,i4⟩
   dsimp only at i1 i2 i3 i4 ⊢
   exact⟨rfl,rfl,i1,i3,i4,fun z=>absurd z (by omega)⟩
  ·rintro⟨r,la,of⟩ st' ⟨rfl,rfl,i1,i3,i4,i5⟩
   dsimp only at i1 i3 i4 i5 ⊢
   have PL:∀i,i<hint+1-min of (hint+1)->bey le left key (f i)=true:=fun i hi=>mono i (hint-of) (by omega) (by omega) (i5 (by omega))
   have PH:∀i,hint-la<=i->i<n->bey le left key (f i)=false:=fun i hi hin=>by
    cases hbi:bey le left key (f i) with
    | false=>rfl
    | true=>rw[mono (hint-la) i hi hin hbi] at i4;cases i4
   have LO:hint+1-min of (hint+1)<=hint-la:=by omega
   have HI:hint-la<=n:=by omega
   refine lJd (lKl (lKm (I:=fun i (c:Option (Option Nat)×Nat×Nat) st'=>st=st'/\c.1=none/\c.2.1<=c.2.2/\c.2.2<=n/\c.2.2-c.2.1<=n-i/\(∀i,i<c.2.1->bey le left key (f i)=true)/\(∀i,c.2.2<=i->i<n->bey le left key (f i)=false))
    (Q:=fun (c:Option (Option Nat)×Nat×Nat) st'=>st=st'/\c.1=none/\c.2.2<=n/\(∀i,i<c.2.2->bey le left key (f i)=true)/\(∀i,c.2.2<=i->i<n->bey le left key (f i)=false)) ?_ ?_ ⟨rfl,rfl,LO,HI,by dsimp only;omega,PL,PH⟩) ?_)
   ·rintro x ⟨r,lo,hi⟩ st' _ hx ⟨rfl,rfl,i1,i2,i3,i4,i5⟩
    dsimp only at i1 i2 i3 i4 i5 ⊢
    by_cases c:lo>=hi
    ·rw[lJb c]
     exact wpS_pure ⟨rfl,rfl,i2,fun i hi'=>i4 i (by dsimp only at hi';omega),i5⟩
    ·rw[lJa c]
     have hmm:lo+(hi-lo) / 2<hi:=by omega
     refine lJd (ask _ (by omega) ?_)
     cases hbm:bey le left key (f (lo+(hi-lo) / 2)) with
     | true=>
      dsimp only
      rw[lJb rfl]
      exact wpS_pure ⟨rfl,rfl,by dsimp only;omega,i2,by dsimp only;omega,fun i hi'=>mono i _ (by dsimp only at hi';omega) (by omega) hbm,i5⟩
     | false=>
      dsimp only
      rw[lJa (by decide)]
      refine wpS_pure ⟨rfl,rfl,by dsimp only;omega,by dsimp only;omega,by dsimp only;omega,i4,fun i hi' hin=> ?_⟩
      dsimp only at hi'
      cases hbi:bey le left key (f i) with
      | false=>rfl
      | true=>rw[mono _ i hi' hin hbi] at hbm;cases hbm
   ·rintro⟨r,lo,hi⟩ st' ⟨rfl,rfl,i1,i2,i3,i4,i5⟩
    dsimp only at i1 i2 i3 i4 i5 ⊢
    exact⟨rfl,rfl,i2,fun i hi'=>i4 i (by omega),i5⟩
   ·rintro⟨r,lo,hi⟩ st' ⟨rfl,rfl,i1,i2,i3⟩
    dsimp only at i1 i2 i3 ⊢
    exact lJh (h hi i1 i2 i3)
end
variable {a b out o:Array Keyed}{j:Nat}
section
variable {ia ib k:Nat}
def Fin2 (le:Keyed->Keyed->Prop)(a b r:Array Keyed):Prop:=r.toList.Perm (a.toList++b.toList)/\r.toList.Pairwise le
structure Lw (le:Keyed->Keyed->Prop) (a b out:Array Keyed) (ia ib:Nat):Prop where
 perm:(out.toList++(a.toList.drop ia++b.toList.drop ib)).Perm (a.toList++b.toList)
 srt:out.toList.Pairwise le
 up:∀x,x∈out.toList->∀y,y∈a.toList.drop ia++b.toList.drop ib->le x y
theorem Lw.size (h:Lw le a b out ia ib):out.size+((a.size-ia)+(b.size-ib))=a.size+b.size:=by
 have:=h.perm.length_eq
 simpa using this
theorem jXf:(arr.extract i j).toList=(arr.toList.drop i).take (j-i):=by simp[List.extract]
theorem qYo (h:k<=a.size):(a.extract ia (ia+k)).toList=(a.toList.drop ia).take k:=by rw[jXf];congr 1;omega
theorem kQ7:(a.extract ia).toList=a.toList.drop ia:=by
 rw[jXf]
 (exact lQd (by simp))
theorem Lw.takeA (h:Lw le a b out ia ib)(sa:a.toList.Pairwise le)(ho:o.toList=out.toList++(a.toList.drop ia).take k)(hx:∀x,x∈(a.toList.drop ia).take k->∀y,y∈b.toList.drop ib->le x y):Lw le a b o (ia+k) ib:=by
 have e:a.toList.drop ia=(a.toList.drop ia).take k++a.toList.drop (ia+k):=by rw[<-List.drop_drop];exact (lQf k _).symm
 have sd:(a.toList.drop ia).Pairwise le:=sa.sublist (lVj ..)
 have up:=h.up
 have perm:=h.perm
 rw[e] at sd up perm
 obtain⟨s1,s2,s3⟩:=lKd.mp sd
 refine⟨?_,?_,?_⟩
 ·rw[ho,lJx,<-lJx _ _ (b.toList.drop ib)];exact perm
 ·rw[ho]
  exact lKd.mpr ⟨h.srt,s1,fun x hx' y hy=>up x hx' y (lKh _ (lKh _ hy))⟩
 ·intro x hx' y hy
  rw[ho] at hx'
  rcases (lJm.mp hx') with z | z
  ·refine up x z y ?_
   rcases (lJm.mp hy) with w | w
   ·exact lKh _ (lJ5 _ w)
   ·exact lJ5 _ w
  ·rcases (lJm.mp hy) with w | w
   ·exact s3 x z y w
   ·exact hx x z y w
theorem Lw.takeB (h:Lw le a b out ia ib)(sb:b.toList.Pairwise le)(ho:o.toList=out.toList++(b.toList.drop ib).take k)(hx:∀x,x∈(b.toList.drop ib).take k->∀y,y∈a.toList.drop ia->le x y):Lw le a b o ia (ib+k):=by
 have e:b.toList.drop ib=(b.toList.drop ib).take k++b.toList.drop (ib+k):=by rw[<-List.drop_drop];exact (lQf k _).symm
 have sd:(b.toList.drop ib).Pairwise le:=sb.sublist (lVj ..)
 have up:=h.up
 have perm:=h.perm
 rw[e] at sd up perm
 obtain⟨s1,s2,s3⟩:=lKd.mp sd
 refine⟨?_,?_,?_⟩
 ·rw[ho,lJx]
  refine List.Perm.trans (lXo _ ?_) perm
  (rw[<-lJx,<-lJx])
  (exact lXp _ lXq)
 ·rw[ho]
  exact lKd.mpr ⟨h.srt,s1,fun x hx' y hy=>up x hx' y (lJ5 _ (lKh _ hy))⟩
 ·intro x hx' y hy
  rw[ho] at hx'
  rcases (lJm.mp hx') with z | z
  ·refine up x z y ?_
   rcases (lJm.mp hy) with w | w
   ·exact lKh _ w
   ·exact lJ5 _ (lJ5 _ w)
  ·rcases (lJm.mp hy) with w | w
   ·exact hx x z y w
   ·exact s3 x z y w
theorem jVa (h:arr[i]? =some x):arr.toList.drop i=x::arr.toList.drop (i+1):=by
 have hl:arr.toList[i]? =some x:=by rw[lJ1];exact h
 obtain⟨h1,h2⟩:=lJg.mp hl
 rw[lYh h1,h2]
theorem Lw.pushA (h:Lw le a b out ia ib)(sa:a.toList.Pairwise le)(hi:a[ia]? =some x)(hx:∀y,y∈b.toList.drop ib->le x y):Lw le a b (out.push x) (ia+1) ib:=by
 have e:(a.toList.drop ia).take 1=[x]:=by rw[jVa hi];rfl
 refine h.takeA sa (k:=1) (by rw[e];simp) fun z hz y hy=> ?_
 rw[e,lJn] at hz
 rw[hz];exact hx y hy
theorem Lw.pushB (h:Lw le a b out ia ib)(sb:b.toList.Pairwise le)(hi:b[ib]? =some x)(hx:∀y,y∈a.toList.drop ia->le x y):Lw le a b (out.push x) ia (ib+1):=by
 have e:(b.toList.drop ib).take 1=[x]:=by rw[jVa hi];rfl
 refine h.takeB sb (k:=1) (by rw[e];simp) fun z hz y hy=> ?_
 rw[e,lJn] at hz
 rw[hz];exact hx y hy
theorem Lw.done (h:Lw le a b out ia ib)(sa:a.toList.Pairwise le)(sb:b.toList.Pairwise le)(hi:ib=b.size\/ia=a.size):Fin2 le a b (out++a.extract ia++b.extract ib):=by
 have e:(out++a.extract ia++b.extract ib).toList=out.toList++(a.toList.drop ia++b.toList.drop ib):=by rw[lQm,lQm,kQ7,kQ7,lJx]
 unfold Fin2
 rw[e]
 refine⟨h.perm,lKd.mpr ⟨h.srt,?_,h.up⟩⟩
 refine lKd.mpr ⟨sa.sublist (lVj ..),sb.sublist (lVj ..),fun x hx y hy=> ?_⟩
 rcases hi with z | z
 ·rw[z,lVs (by simp)] at hy;cases hy
 ·rw[z,lVs (by simp)] at hx;cases hx
theorem Lw.lastA (h:Lw le a b out ia ib)(sa:a.toList.Pairwise le)(sb:b.toList.Pairwise le)(hi:ia+1=a.size)(hl:∀x,a[ia]? =some x->∀y,y∈b.toList->le y x):Fin2 le a b (out++b.extract ib++a.extract ia):=by
 have e:(out++b.extract ib++a.extract ia).toList=out.toList++(b.toList.drop ib++a.toList.drop ia):=by rw[lQm,lQm,kQ7,kQ7,lJx]
 unfold Fin2
 rw[e]
 have hx:a[ia]? =some a[ia]:=lK0 (by omega)
 have ed:a.toList.drop ia=[a[ia]]:=by rw[jVa hx,lVs (by simp;omega)]
 refine⟨(lXo _ lXq).trans h.perm,lKd.mpr ⟨h.srt,?_,fun x hx' y hy=>h.up x hx' y ?_⟩⟩
 ·refine lKd.mpr ⟨sb.sublist (lVj ..),sa.sublist (lVj ..),fun x hx' y hy=> ?_⟩
  rw[ed,lJn] at hy
  rw[hy]
  exact hl _ hx x (lVa hx')
 ·rcases (lJm.mp hy) with w | w
  ·exact lJ5 _ w
  ·exact lKh _ w
end
variable {l:List Keyed}{m ja jb:Nat}{c:Prop}
section
variable {mem:Keyed->Prop}[∀x y,Decidable (le x y)]
noncomputable abbrev jK9 (st:SortSt)(g:Nat):SortSt:=SortSt.mk' (kindOf st) (arrOf st) (pendingOf st) g (failedOf st)
theorem kQw (h:l.Pairwise le)(hi:l[i]? =some x)(hij:i<j)(hj:l[j]? =some y):le x y:=by
 obtain⟨a1,a2⟩:=lJg.mp hi
 obtain⟨b1,b2⟩:=lJg.mp hj
 have:=lYi.mp h i j a1 b1 hij
 rwa [a2,b2] at this
theorem jY7 (H:Asks M A s κ mem le)(hs:arr.toList.Pairwise le)(hm:∀x,x∈arr.toList->mem x)(hx:arr[i]? =some x)(hy:mem y)(h:le y x):∀z,z∈arr.toList.drop i->le y z:=by
 intro z hz
 rw[jVa hx] at hz
 rcases (lJy.mp hz) with rfl | hz
 ·exact h
 ·have hxl:x∈arr.toList:=by rw[Array.mem_toList_iff];exact Array.mem_of_getElem? hx
  have hzl:z∈arr.toList:=lVa hz
  have hd:(arr.toList.drop i).Pairwise le:=hs.sublist (lVj ..)
  rw[jVa hx] at hd
  exact H.tr _ _ _ hy (hm x hxl) (hm z hzl) h (List.rel_of_pairwise_cons hd hz)
theorem jKo (hx:arr[i]? =some x):x∈arr.toList:=by rw[Array.mem_toList_iff];exact Array.mem_of_getElem? hx
theorem jXl (h:i<arr.size):∃x,arr[i]? =some x:=⟨arr[i],lK0 h⟩
theorem kYf {k:Nat}(h:x∈(arr.toList.drop i).take k):∃j,j<k/\arr[i+j]? =some x:=by
 obtain⟨j,hj⟩:=lJ7 h
 rw[lQx] at hj
 split at hj
 ·rename_i hl
  rw[lXr,lJ1] at hj
  exact⟨j,hl,hj⟩
 ·cases hj
theorem jKb {α:Type}{p q:StateT SortSt Sem α}{Q:α->SortSt->Prop}(h1:m=n->wpS M A E s p Q st)(h2:¬ m=n->wpS M A E s q Q st):wpS M A E s (if (m == n)=true then p else q) Q st:=by
 by_cases c:m=n
 ·rw[lJb (by simpa using c)];exact h1 c
 ·rw[lJa (by simpa using c)];exact h2 c
theorem uJb {α:Type}[Decidable c]{F:Nat->StateT SortSt Sem α}{x y:Nat}{p q:StateT SortSt Sem α}{Q:α->SortSt->Prop}(h2:q=F y)(h1:p=F x)(h:∀z,wpS M A E s (F z) Q st):wpS M A E s (if c then p else q) Q st:=by
 split
 ·rw[h1];exact h x
 ·rw[h2];exact h y
theorem qYn {α γ δ:Type}[Decidable c]{F:γ->δ->StateT SortSt Sem α}{p q:StateT SortSt Sem α}{Q:α->SortSt->Prop}(y1:γ)(y2:δ)(h2:q=F y1 y2)(R:γ->δ->Prop)(hn:¬ c->R y1 y2)(hp:c->(∀z1 z2,R z1 z2->wpS M A E s (F z1 z2) Q st)->wpS M A E s p Q st)(key:∀z1 z2,R z1 z2->wpS M A E s (F z1 z2) Q st):wpS M A E s (if c then p else q) Q st:=by
 by_cases h:c
 ·rw[lJb h];exact hp h key
 ·rw[lJa h,h2];exact key y1 y2 (hn h)
noncomputable abbrev kd:Keyed:=(Value.none,Value.none)
theorem at_d (i:Nat)(hi:i<a.size-ja):a[ja+i]? =some (a.getD (ja+i) kd):=by simp[Array.getD,show ja+i<a.size by omega]
theorem srt_d (H:Asks M A s κ mem le)(sa:a.toList.Pairwise le)(ma:∀x,x∈a.toList->mem x)(i j:Nat)(hij:i<=j)(hj:j<a.size-ja):le (a.getD (ja+i) kd) (a.getD (ja+j) kd):=by
 have h1:=at_d (a:=a) (ja:=ja) i (by omega)
 have h2:=at_d (a:=a) (ja:=ja) j hj
 rcases lQy hij with q | rfl
 ·exact kQw sa (i:=ja+i) (j:=ja+j) (by rw[lJ1];exact h1) (by omega) (by rw[lJ1];exact h2)
 ·exact (H.tot _ _ (ma _ (jKo h1)) (ma _ (jKo h1))).elim id id
theorem galA (H:Asks M A s κ mem le){k:Nat}(sa:a.toList.Pairwise le)(ma:∀x,x∈a.toList->mem x)(sb:b.toList.Pairwise le)(mb:∀x,x∈b.toList->mem x)(hy:b[jb]? =some y)(hk1:k<=a.size-ja)(hk2:∀i,i<k->bey le false y (a.getD (ja+i) kd)=true)(hk3:∀i,k<=i->i<a.size-ja->bey le false y (a.getD (ja+i) kd)=false):
  (∀x,x∈(a.toList.drop ja).take k->∀z,z∈b.toList.drop jb->le x z)/\(ja+k<a.size->∀z,z∈a.toList.drop (ja+k)->le y z):=by
 have my:=mb y (jKo hy)
 simp only[bey,lK4,lKf,lKs,lV1] at hk2 hk3
 refine⟨fun x hx z hz=> ?_,fun hlt=> ?_⟩
 ·obtain⟨j,hj,hxj⟩:=kYf hx
  have e:=at_d (a:=a) (ja:=ja) j (by omega)
  rw[hxj] at e
  have hle:=hk2 j hj
  rw[<-lJ0 e] at hle
  exact jY7 H sb mb hy (ma x (jKo hxj)) hle z hz
 ·have e:=at_d (a:=a) (ja:=ja) k (by omega)
  have hm:=ma _ (jKo e)
  exact jY7 H sa ma e my ((H.tot _ _ hm my).resolve_left (hk3 k (lJj _) (by omega)))
theorem galB (H:Asks M A s κ mem le){k:Nat}(sa:a.toList.Pairwise le)(ma:∀x,x∈a.toList->mem x)(sb:b.toList.Pairwise le)(mb:∀x,x∈b.toList->mem x)(hx:a[ja]? =some x)(hk1:k<=b.size-jb)(hk2:∀i,i<k->bey le true x (b.getD (jb+i) kd)=true)(hk3:∀i,k<=i->i<b.size-jb->bey le true x (b.getD (jb+i) kd)=false):
  (∀y,y∈(b.toList.drop jb).take k->∀z,z∈a.toList.drop ja->le y z)/\(jb+k<b.size->∀z,z∈b.toList.drop (jb+k)->le x z):=by
 have mx:=ma x (jKo hx)
 simp only[bey,lK1,lX7,lV1,Bool.not_eq_false',lKs] at hk2 hk3
 refine⟨fun y hy z hz=> ?_,fun hlt=> ?_⟩
 ·obtain⟨j,hj,hyj⟩:=kYf hy
  have e:=at_d (a:=b) (ja:=jb) j (by omega)
  rw[hyj] at e
  have hle:=hk2 j hj
  rw[<-lJ0 e] at hle
  have my:=mb y (jKo hyj)
  exact jY7 H sa ma hx my ((H.tot _ _ mx my).resolve_left hle) z hz
 ·have e:=at_d (a:=b) (ja:=jb) k (by omega)
  exact jY7 H sb mb e mx (hk3 k (lJj _) (by omega))
theorem qJc {Q:Array Keyed->SortSt->Prop}(H:Asks M A s κ mem le)(hk:kindOf st=κ)(hA:1<=a.size)(hB:1<=b.size)(sa:a.toList.Pairwise le)(sb:b.toList.Pairwise le)(ma:∀x,x∈a.toList->mem x)(mb:∀x,x∈b.toList->mem x)(hf:∀x,b[0]? =some x->∀y,y∈a.toList->le x y)(hl:∀x,a[a.size-1]? =some x->∀y,y∈b.toList->le y x)(h:∀r g,Fin2 le a b r->Q r (jK9 st g)):
  wpS M A E s (qV1 a b) Q st:=by
 obtain⟨x0,hb0⟩:=jXl (arr:=b) (i:=0) (by omega)
 have hl':∀i,i+1=a.size->∀x,a[i]? =some x->∀y,y∈b.toList->le y x:=fun i hi x hx=>hl x (by rw[show a.size-1=i by omega];exact hx)
 have L0:Lw le a b #[x0] 0 1:=by
  refine⟨?_,by simp,?_⟩
  ·rw[lXa]
   have:b.toList=x0::b.toList.drop 1:=by have:=jVa hb0;rwa [lXa] at this
   conv=>rhs;rw[this]
   show (x0::(a.toList++List.drop 1 b.toList)).Perm _
   exact List.perm_middle.symm
  ·intro x hx y hy
   simp at hx;subst hx
   rcases (lJm.mp hy) with z | z
   ·exact hf x hb0 y (lVa z)
   ·have hd:=sb
    have e:b.toList=x::b.toList.drop 1:=by have:=jVa hb0;rwa [lXa] at this
    rw[e] at hd
    exact List.rel_of_pairwise_cons hd z
 have fin0:∀r,Fin2 le a b r->Q r st:=fun r hr=>h r (gallopOf st) hr
 (refine lJd (wpS_lift (lK3 ⟨rfl,?_⟩)))
 refine lJd (jKh hb0 ?_)
 dsimp only
 by_cases c1:1=b.size
 ·rw[lJb (by simpa using c1)]
  exact lJh (fin0 _ (L0.done sa sb (.inl c1)))
 rw[lJa (by simpa using c1)]
 by_cases c2:0+1=a.size
 ·rw[lJb (by simpa using c2)]
  exact lJh (fin0 _ (L0.lastA sa sb c2 (hl' 0 c2)))
 rw[lJa (by simpa using c2)]
 refine lJd (lQa ?_)
 refine lJd (lKl (lKm (I:=fun i (c:Option (Array Keyed)×Array Keyed×Nat×Nat×Nat) st'=>(∃g,jK9 st g=st')/\c.1=none/\Lw le a b c.2.1 c.2.2.1 c.2.2.2.1/\c.2.2.1+1<a.size/\c.2.2.2.1<b.size/\i+1<=c.2.1.size)
  (Q:=fun (c:Option (Array Keyed)×Array Keyed×Nat×Nat×Nat) st'=>(∃g,jK9 st g=st')/\∃r,c.1=some r/\Fin2 le a b r) ?_ ?_ ⟨⟨_,rfl⟩,rfl,L0,by dsimp only;omega,by dsimp only;omega,by simp⟩) ?_)
 ·rintro i ⟨r,out,ia,ib,mg⟩ st' _ hi ⟨⟨g,rfl⟩,rfl,L,ha,hb,hsz⟩
  dsimp only at L ha hb hsz ⊢
  refine lJd (lKl (lKm (I:=fun i1 (c:Option (Array Keyed)×Array Keyed×Nat×Nat×Nat×Nat) st'=>jK9 st g=st'/\c.1=none/\Lw le a b c.2.1 c.2.2.1 c.2.2.2.1/\c.2.2.1+1<a.size/\c.2.2.2.1<b.size/\out.size+i1<=c.2.1.size)
   (Q:=fun (c:Option (Array Keyed)×Array Keyed×Nat×Nat×Nat×Nat) st'=>jK9 st g=st'/\((∃r,c.1=some r/\Fin2 le a b r)\/(c.1=none/\Lw le a b c.2.1 c.2.2.1 c.2.2.2.1/\c.2.2.1+1<a.size/\c.2.2.2.1<b.size/\out.size+1<=c.2.1.size))) ?_ ?_ ⟨rfl,rfl,L,ha,hb,lJj _⟩) ?_)
  ·rintro i1 ⟨r,out1,ia1,ib1,ac,bc⟩ st' _ hi1 ⟨rfl,rfl,L1,ha1,hb1,hsz1⟩
   dsimp only at L1 ha1 hb1 hsz1 ⊢
   obtain⟨y,hy⟩:=jXl hb1
   obtain⟨x,hx⟩:=jXl (arr:=a) (i:=ia1) (by omega)
   have my:=mb y (jKo hy)
   have mx:=ma x (jKo hx)
   refine lJd (jKh hy (lJd (jKh hx (lJd (qQg (st:=jK9 st g) H my mx hk ?_)))))
   by_cases w:le x y
   ·rw[lJq w]
    dsimp only
    rw[lJa (by decide)]
    refine lJd (jKh hx ?_)
    have L2:=L1.pushA sa hx (jY7 H sb mb hy mx w)
    by_cases c3:ia1+1+1=a.size
    ·rw[lJb (by simpa using c3)]
     exact lJh ⟨rfl,.inl ⟨_,rfl,L2.lastA sa sb c3 (hl' _ c3)⟩⟩
    ·rw[lJa (by simpa using c3)]
     by_cases c4:ac+1>=mg
     ·rw[lJb c4]
      exact wpS_pure ⟨rfl,.inr ⟨rfl,L2,by dsimp only;omega,hb1,by simp;omega⟩⟩
     ·rw[lJa c4]
      exact wpS_pure ⟨rfl,rfl,L2,by dsimp only;omega,hb1,by simp;omega⟩
   ·rw[lJk w]
    dsimp only
    (rw[lJb (show (!false)=true from rfl)])
    refine lJd (jKh hy ?_)
    have w':le y x:=(H.tot x y mx my).resolve_left w
    have L2:=L1.pushB sb hy (jY7 H sa ma hx my w')
    by_cases c3:ib1+1=b.size
    ·rw[lJb (by simpa using c3)]
     exact lJh ⟨rfl,.inl ⟨_,rfl,L2.done sa sb (.inl c3)⟩⟩
    ·rw[lJa (by simpa using c3)]
     by_cases c4:bc+1>=mg
     ·rw[lJb c4]
      exact wpS_pure ⟨rfl,.inr ⟨rfl,L2,ha1,by dsimp only;omega,by simp;omega⟩⟩
     ·rw[lJa c4]
      exact wpS_pure ⟨rfl,rfl,L2,ha1,by dsimp only;omega,by simp;omega⟩
  ·rintro⟨r,out1,ia1,ib1,ac,bc⟩ st' ⟨rfl,rfl,L1,ha1,hb1,hsz1⟩
   dsimp only at L1 ha1 hb1 hsz1 ⊢
   exact⟨rfl,.inr ⟨rfl,L1,ha1,hb1,by omega⟩⟩
  ·rintro⟨r,out1,ia1,ib1,ac,bc⟩ st' ⟨rfl,⟨r',rfl,fr⟩ | ⟨rfl,L1,ha1,hb1,hsz1⟩⟩
   ·dsimp only
    exact lJh ⟨⟨g,rfl⟩,r',rfl,fr⟩
   dsimp only at L1 ha1 hb1 hsz1 ⊢
   (refine lJd (wpS_lift (lK3 ⟨rfl,?_⟩)))
   refine lJd (lKl (lKm (I:=fun _ (c:Option (Array Keyed)×Array Keyed×Nat×Nat×Nat×Nat×Nat) st'=>(∃g,jK9 st g=st')/\c.1=none/\Lw le a b c.2.1 c.2.2.1 c.2.2.2.1/\c.2.2.1+1<a.size/\c.2.2.2.1<b.size/\out.size+1<=c.2.1.size)
    (Q:=fun (c:Option (Array Keyed)×Array Keyed×Nat×Nat×Nat×Nat×Nat) st'=>(∃g,jK9 st g=st')/\((∃r,c.1=some r/\Fin2 le a b r)\/(c.1=none/\Lw le a b c.2.1 c.2.2.1 c.2.2.2.1/\c.2.2.1+1<a.size/\c.2.2.2.1<b.size/\out.size+1<=c.2.1.size))) ?_ ?_ ⟨⟨g,rfl⟩,rfl,L1,ha1,hb1,hsz1⟩) ?_)
   ·clear L1 ha1 hb1 hsz1
    rintro i1 ⟨r,o,ja,jb,mg1,ac1,bc1⟩ st' _ hi1 ⟨⟨g1,rfl⟩,rfl,L1,ha1,hb1,hsz1⟩
    dsimp only at L1 ha1 hb1 hsz1 ⊢
    obtain⟨y,hy⟩:=jXl hb1
    have my:=mb y (jKo hy)
    apply uJb (x:=mg1-1) (y:=mg1)
    case h2=>rfl
    case h1=>rfl
    intro mg2
    refine lJd (lKg ?_)
    refine lJd (jKh hy ?_)
    refine lJd (jUy (st:=jK9 st _) (f:=fun i=>a.getD (ja+i) kd) H hk my at_d (fun i hi=>ma _ (jKo (at_d i hi))) (srt_d H sa ma) (by omega) fun k hk1 hk2 hk3=> ?_)
    obtain⟨takeK,beyK⟩:=galA H sa ma sb mb hy hk1 hk2 hk3
    clear hk2 hk3
    dsimp only
    apply qYn o ja (R:=fun o2 ja2=>Lw le a b o2 ja2 jb/\ja2+1<a.size/\out.size+1<=o2.size/\∀z,z∈a.toList.drop ja2->le y z)
    case h2=>rfl
    ·intro ck
     obtain rfl:k=0:=by omega
     have bk:=beyK (by omega)
     rw[lVq] at bk
     exact⟨L1,ha1,hsz1,bk⟩
    ·intro ck key
     have L2:Lw le a b (o++a.extract ja (ja+k)) (ja+k) jb:=L1.takeA sa (by rw[lQm,qYo (by omega)]) takeK
     refine jKb (fun d1=> ?_) fun d1=> ?_
     ·exact lJh ⟨⟨_,rfl⟩,.inl ⟨_,rfl,L2.lastA sa sb d1 (hl' _ d1)⟩⟩
     refine jKb (fun d2=> ?_) fun d2=> ?_
     ·exact lJh ⟨⟨_,rfl⟩,.inl ⟨_,rfl,L2.done sa sb (.inr d2)⟩⟩
     exact key _ _ ⟨L2,by omega,by rw[Array.size_append];omega,beyK (by omega)⟩
    intro o2 ja2 hR
    obtain⟨L2,hja,hos,bk⟩:=hR
    clear L1 takeK beyK hk1 ha1 hsz1
    refine lJd (jKh hy ?_)
    have L3:=L2.pushB sb hy bk
    refine jKb (fun d3=> ?_) fun d3=> ?_
    ·exact lJh ⟨⟨_,rfl⟩,.inl ⟨_,rfl,L3.done sa sb (.inl d3)⟩⟩
    obtain⟨x,hx⟩:=jXl (Nat.lt_of_succ_lt hja)
    have mx:=ma x (jKo hx)
    have hps:out.size+1<=(o2.push y).size:=by rw[Array.size_push];omega
    have hjb:jb+1<b.size:=by omega
    clear L2 bk hos d3 hb1
    refine lJd (jKh hx ?_)
    generalize o2.push y=o3 at *
    generalize jb+1=jb1 at *
    refine lJd (jUy (st:=jK9 st _) (f:=fun i=>b.getD (jb1+i) kd) H hk mx at_d (fun i hi=>mb _ (jKo (at_d i hi))) (srt_d H sb mb) (by omega) fun k2 e1 e2 e3=> ?_)
    obtain⟨takeK,beyK⟩:=galB H sa ma sb mb hx e1 e2 e3
    clear e2 e3
    dsimp only
    apply qYn o3 jb1 (R:=fun o4 jb2=>Lw le a b o4 ja2 jb2/\jb2<b.size/\out.size+1<=o4.size/\∀z,z∈b.toList.drop jb2->le x z)
    case h2=>rfl
    ·intro ck
     obtain rfl:k2=0:=by omega
     have bk:=beyK (by omega)
     rw[lVq] at bk
     exact⟨L3,hjb,hps,bk⟩
    ·intro ck key
     have L4:=L3.takeB sb (k:=k2) (lQm.trans (lKa _ (qYo (ia:=jb1) (a:=b) (by omega)))) takeK
     refine jKb (fun d4=> ?_) fun d4=> ?_
     ·exact lJh ⟨⟨_,rfl⟩,.inl ⟨_,rfl,L4.done sa sb (.inl d4)⟩⟩
     exact key _ _ ⟨L4,by omega,by rw[Array.size_append];omega,beyK (by omega)⟩
    intro o4 jb2 hR
    obtain⟨L4,hjb2,hos,bk⟩:=hR
    clear L3 takeK beyK e1 hjb hps
    have L5:=L4.pushA sa hx bk
    refine lJd (jKh hx ?_)
    refine jKb (fun d5=> ?_) fun d5=> ?_
    ·exact lJh ⟨⟨_,rfl⟩,.inl ⟨_,rfl,L5.lastA sa sb d5 (hl' _ d5)⟩⟩
    have g5:ja2+1+1<a.size:=by omega
    have g6:out.size+1<=(o4.push x).size:=by rw[Array.size_push];omega
    split
    ·exact lJh ⟨⟨_,rfl⟩,.inr ⟨rfl,L5,g5,hjb2,g6⟩⟩
    ·exact lJh ⟨⟨_,rfl⟩,rfl,L5,g5,hjb2,g6⟩
   ·rintro⟨r,o,ja,jb,mg1,ac1,bc1⟩ st' ⟨⟨g1,rfl⟩,rfl,L1,ha1,hb1,hsz1⟩
    dsimp only at L1 ha1 hb1 hsz1 ⊢
    exact⟨⟨g1,rfl⟩,.inr ⟨rfl,L1,ha1,hb1,hsz1⟩⟩
   ·rintro⟨r,o,ja,jb,mg1,ac1,bc1⟩ st' ⟨⟨g1,rfl⟩,⟨r',rfl,fr⟩ | ⟨rfl,L1,ha1,hb1,hsz1⟩⟩
    ·dsimp only
     exact lJh ⟨⟨g1,rfl⟩,r',rfl,fr⟩
    ·dsimp only at L1 ha1 hb1 hsz1 ⊢
     refine lJd (lKg ?_)
     exact wpS_pure ⟨⟨_,rfl⟩,rfl,L1,ha1,hb1,by dsimp only;omega⟩
 ·rintro⟨r,out,ia,ib,mg⟩ st' ⟨⟨g,rfl⟩,rfl,L,ha,hb,hsz⟩
  have:=L.size
  dsimp only at this hsz ha hb
  exfalso
  rw[Nat.zero_max] at hsz
  omega
 ·rintro⟨r,out,ia,ib,mg⟩ st' ⟨⟨g,rfl⟩,r',rfl,fr⟩
  dsimp only
  exact lJh (h _ _ fr)
end
variable {na nb:Nat}
section
variable {k:Nat}
structure Hw (le:Keyed->Keyed->Prop) (a b out:Array Keyed) (na nb:Nat):Prop where
 perm:((a.toList.take na++b.toList.take nb)++out.toList.reverse).Perm (a.toList++b.toList)
 srt:out.toList.reverse.Pairwise le
 up:∀x,x∈a.toList.take na++b.toList.take nb->∀y,y∈out.toList->le x y
theorem Hw.size (h:Hw le a b out na nb)(h1:na<=a.size)(h2:nb<=b.size):na+nb+out.size=a.size+b.size:=by
 have:=h.perm.length_eq
 simp at this
 omega
theorem kKr (h:k<=na):l.take na=l.take k++(l.take na).drop k:=by
 conv=>lhs;rw[<-lQf k (l.take na)]
 rw[List.take_take,Nat.min_eq_left h]
theorem Hw.takeA (h:Hw le a b out na nb)(sa:a.toList.Pairwise le)(hk:k<=na)(ho:o.toList.reverse=(a.toList.take na).drop k++out.toList.reverse)(hx:∀x,x∈b.toList.take nb->∀y,y∈(a.toList.take na).drop k->le x y):Hw le a b o k nb:=by
 have sd:(a.toList.take na).Pairwise le:=sa.sublist (lVf ..)
 have up:=h.up
 have perm:=h.perm
 have e:=kKr (l:=a.toList) hk
 generalize hd:(a.toList.take na).drop k=d at *
 rw[e] at sd up perm
 obtain⟨s1,s2,s3⟩:=lKd.mp sd
 have mo:∀y,y∈o.toList->y∈d\/y∈out.toList:=fun y hy=>by
  have:y∈o.toList.reverse:=lVb.mpr hy
  rw[ho] at this
  exact (lJm.mp this).imp id lVb.mp
 refine⟨?_,?_,?_⟩
 ·rw[ho]
  refine List.Perm.trans ?_ perm
  rw[<-lJx,lJx,lJx,lJx,lJx]
  (refine lXo _ ?_)
  (rw[<-lJx,<-lJx])
  (exact lXp _ lXq)
 ·rw[ho]
  exact lKd.mpr ⟨s2,h.srt,fun x hx' y hy=>up x (lKh _ (lJ5 _ hx')) y (lVb.mp hy)⟩
 ·intro x hx' y hy
  rcases mo y hy with z | z
  ·rcases (lJm.mp hx') with w | w
   ·exact s3 x w y z
   ·exact hx x w y z
  ·refine up x ?_ y z
   rcases (lJm.mp hx') with w | w
   ·exact lKh _ (lKh _ w)
   ·exact lJ5 _ w
theorem Hw.takeB (h:Hw le a b out na nb)(sb:b.toList.Pairwise le)(hk:k<=nb)(ho:o.toList.reverse=(b.toList.take nb).drop k++out.toList.reverse)(hx:∀x,x∈a.toList.take na->∀y,y∈(b.toList.take nb).drop k->le x y):Hw le a b o na k:=by
 have sd:(b.toList.take nb).Pairwise le:=sb.sublist (lVf ..)
 have up:=h.up
 have perm:=h.perm
 have e:=kKr (l:=b.toList) hk
 generalize hd:(b.toList.take nb).drop k=d at *
 rw[e] at sd up perm
 obtain⟨s1,s2,s3⟩:=lKd.mp sd
 have mo:∀y,y∈o.toList->y∈d\/y∈out.toList:=fun y hy=>by
  have:y∈o.toList.reverse:=lVb.mpr hy
  rw[ho] at this
  exact (lJm.mp this).imp id lVb.mp
 refine⟨?_,?_,?_⟩
 ·rw[ho]
  refine List.Perm.trans ?_ perm
  rw[<-lJx,lJx,lJx,lJx,lJx]
 ·rw[ho]
  exact lKd.mpr ⟨s2,h.srt,fun x hx' y hy=>up x (lJ5 _ (lJ5 _ hx')) y (lVb.mp hy)⟩
 ·intro x hx' y hy
  rcases mo y hy with z | z
  ·rcases (lJm.mp hx') with w | w
   ·exact hx x w y z
   ·exact s3 x w y z
  ·refine up x ?_ y z
   rcases (lJm.mp hx') with w | w
   ·exact lKh _ w
   ·exact lJ5 _ (lKh _ w)
theorem jZz (h:arr[i]? =some x):(arr.toList.take (i+1)).drop i=[x]:=by
 have hl:arr.toList[i]? =some x:=by rw[lJ1];exact h
 obtain⟨h1,h2⟩:=lJg.mp hl
 have hs:i<arr.size:=by simpa using h1
 rw[lKz,hl,lYj (by simp;omega),lVs (by simp;omega)]
 rfl
theorem Hw.pushA (h:Hw le a b out (na+1) nb)(sa:a.toList.Pairwise le)(hi:a[na]? =some x)(hx:∀y,y∈b.toList.take nb->le y x):Hw le a b (out.push x) na nb:=by
 refine h.takeA sa (k:=na) (by omega) (by rw[jZz hi];simp) fun z hz y hy=> ?_
 rw[jZz hi,lJn] at hy
 rw[hy];exact hx z hz
theorem Hw.pushB (h:Hw le a b out na (nb+1))(sb:b.toList.Pairwise le)(hi:b[nb]? =some x)(hx:∀y,y∈a.toList.take na->le y x):Hw le a b (out.push x) na nb:=by
 refine h.takeB sb (k:=nb) (by omega) (by rw[jZz hi];simp) fun z hz y hy=> ?_
 rw[jZz hi,lJn] at hy
 rw[hy];exact hx z hz
theorem jZ2:(a.extract 0 na).toList=a.toList.take na:=by rw[jXf];simp
theorem Hw.done (h:Hw le a b out na nb)(sa:a.toList.Pairwise le)(sb:b.toList.Pairwise le)(hi:na=0\/nb=0):Fin2 le a b (a.extract 0 na++b.extract 0 nb++out.reverse):=by
 have e:(a.extract 0 na++b.extract 0 nb++out.reverse).toList=(a.toList.take na++b.toList.take nb)++out.toList.reverse:=by rw[lQm,lQm,jZ2,jZ2,Array.toList_reverse]
 unfold Fin2
 rw[e]
 refine⟨h.perm,lKd.mpr ⟨?_,h.srt,fun x hx y hy=>h.up x hx y (lVb.mp hy)⟩⟩
 refine lKd.mpr ⟨sa.sublist (lVf ..),sb.sublist (lVf ..),fun x hx y hy=> ?_⟩
 rcases hi with z | z
 ·rw[z] at hx;cases hx
 ·rw[z] at hy;cases hy
theorem Hw.firstB (h:Hw le a b out na nb)(sa:a.toList.Pairwise le)(sb:b.toList.Pairwise le)(hi:nb=1)(hl:∀x,b[0]? =some x->∀y,y∈a.toList->le x y):Fin2 le a b (b.extract 0 nb++a.extract 0 na++out.reverse):=by
 have e:(b.extract 0 nb++a.extract 0 na++out.reverse).toList=(b.toList.take nb++a.toList.take na)++out.toList.reverse:=by rw[lQm,lQm,jZ2,jZ2,Array.toList_reverse]
 unfold Fin2
 rw[e]
 refine⟨(lXp _ lXq).trans h.perm,lKd.mpr ⟨?_,h.srt,fun x hx y hy=>h.up x ?_ y (lVb.mp hy)⟩⟩
 ·refine lKd.mpr ⟨sb.sublist (lVf ..),sa.sublist (lVf ..),fun x hx y hy=> ?_⟩
  rw[hi] at hx
  (obtain⟨j,hj⟩:=lJ7 hx)
  rw[lQx] at hj
  split at hj
  ·rename_i hlt
   obtain rfl:j=0:=by omega
   rw[lJ1] at hj
   exact hl x hj y (lQz hy)
  ·cases hj
 ·rcases (lJm.mp hx) with w | w
  ·exact lJ5 _ w
  ·exact lKh _ w
end
section
variable {mem:Keyed->Prop}[∀x y,Decidable (le x y)]
theorem kQc (H:Asks M A s κ mem le)(hs:arr.toList.Pairwise le)(hm:∀x,x∈arr.toList->mem x)(hx:arr[i]? =some x)(hy:mem y)(h:le x y):∀z,z∈arr.toList.take (i+1)->le z y:=by
 intro z hz
 have hzl:z∈arr.toList:=lQz hz
 obtain⟨j,hj⟩:=lJ7 hz
 rw[lQx] at hj
 split at hj
 ·rename_i hlt
  rcases lQy (lX8 hlt) with q | rfl
  ·exact H.tr _ _ _ (hm z hzl) (hm x (jKo hx)) hy (kQw hs hj q (by rw[lJ1];exact hx)) h
  ·rw[lJ1,hx] at hj;cases hj;exact h
 ·cases hj
theorem qYt {k:Nat}(h:x∈(arr.toList.take n).drop k):∃j,k<=j/\j<n/\arr[j]? =some x:=by
 obtain⟨j,hj⟩:=lJ7 h
 rw[lXr,lQx] at hj
 split at hj
 ·rename_i hl
  rw[lJ1] at hj
  exact⟨k+j,by omega,hl,hj⟩
 ·cases hj
theorem qX9 (h:x∈arr.toList.take n):∃j,j<n/\arr[j]? =some x:=by
 obtain⟨j,hj⟩:=lJ7 h
 rw[lQx] at hj
 split at hj
 ·rename_i hl
  rw[lJ1] at hj
  exact⟨j,hl,hj⟩
 ·cases hj
theorem at_e (hn:n<=a.size)(i:Nat)(hi:i<n):a[0+i]? =some (a.getD i kd):=by rw[lQ0];simp[Array.getD,show i<a.size by omega]
theorem srt_e (H:Asks M A s κ mem le)(hn:n<=a.size)(sa:a.toList.Pairwise le)(ma:∀x,x∈a.toList->mem x)(i j:Nat)(hij:i<=j)(hj:j<n):le (a.getD i kd) (a.getD j kd):=by
 have h1:=at_e hn i (by omega)
 have h2:=at_e hn j hj
 rw[lQ0] at h1 h2
 rcases lQy hij with q | rfl
 ·exact kQw sa (i:=i) (j:=j) (by rw[lJ1];exact h1) q (by rw[lJ1];exact h2)
 ·exact (H.tot _ _ (ma _ (jKo h1)) (ma _ (jKo h1))).elim id id
theorem galAh (H:Asks M A s κ mem le){k:Nat}(ma:∀x,x∈a.toList->mem x)(sb:b.toList.Pairwise le)(mb:∀x,x∈b.toList->mem x)(hna:na<=a.size)(hy:b[nb]? =some y)(hk1:k<=na)(hk2:∀i,i<k->bey le false y (a.getD i kd)=true)(hk3:∀i,k<=i->i<na->bey le false y (a.getD i kd)=false):
  (∀z,z∈b.toList.take (nb+1)->∀x,x∈(a.toList.take na).drop k->le z x)/\(∀z,z∈a.toList.take k->le z y):=by
 have my:=mb y (jKo hy)
 simp only[bey,lK4,lKf,lKs,lV1] at hk2 hk3
 refine⟨fun z hz x hx=> ?_,fun z hz=> ?_⟩
 ·obtain⟨j,h1,h2,h3⟩:=qYt hx
  have e:=at_e hna j h2
  rw[lQ0,h3] at e
  have hle:=hk3 j h1 h2
  rw[<-lJ0 e] at hle
  have mx:=ma x (jKo h3)
  exact kQc H sb mb hy mx ((H.tot _ _ mx my).resolve_left hle) z hz
 ·obtain⟨j,h1,h2⟩:=qX9 hz
  have e:=at_e hna j (by omega)
  rw[lQ0,h2] at e
  have hle:=hk2 j h1
  rwa [<-lJ0 e] at hle
theorem galBh (H:Asks M A s κ mem le){k:Nat}(sa:a.toList.Pairwise le)(ma:∀x,x∈a.toList->mem x)(mb:∀x,x∈b.toList->mem x)(hnb:nb<=b.size)(hx:a[na]? =some x)(hk1:k<=nb)(hk2:∀i,i<k->bey le true x (b.getD i kd)=true)(hk3:∀i,k<=i->i<nb->bey le true x (b.getD i kd)=false):
  (∀z,z∈a.toList.take (na+1)->∀y,y∈(b.toList.take nb).drop k->le z y)/\(∀z,z∈b.toList.take k->le z x):=by
 have mx:=ma x (jKo hx)
 simp only[bey,lK1,lX7,lV1,Bool.not_eq_false',lKs] at hk2 hk3
 refine⟨fun z hz y hy=> ?_,fun z hz=> ?_⟩
 ·obtain⟨j,h1,h2,h3⟩:=qYt hy
  have e:=at_e hnb j h2
  rw[lQ0,h3] at e
  have hle:=hk3 j h1 h2
  rw[<-lJ0 e] at hle
  exact kQc H sa ma hx (mb y (jKo h3)) hle z hz
 ·obtain⟨j,h1,h2⟩:=qX9 hz
  have e:=at_e hnb j (by omega)
  rw[lQ0,h2] at e
  have hle:=hk2 j h1
  rw[<-lJ0 e] at hle
  exact (H.tot _ _ mx (mb z (jKo h2))).resolve_left hle
theorem qKe {k:Nat}:(o++(arr.extract k n).reverse).toList.reverse=(arr.toList.take n).drop k++o.toList.reverse:=by
 rw[lQm,List.reverse_append,Array.toList_reverse,List.reverse_reverse,jXf,List.drop_take]
theorem qJd {Q:Array Keyed->SortSt->Prop}(H:Asks M A s κ mem le)(hk:kindOf st=κ)(hA:1<=a.size)(hB:1<=b.size)(sa:a.toList.Pairwise le)(sb:b.toList.Pairwise le)(ma:∀x,x∈a.toList->mem x)(mb:∀x,x∈b.toList->mem x)(hf:∀x,b[0]? =some x->∀y,y∈a.toList->le x y)(hl:∀x,a[a.size-1]? =some x->∀y,y∈b.toList->le y x)(h:∀r g,Fin2 le a b r->Q r (jK9 st g)):
  wpS M A E s (qV2 a b) Q st:=by
 obtain⟨x0,hb0⟩:=jXl (arr:=a) (i:=a.size-1) (by omega)
 have La:Hw le a b #[] (a.size-1+1) b.size:=by
  refine⟨?_,by simp,fun x _ y hy=> ?_⟩
  ·rw[lQd (by simp;omega),lQd (by simp)];simp
  ·simp at hy
 have L0:Hw le a b #[x0] (a.size-1) b.size:=La.pushA sa hb0 fun y hy=>hl x0 hb0 y (lQz hy)
 have fin0:∀r,Fin2 le a b r->Q r st:=fun r hr=>h r (gallopOf st) hr
 (refine lJd (wpS_lift (lK3 ⟨rfl,?_⟩)))
 refine lJd (jKh hb0 ?_)
 dsimp only
 refine jKb (fun c1=> ?_) fun c1=> ?_
 ·exact lJh (fin0 _ (L0.done sa sb (.inl c1)))
 refine jKb (fun c2=> ?_) fun c2=> ?_
 ·exact lJh (fin0 _ (L0.firstB sa sb c2 hf))
 refine lJd (lQa ?_)
 refine lJd (lKl (lKm (I:=fun i (c:Option (Array Keyed)×Nat×Nat×Array Keyed×Nat) st'=>(∃g,jK9 st g=st')/\c.1=none/\Hw le a b c.2.2.2.1 c.2.1 c.2.2.1/\1<=c.2.1/\c.2.1<=a.size/\2<=c.2.2.1/\c.2.2.1<=b.size/\i+1<=c.2.2.2.1.size)
  (Q:=fun (c:Option (Array Keyed)×Nat×Nat×Array Keyed×Nat) st'=>(∃g,jK9 st g=st')/\∃r,c.1=some r/\Fin2 le a b r) ?_ ?_ ⟨⟨_,rfl⟩,rfl,L0,by dsimp only;omega,by dsimp only;omega,by dsimp only;omega,by dsimp only;omega,by simp⟩) ?_)
 ·rintro i ⟨r,na,nb,out,mg⟩ st' _ hi ⟨⟨g,rfl⟩,rfl,L,ha,ha',hb,hb',hsz⟩
  dsimp only at L ha ha' hb hb' hsz ⊢
  refine lJd (lKl (lKm (I:=fun i1 (c:Option (Array Keyed)×Nat×Nat×Array Keyed×Nat×Nat) st'=>jK9 st g=st'/\c.1=none/\Hw le a b c.2.2.2.1 c.2.1 c.2.2.1/\1<=c.2.1/\c.2.1<=a.size/\2<=c.2.2.1/\c.2.2.1<=b.size/\out.size+i1<=c.2.2.2.1.size)
   (Q:=fun (c:Option (Array Keyed)×Nat×Nat×Array Keyed×Nat×Nat) st'=>jK9 st g=st'/\((∃r,c.1=some r/\Fin2 le a b r)\/(c.1=none/\Hw le a b c.2.2.2.1 c.2.1 c.2.2.1/\1<=c.2.1/\c.2.1<=a.size/\2<=c.2.2.1/\c.2.2.1<=b.size/\out.size+1<=c.2.2.2.1.size))) ?_ ?_ ⟨rfl,rfl,L,ha,ha',hb,hb',lJj _⟩) ?_)
  ·rintro i1 ⟨r,n1,m1,out1,ac,bc⟩ st' _ hi1 ⟨rfl,rfl,L1,p1,p2,p3,p4,hsz1⟩
   dsimp only at L1 p1 p2 p3 p4 hsz1 ⊢
   obtain⟨n1,rfl⟩:∃k,n1=k+1:=⟨n1-1,by omega⟩
   obtain⟨m1,rfl⟩:∃k,m1=k+1:=⟨m1-1,by omega⟩
   simp only[Nat.add_sub_cancel]
   obtain⟨y,hy⟩:=jXl (arr:=b) (i:=m1) (by omega)
   obtain⟨x,hx⟩:=jXl (arr:=a) (i:=n1) (by omega)
   have my:=mb y (jKo hy)
   have mx:=ma x (jKo hx)
   refine lJd (jKh hy (lJd (jKh hx (lJd (qQg (st:=jK9 st g) H my mx hk ?_)))))
   by_cases w:le x y
   ·rw[lJq w]
    dsimp only
    rw[lJa (by decide)]
    refine lJd (jKh hy ?_)
    have L2:=L1.pushB sb hy (kQc H sa ma hx my w)
    refine jKb (fun c3=> ?_) fun c3=> ?_
    ·exact lJh ⟨rfl,.inl ⟨_,rfl,L2.firstB sa sb c3 hf⟩⟩
    ·split
     ·exact wpS_pure ⟨rfl,.inr ⟨rfl,L2,p1,p2,by dsimp only;omega,by dsimp only;omega,by simp;omega⟩⟩
     ·exact wpS_pure ⟨rfl,rfl,L2,p1,p2,by dsimp only;omega,by dsimp only;omega,by simp;omega⟩
   ·rw[lJk w]
    dsimp only
    (rw[lJb (show (!false)=true from rfl)])
    refine lJd (jKh hx ?_)
    have L2:=L1.pushA sa hx (kQc H sb mb hy mx ((H.tot x y mx my).resolve_left w))
    refine jKb (fun c3=> ?_) fun c3=> ?_
    ·exact lJh ⟨rfl,.inl ⟨_,rfl,L2.done sa sb (.inl c3)⟩⟩
    ·split
     ·exact wpS_pure ⟨rfl,.inr ⟨rfl,L2,by dsimp only;omega,by dsimp only;omega,p3,p4,by simp;omega⟩⟩
     ·exact wpS_pure ⟨rfl,rfl,L2,by dsimp only;omega,by dsimp only;omega,p3,p4,by simp;omega⟩
  ·rintro⟨r,n1,m1,out1,ac,bc⟩ st' ⟨rfl,rfl,L1,p1,p2,p3,p4,hsz1⟩
   dsimp only at L1 p1 p2 p3 p4 hsz1 ⊢
   exact⟨rfl,.inr ⟨rfl,L1,p1,p2,p3,p4,by omega⟩⟩
  ·rintro⟨r,n1,m1,out1,ac,bc⟩ st' ⟨rfl,⟨r',rfl,fr⟩ | ⟨rfl,L1,p1,p2,p3,p4,hsz1⟩⟩
   ·dsimp only
    exact lJh ⟨⟨g,rfl⟩,r',rfl,fr⟩
   dsimp only at L1 p1 p2 p3 p4 hsz1 ⊢
   (refine lJd (wpS_lift (lK3 ⟨rfl,?_⟩)))
   refine lJd (lKl (lKm (I:=fun _ (c:Option (Array Keyed)×Nat×Nat×Array Keyed×Nat×Nat×Nat) st'=>(∃g,jK9 st g=st')/\c.1=none/\Hw le a b c.2.2.2.1 c.2.1 c.2.2.1/\1<=c.2.1/\c.2.1<=a.size/\2<=c.2.2.1/\c.2.2.1<=b.size/\out.size+1<=c.2.2.2.1.size)
    (Q:=fun (c:Option (Array Keyed)×Nat×Nat×Array Keyed×Nat×Nat×Nat) st'=>(∃g,jK9 st g=st')/\((∃r,c.1=some r/\Fin2 le a b r)\/(c.1=none/\Hw le a b c.2.2.2.1 c.2.1 c.2.2.1/\1<=c.2.1/\c.2.1<=a.size/\2<=c.2.2.1/\c.2.2.1<=b.size/\out.size+1<=c.2.2.2.1.size))) ?_ ?_ ⟨⟨g,rfl⟩,rfl,L1,p1,p2,p3,p4,hsz1⟩) ?_)
   ·clear L1 p1 p2 p3 p4 hsz1
    rintro i1 ⟨r,ja,jb,o,mg1,ac1,bc1⟩ st' _ hi1 ⟨⟨g1,rfl⟩,rfl,L1,p1,p2,p3,p4,hsz1⟩
    dsimp only at L1 p1 p2 p3 p4 hsz1 ⊢
    obtain⟨jb,rfl⟩:∃k,jb=k+1:=⟨jb-1,by omega⟩
    simp only[Nat.add_sub_cancel]
    obtain⟨y,hy⟩:=jXl (arr:=b) (i:=jb) (by omega)
    have my:=mb y (jKo hy)
    by_cases cg:mg1>1
    all_goals first | rw[lJb cg] | rw[lJa cg]
    all_goals refine lJd (lKg ?_)
    all_goals refine lJd (jKh hy ?_)
    all_goals refine lJd (jUy (st:=jK9 st _) (f:=fun i=>a.getD i kd) H hk my (at_e p2) (fun i hi=>ma _ (jKo (at_e p2 i hi))) (srt_e H p2 sa ma) (by omega) fun k hk1 hk2 hk3=> ?_)
    all_goals obtain⟨takeK,beyK⟩:=galAh H ma sb mb p2 hy hk1 hk2 hk3
    all_goals dsimp only
    all_goals by_cases ck:ja-k>0
    all_goals first | rw[lJb ck] | rw[lJa ck]
    all_goals first
     | (have L2:Hw le a b (o++(a.extract k ja).reverse) k (jb+1):=L1.takeA sa hk1 qKe takeK
        refine jKb (fun d1=> ?_) fun d1=> ?_
        ·exact lJh ⟨⟨_,rfl⟩,.inl ⟨_,rfl,L2.done sa sb (.inl d1)⟩⟩
        have q1:1<=k:=by omega
        have q2:k<=a.size:=by omega
        have hos:out.size+1<=(o++(a.extract k ja).reverse).size:=by rw[Array.size_append];omega
        have bk:=beyK
        clear L1 hk1 hk2 hk3 takeK beyK
        generalize ja-k=kk at *
        generalize o++(a.extract k ja).reverse=o2 at *
        skip)
     | (obtain rfl:k=ja:=by omega
        have L2:=L1
        have q1:=p1
        have q2:=p2
        have hos:=hsz1
        have bk:=beyK
        clear L1 hk1 hk2 hk3 takeK beyK
        skip)
    all_goals refine lJd (jKh hy ?_)
    all_goals have L3:=L2.pushB sb hy bk
    all_goals refine jKb (fun d3=> ?_) fun d3=> ?_
    all_goals first
     | exact lJh ⟨⟨_,rfl⟩,.inl ⟨_,rfl,L3.firstB sa sb d3 hf⟩⟩
     | skip
    all_goals obtain⟨k',rfl⟩:∃n,k=n+1:=⟨k-1,by omega⟩
    all_goals obtain⟨x,hx⟩:=jXl (arr:=a) (i:=k') (by omega)
    all_goals have mx:=ma x (jKo hx)
    all_goals have r4:jb<=b.size:=by omega
    all_goals simp only[Nat.add_sub_cancel]
    all_goals refine lJd (jKh hx ?_)
    all_goals refine lJd (jUy (st:=jK9 st _) (f:=fun i=>b.getD i kd) H hk mx (at_e r4) (fun i hi=>mb _ (jKo (at_e r4 i hi))) (srt_e H r4 sb mb) (by omega) fun k2 e1 e2 e3=> ?_)
    all_goals obtain⟨takeK,beyK⟩:=galBh H sa ma mb r4 hx e1 e2 e3
    all_goals dsimp only
    all_goals by_cases ck2:jb-k2>0
    all_goals first | rw[lJb ck2] | rw[lJa ck2]
    all_goals first
     | (have L4:=L3.takeB sb e1 qKe takeK
        refine jKb (fun d4=> ?_) fun d4=> ?_
        ·exact lJh ⟨⟨_,rfl⟩,.inl ⟨_,rfl,L4.firstB sa sb d4 hf⟩⟩
        refine jKb (fun d5=> ?_) fun d5=> ?_
        ·exact lJh ⟨⟨_,rfl⟩,.inl ⟨_,rfl,L4.done sa sb (.inr d5)⟩⟩
        have L5:=L4.pushA sa hx beyK
        have r1:2<=k2:=by omega
        have r2:k2<=b.size:=by omega
        skip)
     | (obtain rfl:k2=jb:=by omega
        have L5:=L3.pushA sa hx beyK
        have r1:2<=k2:=by omega
        have r2:k2<=b.size:=by omega
        skip)
    all_goals refine lJd (jKh hx ?_)
    all_goals clear takeK beyK e1 e2 e3
    all_goals first
     | (refine jKb (fun d5=> ?_) fun d5=> ?_
        ·exact lJh ⟨⟨_,rfl⟩,.inl ⟨_,rfl,L5.done sa sb (.inl d5)⟩⟩
        ·split
         ·exact wpS_pure ⟨⟨_,rfl⟩,.inr ⟨rfl,L5,by dsimp only;omega,by dsimp only;omega,r1,r2,by simp;omega⟩⟩
         ·exact wpS_pure ⟨⟨_,rfl⟩,rfl,L5,by dsimp only;omega,by dsimp only;omega,r1,r2,by simp;omega⟩)
     | trace_state
   ·rintro⟨r,ja,jb,o,mg1,ac1,bc1⟩ st' ⟨⟨g1,rfl⟩,rfl,L1,p1,p2,p3,p4,hsz1⟩
    dsimp only at L1 p1 p2 p3 p4 hsz1 ⊢
    exact⟨⟨g1,rfl⟩,.inr ⟨rfl,L1,p1,p2,p3,p4,hsz1⟩⟩
   ·rintro⟨r,ja,jb,o,mg1,ac1,bc1⟩ st' ⟨⟨g1,rfl⟩,⟨r',rfl,fr⟩ | ⟨rfl,L1,p1,p2,p3,p4,hsz1⟩⟩
    ·dsimp only
     exact lJh ⟨⟨g1,rfl⟩,r',rfl,fr⟩
    ·dsimp only at L1 p1 p2 p3 p4 hsz1 ⊢
     refine lJd (lKg ?_)
     exact wpS_pure ⟨⟨_,rfl⟩,rfl,L1,p1,p2,p3,p4,by dsimp only;omega⟩
 ·rintro⟨r,na,nb,out,mg⟩ st' ⟨⟨g,rfl⟩,rfl,L,ha,ha',hb,hb',hsz⟩
  dsimp only at L ha ha' hb hb' hsz
  have:=L.size ha' hb'
  exfalso
  rw[Nat.zero_max] at hsz
  omega
 ·rintro⟨r,na,nb,out,mg⟩ st' ⟨⟨g,rfl⟩,r',rfl,fr⟩
  dsimp only
  exact lJh (h _ _ fr)
end
theorem kJa {α:Type}:∀(m:List α) (base:Nat) (arr:Array α) (k:Nat),base+k+m.length<=arr.size->
  ((m.zipIdx k).foldl (fun (a:Array α) (x:α×Nat)=>a.setIfInBounds (base+x.2) x.1) arr).toList=arr.toList.take (base+k)++m++arr.toList.drop (base+k+m.length)
 | [],base,arr,k,h=>by simp
 | p::m,base,arr,k,h=>by
  rw[List.zipIdx_cons,lV7]
  have hl:base+k<arr.size:=by simp at h;omega
  rw[kJa m base _ (k+1) (by rw[Array.size_setIfInBounds];simp at h;omega)]
  rw[Array.toList_setIfInBounds,show base+(k+1)=(base+k)+1 by omega]
  have h1:(arr.toList.set (base+k) p).take (base+k+1)=arr.toList.take (base+k)++[p]:=by
   rw[lKz,List.take_set_of_le (lJj _),lKx (by simpa using hl)];rfl
  have h2:(arr.toList.set (base+k) p).drop (base+k+1+m.length)=arr.toList.drop (base+k+1+m.length):=List.drop_set_of_lt (by omega)
  rw[h1,h2]
  simp only[lKc,lJx,List.singleton_append,List.cons_append]
  rw[show base+k+(m.length+1)=base+k+1+m.length by omega]
  rfl
section
variable {mem:Keyed->Prop}[∀x y,Decidable (le x y)]
theorem qYy {σ:Type}{Q:PUnit->σ->Prop}{st st':σ}(h:Q ⟨⟩ st'):wpS M A E s (set st':StateT σ Sem PUnit) Q st:=by
 unfold wpS;rw[StateT.run_set];exact lJf ⟨rfl,h⟩
theorem getD_some (h:i<l.length):l[i]? =some (l.getD i kd):=by simp[List.getD,h]
theorem jZq (H:Asks M A s κ mem le)(hs:l.Pairwise le)(hm:∀x,x∈l->mem x)(i j:Nat)(hij:i<=j)(hj:j<l.length):le (l.getD i kd) (l.getD j kd):=by
 have h1:=getD_some (l:=l) (i:=i) (by omega)
 have h2:=getD_some hj
 rcases lQy hij with q | rfl
 ·exact kQw hs h1 q h2
 ·exact (H.tot _ _ (hm _ (lJt h1)) (hm _ (lJt h1))).elim id id
theorem qJe {Q:Bool->SortSt->Prop}{sa sb pw pw2:Nat}{P X Y S:List Keyed}(H:Asks M A s κ mem le)(hk:kindOf st=κ)(hfl:failedOf st=none)(hp1:(pendingOf st)[i]? =some (sa,na,pw))(hp2:(pendingOf st)[i+1]? =some (sb,nb,pw2))(harr:(arrOf st).toList=P++(X++Y)++S)(h1:P.length=sa)(h2:X.length=na)(h3:sb=sa+na)(h4:Y.length=nb)(hX:1<=na)(hY:1<=nb)(sX:X.Pairwise le)(sY:Y.Pairwise le)(mX:∀x,x∈X->mem x)(mY:∀x,x∈Y->mem x)(h:∀Z st',Z.Perm (X++Y)->Z.Pairwise le->(arrOf st').toList=P++Z++S->kindOf st'=κ->failedOf st'=none->pendingOf st'=((pendingOf st).setIfInBounds i (sa,na+nb,pw)).eraseIdxIfInBounds (i+1)->Q true st'):wpS M A E s (mergeAt' i) Q st:=by
 have fX:∀j,j<na->(arrOf st)[sa+j]? =some (X.getD j kd):=fun j hj=>by
  rw[<-lJ1,harr,lJx,lKq (by omega),h1,lX9,lJx,lKy (by omega)]
  exact getD_some (by omega)
 have fY:∀j,j<nb->(arrOf st)[sb+j]? =some (Y.getD j kd):=fun j hj=>by
  rw[<-lJ1,harr,lJx,lKq (by omega),h1,lJx,lKq (by omega),h2,lKy (by omega),show sb+j-sa-na=j by omega]
  exact getD_some (by omega)
 have mX':∀j,j<na->mem (X.getD j kd):=fun j hj=>mX _ (lJt (getD_some (by omega)))
 have mY':∀j,j<nb->mem (Y.getD j kd):=fun j hj=>mY _ (lJt (getD_some (by omega)))
 refine lJd (lQa ?_)
 simp only[hp1,hp2]
 refine lJd (qYy ?_)
 have hy0:=fY 0 (by omega)
 rw[lVq] at hy0
 refine lJd (jKh hy0 ?_)
 refine lJd (jUy (f:=fun j=>X.getD j kd) H (by exact hk) (mY' 0 (by omega)) fX mX' (fun p q hpq hq=>jZq H sX mX p q hpq (by omega)) (by omega) fun k hk1 hk2 hk3=> ?_)
 dsimp only
 simp only[bey,lK4,lKf,lKs,lV1] at hk2 hk3
 have inX:∀x,x∈X->∃j,j<na/\x=X.getD j kd:=fun x hx=>by
  (obtain⟨j,hj⟩:=lJ7 hx)
  have hl:=(lJg.mp hj).1
  exact⟨j,by omega,by rw[getD_some hl] at hj;exact (lJ0 hj).symm⟩
 have inY:∀x,x∈Y->∃j,j<nb/\x=Y.getD j kd:=fun x hx=>by
  (obtain⟨j,hj⟩:=lJ7 hx)
  have hl:=(lJg.mp hj).1
  exact⟨j,by omega,by rw[getD_some hl] at hj;exact (lJ0 hj).symm⟩
 have y0:∀y,y∈Y->le (Y.getD 0 kd) y:=fun y hy=>by
  obtain⟨j,hj,rfl⟩:=inY y hy
  exact jZq H sY mY 0 j (lJ9 _) (by omega)
 have xl:∀x,x∈X->le x (X.getD (na-1) kd):=fun x hx=>by
  obtain⟨j,hj,rfl⟩:=inX x hx
  exact jZq H sX mX j (na-1) (by omega) (by omega)
 have lowX:∀x,x∈X.take k->∀y,y∈Y->le x y:=fun x hx y hy=>by
  (obtain⟨j,hj⟩:=lJ7 hx)
  rw[lQx] at hj
  split at hj
  ·rename_i hjk
   rw[getD_some (by omega)] at hj
   have:=hk2 j hjk
   rw[lJ0 hj] at this
   exact H.tr _ _ _ (mX _ (lQz hx)) (mY' 0 (by omega)) (mY _ hy) this (y0 y hy)
  ·cases hj
 refine jKb (fun d1=> ?_) fun d1=> ?_
 ·refine lJh (h (X++Y) _ (.refl _) (lKd.mpr ⟨sX,sY,fun x hx y hy=>lowX x ?_ y hy⟩) harr hk hfl rfl)
  rw[lQd (by omega)];exact hx
 refine lJd (jKh (x:=X.getD (na-1) kd) (by rw[show sa+k+(na-k)-1=sa+(na-1) by omega];exact fX _ (by omega)) ?_)
 have mk:=mX' (na-1) (by omega)
 refine lJd (jUy (f:=fun j=>Y.getD j kd) H (by exact hk) mk fY mY' (fun p q hpq hq=>jZq H sY mY p q hpq (by omega)) (by omega) fun k2 e1 e2 e3=> ?_)
 dsimp only
 simp only[bey,lK1,lX7,lV1,Bool.not_eq_false',lKs] at e2 e3
 have highY:∀y,y∈Y.drop k2->∀x,x∈X->le x y:=fun y hy x hx=>by
  obtain⟨j,hj⟩:=lJ7 hy
  rw[lXr] at hj
  have hl:=(lJg.mp hj).1
  rw[getD_some hl] at hj
  have:=e3 (k2+j) (by omega) (by omega)
  rw[lJ0 hj] at this
  exact H.tr _ _ _ (mX _ hx) mk (mY _ (lVa hy)) (xl x hx) this
 refine jKb (fun d2=> ?_) fun d2=> ?_
 ·refine lJh (h (X++Y) _ (.refl _) (lKd.mpr ⟨sX,sY,fun x hx y hy=>highY y ?_ x hx⟩) harr hk hfl rfl)
  rw[d2];exact hy
 have exX:((arrOf st).extract (sa+k) sb).toList=X.drop k:=by
  rw[jXf,harr,lJx,lJx,<-h1,List.drop_append,lVs (by omega),List.nil_append,lX9,lYj (by omega),lVt (by simp;omega),lQd (by simp;omega)]
 have exY:((arrOf st).extract sb (sb+k2)).toList=Y.take k2:=by
  rw[jXf,harr,lJx,lJx,<-lJx P,List.drop_append,lVs (by simp;omega),List.nil_append,show sb-(P++X).length=0 by simp;omega,lXa,lVt (by omega),lX9]
 have szX:((arrOf st).extract (sa+k) sb).size=na-k:=by rw[<-lVo,exX,lV5,h2]
 have szY:((arrOf st).extract sb (sb+k2)).size=k2:=by rw[<-lVo,exY,lQ5,h4];omega
 have fin:∀(r:Array Keyed) g,Fin2 le ((arrOf st).extract (sa+k) sb) ((arrOf st).extract sb (sb+k2)) r->Q (failedOf (jK9 st g)).isNone (SortSt.mk' (kindOf st) (r.toList.zipIdx.foldl (fun a x=>a.setIfInBounds (sa+k+x.snd) x.fst) (arrOf st)) (((pendingOf st).setIfInBounds i (sa,na+nb,pw)).eraseIdxIfInBounds (i+1)) g (failedOf st)):=by
  rintro r g ⟨fp,fs⟩
  rw[exX,exY] at fp
  have hrl:r.toList.length=(na-k)+k2:=by rw[fp.length_eq,lJv,lV5,lQ5];omega
  have hal:(arrOf st).size=sa+(na+nb)+S.length:=by rw[<-lVo,harr];simp;omega
  have e:=kJa r.toList (sa+k) (arrOf st) 0 (by omega)
  have e2':(failedOf (jK9 st g)).isNone=true:=by show (failedOf st).isNone=true;rw[hfl];rfl
  rw[e2']
  have inr:∀z,z∈r.toList->z∈X.drop k\/z∈Y.take k2:=fun z hz=>lJm.mp (fp.mem_iff.mp hz)
  refine h (X.take k++r.toList++Y.drop k2) _ ?_ ?_ ?_ hk hfl rfl
  ·have:(X.take k++r.toList++Y.drop k2).Perm (X.take k++(X.drop k++Y.take k2)++Y.drop k2):=lXp _ (lXo _ fp)
   refine this.trans (List.Perm.of_eq ?_)
   rw[<-lJx,lQf,lJx,lQf]
  ·have sX':(X.take k++X.drop k).Pairwise le:=by rw[lQf];exact sX
   have sY':(Y.take k2++Y.drop k2).Pairwise le:=by rw[lQf];exact sY
   obtain⟨a1,a2,a3⟩:=lKd.mp sX'
   obtain⟨b1,b2,b3⟩:=lKd.mp sY'
   refine lKd.mpr ⟨lKd.mpr ⟨a1,fs,fun x hx z hz=> ?_⟩,b2,fun x hx y hy=> ?_⟩
   ·rcases inr z hz with w | w
    ·exact a3 x hx z w
    ·exact lowX x hx z (lQz w)
   ·rcases (lJm.mp hx) with w | w
    ·exact highY y hy x (lQz w)
    ·rcases inr x w with w | w
     ·exact highY y hy x (lVa w)
     ·exact b3 x w y hy
  ·show (List.foldl _ _ _:Array Keyed).toList=_
   rw[e,lVq,hrl,show sa+k+(na-k+k2)=sb+k2 by omega]
   have t1:(arrOf st).toList.take (sa+k)=P++X.take k:=by
    rw[harr,lJx,lJx,<-h1,List.take_append,lQd (by omega),lX9,lVt (by omega)]
   have t2:(arrOf st).toList.drop (sb+k2)=Y.drop k2++S:=by
    rw[harr,lJx,lJx,<-lJx P,List.drop_append,lVs (by simp;omega),List.nil_append,show sb+k2-(P++X).length=k2 by simp;omega,lYj (by omega)]
   rw[t1,t2]
   simp only[lJx]
 have pa:((arrOf st).extract (sa+k) sb).toList.Pairwise le:=by rw[exX];exact sX.sublist (lVj ..)
 have pb:((arrOf st).extract sb (sb+k2)).toList.Pairwise le:=by rw[exY];exact sY.sublist (lVf ..)
 have pma:∀x,x∈((arrOf st).extract (sa+k) sb).toList->mem x:=fun x hx=>by rw[exX] at hx;exact mX x (lVa hx)
 have pmb:∀x,x∈((arrOf st).extract sb (sb+k2)).toList->mem x:=fun x hx=>by rw[exY] at hx;exact mY x (lQz hx)
 have pf:∀x,((arrOf st).extract sb (sb+k2))[0]? =some x->∀y,y∈((arrOf st).extract (sa+k) sb).toList->le x y:=fun x hx y hy=>by
  rw[<-lJ1,exY,lQx,lJb (by omega),getD_some (by omega)] at hx
  rw[<-lJ0 hx]
  rw[exX] at hy
  obtain⟨j,hj⟩:=lJ7 hy
  rw[lXr] at hj
  have hl:=(lJg.mp hj).1
  rw[getD_some hl] at hj
  have:=hk3 (k+j) (by omega) (by omega)
  rw[lJ0 hj] at this
  exact (H.tot _ _ (mX _ (lVa hy)) (mY' 0 (by omega))).resolve_left this
 have pl:∀x,((arrOf st).extract (sa+k) sb)[((arrOf st).extract (sa+k) sb).size-1]? =some x->∀y,y∈((arrOf st).extract sb (sb+k2)).toList->le y x:=fun x hx y hy=>by
  rw[szX,<-lJ1,exX,lXr,show k+(na-k-1)=na-1 by omega,getD_some (by omega)] at hx
  rw[<-lJ0 hx]
  rw[exY] at hy
  obtain⟨j,hj⟩:=lJ7 hy
  rw[lQx] at hj
  split at hj
  ·rename_i hjk
   rw[getD_some (by omega)] at hj
   have:=e2 j hjk
   rw[lJ0 hj] at this
   exact (H.tot _ _ mk (mY _ (lQz hy))).resolve_left this
  ·cases hj
 have qa:1<=((arrOf st).extract (sa+k) sb).size:=by rw[szX];omega
 have qb:1<=((arrOf st).extract sb (sb+k2)).size:=by rw[szY];omega
 split
 ·refine lJd (qJc H (by exact hk) qa qb pa pb pma pmb pf pl fun r g fr=> ?_)
  refine lJd (lKg (lJd (lQa (lJh ?_))))
  exact fin r g fr
 ·refine lJd (qJd H (by exact hk) qa qb pa pb pma pmb pf pl fun r g fr=> ?_)
  refine lJd (lKg (lJd (lQa (lJh ?_))))
  exact fin r g fr
end
variable {a0 xs:Array Keyed}{lo hi p:Nat}{pe:Array (Nat×Nat×Nat)}
section
variable {mem:Keyed->Prop}[∀x y,Decidable (le x y)]
structure SB (κ:SortKind) (a0:Array Keyed) (lo hi:Nat) (pe:Array (Nat×Nat×Nat)) (st:SortSt):Prop where
 kind:kindOf st=κ
 fail:failedOf st=none
 pend:pendingOf st=pe
 perm:(arrOf st).Perm a0
 out:∀p,(p<lo\/hi<=p)->(arrOf st)[p]? =a0[p]?
noncomputable abbrev Vl (st:SortSt)(p:Nat):Keyed:=(arrOf st).getD p kd
def SrtA (le:Keyed->Keyed->Prop)(st:SortSt)(lo n:Nat):Prop:=∀p q,p<q->q<n->le (Vl st (lo+p)) (Vl st (lo+q))
theorem SB.size (h:SB κ a0 lo hi pe st):(arrOf st).size=a0.size:=h.perm.size_eq
theorem SB.at (h:SB κ a0 lo hi pe st)(hp:p<a0.size):(arrOf st)[p]? =some (Vl st p):=by
 have:p<(arrOf st).size:=by rw[h.size];exact hp
 simp[Array.getD,this]
theorem SB.inn (h:SB κ a0 lo hi pe st)(hm:∀x,x∈a0.toList->mem x)(hp:p<a0.size):mem (Vl st p):=by
 have:=jKo (h.at hp)
 exact hm _ ((Array.perm_iff_toList_perm.mp h.perm).mem_iff.mp this)
theorem jYn (H:Asks M A s κ mem le)(hm:∀x,x∈a0.toList->mem x)(h:SB κ a0 lo hi pe st)(hi:i<a0.size)(hj:j<a0.size)(q:Q (some (!decide (le (Vl st j) (Vl st i)))) st):wpS M A E s (ltAt' i j) Q st:=by
 rw[ltAt'_eq]
 refine lJd (lQa ?_)
 exact lJd (jKh (h.at hi) (lJd (jKh (h.at hj) (qQg H (h.inn hm hi) (h.inn hm hj) h.kind q))))
theorem SB.set (h:SB κ a0 lo hi pe st)(hp:xs.Perm (arrOf st))(ho:∀p,(p<lo\/hi<=p)->xs[p]? =(arrOf st)[p]?):SB κ a0 lo hi pe (setArr st xs):=
 ⟨h.kind,h.fail,h.pend,hp.trans h.perm,fun p hp=>(ho p hp).trans (h.out p hp)⟩
theorem kJw {ys:Array Keyed}(h:xs[i]? =ys[j]?):xs.getD i kd=ys.getD j kd:=by
 rw[Array.getD_eq_getD_getElem?,Array.getD_eq_getD_getElem?,h]
theorem V_bub {k l:Nat}(hs:lo+k<(arrOf st).size)(hl:l<=k):Vl (setArr st (bubble (arrOf st) (lo+k) (lo+k-(lo+l)))) (lo+p)=if p=l then Vl st (lo+k) else if l<p/\p<=k then Vl st (lo+(p-1)) else Vl st (lo+p):=by
 have e:=getElem?_bubble hs (lo+k-(lo+l)) (by omega) (lo+p)
 by_cases h1:p=l
 ·rw[lJb (by omega)] at e
  rw[lJb h1];exact kJw e
 ·rw[lJa (by omega)] at e
  rw[lJa h1]
  by_cases h2:l<p/\p<=k
  ·rw[lJb (by omega)] at e
   rw[lJb h2];exact kJw (e.trans (by rw[show lo+p-1=lo+(p-1) by omega]))
  ·rw[lJa (by omega)] at e
   rw[lJa h2];exact kJw e
theorem kUh (H:Asks M A s κ mem le)(hm:∀x,x∈a0.toList->mem x)(h:SB κ a0 lo hi pe st){ok:Nat}(hok:1<=ok)(hn:ok<=n)(hl:lo+n<=hi)(hh:hi<=a0.size)(hs:SrtA le st lo ok){Q:Bool->SortSt->Prop}(q:∀st',SB κ a0 lo hi pe st'->SrtA le st' lo n->Q true st'):wpS M A E s (binarySort' lo n ok) Q st:=by
 rw[binarySort'_eq]
 refine lJd (lKl (lKm (I:=fun k (c:Option Bool×Unit) st'=>c=(none,())/\SB κ a0 lo hi pe st'/\SrtA le st' lo k) (Q:=fun (c:Option Bool×Unit) st'=>c=(none,())/\SB κ a0 lo hi pe st'/\SrtA le st' lo n) ?_ ?_ ⟨rfl,h,by rw[Nat.max_eq_left hok];exact hs⟩) ?_)
 ·rintro k c st1 hk hkn ⟨rfl,B,S⟩
  have hks:lo+k<a0.size:=by omega
  dsimp only
  have mV:∀p,p<=k->mem (Vl st1 (lo+p)):=fun p hp=>B.inn hm (by omega)
  have S':∀p q,p<=q->q<k->le (Vl st1 (lo+p)) (Vl st1 (lo+q)):=fun p q hpq hq=>by
   rcases lQy hpq with z | rfl
   ·exact S p q z hq
   ·exact (H.tot _ _ (mV p (by omega)) (mV p (by omega))).elim id id
  refine lJd (lKl (lKm (I:=fun i (c:Option Bool×Nat×Nat) st'=>st1=st'/\c.1=none/\c.2.1<=c.2.2/\c.2.2<=k/\c.2.2-c.2.1<=k-i/\(∀p,p<c.2.1->le (Vl st1 (lo+p)) (Vl st1 (lo+k)))/\(∀p,c.2.2<=p->p<k->le (Vl st1 (lo+k)) (Vl st1 (lo+p))))
   (Q:=fun (c:Option Bool×Nat×Nat) st'=>st1=st'/\c.1=none/\c.2.1<=k/\(∀p,p<c.2.1->le (Vl st1 (lo+p)) (Vl st1 (lo+k)))/\(∀p,c.2.1<=p->p<k->le (Vl st1 (lo+k)) (Vl st1 (lo+p)))) ?_ ?_ ⟨rfl,rfl,Nat.zero_le _,Nat.le_refl _,by dsimp only;omega,fun p hp=>absurd hp (Nat.not_lt_zero _),fun p h1 h2=>absurd h2 (by dsimp only at h1;omega)⟩) ?_)
  ·rintro i ⟨r0,l,r⟩ st2 _ hi2 ⟨rfl,rfl,i1,i2,i3,i4,i5⟩
   dsimp only at i1 i2 i3 i4 i5 ⊢
   by_cases c:l>=r
   ·rw[lJb c]
    exact wpS_pure ⟨rfl,rfl,by dsimp only;omega,i4,fun p h1 h2=>i5 p (by dsimp only at h1;omega) h2⟩
   ·rw[lJa c]
    have hmm:(l+r) / 2<k:=by omega
    refine lJd (jYn H hm B (by omega) (by omega) ?_)
    by_cases w:le (Vl st1 (lo+(l+r) / 2)) (Vl st1 (lo+k))
    ·rw[lJq w]
     dsimp only
     rw[lJa (by decide)]
     exact wpS_pure ⟨rfl,rfl,by dsimp only;omega,i2,by dsimp only;omega,fun p hp=>H.tr _ _ _ (mV p (by dsimp only at hp;omega)) (mV _ (by omega)) (mV k (Nat.le_refl _)) (S' p _ (by dsimp only at hp;omega) hmm) w,i5⟩
    ·rw[lJk w]
     dsimp only
     (rw[lJb (show (!false)=true from rfl)])
     have w':=(H.tot _ _ (mV _ (by omega)) (mV k (lJj _))).resolve_left w
     exact wpS_pure ⟨rfl,rfl,by dsimp only;omega,by dsimp only;omega,by dsimp only;omega,i4,fun p h1 h2=>H.tr _ _ _ (mV k (Nat.le_refl _)) (mV _ (by omega)) (mV p (by omega)) w' (S' _ p h1 h2)⟩
  ·rintro⟨r0,l,r⟩ st2 ⟨rfl,rfl,i1,i2,i3,i4,i5⟩
   dsimp only at i1 i2 i3 i4 i5 ⊢
   exact⟨rfl,rfl,by omega,i4,fun p h1 h2=>i5 p (by omega) h2⟩
  ·rintro⟨r0,l,r⟩ st2 ⟨rfl,rfl,i1,i2,i3⟩
   dsimp only at i1 i2 i3 ⊢
   rw[moveDown'_eq]
   have hsz:lo+k<(arrOf st1).size:=by rw[B.size];exact hks
   refine lJd (lKg (lJh ⟨rfl,B.set (bubble_perm ..) (fun p hp=> ?_),fun p q' hpq hq=> ?_⟩))
   ·rw[getElem?_bubble hsz _ (by omega),lJa (by omega),lJa (by omega)]
   ·rw[V_bub hsz i1,V_bub hsz i1]
    by_cases e1:p=l
    ·rw[lJb e1,lJa (by omega),lJb ⟨by omega,by omega⟩]
     exact i3 _ (by omega) (by omega)
    ·rw[lJa e1]
     by_cases e2:q'=l
     ·rw[lJb e2,lJa (by omega)]
      exact i2 p (by omega)
     ·rw[lJa e2]
      by_cases e3:l<p/\p<=k
      ·rw[lJb e3,lJb ⟨by omega,by omega⟩]
       exact S _ _ (by omega) (by omega)
      ·rw[lJa e3]
       by_cases e4:l<q'/\q'<=k
       ·rw[lJb e4]
        exact S' _ _ (by omega) (by omega)
       ·rw[lJa e4]
        exact S _ _ hpq (by omega)
 ·rintro c st1 ⟨rfl,B,S⟩
  refine⟨rfl,B,?_⟩
  rwa [show max (max ok 1) n=n by omega] at S
 ·rintro c st1 ⟨rfl,B,S⟩
  dsimp only
  exact lJh (q _ B S)
end
section
variable {mem:Keyed->Prop}[∀x y,Decidable (le x y)]
def NInc (le:Keyed->Keyed->Prop)(st:SortSt)(lo n:Nat):Prop:=∀p q,p<q->q<n->le (Vl st (lo+q)) (Vl st (lo+p))
noncomputable abbrev revS (st:SortSt)(i j:Nat):SortSt:=setArr st (mirror (arrOf st) i j ((j-i) / 2))
theorem jZn (hj:lo+j<=(arrOf st).size):Vl (revS st (lo+i) (lo+j)) (lo+p)=if i<=p/\p<j then Vl st (lo+(i+j-1-p)) else Vl st (lo+p):=by
 have e:=getElem?_mirror_all (i:=lo+i) hj (lo+p)
 by_cases h:i<=p/\p<j
 ·rw[lJb (by omega)] at e
  rw[lJb h];exact kJw (e.trans (by rw[show lo+i+(lo+j)-1-(lo+p)=lo+(i+j-1-p) by omega]))
 ·rw[lJa (by omega)] at e
  rw[lJa h];exact kJw e
theorem SB.rev (h:SB κ a0 lo hi pe st)(hj:lo+j<=hi)(hh:hi<=a0.size):SB κ a0 lo hi pe (revS st (lo+i) (lo+j)):=
 h.set (mirror_perm ..) fun p hp=>by rw[getElem?_mirror_all (by rw[h.size];omega),lJa (by omega)]
theorem NInc.flip (h:NInc le st lo n)(hn:lo+n<=(arrOf st).size):SrtA le (revS st (lo+0) (lo+n)) lo n:=fun p q hpq hq=>by
 rw[jZn hn,jZn hn,lJb ⟨lJ9 _,by omega⟩,lJb ⟨lJ9 _,hq⟩]
 exact h _ _ (by omega) (by omega)
theorem SrtA.flip (h:SrtA le st lo n)(hn:lo+n<=(arrOf st).size):NInc le (revS st (lo+0) (lo+n)) lo n:=fun p q hpq hq=>by
 rw[jZn hn,jZn hn,lJb ⟨lJ9 _,hq⟩,lJb ⟨lJ9 _,by omega⟩]
 exact h _ _ (by omega) (by omega)
theorem NInc.part (h:NInc le st lo n)(hn:lo+n<=(arrOf st).size)(hm:m<=n)(he:∀p q,m<=p->p<n->m<=q->q<n->le (Vl st (lo+p)) (Vl st (lo+q))):NInc le (revS st (lo+m) (lo+n)) lo n:=fun p q hpq hq=>by
 rw[jZn hn,jZn hn]
 by_cases h1:m<=p
 ·rw[lJb ⟨by omega,hq⟩,lJb ⟨h1,by omega⟩]
  exact he _ _ (by omega) (by omega) (by omega) (by omega)
 ·rw[lJa (by omega:¬ (m<=p/\p<n))]
  by_cases h2:m<=q
  ·rw[lJb ⟨h2,hq⟩]
   exact h _ _ (by omega) (by omega)
  ·rw[lJa (by omega)]
   exact h _ _ hpq hq
def Seg (le:Keyed->Keyed->Prop)(st:SortSt)(lo i e:Nat):Prop:=∀p q,i-(e+1)<=p->p<i->i-(e+1)<=q->q<i->le (Vl st (lo+p)) (Vl st (lo+q))
theorem NInc.up (H:Asks M A s κ mem le)(hm:∀x,x∈a0.toList->mem x)(B:SB κ a0 lo hi pe st)(hn1:1<=n)(hn:lo+n<a0.size)(h:NInc le st lo n)(w:le (Vl st (lo+n)) (Vl st (lo+(n-1)))):NInc le st lo (n+1):=fun p q hpq hq=>by
 rcases lQy (lX8 hq) with z | rfl
 ·exact h p q hpq z
 ·rcases lQy (show p<=q-1 by omega) with y | rfl
  ·exact H.tr _ _ _ (B.inn hm hn) (B.inn hm (by omega)) (B.inn hm (by omega)) w (h p (q-1) y (by omega))
  ·exact w
theorem Seg.part {e:Nat}(h:Seg le st lo n e)(N:NInc le st lo n){hn:lo+n<=(arrOf st).size}:NInc le (revS st (lo+(n-(e+1))) (lo+n)) lo n:=N.part hn (by omega) h
theorem kX2 (H:Asks M A s κ mem le)(hm:∀x,x∈a0.toList->mem x)(h:SB κ a0 lo hi pe st){nrem:Nat}(h1:1<=nrem)(hl:lo+nrem<=hi)(hh:hi<=a0.size){Q:Option Nat->SortSt->Prop}(q:∀n st',SB κ a0 lo hi pe st'->1<=n->n<=nrem->SrtA le st' lo n->Q (some n) st'):wpS M A E s (countRun' lo nrem) Q st:=by
 rw[countRun'_eq]
 have up:∀(st':SortSt) n,SB κ a0 lo hi pe st'->1<=n->n<nrem->SrtA le st' lo n->le (Vl st' (lo+n-1)) (Vl st' (lo+n))->SrtA le st' lo (n+1):=fun st' n B hn hnr S w p q hpq hq=>by
  rcases lQy (lX8 hq) with z | rfl
  ·exact S p q hpq z
  ·rw[show lo+q-1=lo+(q-1) by omega] at w
   rcases lQy (show p<=q-1 by omega) with y | rfl
   ·exact H.tr _ _ _ (B.inn hm (by omega)) (B.inn hm (by omega)) (B.inn hm (by omega)) (S p (q-1) y (by omega)) w
   ·exact w
 refine lJd (lKl (lKm (I:=fun i (c:Option (Option Nat)×Nat) st'=>st=st'/\c=(none,i)/\SrtA le st lo i) (Q:=fun (c:Option (Option Nat)×Nat) st'=>st=st'/\c.1=none/\1<=c.2/\c.2<=nrem/\SrtA le st lo c.2/\(c.2<nrem->¬ le (Vl st (lo+c.2-1)) (Vl st (lo+c.2)))) ?_ ?_ ⟨rfl,rfl,fun p q hpq hq=>absurd hq (by omega)⟩) ?_)
 ·rintro i c st1 hi1 hi2 ⟨rfl,rfl,S⟩
  dsimp only
  refine lJd (jYn H hm h (by omega) (by omega) ?_)
  by_cases w:le (Vl st (lo+i-1)) (Vl st (lo+i))
  ·rw[lJq w]
   dsimp only
   rw[lJa (by decide)]
   exact lJh ⟨rfl,rfl,up st i h hi1 hi2 S w⟩
  ·rw[lJk w]
   dsimp only
   (rw[lJb (show (!false)=true from rfl)])
   exact wpS_pure ⟨rfl,rfl,hi1,by dsimp only;omega,S,fun _=>w⟩
 ·rintro c st1 ⟨rfl,rfl,S⟩
  rw[show max 1 nrem=nrem by omega] at S ⊢
  exact⟨rfl,rfl,h1,lJj _,S,fun z=>absurd z (lV2 _)⟩
 ·rintro⟨r,n⟩ st1 ⟨rfl,rfl,n1,n2,S,W⟩
  dsimp only at n1 n2 S W ⊢
  refine jKb (fun d=> ?_) fun d=> ?_
  ·exact lJh (q n st h n1 n2 S)
  have nlt:n<nrem:=by omega
  have en:lo+n-1=lo+(n-1):=by omega
  rw[en] at W
  have W':=(H.tot _ _ (h.inn hm (by omega)) (h.inn hm (by omega))).resolve_left (W nlt)
  by_cases cn:n>1
  ·rw[lJb cn]
   refine lJd (jYn H hm h (by omega) (by omega) ?_)
   rw[en]
   by_cases w:le (Vl st (lo+(n-1))) (Vl st lo)
   ·rw[lJq w]
    dsimp only
    rw[lJa (by decide),lVd]
    have hsz:lo+n<=(arrOf st).size:=by rw[h.size];omega
    have B2:=h.rev (i:=0) (j:=n) (by omega) hh
    have N2:NInc le (revS st (lo+0) (lo+n)) lo (n+1):=by
     refine (S.flip hsz).up H hm B2 n1 (by omega) ?_
     rw[jZn hsz,jZn hsz,lJa (by omega),lJb (by omega),show 0+n-1-(n-1)=0 by omega,lVq]
     exact H.tr _ _ _ (h.inn hm (by omega)) (h.inn hm (by omega)) (h.inn hm (by omega)) W' w
    refine lJd (lKg ?_)
    (refine lJd (wpS_lift (lK3 ⟨rfl,?_⟩)))
    refine lJd (lKl (lKm (I:=fun i (c:Option (Option Nat)×Nat×Nat) st'=>SB κ a0 lo hi pe st'/\c.1=none/\c.2.1=i/\NInc le st' lo i/\c.2.2+1<=i/\Seg le st' lo i c.2.2)
     (Q:=fun (c:Option (Option Nat)×Nat×Nat) st'=>SB κ a0 lo hi pe st'/\c.1=none/\1<=c.2.1/\c.2.1<=nrem/\NInc le st' lo c.2.1/\c.2.2+1<=c.2.1/\Seg le st' lo c.2.1 c.2.2) ?_ ?_ ⟨B2,rfl,rfl,N2,by dsimp only;omega,fun p q a1 a2 a3 a4=>by
      obtain rfl:p=q:=by dsimp only at a1 a3;omega
      exact (H.tot _ _ (B2.inn hm (by omega)) (B2.inn hm (by omega))).elim id id⟩) ?_)
    ·rintro i ⟨r,i',e⟩ st3 hi1 hi2 ⟨B,rfl,rfl,N,he,sg⟩
     dsimp only at N he sg hi1 hi2 ⊢
     have ei:lo+i'-1=lo+(i'-1):=by omega
     refine lJd (jYn H hm B (by omega) (by omega) ?_)
     rw[ei]
     by_cases w:le (Vl st3 (lo+(i'-1))) (Vl st3 (lo+i'))
     ·rw[lJq w]
      dsimp only
      rw[lJa (by decide)]
      refine lJd (jYn H hm B (by omega) (by omega) ?_)
      by_cases w2:le (Vl st3 (lo+i')) (Vl st3 (lo+(i'-1)))
      ·rw[lJq w2]
       dsimp only
       rw[lJa (by decide)]
       refine wpS_pure ⟨B,rfl,rfl,N.up H hm B (by omega) (by omega) w2,by dsimp only;omega,fun p q a1 a2 a3 a4=> ?_⟩
       dsimp only at a1 a3
       have to:∀p,i'-(e+1)<=p->p<i'->le (Vl st3 (lo+p)) (Vl st3 (lo+i'))/\le (Vl st3 (lo+i')) (Vl st3 (lo+p)):=fun p b1 b2=>
        ⟨H.tr _ _ _ (B.inn hm (by omega)) (B.inn hm (by omega)) (B.inn hm (by omega)) (sg p (i'-1) b1 b2 (by omega) (by omega)) w,H.tr _ _ _ (B.inn hm (by omega)) (B.inn hm (by omega)) (B.inn hm (by omega)) w2 (sg (i'-1) p (by omega) (by omega) b1 b2)⟩
       by_cases ep:p=i'
       ·by_cases eq:q=i'
        ·rw[ep,eq];exact (H.tot _ _ (B.inn hm (by omega)) (B.inn hm (by omega))).elim id id
        ·rw[ep];exact (to q (by omega) (by omega)).2
       ·by_cases eq:q=i'
        ·rw[eq];exact (to p (by omega) (by omega)).1
        ·exact sg p q (by omega) (by omega) (by omega) (by omega)
      ·rw[lJk w2]
       dsimp only
       (rw[lJb (show (!false)=true from rfl)])
       exact wpS_pure ⟨B,rfl,by dsimp only;omega,by dsimp only;omega,N,he,sg⟩
     ·rw[lJk w]
      dsimp only
      (rw[lJb (show (!false)=true from rfl)])
      have w':=(H.tot _ _ (B.inn hm (by omega)) (B.inn hm (by omega))).resolve_left w
      have one:∀st4,SB κ a0 lo hi pe st4->Seg le st4 lo (i'+1) 0:=fun st4 B4 p q a1 a2 a3 a4=>by
       obtain rfl:p=q:=by omega
       exact (H.tot _ _ (B4.inn hm (by omega)) (B4.inn hm (by omega))).elim id id
      by_cases ce:e>0
      ·rw[lJb ce,lVd,show lo+i'-(e+1)=lo+(i'-(e+1)) by omega]
       have hsz:lo+i'<=(arrOf st3).size:=by rw[B.size];omega
       have B4:=B.rev (i:=i'-(e+1)) (j:=i') (by omega) hh
       have N4:=sg.part N (hn:=hsz)
       refine wpS_bind (wpS_modify (wpS_pure ⟨B4,rfl,rfl,N4.up H hm B4 (by omega) (by omega) ?_,by dsimp only;omega,one _ B4⟩))
       rw[jZn hsz,jZn hsz,lJa (by omega),lJb (by omega)]
       exact H.tr _ _ _ (B.inn hm (by omega)) (B.inn hm (by omega)) (B.inn hm (by omega)) w' (sg _ _ (by omega) (by omega) (by omega) (by omega))
      ·rw[lJa ce]
       exact wpS_pure ⟨B,rfl,rfl,N.up H hm B (by omega) (by omega) w',by dsimp only;omega,one _ B⟩
    ·rintro⟨r,i',e⟩ st3 ⟨B,rfl,rfl,N,he,sg⟩
     dsimp only at N he sg ⊢
     exact⟨B,rfl,by omega,by omega,N,he,sg⟩
    ·rintro⟨r,i',e⟩ st3 ⟨B,rfl,b1,b2,N,he,sg⟩
     dsimp only at b1 b2 N he sg ⊢
     have hsz:lo+i'<=(arrOf st3).size:=by rw[B.size];omega
     by_cases ce:e>0
     all_goals first | rw[lJb ce,lVd,lVd,show lo+i'-(e+1)=lo+(i'-(e+1)) by omega] | rw[lJa ce,lVd]
     all_goals first
      | (have N4:=sg.part N (hn:=hsz)
         have B4:=B.rev (i:=i'-(e+1)) (j:=i') (by omega) hh
         have S5:=N4.flip (by rw[B4.size];omega)
         have B5:=B4.rev (i:=0) (j:=i') (by omega) hh
         refine lJd (lKg (lJd (lKg ?_)))
         skip)
      | (have S5:=N.flip hsz
         have B5:=B.rev (i:=0) (j:=i') (by omega) hh
         refine lJd (lKg ?_)
         skip)
     all_goals refine lJd (lKl (lKm (I:=fun i (c:Option (Option Nat)×Nat) st'=>SB κ a0 lo hi pe st'/\c=(none,i)/\SrtA le st' lo i) (Q:=fun (c:Option (Option Nat)×Nat) st'=>SB κ a0 lo hi pe st'/\c.1=none/\1<=c.2/\c.2<=nrem/\SrtA le st' lo c.2) ?_ ?_ ⟨B5,rfl,S5⟩) ?_)
     all_goals first
      | (rintro i c st6 hi1 hi2 ⟨B6,rfl,S6⟩
         dsimp only
         refine lJd (jYn H hm B6 (by omega) (by omega) ?_)
         by_cases w:le (Vl st6 (lo+i-1)) (Vl st6 (lo+i))
         ·rw[lJq w]
          dsimp only
          rw[lJa (by decide)]
          exact lJh ⟨B6,rfl,up st6 i B6 (by omega) hi2 S6 w⟩
         ·rw[lJk w]
          dsimp only
          (rw[lJb (show (!false)=true from rfl)])
          exact wpS_pure ⟨B6,rfl,by dsimp only;omega,by dsimp only;omega,S6⟩)
      | (rintro c st6 ⟨B6,rfl,S6⟩
         rw[show max i' nrem=nrem by omega] at S6 ⊢
         exact⟨B6,rfl,h1,lJj _,S6⟩)
      | (rintro⟨r,k⟩ st6 ⟨B6,rfl,k1,k2,S6⟩
         dsimp only at k1 k2 S6 ⊢
         exact lJh (q k st6 B6 k1 k2 S6))
   ·rw[lJk w]
    dsimp only
    (rw[lJb (show (!false)=true from rfl)])
    exact lJh (q n st h n1 n2 S)
  ·rw[lJa cn]
   obtain rfl:n=1:=by omega
   have B2:=h
   have N2:NInc le st lo (1+1):=fun p q hpq hq=>by
    obtain rfl:p=0:=by omega
    obtain rfl:q=1:=by omega
    exact W'
   (refine lJd (wpS_lift (lK3 ⟨rfl,?_⟩)))
   refine lJd (lKl (lKm (I:=fun i (c:Option (Option Nat)×Nat×Nat) st'=>SB κ a0 lo hi pe st'/\c.1=none/\c.2.1=i/\NInc le st' lo i/\c.2.2+1<=i/\Seg le st' lo i c.2.2)
    (Q:=fun (c:Option (Option Nat)×Nat×Nat) st'=>SB κ a0 lo hi pe st'/\c.1=none/\1<=c.2.1/\c.2.1<=nrem/\NInc le st' lo c.2.1/\c.2.2+1<=c.2.1/\Seg le st' lo c.2.1 c.2.2) ?_ ?_ ⟨B2,rfl,rfl,N2,by dsimp only;omega,fun p q a1 a2 a3 a4=>by
     obtain rfl:p=q:=by dsimp only at a1 a3;omega
     exact (H.tot _ _ (B2.inn hm (by omega)) (B2.inn hm (by omega))).elim id id⟩) ?_)
   ·rintro i ⟨r,i',e⟩ st3 hi1 hi2 ⟨B,rfl,rfl,N,he,sg⟩
    dsimp only at N he sg hi1 hi2 ⊢
    have ei:lo+i'-1=lo+(i'-1):=by omega
    refine lJd (jYn H hm B (by omega) (by omega) ?_)
    rw[ei]
    by_cases w:le (Vl st3 (lo+(i'-1))) (Vl st3 (lo+i'))
    ·rw[lJq w]
     dsimp only
     rw[lJa (by decide)]
     refine lJd (jYn H hm B (by omega) (by omega) ?_)
     by_cases w2:le (Vl st3 (lo+i')) (Vl st3 (lo+(i'-1)))
     ·rw[lJq w2]
      dsimp only
      rw[lJa (by decide)]
      refine wpS_pure ⟨B,rfl,rfl,N.up H hm B (by omega) (by omega) w2,by dsimp only;omega,fun p q a1 a2 a3 a4=> ?_⟩
      dsimp only at a1 a3
      have to:∀p,i'-(e+1)<=p->p<i'->le (Vl st3 (lo+p)) (Vl st3 (lo+i'))/\le (Vl st3 (lo+i')) (Vl st3 (lo+p)):=fun p b1 b2=>
       ⟨H.tr _ _ _ (B.inn hm (by omega)) (B.inn hm (by omega)) (B.inn hm (by omega)) (sg p (i'-1) b1 b2 (by omega) (by omega)) w,H.tr _ _ _ (B.inn hm (by omega)) (B.inn hm (by omega)) (B.inn hm (by omega)) w2 (sg (i'-1) p (by omega) (by omega) b1 b2)⟩
      by_cases ep:p=i'
      ·by_cases eq:q=i'
       ·rw[ep,eq];exact (H.tot _ _ (B.inn hm (by omega)) (B.inn hm (by omega))).elim id id
       ·rw[ep];exact (to q (by omega) (by omega)).2
      ·by_cases eq:q=i'
       ·rw[eq];exact (to p (by omega) (by omega)).1
       ·exact sg p q (by omega) (by omega) (by omega) (by omega)
     ·rw[lJk w2]
      dsimp only
      (rw[lJb (show (!false)=true from rfl)])
      exact wpS_pure ⟨B,rfl,by dsimp only;omega,by dsimp only;omega,N,he,sg⟩
    ·rw[lJk w]
     dsimp only
     (rw[lJb (show (!false)=true from rfl)])
     have w':=(H.tot _ _ (B.inn hm (by omega)) (B.inn hm (by omega))).resolve_left w
     have one:∀st4,SB κ a0 lo hi pe st4->Seg le st4 lo (i'+1) 0:=fun st4 B4 p q a1 a2 a3 a4=>by
      obtain rfl:p=q:=by omega
      exact (H.tot _ _ (B4.inn hm (by omega)) (B4.inn hm (by omega))).elim id id
     by_cases ce:e>0
     ·rw[lJb ce,lVd,show lo+i'-(e+1)=lo+(i'-(e+1)) by omega]
      have hsz:lo+i'<=(arrOf st3).size:=by rw[B.size];omega
      have B4:=B.rev (i:=i'-(e+1)) (j:=i') (by omega) hh
      have N4:=sg.part N (hn:=hsz)
      refine wpS_bind (wpS_modify (wpS_pure ⟨B4,rfl,rfl,N4.up H hm B4 (by omega) (by omega) ?_,by dsimp only;omega,one _ B4⟩))
      rw[jZn hsz,jZn hsz,lJa (by omega),lJb (by omega)]
      exact H.tr _ _ _ (B.inn hm (by omega)) (B.inn hm (by omega)) (B.inn hm (by omega)) w' (sg _ _ (by omega) (by omega) (by omega) (by omega))
     ·rw[lJa ce]
      exact wpS_pure ⟨B,rfl,rfl,N.up H hm B (by omega) (by omega) w',by dsimp only;omega,one _ B⟩
   ·rintro⟨r,i',e⟩ st3 ⟨B,rfl,rfl,N,he,sg⟩
    dsimp only at N he sg ⊢
    exact⟨B,rfl,by omega,by omega,N,he,sg⟩
   ·rintro⟨r,i',e⟩ st3 ⟨B,rfl,b1,b2,N,he,sg⟩
    dsimp only at b1 b2 N he sg ⊢
    have hsz:lo+i'<=(arrOf st3).size:=by rw[B.size];omega
    by_cases ce:e>0
    all_goals first | rw[lJb ce,lVd,lVd,show lo+i'-(e+1)=lo+(i'-(e+1)) by omega] | rw[lJa ce,lVd]
    all_goals first
     | (have N4:=sg.part N (hn:=hsz)
        have B4:=B.rev (i:=i'-(e+1)) (j:=i') (by omega) hh
        have S5:=N4.flip (by rw[B4.size];omega)
        have B5:=B4.rev (i:=0) (j:=i') (by omega) hh
        refine lJd (lKg (lJd (lKg ?_)))
        skip)
     | (have S5:=N.flip hsz
        have B5:=B.rev (i:=0) (j:=i') (by omega) hh
        refine lJd (lKg ?_)
        skip)
    all_goals refine lJd (lKl (lKm (I:=fun i (c:Option (Option Nat)×Nat) st'=>SB κ a0 lo hi pe st'/\c=(none,i)/\SrtA le st' lo i) (Q:=fun (c:Option (Option Nat)×Nat) st'=>SB κ a0 lo hi pe st'/\c.1=none/\1<=c.2/\c.2<=nrem/\SrtA le st' lo c.2) ?_ ?_ ⟨B5,rfl,S5⟩) ?_)
    all_goals first
     | (rintro i c st6 hi1 hi2 ⟨B6,rfl,S6⟩
        dsimp only
        refine lJd (jYn H hm B6 (by omega) (by omega) ?_)
        by_cases w:le (Vl st6 (lo+i-1)) (Vl st6 (lo+i))
        ·rw[lJq w]
         dsimp only
         rw[lJa (by decide)]
         exact lJh ⟨B6,rfl,up st6 i B6 (by omega) hi2 S6 w⟩
        ·rw[lJk w]
         dsimp only
         (rw[lJb (show (!false)=true from rfl)])
         exact wpS_pure ⟨B6,rfl,by dsimp only;omega,by dsimp only;omega,S6⟩)
     | (rintro c st6 ⟨B6,rfl,S6⟩
        rw[show max i' nrem=nrem by omega] at S6 ⊢
        exact⟨B6,rfl,h1,lJj _,S6⟩)
     | (rintro⟨r,k⟩ st6 ⟨B6,rfl,k1,k2,S6⟩
        dsimp only at k1 k2 S6 ⊢
        exact lJh (q k st6 B6 k1 k2 S6))
end
variable {Rs:List (List Keyed)}
section
variable {mem:Keyed->Prop}[∀x y,Decidable (le x y)]
structure Runs (κ:SortKind) (le:Keyed->Keyed->Prop) (a0:Array Keyed) (Rs:List (List Keyed)) (rest:List Keyed) (st:SortSt):Prop where
 kind:kindOf st=κ
 fail:failedOf st=none
 arr:(arrOf st).toList=Rs.flatten++rest
 perm:(arrOf st).toList.Perm a0.toList
 srt:∀R,R∈Rs->R.Pairwise le/\1<=R.length
 pend:∀i,(pendingOf st)[i]?.map (fun x=>(x.1,x.2.1))=(Rs[i]?).map (fun R=>(((Rs.take i).flatten).length,R.length))
theorem Runs.size {rest:List Keyed}(h:Runs κ le a0 Rs rest st):(pendingOf st).size=Rs.length:=by
 rcases Nat.lt_trichotomy (pendingOf st).size Rs.length with z | z | z
 ·have:=h.pend (pendingOf st).size
  rw[lVi (lJj _),lJi z] at this
  cases this
 ·exact z
 ·have:=h.pend Rs.length
  rw[lK0 z,lJ3 (lJj _)] at this
  cases this
theorem split2 (h:i+1<Rs.length):∃A X Y B,Rs=A++X::Y::B/\A.length=i:=by
 refine⟨Rs.take i,Rs[i],Rs[i+1],Rs.drop (i+2),?_,by simp;omega⟩
 conv=>lhs;rw[<-lQf i Rs]
 rw[lYh (by omega),lYh (by omega)]
theorem qKz {o:Option (Nat×Nat×Nat)}{a b:Nat}(h:o.map (fun x=>(x.1,x.2.1))=some (a,b)):∃p,o=some (a,b,p):=by
 cases o with
 | none=>cases h
 | some x=>
  obtain⟨u,v,w⟩:=x
  simp only[lQe,lQw,Prod.mk.injEq] at h
  obtain⟨rfl,rfl⟩:=h
  exact⟨w,rfl⟩
theorem Runs.merge {rest:List Keyed}{Q:Bool->SortSt->Prop}(H:Asks M A s κ mem le)(hm:∀x,x∈a0.toList->mem x)(h:Runs κ le a0 Rs rest st)(hi:i+1<Rs.length)(q:∀Rs' st',Runs κ le a0 Rs' rest st'->Rs'.length+1=Rs.length->Rs'.flatten.length=Rs.flatten.length->Q true st'):wpS M A E s (mergeAt' i) Q st:=by
 obtain⟨As,X,Y,B,rfl,hA⟩:=split2 hi
 have hsz:=h.size
 have p1:=h.pend i
 have p2:=h.pend (i+1)
 have e1:(As++X::Y::B)[i]? =some X:=by rw[lKq (by omega),hA,Nat.sub_self];rfl
 have e2:(As++X::Y::B)[i+1]? =some Y:=by rw[lKq (by omega),hA,show i+1-i=1 by omega];rfl
 have t1:(As++X::Y::B).take i=As:=by rw[<-hA];exact List.take_left
 have t2:(As++X::Y::B).take (i+1)=As++[X]:=by rw[<-hA,lYk];rfl
 rw[e1,t1,lQe] at p1
 rw[e2,t2,lQe] at p2
 obtain⟨w1,p1⟩:=qKz p1
 obtain⟨w2,p2⟩:=qKz p2
 have inM:∀x,x∈(arrOf st).toList->mem x:=fun x hx=>hm x (h.perm.mem_iff.mp hx)
 have harr:(arrOf st).toList=As.flatten++(X++Y)++(B.flatten++rest):=by rw[h.arr];simp
 obtain⟨sX,lX⟩:=h.srt X (by simp)
 obtain⟨sY,lY⟩:=h.srt Y (by simp)
 refine qJe H h.kind h.fail p1 p2 harr rfl rfl (by simp) rfl lX lY sX sY (fun x hx=>inM x (by rw[harr];simp[hx])) (fun x hx=>inM x (by rw[harr];simp[hx])) fun Z st' zp zs za zk zf zpe=> ?_
 have zl:Z.length=X.length+Y.length:=by rw[zp.length_eq,lJv]
 refine q (As++Z::B) st' ⟨zk,zf,by rw[za];simp,?_,fun R hR=> ?_,fun j=> ?_⟩ (by simp;omega) (by simp;omega)
 ·refine List.Perm.trans ?_ h.perm
  rw[za,harr]
  exact lXp _ (lXo _ zp)
 ·rcases (lJm.mp hR) with z | z
  ·exact h.srt R (by simp[z])
  ·rcases (lJy.mp z) with rfl | z
   ·exact⟨zs,by omega⟩
   ·exact h.srt R (by simp[z])
 ·have hin:i+1<((pendingOf st).setIfInBounds i (As.flatten.length,X.length+Y.length,w1)).size:=by rw[Array.size_setIfInBounds,hsz];exact hi
  have er:(pendingOf st')[j]? =if j<i+1 then ((pendingOf st).setIfInBounds i (As.flatten.length,X.length+Y.length,w1))[j]? else ((pendingOf st).setIfInBounds i (As.flatten.length,X.length+Y.length,w1))[j+1]? :=by
   rw[zpe,Array.eraseIdxIfInBounds,dif_pos hin,Array.getElem?_eraseIdx]
  rw[er]
  rcases Nat.lt_trichotomy j i with z | z | z
  ·rw[lJb (by omega),lYl,lJa (by omega),h.pend j,lKy (by omega),lKy (by omega),lVt (by omega),lVt (by omega)]
  ·subst z
   have e3:(As++Z::B)[j]? =some Z:=by rw[lKq (by omega),hA,Nat.sub_self];rfl
   have t3:(As++Z::B).take j=As:=by rw[<-hA];exact List.take_left
   rw[lJb (by omega),lYl,lJb rfl,lJb (by rw[hsz];omega),e3,t3,lQe,lQe,zl]
  ·obtain⟨d,rfl⟩:∃d,j=i+1+d:=⟨j-i-1,by omega⟩
   rw[lJa (by omega),lYl,lJa (by omega),h.pend]
   have g1:(As++X::Y::B)[i+1+d+1]? =B[d]? :=by rw[lKq (by omega),hA,show i+1+d+1-i=d+2 by omega];rfl
   have g2:(As++Z::B)[i+1+d]? =B[d]? :=by rw[lKq (by omega),hA,show i+1+d-i=d+1 by omega];rfl
   have g3:(As++X::Y::B).take (i+1+d+1)=As++X::Y::B.take d:=by rw[show i+1+d+1=As.length+(d+2) by omega,lYk];rfl
   have g4:(As++Z::B).take (i+1+d)=As++Z::B.take d:=by rw[show i+1+d=As.length+(d+1) by omega,lYk];rfl
   rw[g1,g2,g3,g4]
   congr 1
   funext R
   have:(As++X::Y::B.take d).flatten.length=(As++Z::B.take d).flatten.length:=by simp;omega
   rw[this]
end
section
variable {mem:Keyed->Prop}[∀x y,Decidable (le x y)]{rest:List Keyed}{st3:SortSt}
theorem Runs.add (h:Runs κ le a0 Rs rest st)(hlo:lo=Rs.flatten.length)(B:SB κ (arrOf st) lo (arrOf st).size (pendingOf st) st3)(hn:lo+n<=(arrOf st).size)(S:SrtA le st3 lo n):∃R r3,R.length=n/\R.Pairwise le/\Runs κ le a0 Rs (R++r3) st3:=by
 have hsz:=B.size
 have hd:(arrOf st3).toList.take lo=Rs.flatten:=by
  have:(arrOf st).toList.take lo=Rs.flatten:=by rw[h.arr,hlo];exact List.take_left
  rw[<-this]
  apply lK2
  intro p
  rw[lQx,lQx]
  by_cases c:p<lo
  ·rw[lJb c,lJb c,lJ1,lJ1]
   exact B.out p (.inl c)
  ·rw[lJa c,lJa c]
 refine⟨((arrOf st3).toList.drop lo).take n,((arrOf st3).toList.drop lo).drop n,by simp;omega,?_,B.kind,B.fail,?_,?_,h.srt,fun i=> ?_⟩
 ·rw[lYi]
  intro p q hp hq hpq
  have hq':q<n:=by simp at hq;omega
  have:=S p q hpq hq'
  rw[List.getElem_take,List.getElem_take,List.getElem_drop,List.getElem_drop]
  simp only[Vl,Array.getD,show lo+p<(arrOf st3).size by omega,show lo+q<(arrOf st3).size by omega,dif_pos] at this
  simpa using this
 ·rw[lQf,<-hd,lQf]
 ·exact (Array.perm_iff_toList_perm.mp B.perm).trans h.perm
 ·rw[B.pend];exact h.pend i
theorem Runs.push {R r3:List Keyed}(h:Runs κ le a0 Rs (R++r3) st)(hs:R.Pairwise le)(hl:1<=R.length):Runs κ le a0 (Rs++[R]) r3 (setPending st ((pendingOf st).push (Rs.flatten.length,R.length,0))):=by
 have hsz:=h.size
 refine⟨h.kind,h.fail,by show (arrOf st).toList=_;rw[h.arr];simp,h.perm,fun X hX=> ?_,fun i=> ?_⟩
 ·rcases (lJm.mp hX) with z | z
  ·exact h.srt X z
  ·rw[lJn] at z;rw[z];exact⟨hs,hl⟩
 ·show ((pendingOf st).push _)[i]?.map _=_
  rw[Array.getElem?_push]
  by_cases c:i=(pendingOf st).size
  ·rw[lJb c,lKq (by omega),show i-Rs.length=0 by omega,lVt (by omega),lQd (by omega)]
   rfl
  ·rw[lJa c,h.pend i]
   by_cases d:i<Rs.length
   ·rw[lKy d,lVt (by omega)]
   ·rw[lJ3 (by omega),lJ3 (by simp;omega)];rfl
theorem Runs.pw {k:Nat}{f:Nat×Nat×Nat->Nat×Nat×Nat}(h:Runs κ le a0 Rs rest st)(hf:∀x,((f x).1,(f x).2.1)=(x.1,x.2.1)):Runs κ le a0 Rs rest (setPending st ((pendingOf st).modify k f)):=by
 refine⟨h.kind,h.fail,h.arr,h.perm,h.srt,fun i=> ?_⟩
 show ((pendingOf st).modify k f)[i]?.map _=_
 rw[<-h.pend i,Array.getElem?_modify]
 split
 ·rw[Option.map_map]
  congr 1
  funext x
  exact hf x
 ·rfl
theorem ite_lt [Decidable c]{a b:Nat}(ha:a+1<n)(hb:b+1<n):(if c then a else b)+1<n:=by
 split<;>assumption
theorem kYj:∀ {Rs:List (List Keyed)},(∀R,R∈Rs->1<=R.length)->Rs.length<=Rs.flatten.length
 | [],_=>lJj _
 | R::Rs,h=>by
  have:=kYj (Rs:=Rs) fun X hX=>h X (lKp _ hX)
  have:=h R (lKn ..)
  rw[lQ7,lJv,lKc]
  omega
theorem Runs.len (h:Runs κ le a0 Rs rest st):Rs.flatten.length+rest.length=a0.size:=by
 have:=h.perm.length_eq
 rw[h.arr] at this
 simpa using this
theorem kV3 (H:Asks M A s κ mem le)(hm:∀x,x∈(arrOf st).toList->mem x)(hk:kindOf st=κ)(hf:failedOf st=none)(hp:pendingOf st= #[])(h1:1<=(arrOf st).size){Q:Unit->SortSt->Prop}(q:∀st',(arrOf st').toList.Perm (arrOf st).toList->(arrOf st').toList.Pairwise le->failedOf st'=none->Q () st'):wpS M A E s sortRuns' Q st:=by
 rw[sortRuns'_eq]
 refine lJd (lQa ?_)
 dsimp only
 have R0:Runs κ le (arrOf st) [] (arrOf st).toList st:=⟨hk,hf,by simp,.refl _,fun R hR=>(nomatch hR),fun i=>by rw[hp];simp⟩
 refine lJd (lKl (lKm (I:=fun i (c:Option Unit×Nat) st'=>c.1=none/\∃Rs rest,Runs κ le (arrOf st) Rs rest st'/\c.2=Rs.flatten.length/\(i<=c.2\/(arrOf st).size<=c.2)) (Q:=fun (c:Option Unit×Nat) st'=>c.1=none/\∃Rs rest,Runs κ le (arrOf st) Rs rest st'/\c.2=Rs.flatten.length/\(arrOf st).size<=c.2) ?_ ?_ ⟨rfl,[],_,R0,rfl,.inl (lJ9 _)⟩) ?_)
 ·rintro i ⟨r,lo⟩ st1 _ hi ⟨rfl,Rs,rest,R1,rfl,hl⟩
  dsimp only at hl ⊢
  by_cases c:Rs.flatten.length>=(arrOf st).size
  ·rw[lJb c]
   exact lJh ⟨rfl,Rs,rest,R1,rfl,c⟩
  rw[lJa c]
  have hs1:(arrOf st1).size=(arrOf st).size:=by have:=R1.perm.length_eq;simpa using this
  have hm1:∀x,x∈(arrOf st1).toList->mem x:=fun x hx=>hm x (R1.perm.mem_iff.mp hx)
  have B0:SB κ (arrOf st1) Rs.flatten.length (arrOf st1).size (pendingOf st1) st1:=⟨R1.kind,R1.fail,rfl,Array.Perm.refl _,fun _ _=>rfl⟩
  refine lJd (kX2 H hm1 B0 (by omega) (by omega) (lJj _) fun n st2 B2 n1 n2 S2=> ?_)
  dsimp only
  by_cases cm:n<minRun' (arrOf st).size (arrOf st).size 0
  ·rw[lJb cm]
   (refine lJd (wpS_lift (lK3 ⟨rfl,?_⟩)))
   have hq1:n<=min ((arrOf st).size-Rs.flatten.length) (minRun' (arrOf st).size (arrOf st).size 0):=by omega
   have hq2:min ((arrOf st).size-Rs.flatten.length) (minRun' (arrOf st).size (arrOf st).size 0)<=(arrOf st).size-Rs.flatten.length:=Nat.min_le_left ..
   generalize min ((arrOf st).size-Rs.flatten.length) (minRun' (arrOf st).size (arrOf st).size 0)=n3 at hq1 hq2 ⊢
   refine lJd (kUh H hm1 B2 n1 hq1 (by omega) (lJj _) S2 fun st3 B3 S3=> ?_)
   rw[lJa (by decide)]
   obtain⟨R,r3,hRl,hRs,R3⟩:=R1.add rfl B3 (by omega) S3
   have hR1:1<=R.length:=by omega
   refine lJd (lQa ?_)
   cases hb:(pendingOf st3).back? with
   | none=>
    rw[<-hRl]
    exact wpS_bind (wpS_modify (wpS_pure ⟨rfl,_,_,R3.push hRs hR1,by simp,by dsimp only;omega⟩))
   | some x=>
    obtain⟨x1,x2,x3⟩:=x
    dsimp only
    refine lJd (lKl (lKm (I:=fun _ (c:Option Unit×Unit) st'=>c=(none,())/\∃Rs',Runs κ le (arrOf st) Rs' (R++r3) st'/\Rs'.flatten.length=Rs.flatten.length) (Q:=fun (c:Option Unit×Unit) st'=>c=(none,())/\∃Rs',Runs κ le (arrOf st) Rs' (R++r3) st'/\Rs'.flatten.length=Rs.flatten.length) ?_ (fun _ _ z=>z) ⟨rfl,Rs,R3,rfl⟩) ?_)
    ·rintro i' c st4 _ hi' ⟨rfl,Rs4,R4,hl4⟩
     refine lJd (lQa ?_)
     have hsz:=R4.size
     by_cases c:(pendingOf st4).size>1
     ·rw[lJb c,lK0 (by omega)]
      dsimp only
      split
      ·exact lJh ⟨rfl,Rs4,R4,hl4⟩
      ·refine lJd (R4.merge H hm (by omega) fun Rs' st' R' e1 e2=> ?_)
       rw[lJa (by decide)]
       exact lJh ⟨rfl,Rs',R',by omega⟩
     ·rw[lJa c]
      exact lJh ⟨rfl,Rs4,R4,hl4⟩
    ·rintro c st4 ⟨rfl,Rs4,R4,hl4⟩
     dsimp only
     have R5:=fun pw:Nat=>R4.pw (k:=(pendingOf st4).size-1) (f:=fun x=>(x.1,x.2.1,pw)) fun _=>rfl
     refine lJd (lKg (lJd (lKg ?_)))
     rw[<-hl4,<-hRl]
     exact wpS_pure ⟨rfl,_,_,(R5 _).push hRs hR1,by simp,by dsimp only;omega⟩
  ·rw[lJa cm]
   obtain⟨st3,rfl⟩:∃x,x=st2:=⟨_,rfl⟩
   have B3:=B2
   have S3:=S2
   obtain⟨R,r3,hRl,hRs,R3⟩:=R1.add rfl B3 (by omega) S3
   have hR1:1<=R.length:=by omega
   refine lJd (lQa ?_)
   cases hb:(pendingOf st3).back? with
   | none=>
    rw[<-hRl]
    exact wpS_bind (wpS_modify (wpS_pure ⟨rfl,_,_,R3.push hRs hR1,by simp,by dsimp only;omega⟩))
   | some x=>
    obtain⟨x1,x2,x3⟩:=x
    dsimp only
    refine lJd (lKl (lKm (I:=fun _ (c:Option Unit×Unit) st'=>c=(none,())/\∃Rs',Runs κ le (arrOf st) Rs' (R++r3) st'/\Rs'.flatten.length=Rs.flatten.length) (Q:=fun (c:Option Unit×Unit) st'=>c=(none,())/\∃Rs',Runs κ le (arrOf st) Rs' (R++r3) st'/\Rs'.flatten.length=Rs.flatten.length) ?_ (fun _ _ z=>z) ⟨rfl,Rs,R3,rfl⟩) ?_)
    ·rintro i' c st4 _ hi' ⟨rfl,Rs4,R4,hl4⟩
     refine lJd (lQa ?_)
     have hsz:=R4.size
     by_cases c:(pendingOf st4).size>1
     ·rw[lJb c,lK0 (by omega)]
      dsimp only
      split
      ·exact lJh ⟨rfl,Rs4,R4,hl4⟩
      ·refine lJd (R4.merge H hm (by omega) fun Rs' st' R' e1 e2=> ?_)
       rw[lJa (by decide)]
       exact lJh ⟨rfl,Rs',R',by omega⟩
     ·rw[lJa c]
      exact lJh ⟨rfl,Rs4,R4,hl4⟩
    ·rintro c st4 ⟨rfl,Rs4,R4,hl4⟩
     dsimp only
     have R5:=fun pw:Nat=>R4.pw (k:=(pendingOf st4).size-1) (f:=fun x=>(x.1,x.2.1,pw)) fun _=>rfl
     refine lJd (lKg (lJd (lKg ?_)))
     rw[<-hl4,<-hRl]
     exact wpS_pure ⟨rfl,_,_,(R5 _).push hRs hR1,by simp,by dsimp only;omega⟩
 ·rintro⟨r,lo⟩ st1 ⟨rfl,Rs,rest,R1,hlo,hl⟩
  refine⟨rfl,Rs,rest,R1,hlo,?_⟩
  rw[Nat.zero_max] at hl
  omega
 ·rintro⟨r,lo⟩ st1 ⟨rfl,Rs,rest,R1,hlo,hl⟩
  dsimp only at hlo hl ⊢
  have hL:=R1.len
  refine lJd (lKl (lKm (I:=fun i (c:Option Unit×Unit) st'=>c=(none,())/\∃Rs,Runs κ le (arrOf st) Rs rest st'/\Rs.flatten.length=lo/\Rs.length<=max 1 ((arrOf st).size-i)) (Q:=fun (c:Option Unit×Unit) st'=>c=(none,())/\∃Rs,Runs κ le (arrOf st) Rs rest st'/\Rs.flatten.length=lo/\Rs.length<=1) ?_ ?_ ⟨rfl,Rs,R1,hlo.symm,by have:=kYj fun R hR=>(R1.srt R hR).2;omega⟩) ?_)
  ·rintro i c st2 _ hi ⟨rfl,Rs2,R2,hl2,hn2⟩
   refine lJd (lQa ?_)
   have hsz:=R2.size
   by_cases c:(pendingOf st2).size<=1
   ·rw[lJb c]
    exact lJh ⟨rfl,Rs2,R2,hl2,by omega⟩
   ·rw[lJa c]
    refine lJd (R2.merge H hm (ite_lt (by omega) (by omega)) fun Rs' st' R' e1 e2=> ?_)
    rw[lJa (by decide)]
    exact lJh ⟨rfl,Rs',R',by omega,by omega⟩
  ·rintro c st2 ⟨rfl,Rs2,R2,hl2,hn2⟩
   exact⟨rfl,Rs2,R2,hl2,by omega⟩
  ·rintro c st2 ⟨rfl,Rs2,R2,hl2,hn2⟩
   dsimp only
   have hr:rest=[]:=lQk.mp (by omega)
   refine lJh (q st2 R2.perm ?_ R2.fail)
   rw[R2.arr,hr,lXh]
   cases Rs2 with
   | nil=>simp at hl2;omega
   | cons R Rs3=>
    obtain rfl:Rs3=[]:=by simpa using hn2
    simp
    exact (R2.srt R (by simp)).1
end
end L3
namespace L3
open PySem PySem.Spec PyProof.Rows L2 PySem.W
variable {prog:Program}{w:World}{A:Around}{E:Value->Shared->Prop}{s:Shared}{b:Bool}
theorem kZ0 {a n:Nat}{es:List (TKey×Addr)}(ho:s.heap.get? a=some (seqObj "list" (List.toArray (es.map fun e=>Value.ref e.2)) n))(hu:A.units+6<cLine)(h:∀e,e∈es->(jKi prog w).is s.heap e.1 e.2/\kVe e.1 b/\intT e.1=true)(hlt:∀e,e∈es->∀e',e'∈es->(ltK e.1 e'.1).isSome=true)(h64:es.length<=16000000){P:PySem.Fin->Shared->Prop}(k:∀(es':List (TKey×Addr)) (h':Heap) (c:Nat),es'.Perm es->es'.Pairwise (fun x y=>ltK y.1 x.1≠some true)->h'.get? a=some (seqObj "list" (List.toArray (es'.map fun e=>Value.ref e.2)) c)->(∀p o,p≠a->s.heap.get? p=some o->h'.get? p=some o)->P (.done (.ret .none)) {s with heap:=h'}):wpAny (model prog w) A (Builtin.«list.sort» ⟨[.ref a],[]⟩) P E s:=by
 (have ha:a<s.heap.objs.size:=lJl ho)
 have hlen:(es.map fun e=>Value.ref e.2).length=es.length:=lJe ..
 rw[list_sort_plain]
 (refine lJc (listItems_at ho rfl ?_))
 refine lJc (listUpdate_at ho rfl ?_ (by rw[lJs,hlen,lK7];omega) (lJ9 _))
 (obtain⟨e1,ho1⟩:∃e1,(s.heap.update a (Obj.mapSeq fun _=>(#[]:Array Value))).get? a=some (seqObj "list" #[] e1):=⟨_,get?_update_seq ho fun _=> #[]⟩)
 (refine lJc (seqEpoch_at ho1 rfl ?_))
 refine lJc (wpAny_newTuple ?_ (by show (es.map fun e=>Value.ref e.2).length<=_;rw[hlen,lK7];omega))
 (refine lJc (wpAny_newList ?_ (lJ9 _)))
 refine lQ2 ?_
 generalize hg:((s.heap.update a (Obj.mapSeq fun _=>(#[]:Array Value))).push (seqObj "tuple" (List.toArray (es.map fun e=>Value.ref e.2)) 0)).push (seqObj "list" #[] 0)=h1
 refine (show wpAny (model prog w) A _ P E {s with heap:=h1} from ?_)
 have oth:∀p o,p≠a->s.heap.get? p=some o->h1.get? p=some o:=by
  intro p o hp e
  rw[<-hg]
  exact lJu _ (lJu _ ((Heap.get?_update_ne _ _ _ _ hp).trans e))
 have ho6:h1.get? a=some (seqObj "list" #[] e1):=by
  rw[<-hg]
  exact lJu _ (lJu _ ho1)
 have tk:kUk s.heap h1:=by
  intro p o e hc
  refine oth p o ?_ e
  rintro rfl
  rw[ho] at e;cases e
  exact absurd hc (show ¬ Value.type "list"=Value.type "tuple" by decide)
 have hk1:∀e,e∈es->(jKi prog w).is h1 e.1 e.2/\kVe e.1 b/\intT e.1=true:=fun e he=>⟨kUq tk (h e he).1,(h e he).2⟩
 have fin:∀(out:List (TKey×Addr)),out.Perm es->out.Pairwise (fun x y=>ltK y.1 x.1≠some true)->∀st':SortSt,(arrOf st').map (·.2)=List.toArray (out.map fun e=>Value.ref e.2)->failedOf st'=none->
   wpAny (model prog w) A (do
    let touched:=(<-seqEpoch a) != e1
    Builtin.List.listUpdate (.ref a) fun _=>(arrOf st').map (·.2)
    if let some e:=failedOf st' then rule "list.sort.comparison-raised"; throw e
    if (touched) then rule "list.sort.modified"; raiseError "ValueError" "list modified during sort"
    ret .none) P E {s with heap:=h1}:=by
  intro out hp hs st' hout hf
  rw[hout,hf]
  have hol:out.length=es.length:=hp.length_eq
  refine lJc (seqEpoch_at (s:={s with heap:=h1}) ho6 rfl ?_)
  refine lJc (listUpdate_at (s:={s with heap:=h1}) ho6 rfl ?_ (lJ9 _) (by rw[lJs,lJe,hol,lK7];omega))
  (simp only[bne_self_eq_false,lK4,lKf])
  refine lJf (k out _ _ hp hs (get?_update_seq ho6 fun _=>List.toArray (out.map fun e=>Value.ref e.2)) fun p o hpa e=>(Heap.get?_update_ne _ _ _ _ hpa).trans (oth p o hpa e))
 dsimp only
 by_cases h2:(List.toArray (es.map fun e=>Value.ref e.2)).size<2
 ·rw[lJb h2,lJb h2]
  refine lJc (lJf ?_)
  rw[StateT.run_pure]
  refine lJc (lJf ?_)
  refine fin es (.refl _) ?_ _ ?_ rfl
  ·rw[lJs,hlen] at h2
   match es,h2 with
   | [],_=>exact .nil
   | [_],_=>exact List.pairwise_singleton _ _
  ·apply Array.toList_inj.mp
   show (((List.toArray (es.map fun e=>Value.ref e.2)).zip (List.toArray (es.map fun e=>Value.ref e.2))).map (·.2)).toList=_
   rw[Array.toList_map,ksk_zip,List.map_snd_zip (lJj _)]
 ·rw[lJa h2,lJa h2]
  rw[lJs,hlen] at h2
  refine lJc (qZ4 (s:={s with heap:=h1}) hk1 (by omega) ?_)
  let f:TKey×Addr->Keyed:=fun e=>(Value.ref e.2,Value.ref e.2)
  let mem:Keyed->Prop:=fun x=>∃e,e∈es/\x=f e
  let le:Keyed->Keyed->Prop:=fun x y=>∀e e',e∈es->e'∈es->x=f e->y=f e'->ltK e'.1 e.1≠some true
  have one:∀e e',e∈es->e'∈es->f e=f e'->e.1=e'.1:=fun e e' he he' z=>by
   have z1:Value.ref e.2=Value.ref e'.2:=lKa Prod.fst z
   have z2:e.2=e'.2:=by cases e;cases e';cases z1;rfl
   have a1:=(hk1 e he).1
   rw[z2] at a1
   exact (jKi prog w).inj a1 (hk1 e' he').1
  have le_iff:∀e e',e∈es->e'∈es->(le (f e) (f e')↔ltK e'.1 e.1≠some true):=fun e e' he he'=>
   ⟨fun z=>z e e' he he' rfl rfl,fun z d d' hd hd' q q'=>by rw[<-one e d he hd q,<-one e' d' he' hd' q'];exact z⟩
  haveI:∀x y,Decidable (le x y):=fun x y=>Classical.propDecidable _
  have HA:Asks (model prog w) A {s with heap:=h1} (tuples' b) mem le:=by
   refine⟨?_,?_,?_⟩
   ·rintro x y ⟨e,he,rfl⟩ ⟨e',he',rfl⟩ E' Q hQ
    obtain⟨c,hc⟩:=lX0.mp (hlt e he e' he')
    refine ask_ok (s:={s with heap:=h1}) hu (hk1 e he).1 (hk1 e' he').1 hc (hk1 e he).2.1 (hk1 e' he').2.1 ?_
    have:(!decide (le (f e') (f e)))=c:=by
     by_cases z:le (f e') (f e)
     ·rw[lJq z]
      have:=(le_iff e' e he' he).mp z
      rw[hc] at this
      cases c with
      | false=>rfl
      | true=>exact absurd rfl this
     ·rw[lJk z]
      cases c with
      | true=>rfl
      | false=>exact absurd ((le_iff e' e he' he).mpr (by rw[hc];simp)) z
    rw[this] at hQ
    exact hQ
   ·rintro x y ⟨e,he,rfl⟩ ⟨e',he',rfl⟩
    rw[le_iff e e' he he',le_iff e' e he' he]
    by_cases z:ltK e'.1 e.1=some true
    ·right
     intro z2
     have:=qQj z z2
     rw[show ltK e'.1 e'.1=some false from kY1 _] at this
     cases this
    ·exact .inl z
   ·rintro x y z ⟨e,he,rfl⟩ ⟨e',he',rfl⟩ ⟨d,hd,rfl⟩ h1' h2'
    rw[le_iff e e' he he'] at h1'
    rw[le_iff e' d he' hd] at h2'
    rw[le_iff e d he hd]
    intro q
    by_cases eqk:d.1=e'.1
    ·rw[eqk] at q;exact h1' q
    ·obtain⟨c,hc⟩:=lX0.mp (hlt d hd e' he')
     cases c with
     | true=>exact h2' hc
     | false=>
      have:=kord.neg eqk hc
      exact h1' (qQj this q)
  have hz:((List.toArray (es.map fun e=>Value.ref e.2)).zip (List.toArray (es.map fun e=>Value.ref e.2))).toList=es.map f:=by
   rw[ksk_zip,List.zip_map']
  have key:wpS (model prog w) A E {s with heap:=h1} sortRuns' (fun _ st'=>∃es':List (TKey×Addr),es'.Perm es/\es'.Pairwise (fun x y=>ltK y.1 x.1≠some true)/\(arrOf st').map (·.2)=List.toArray (es'.map fun e=>Value.ref e.2)/\failedOf st'=none) (SortSt.mk' (tuples' b) ((List.toArray (es.map fun e=>Value.ref e.2)).zip (List.toArray (es.map fun e=>Value.ref e.2))) #[] 7 none):=by
   refine kV3 HA (fun x hx=> ?_) rfl rfl rfl ?_ fun st' p1 p2 p3=> ?_
   ·have hx':x∈es.map f:=by rw[<-hz];exact hx
    obtain⟨e,he,rfl⟩:=lJ2.mp hx'
    exact⟨e,he,rfl⟩
   ·show 1<=((List.toArray (es.map fun e=>Value.ref e.2)).zip (List.toArray (es.map fun e=>Value.ref e.2))).size
    rw[<-lVo,hz,lJe];omega
   ·obtain⟨es',hp,he⟩:=jXu p1 es hz
    refine⟨es',hp,?_,?_,p3⟩
    ·rw[he,lYa] at p2
     exact p2.imp_of_mem fun ha hb z=>(le_iff _ _ (hp.mem_iff.mp ha) (hp.mem_iff.mp hb)).mp z
    ·apply Array.toList_inj.mp
     rw[Array.toList_map,he,lJw]
     rfl
  unfold wpS at key
  refine lJc (lQr key ?_ fun _ _ x=>x)
  rintro⟨⟨⟩,st'⟩ s' ⟨rfl,es',hp,hs,har,hf⟩
  exact fin es' hp hs st' har hf
variable {X:Cx}
variable {d:Addr}
section
variable {o:Obj}{es:Array DictEntry}{ep:Nat}
theorem kVb (hd:(d == sysModules)=false)(hc:o.ExactDict)(hx:o.data= .dict es ep):KdlSrc prog w "dict" d d es.size (fun i v=>∃e,es[i]? =some e/\v=e.key) (fun h=>h.get? d=some o) where
 type:=fun _ hm=>⟨o,hm,hc.1⟩
 there:=fun _ hm=>⟨lJl hm,lJl hm⟩
 keep:=fun _ _ hm hk=>hk d (.inl rfl) o hm
 notList:=by decide
 notTuple:=by decide
 hint:=fun _ _ _ _ hm hq=>kdl_hint_dict ⟨o,hm,hc.1⟩ hq
 iter:=fun A s hh hm=>by
  refine⟨_,fun i h=>h.IsKeyIter s.heap.objs.size d i es.size ep/\h.get? d=some o,fun _ _ hq=>kKx hd hm hc hx hq,⟨?_,?_,?_,?_,?_⟩,⟨_,lJ8 _ rfl,rfl,rfl⟩,lJu _ hm⟩
  ·intro b hb;simp at hb;simp[hb]
  ·exact fun i h h' st hk=>⟨st.1.at fun ob e=>hk _ (by simp) ob e,hk d (by simp) o st.2⟩
  ·intro i s' Q E' hi st hQ
   have hne:d≠s.heap.objs.size:=lJ4 (lJl hm)
   refine kKu st.1 st.2 hx (lK0 hi) fun h' it' sb=> ?_
   exact hQ _ h' s'.toks ⟨_,lK0 hi,rfl⟩ ⟨it',(sb.2 d hne).trans st.2⟩ fun b ob hb e=>(sb.2 b (fun h=>hb (by simp[h]))).trans e
  ·intro s' Q E' st hQ
   exact kVj hh st.1 st.2 hx (lJj _) fun h' eb=>hQ h' s'.toks fun b ob hb e=>eb b ob (fun h=>hb (by simp[h])) e
  ·exact fun i s' Q E' st hQ=>wpAny_pyIter_keyiter st.1 hQ
theorem kUc (hh:A.handled=none)(hd:(d == sysModules)=false)(ho:s.heap.get? d=some o)(hc:o.ExactDict)(hx:o.data= .dict es ep)(hz:es.size<=sizeLine){Q:List Value->Shared->Prop}(hQ:∀(g:Heap) (tk:Nat),(∀b ob,s.heap.get? b=some ob->g.get? b=some ob)->s.heap.objs.size<g.objs.size->Q (es.toList.map (·.key)) {s with heap:=g,toks:=tk}):wpAny (model prog w) A (collect (.ref d)) Q E s:=by
 have hLS:s.heap.objs.size≠d:=lVe (lJl ho)
 have key:∀R:Result->Shared->Prop,(∀(g:Heap) (tk:Nat) (acc:Array Value) (c':Nat),(∀b ob,s.heap.get? b=some ob->g.get? b=some ob)->g.get? s.heap.objs.size=some {cls:= .type "list",dict:=none,data:= .seq acc c',slots:= #[]}->ItemsOf (fun i v=>∃e,es[i]? =some e/\v=e.key) acc es.size->R (.ok (.ret (.ref s.heap.objs.size))) {s with heap:=g,toks:=tk})->
   codeAny (model prog w) A (.builtin "proto.collect" ⟨[.ref d],[]⟩) R s:=by
  intro R hR
  refine codeAny_builtin F.entry_proto_collect ?_
  (rw[Around.under_plainId F.plain_proto_collect _])
  refine (show wpAny _ A.in1 (newList [] >>= fun l=>again (.builtin "list.__iadd__" ⟨[l,.ref d],[]⟩)) _ _ s from lJc (lK8 (lJf ⟨plainId_quiet F.plain_list_iadd _,codeAny_builtin F.entry_list_iadd ?_⟩)))
  (rw[Around.under_plainId F.plain_list_iadd _])
  have hS1:(s.heap.push {cls:= .type "list",data:= .seq ([]:List Value).toArray}).get? s.heap.objs.size=some {cls:= .type "list",data:= .seq ([]:List Value).toArray}:=lJ8 _ rfl
  exact kdl_extend (A:=A) (R:=R) (s:={s with heap:=s.heap.push {cls:= .type "list",data:= .seq ([]:List Value).toArray} }) (kVb hd hc hx) hh (lJu _ ho) s.heap.objs.size hLS hLS (.ref s.heap.objs.size) 0 hS1 (fun g tk acc c' kp hL' hacc=>hR g tk acc c' (fun b ob e=>kp b ob (lJ4 (lJl e)) (lJu _ e)) hL' hacc) hz
 unfold collect
 refine lJc (wpAny_runValue (key _ fun g tk acc c' kp hL' hacc=>(show wpAny _ A (load s.heap.objs.size >>= _) _ _ _ from lJc (wpAny_load hL' (lJf ?_)))))
 have ea:acc.toList=es.toList.map (·.key):=by
  apply lK2
  intro i
  have hl:acc.size=es.size:=hacc.1
  by_cases hi:i<acc.size
  ·obtain⟨e,e1,e2⟩:=hacc.2 i _ (lK0 hi)
   rw[lJ1,lK0 hi,e2,lJr,lJ1,e1];rfl
  ·rw[lJ1,lJr,lJ1,lVi (by omega),lVi (by omega)];rfl
 have:=hQ g tk kp (lJl hL')
 rw[<-ea] at this
 exact this
theorem kUr {ks:List (TKey×Addr)}{Q:Value->Shared->Prop}(hh:A.handled=none)(hd:(d == sysModules)=false)(ho:s.heap.get? d=some o)(hc:o.ExactDict)(hx:o.data= .dict es ep)(he:es.toList.map (·.key)=ks.map fun e=>Value.ref e.2)(hu:A.units+20<cLine)(h:∀e,e∈ks->(jKi prog w).is s.heap e.1 e.2/\kVe e.1 b/\intT e.1=true)(hlt:∀e,e∈ks->∀e',e'∈ks->(ltK e.1 e'.1).isSome=true)(hn:ks.length<=1000000)(k:∀(es':List (TKey×Addr)) (h':Heap) (tk D c:Nat),es'.Perm ks->es'.Pairwise (fun x y=>ltK y.1 x.1≠some true)->s.heap.objs.size<=D->h'.get? D=some (seqObj "list" (List.toArray (es'.map fun e=>Value.ref e.2)) c)->(∀p o,s.heap.get? p=some o->h'.get? p=some o)->Q (.ref D) {s with heap:=h',toks:=tk}):wpAny (model prog w) A (call (.builtin "sorted") [.ref d]) Q E s:=by
 have hsz:es.size=ks.length:=by have:=lKa List.length he;simpa using this
 (refine Calls.call_function_entry kind_sorted plain_sorted entry_sorted (args_sorted1 _) ?_)
 unfold Builtin.«sorted»
 (refine lJc (m:=checkCount "sorted" 1 1 _) (lJf ?_))
 refine lJc (kUc (A:=A.in1) (by simpa using hh) hd ho hc hx (by rw[hsz,lK7];omega) fun g tk kp big=> ?_)
 rw[he]
 refine lJc (wpAny_newList ?_ (by rw[lJe,lK7];omega))
 have hoL:(g.push (seqObj "list" (List.toArray (ks.map fun e=>Value.ref e.2)) 0)).get? g.objs.size=some (seqObj "list" (List.toArray (ks.map fun e=>Value.ref e.2)) 0):=lJ8 _ rfl
 refine lJc (lQ2 (lQ3 slot_list_sort ⟨_,hoL,rfl⟩ entry_list_sort ?_ (args_list_sort _)))
 refine kZ0 (s:={s with heap:=g.push (seqObj "list" (List.toArray (ks.map fun e=>Value.ref e.2)) 0),toks:=tk}) (b:=b) hoL (by rw[lVm,lVm];omega) (fun e he=> ?_) hlt (by omega) fun es' h' c pe' so hD oth=> ?_
 ·exact⟨kUq (fun b ob e _=>lJu _ (kp b ob e)) (h e he).1,(h e he).2⟩
 ·refine⟨_,rfl,lJf ⟨_,rfl,k es' h' tk _ c pe' so (Nat.le_of_lt big) hD fun q ob e=>oth q ob ?_ (lJu _ (kp q ob e))⟩⟩
  exact lJ4 (lKo (lJl e) (Nat.le_of_lt big))
end
theorem kUy {P:TKey->Addr->Prop}:∀(tks:List (List T×TKey)) (us:List Value),us.length=tks.length->(∀i:Nat,∀h:i<tks.length,∃b,us[i]? =some (Value.ref b)/\P tks[i].2 b)->∃tb:List ((List T×TKey)×Addr),tb.map (·.1)=tks/\us=tb.map (fun e=>Value.ref e.2)/\∀e,e∈tb->P e.1.2 e.2
 | [],us,hl,_=>⟨[],rfl,lQk.mp hl,fun e he=>absurd he (lKi)⟩
 | t::tks,[],hl,_=>by cases hl
 | t::tks,u::us,hl,h=>by
  obtain⟨tb,h1,h2,h3⟩:=kUy tks us (lKe hl) fun i hi=>by
   obtain⟨b,q1,q2⟩:=h (i+1) (Nat.succ_lt_succ hi)
   exact⟨b,by simpa using q1,q2⟩
  obtain⟨b,q1,q2⟩:=h 0 (Nat.succ_pos _)
  refine⟨(t,b)::tb,by rw[lJ6,h1],?_,fun e he=> ?_⟩
  ·have:u=Value.ref b:=by simpa using q1
   rw[this,h2];rfl
  ·rcases (lJy.mp he) with rfl | he
   ·exact q2
   ·exact h3 e he
theorem qUd {P:Program}{K:PySem.W.Frag}{H:Hp}{h:Heap}{kvs:List (TKey×T)}{ws:List (TKey×V)}{tks:List (List T×TKey)}(ho:ObjOk P w H h d (.dT ws))(hp:PKV K H kvs ws)(e:tks.map (·.2)=kvs.map (·.1))(hk:∀e,e∈tks->jQw e.1=some e.2):
  ∃(o:Obj) (es:Array DictEntry) (ep:Nat) (tb:List ((List T×TKey)×Addr)),h.get? d=some o/\o.ExactDict/\o.data= .dict es ep/\(d == sysModules)=false/\tb.map (·.1)=tks/\es.toList.map (·.key)=tb.map (fun e=>Value.ref e.2)/\∀e,e∈tb->TKeyAt H e.1.2 e.2/\Rep K H (.tup e.1.1) (.ref e.2):=by
 obtain⟨z,hd,xs,rel,o,es,ep,ho,hc,hx,he,hn⟩:=ho
 have l1:es.size=ws.length:=by
  have a1:=lKa List.length he
  have a2:=lQ4 rel
  simp at a1;omega
 have l2:tks.length=ws.length:=by
  have a1:=lKa List.length e
  have a2:=hp.length
  simp at a1;omega
 have at_:∀i:Nat,∀(h:i<tks.length),∃b,(es.toList.map (·.key))[i]? =some (Value.ref b)/\TKeyAt H tks[i].2 b:=fun i hi=>by
  have hiw:i<ws.length:=by omega
  obtain⟨q,h1,h2,h3,h4⟩:=jUv rel (lJi hiw)
  have hee:=entry_at he i
  rw[h1,lK0 (by omega)] at hee
  have hik:i<kvs.length:=by have:=hp.length;omega
  obtain⟨w',k1,k2,_⟩:=jUv hp (lJi hik)
  rw[lJi hiw] at k1;cases k1
  have hyi:=lKa (fun l=>l[i]?) e
  simp only[lJr,lJi hi,lJi hik,lQe,lQw] at hyi
  refine⟨q.2.1,?_,by rw[hyi,k2];exact h3⟩
  rw[lJr,lJ1,lK0 (show i<es.size by omega)]
  rw[lJ0 hee];rfl
 obtain⟨tb,t1,t2,t3⟩:=kUy (P:=fun k b=>TKeyAt H k b) tks (es.toList.map (·.key)) (by simp;omega) at_
 refine⟨o,es,ep,tb,ho,hc,hx,hd,t1,t2,fun x hx=> ?_⟩
 have hm:x.1∈tks:=by rw[<-t1];exact lJ2.mpr ⟨x,hx,rfl⟩
 obtain⟨vs,r1,r2⟩:=t3 x hx
 exact⟨⟨vs,r1,r2⟩,_,vs,rfl,r1,jV4 kVa _ (hk _ hm) r2⟩
noncomputable def qKr:List T->Gp->VK3->Prop:=fun xs G Q=>∃(p:Addr) (kvs:List (TKey×T)) (b:Bool) (tks:List (List T×TKey)),xs=[.ref p]/\G p=some (.dct kvs)/\tks.map (·.2)=kvs.map (·.1)/\tks.length<=1000000/\(∀e,e∈tks->SKey b e.1 e.2)/\(∀e,e∈tks->∀e',e'∈tks->(ltK e.2 e'.2).isSome=true)/\
 ∀(q:Addr) (kys:List (List T×TKey)),G q=none->kys.Perm tks->kys.Pairwise (fun x y=>ltK y.2 x.2≠some true)->Q (.ref q) (gup G q (.lst (kys.map fun e=> .tup e.1)))
theorem uJx (hc:X.calm=true)(hu:X.A.units+20<cLine):Call3 X (.builtin "sorted") qKr:=by
 rintro pins s τ G H xs us Q ⟨σ,I,hs,hg⟩ ⟨as,ras,rvs⟩ ⟨pa,kvs,b,tks,ex,hp,ek,hn,hk,hlt,q⟩
 subst ex
 obtain⟨v,rfl,rv⟩:=jU5 ras
 obtain⟨u,rfl,ru⟩:=rvs.one
 cases (show v= .ref pa from rv);cases ru
 obtain⟨ws,h1,h2⟩:=(show ∃ws,H pa=some (.dT ws)/\PKV X.K H kvs ws from hg pa _ hp)
 obtain⟨o,es,ep,tb,ho,hc',hx,hd,t1,t3,t4⟩:=qUd (show ObjOk X.prog X.w H s.heap pa (.dT ws) from I.hok pa _ h1) h2 ek (fun e he=>(hk e he).1)
 have hmem:∀e,e∈tb->e.1∈tks:=fun e he=>by rw[<-t1];exact lJ2.mpr ⟨e,he,rfl⟩
 have tl:tb.length=tks.length:=by rw[<-t1,lJe]
 refine kUr (b:=b) (ks:=tb.map fun e=>(e.1.2,e.2)) (I.ok.hd hc) hd ho hc' hx (by rw[t3,lJw];rfl) hu (fun e he=> ?_) (fun e he e' he'=> ?_) (by rw[lJe];omega) fun es h3 tk D c hp so hD hoD kp=> ?_
 ·obtain⟨y,hy,rfl⟩:=lJ2.mp he
  exact⟨kJr I.hok (t4 y hy).1,(hk _ (hmem y hy)).2⟩
 ·obtain⟨y,hy,rfl⟩:=lJ2.mp he
  obtain⟨y',hy',rfl⟩:=lJ2.mp he'
  exact hlt _ (hmem y hy) _ (hmem y' hy')
 obtain⟨tb',p1,p2⟩:=jXu hp tb rfl
 have fr:=I.hok.fresh hD
 have I3:=I.laid (a:=D) (o:= .lst (tb'.map fun e=>V.ref e.2)) (h':=h3) (t':=tk) kp hD ⟨by rw[lJe,lK7,p1.length_eq];omega,tb'.map fun e=>Value.ref e.2,c,jYp tb',by rw[p2,lJw] at hoD;exact hoD⟩
 have ext:Ext H (upd H D (.lst (tb'.map fun e=>V.ref e.2))):= .upd (.none fr)
 refine⟨.ref D,_,_,ext,⟨σ,I3,hs.mono ext,hg.lstNew (kV5 tb' fun e he=>(t4 e (p1.mem_iff.mp he)).2) (.none fr)⟩,⟨.ref D,rfl,rfl⟩,?_⟩
 have:=q D (tb'.map (·.1)) (hg.fresh fr) (by rw[<-t1];exact p1.map _) (by rw[p2,lYa] at so;rw[lYa];exact so)
 rw[lJw] at this
 exact this
noncomputable def kYo:List T->Gp->VK3->Prop:=fun xs G Q=>∃(p:Addr) (kvs:List (TKey×T)) (tks:List (List T×TKey)),xs=[.ref p]/\G p=some (.dct kvs)/\tks.map (·.2)=kvs.map (·.1)/\tks.length<=1000000/\(∀e,e∈tks->jQw e.1=some e.2)/\∀q,G q=none->Q (.ref q) (gup G q (.lst (tks.map fun e=> .tup e.1)))
theorem uJy (hc:X.calm=true):Call3 X (.type "list") kYo:=by
 rintro pins s τ G H xs us Q ⟨σ,I,hs,hg⟩ ⟨as,ras,rvs⟩ ⟨pa,kvs,tks,ex,hp,ek,hn,hk,q⟩
 subst ex
 obtain⟨v,rfl,rv⟩:=jU5 ras
 obtain⟨u,rfl,ru⟩:=rvs.one
 cases (show v= .ref pa from rv);cases ru
 obtain⟨ws,h1,h2⟩:=(show ∃ws,H pa=some (.dT ws)/\PKV X.K H kvs ws from hg pa _ hp)
 obtain⟨o,es,ep,tb,ho,hc',hx,hd,t1,t3,t4⟩:=qUd (show ObjOk X.prog X.w H s.heap pa (.dT ws) from I.hok pa _ h1) h2 ek hk
 have tl:tb.length=tks.length:=by rw[<-t1,lJe]
 have te:es.size=tb.length:=by have:=lKa List.length t3;simpa using this
 refine PySem.W.kdl_call (kVb hd hc' hx) (I.ok.hd hc) ho (by rw[te,tl,lK7];omega) fun h' tk acc c' kp hn it=> ?_
 have ea:acc.toList=tb.map fun e=>Value.ref e.2:=by
  rw[<-t3]
  apply lK2
  intro i
  have hl:acc.size=es.size:=it.1
  by_cases hi:i<acc.size
  ·obtain⟨e,e1,e2⟩:=it.2 i _ (lK0 hi)
   rw[lJ1,lK0 hi,e2,lJr,lJ1,e1];rfl
  ·rw[lJ1,lJr,lJ1,lVi (by omega),lVi (by omega)];rfl
 have fr:=I.hok.fresh (lJj s.heap.objs.size)
 have I3:=I.laid (a:=s.heap.objs.size) (o:= .lst (tb.map fun e=>V.ref e.2)) (h':=h') (t':=tk) kp (lJj _) ⟨by rw[lJe,lK7];omega,acc.toList,c',by rw[ea];exact jYp tb,by simpa using hn⟩
 have ext:Ext H (upd H s.heap.objs.size (.lst (tb.map fun e=>V.ref e.2))):= .upd (.none fr)
 refine⟨.ref _,_,_,ext,⟨σ,I3,hs.mono ext,hg.lstNew (kV5 tb fun e he=>(t4 e he).2) (.none fr)⟩,⟨.ref _,rfl,rfl⟩,?_⟩
 have:=q _ (hg.fresh fr)
 rw[<-t1,lJw] at this
 exact this
end L3
namespace W
open PySem L3
local macro_rules
 | `(tactic| wp_walk using 1, $ts,*) => do
  let ls ← ts.getElems.mapM fun t => `(Lean.Parser.Tactic.simpLemma| $t:term)
  let ns ← ("tSeq tIfS jJ1 tOp rGt rLt rGe rSub L3.rI0 L3.rI rIxF tVar tC tAsg tCB jJa tNil kXk rLen rAbs rMax jYd gTup jJx gNil gSub jJg jUu tRet tRetN jKl jUi jJo tLst tTup tIf tNot tAnd tOr kUp tOrV qU6 tPar jJt jVh rMod rFdiv rPow rIsN rNotN uJd tTru rTru truT tUn rNeg qXx qVx qVz qVy uJk jU9 qZ7 qZ8 at0 at1 at2 ix30 ix31 ix32 qVd qVc qZ9 qVe Option.map_some and_assoc T.int.injEq T.bl.injEq T.tup.injEq T.ref.injEq List.cons.injEq and_true true_and exists_eq_left exists_eq_left' exists_and_left exists_eq_right List.getElem?_cons_zero List.getElem?_cons_succ List.set_cons_zero List.set_cons_succ List.length_cons List.length_nil Nat.reduceAdd Option.some.injEq jJh qQw reduceCtorEq false_and exists_false exists_const Bool.true_eq Bool.not_eq_true' Bool.not_true Bool.not_false if_true if_false decide_eq_true_eq tBM jK3 kJk jKa qU7 jK2 GO.lst.injEq msk List.zipWith_cons_cons List.zipWith_nil_left List.zipWith_nil_right Bool.false_eq_true qY0".splitOn " ").toArray.mapM fun n => `(Lean.Parser.Tactic.simpLemma| $(Lean.mkIdent n.toName):term)
  let al:=ns++ls
  `(tactic| ((try dsimp only [$al,*]); (try simp only [$al,*])))
local macro_rules
 | `(tactic| omega) => `(tactic| first | exact szle rfl | lia)
def BoxAt (G:Gp)(b:Addr)(n:Nat):Prop:=∃x y z:Int,G b=some (.lst [.int x,.int y,.int z])/\0<=x/\0<=y/\y<2147483648/\0<=z/\z<=n
def Keep (b:Addr)(G G':Gp):Prop:=∀c o,c≠b->G c=some o->G' c=some o
theorem Keep.refl (b:Addr)(G:Gp):Keep b G G:=fun _ _ _ h=>h
variable {b:Addr}{G G2:Gp}
theorem Keep.trans {G1:Gp}(h:Keep b G G1)(h':Keep b G1 G2):Keep b G G2:=fun c o hc e=>h' c o hc (h c o hc e)
variable {o:GO}
theorem Keep.gup:Keep b G (gup G b o):=fun c u hc e=>by rw[jJs hc];exact e
variable {p:Addr}
theorem Keep.new (hp:G p=none):Keep b G (L3.gup G p o):=fun c u _ e=>by rw[jJs];exact e;rintro rfl;rw[hp] at e;cases e
abbrev RdOk (sp:Sp3)(rd:TS3)(N:List Str):Prop:=∀xs G Q,sp xs G Q->rd {nx:=fun _ G'=>Q .non G',rt:=Q} (jVl N xs) G
noncomputable def jJi:Sp3:=fun xs G Q=>∃(b:Addr) (m:Int) (n:Nat),xs=[.ref b,.int m]/\BoxAt G b n/\n<2^40/\1<=m/\m<2^29/\∀(r:Int) G',0<=r->r<m->BoxAt G' b (n+1)->Keep b G G'->Q (.int r) G'
noncomputable def qXz:List Str:=["_law_box_here","_law_many","_law_found","_law_once"]
noncomputable def kJe:TS3:=
 (tSeq (tIfS (jJ1 (tOp rGt (tOp rIxF (tVar 0) (tC (.int 0))) (tC (.int 0)))) (tSeq (tAsg (tCB kXk (jJa (tOp rIxF (tVar 0) (tC (.int 0))) (jJa (tVar 1) tNil))) (gTup 2 (jJx (gSub (tVar 0) (tC (.int 0)) jUu) (jJx (jJg 2) gNil))))
 (tRet (tVar 2))) jKl)
 (tSeq (tAsg (tOp jJt (tOp rIxF (tVar 0) (tC (.int 2))) (tC (.int 1))) (gSub (tVar 0) (tC (.int 2)) jUu))
 (tSeq (tAsg (tOp rMod (tOp jVh (tOp jJt (tOp rIxF (tVar 0) (tC (.int 1))) (tOp jVh (tC (.int 39373)) (tOp rIxF (tVar 0) (tC (.int 2))))) (tOp jJt (tC (.int 48271)) (tOp rIxF (tVar 0) (tC (.int 2))))) (tC (.int 2147483647))) (jJg 3))
 (tSeq (tAsg (tOp rMod (tOp jJt (tOp jVh (tVar 3) (tOp jJt (tOp rMod (tVar 3) (tC (.int 40009))) (tC (.int 7)))) (tOp rIxF (tVar 0) (tC (.int 2)))) (tC (.int 2147483629))) (gSub (tVar 0) (tC (.int 1)) jUu))
 (tRet (tOp rMod (tOp rFdiv (tOp rMod (tOp jVh (tOp rIxF (tVar 0) (tC (.int 1))) (tOp jJt (tOp rMod (tOp rIxF (tVar 0) (tC (.int 1))) (tC (.int 1009))) (tC (.int 3)))) (tC (.int 998244353))) (tC (.int 7))) (tVar 1)))))))
theorem kV9:RdOk jJi kJe qXz:=by
 intro xs G Q h_;apply xe3 h_;clear h_;intro b m n h_;apply ae5 h_;clear h_;intro q0_ hn hm1 hm2 k
 obtain⟨x,y,z,hb,hx,hy0,hy1,hz0,hz1⟩:=q0_
 show kJe _ [some (.ref b),some (.int m),none,none] G
 wp_walk using 1,kJe,jJ6 hb,qJ9 hb
 have box:∀x' y' z':Int,0<=x'->0<=y'->y'<2147483648->0<=z'->z'<=n+1->BoxAt (gup G b (.lst [.int x',.int y',.int z'])) b (n+1):=fun x' y' z' h1 h2 h3 h4 h5=>⟨x',y',z',jJh,h1,h2,h3,h4,by omega⟩
 split
 ·refine⟨⟨by omega,by omega⟩,k _ _ (lXb _ (by omega)) (lXc _ (by omega)) (box _ _ _ (Int.ediv_nonneg hx (by omega)) hy0 hy1 hz0 (by omega)) .gup⟩
 ·have a0:=lXb ((y+39373*(z+1))*(48271+(z+1))) (b:=2147483647) (by decide)
  have a1:=lXc ((y+39373*(z+1))*(48271+(z+1))) (b:=2147483647) (by decide)
  refine⟨.inl (by decide),.inr ⟨by omega,by omega⟩,by decide,by decide,?_⟩
  generalize (y+39373*(z+1))*(48271+(z+1))%2147483647=u at a0 a1 ⊢
  have b0:=lXb (u*(u%40009+7)+(z+1)) (b:=2147483629) (by decide)
  have b1:=lXc (u*(u%40009+7)+(z+1)) (b:=2147483629) (by decide)
  refine⟨.inl ⟨by omega,by omega⟩,by decide,by decide,?_⟩
  generalize (u*(u%40009+7)+(z+1))%2147483629=v at b0 b1 ⊢
  refine⟨.inl ⟨by omega,by omega⟩,by decide,⟨by decide,by decide⟩,by omega,?_⟩
  exact k _ _ (lXb _ (by omega)) (lXc _ (by omega)) (box _ _ _ hx b0 (by omega) (by omega) (by omega)) .gup
noncomputable abbrev jQq (ns:List Int):List T:=ns.map T.int
theorem sz:sizeLine=16777216:=PySem.sizeLine_eq
noncomputable def jZs:Sp3:=fun xs G Q=>∃(c:Addr) (ns:List Int) (k:Int),xs=[.ref c,.int k]/\G c=some (.lst (jQq ns))/\ns.length<=63/\0<=k/\k<100/\∀p G',G p=none->BoxAt G' p 0->Sub G G'->Q (.ref p) G'
noncomputable def uJ7:List Str:=["_law_script","_law_k","_law_cell"]
noncomputable def kQs:TS3:=
 (tSeq (tAsg (tOp rIxF (tOp jJt (tVar 0) (tOp jVh (tLst (jJa (tC (.int 0)) tNil)) (tOp jJt (tVar 1) (tC (.int 1))))) (tVar 1)) (jJg 2))
 (tRet (tLst (jJa (tOp jVh (tCB rAbs (jJa (tVar 2) tNil)) (tCB jYd (jJa (tOp rGe (tCB rAbs (jJa (tVar 2) tNil)) (tOp rPow (tC (.int 10)) (tC (.int 18)))) tNil))) (jJa (tOp rMod (tOp jVh (tOp jJt (tOp jJt (tOp rMod (tVar 2) (tC (.int 2147483647))) (tOp jVh (tC (.int 7919)) (tVar 1))) (tC (.int 11))) (tC (.int 48271))) (tC (.int 2147483629))) (jJa (tC (.int 0)) tNil))))))
theorem kZ5:RdOk jZs kQs uJ7:=by
 intro xs G Q h_;apply xe3 h_;clear h_;intro c ns k h_;apply ae5 h_;clear h_;intro hc hl hk0 hk1 kk
 show kQs _ [some (.ref c),some (.int k),none] G
 have hs:=sz
 wp_walk using 1,kQs
 refine⟨by omega,fun p hp=> ?_⟩
 have e1:mulR (gup G p (GO.lst [T.int 0])) (.ref p) (.int (k+1))=some (.newL (List.replicate (k+1).toNat [T.int 0]).flatten):=by
  simp only[mulR,jJh];rw[lJb];refine⟨?_,?_,?_⟩<;>simp<;>omega
 wp_walk using 1,e1
 intro q hq
 obtain⟨hqp,hq0⟩:=jK7 hq
 have hcp:=jJe hc hp
 have hcq:=jJe hc hq0
 have hc2:gup (gup G p (GO.lst [T.int 0])) q (GO.lst (List.replicate (k+1).toNat [T.int 0]).flatten) c=some (.lst (jQq ns)):=by rw[jJs hcq,jJs hcp];exact hc
 have hfl:(List.replicate (k+1).toNat [T.int 0]).flatten=List.replicate (k+1).toNat (T.int 0):=by
  induction (k+1).toNat with
  | zero=>rfl
  | succ n ih=>rw[lQi,lQ7,ih];rfl
 have e2:=jXh (q:=q) hc2 jJh (by rw[hfl];simp;omega)
 wp_walk using 1,e2
 intro r hr
 obtain⟨hrq,hr1⟩:=jK7 hr
 obtain⟨hrp,hr0⟩:=jK7 hr1
 obtain⟨v,hv⟩:∃v:Int,L2.atI (jQq ns++(List.replicate (k+1).toNat [T.int 0]).flatten) k=some (.int v):=by
  rw[atZ hk0,hfl]
  by_cases h:k.toNat<ns.length
  ·rw[lKy (by simpa using h)]
   exact⟨ns[k.toNat],by simp[h]⟩
  ·rw[lKq (by simpa using h),lX1]
   exact⟨0,by rw[lJb];simp;omega⟩
 wp_walk using 1,hv
 refine⟨⟨by decide,by decide,by decide⟩,.inr (by split<;>split<;>decide),by decide,.inl (by decide),.inr (by decide),by decide,by omega,fun b hbn=> ?_⟩
 obtain⟨hbr,hb1⟩:=jK7 hbn
 obtain⟨hbq,hb2⟩:=jK7 hb1
 obtain⟨hbp,hb0⟩:=jK7 hb2
 refine kk b _ hb0 ⟨_,_,_,jJh,Int.mul_nonneg (by split<;>omega) (by split<;>split<;>decide),lXb _ (by decide),?_,Int.le_refl _,by simp⟩ ((((Sub.new hp).over hq0).over hr0).over hb0)
 have:=lXc ((v%2147483647+7919*k+11)*48271) (b:=2147483629) (by decide)
 omega
noncomputable def jU4:Sp3:=fun xs G Q=>∃(ns:List Int) (m:Int),xs=[.scr (jQq ns),.int m]/\ns.length<=63/\1<=m/\m<=63/\∀p G' (ms:List Int),G p=none->G' p=some (.lst (jQq ms))->ms.length<=m.toNat->ms.length<=63->Sub G G'->Q (.ref p) G'
noncomputable def qJu:List Str:=["_law_script","_law_many","_law_cells","_law_k","_law_cell"]
noncomputable def jXs:TS3:=
 (tSeq (tAsg (tCB jVx (jJa (tSl rSlF (tVar 0) jJ5 (jQd (tVar 1))) tNil)) (jJg 2))
 (tSeq (tFor (jY6 (jJa (tSl rSlF (tVar 0) (jQd (tVar 1)) (jQd (tC (.int 63)))) tNil)) (gTup 2 (jJx (jJg 3) (jJx (jJg 4) gNil))) (tAsg (tOp jJt (tOp rIxF (tVar 2) (tOp rMod (tVar 3) (tVar 1))) (tOp jVh (tVar 4) (tOp jJt (tVar 3) (tC (.int 2))))) (gSub (tVar 2) (tOp rMod (tVar 3) (tVar 1)) jUu)))
 (tRet (tVar 2))))
theorem kQo:RdOk jU4 jXs qJu:=by
 intro xs G Q h_;apply xe2 h_;clear h_;intro ns m h_;apply ae4 h_;clear h_;intro hl hm1 hm2 kk
 show jXs _ [some (.scr (jQq ns)),some (.int m),none,none,none] G
 have hs:=sz
 wp_walk using 1,jXs,tSl,rSlF,slR,jJ5,jQd,jVx,jXt,jJ2,jY6
 intro p hp p1 hp1
 obtain⟨hpp,hp10⟩:=jK7 hp1
 intro q hq
 obtain⟨hq1,hq2⟩:=jK7 hq
 obtain⟨hqp,hq0⟩:=jK7 hq2
 obtain⟨cs,hcs,lcs⟩:∃cs:List Int,cutT (jQq ns) none (some m)=jQq cs/\cs.length=min m.toNat ns.length:=by
  refine⟨ns.take (min m.toNat ns.length),?_,by simp⟩
  simp only[cutT,HT.sIx,lJe,lXa,Nat.sub_zero]
  rw[lJa (by omega)]
  simp[List.map_take]
 obtain⟨rs,hrs,lrs⟩:∃rs:List Int,cutT (jQq ns) (some m) (some 63)=jQq rs/\(rs.length<=63/\(0<rs.length->m.toNat<=ns.length)):=by
  refine⟨(ns.drop (min m.toNat ns.length)).take (min 63 ns.length-min m.toNat ns.length),?_,?_,?_⟩
  ·simp only[cutT,HT.sIx,lJe]
   simp only[show ¬ m<0 by omega,show ¬ (63:Int)<0 by decide,lKf]
   simp[List.map_take,List.map_drop]
  ·simp;omega
  ·simp;omega
 rw[hcs,hrs]
 refine⟨jQq rs,by simp only[jUx,jJh,asL],?_⟩
 refine⟨fun i τ G'=>∃(v3 v4:Option T) (ms:List Int),τ=[some (.scr (jQq ns)),some (.int m),some (.ref p1),v3,v4]/\G' p1=some (.lst (jQq ms))/\ms.length=cs.length/\G' q=some (.lst (jQq rs))/\Sub G G',?_,?_,?_,?_⟩
 ·refine⟨none,none,cs,rfl,by rw[jJs hq1.symm,jJh],rfl,jJh,(((Sub.new hp).over hp10).over hq0)⟩
 ·intro i τ G' hi h_;apply xe3 h_;clear h_;intro v3 v4 ms h_;apply ae4 h_;clear h_;intro h1 h2 h3 h4
  simp only[jUx,h3,asL]
 ·intro i x τ G' hx h_;apply xe3 h_;clear h_;intro v3 v4 ms h_;apply ae4 h_;clear h_;intro h1 h2 h3 h4
  have hi:i<rs.length:=by have:=(lJg.mp hx).1;simpa[jK4] using this
  have hri:(jQq rs)[i]? =some (.int rs[i]):=by simp[hi]
  rw[jXa hri] at hx
  cases hx
  have hml:=lrs.2 (by omega)
  have hk0:(0:Int)<=(i:Int)%m:=lXb _ (by omega)
  have hk1:(i:Int)%m<m:=lXc _ (by omega)
  have hk:((i:Int)%m).toNat<ms.length:=by omega
  have hat:L2.atI (jQq ms) ((i:Int)%m)=some (.int ms[((i:Int)%m).toNat]):=by rw[atZ hk0];simp[hk]
  have hix:L2.ixN (jQq ms).length ((i:Int)%m)=some ((i:Int)%m).toNat:=ixZ hk0 (by simp;omega)
  wp_walk using 1,jJ6 h1,hat,jX5 h1 hix
  refine⟨by omega,.inr ⟨by omega,by omega⟩,by omega,?_⟩
  exact⟨ms.set ((i:Int)%m).toNat (ms[((i:Int)%m).toNat]+rs[i]*((i:Int)+2)),by simp[jQq,List.map_set],by simpa using h2,by rw[jJs hq1];exact h3,h4.over hp10⟩
 ·intro τ G' h_;apply xe3 h_;clear h_;intro v3 v4 ms h_;apply ae4 h_;clear h_;intro h1 h2 h3 h4
  wp_walk using 1,tSeq
  exact kk p1 G' ms hp10 h1 (by omega) (by omega) h4
abbrev Web:=List (List (Nat×Nat))
noncomputable def encE (e:Nat×Nat):T:= .tup [.int e.1,.int e.2]
noncomputable def encR (r:List (Nat×Nat)):T:= .tup (r.map encE)
noncomputable def encW (W:Web):T:= .tup (W.map encR)
noncomputable def en (W:Web)(r i:Nat):Option (Nat×Nat):=(W[r]?).bind fun es=>es[i]?
def Sym (W:Web):Prop:=∀r i s j,en W r i=some (s,j)->en W s j=some (r,i)
noncomputable def sw:Nat->Nat
 | 0=>1
 | 1=>0
 | n=>n
variable {n:Nat}
theorem sw_sw (h:n<=2):sw (sw n)=n/\sw n<=2:=by
 have:n=0\/n=1\/n=2:=by omega
 rcases this with rfl | rfl | rfl<;>exact⟨rfl,by decide⟩
def RowsAt (G:Gp)(h:Addr)(Hs:Web)(rs:List Addr):Prop:=G h=some (.lst (rs.map T.ref))/\rs.length=Hs.length/\∀(i:Nat) (r:Addr),rs[i]? =some r->∃hs:List (Nat×Nat),Hs[i]? =some hs/\G r=some (.lst (hs.map encE))
variable {G':Gp}{h:Addr}{Hs:Web}{rs:List Addr}
theorem RowsAt.sub (s:Sub G G')(x:RowsAt G h Hs rs):RowsAt G' h Hs rs:=⟨s _ _ x.1,x.2.1,fun i r e=>let ⟨hs,h1,h2⟩:=x.2.2 i r e;⟨hs,h1,s _ _ h2⟩⟩
structure JoinOk (Hs:Web):Prop where
 len:Hs.length<=1000
 row:∀(r:Nat) (hs:List (Nat×Nat)),Hs[r]? =some hs->hs.length<=1000
 inj:∀r i r' i' h,en Hs r i=some h->en Hs r' i'=some h->r=r'/\i=i'
 part:∀r i t s,en Hs r i=some (t,s)->s<=2/\∃r' i',en Hs r' i'=some (t,sw s)
noncomputable def keyE (e:Nat×Nat):L2.TKey:=[.inl (.inl (e.1:Int)),.inl (.inl (e.2:Int))]
theorem jXe {a b:Nat×Nat}(h:keyE a=keyE b):a=b:=by
 obtain⟨a1,a2⟩:=a;obtain⟨b1,b2⟩:=b
 simp only[keyE,lVr,Sum.inl.injEq,and_true] at h
 obtain⟨h1,h2⟩:=h
 rw[Int.ofNat.inj h1,Int.ofNat.inj h2]
theorem jQk {a b:Int}:jQw [.int a,.int b]=some [.inl (.inl a),.inl (.inl b)]:=rfl
theorem kYe {κ:Type}[DecidableEq κ](kvs:List (κ×T))(k j:κ)(v:T):valT (putT kvs k v) j=if k=j then some v else valT kvs j:=by
 unfold putT valT
 by_cases h:(kvs.any fun kv=>decide (kv.1=k))=true
 ·rw[lJb h]
  induction kvs with
  | nil=>simp at h
  | cons p ps ih=>
   rw[lJ6,lQj,lQj]
   by_cases hp:p.1=k
   ·rw[lJb hp]
    by_cases hj:k=j
    ·simp[hp,hj]
    ·have h1:¬ p.1=j:=fun z=>hj (hp.symm.trans z)
     simp only[h1,decide_false,hj,lKf]
     by_cases h2:(ps.any fun kv=>decide (kv.1=k))=true
     ·have:=ih h2;rw[lJa hj] at this;exact this
     ·have hm:ps.map (fun kv=>if kv.1=k then (kv.1,v) else kv)=ps:=by
       rw[lVv (g:=id)];· simp
       intro a ha
       have:¬ a.1=k:=fun z=>h2 (lXs.mpr ⟨a,ha,by simp[z]⟩)
       simp[this]
      rw[hm]
   ·rw[lJa hp]
    have h2:(ps.any fun kv=>decide (kv.1=k))=true:=by
     rw[lQt,lJk hp,Bool.false_or] at h;exact h
    have:=ih h2
    by_cases hj:p.1=j
    ·have:¬ k=j:=fun z=>hp (hj.trans z.symm)
     simp[hj,this]
    ·simp only[hj,decide_false];exact this
 ·rw[lJa h,List.find?_append]
  have hn:(kvs.find? fun kv=>decide (kv.1=j))=none\/∃p,(kvs.find? fun kv=>decide (kv.1=j))=some p:=by
   cases kvs.find? fun kv=>decide (kv.1=j) with
   | none=>exact .inl rfl
   | some p=>exact .inr ⟨p,rfl⟩
  by_cases hj:k=j
  ·subst hj
   have:(kvs.find? fun kv=>decide (kv.1=k))=none:=by
    rw[List.find?_eq_none]
    intro a ha z
    exact h (lXs.mpr ⟨a,ha,z⟩)
   simp[this]
  ·rcases hn with e | ⟨p,e⟩
   ·simp[e,hj]
   ·simp[e,hj]
theorem kQx {κ:Type}[DecidableEq κ](kvs:List (κ×T))(k:κ)(v:T):(putT kvs k v).length<=kvs.length+1:=by
 unfold putT;split<;>simp
variable {kvs:List (L2.TKey×T)}{ys:List T}{ks:L2.TKey}
theorem kX1 (h:G p=some (.dct kvs))(hk:jQw ys=some ks):dAt G (.ref p) (.tup ys)=some (valT kvs ks):=by simp only[dAt,h,hk]
theorem uJa {t:T}(h:G p=some (.dct kvs))(hk:jQw ys=some ks)(ht:valT kvs ks=some t):ixR G (.ref p) (.tup ys)=some t:=by
 simp only[ixR,seqT,h,asL,kX1 h hk,ht]
variable {v:T}
theorem jZt (h:G p=some (.dct kvs))(hk:jQw ys=some ks)(hz:kvs.length<sizeLine):setR G (.ref p) (.tup ys) v=some (gup G p (.dct (putT kvs ks v))):=by
 simp only[setR,h,hk,hz,lK1]
variable {r i:Nat}{e:Nat×Nat}
theorem jQi {W:Web}(h:en W r i=some e):∃es,W[r]? =some es/\es[i]? =some e:=by
 unfold en at h
 cases e1:W[r]? with
 | none=>rw[e1] at h;cases h
 | some es=>rw[e1] at h;exact⟨es,rfl,h⟩
variable {es:List (Nat×Nat)}
theorem jVi {W:Web}(h1:W[r]? =some es)(h2:es[i]? =some e):en W r i=some e:=by unfold en;rw[h1];exact h2
structure Joined (Hs W:Web):Prop where
 len:W.length=Hs.length
 row:∀(r:Nat) (hs:List (Nat×Nat)),Hs[r]? =some hs->∃es,W[r]? =some es/\es.length=hs.length
 to:∀r i t sd s j,en Hs r i=some (t,sd)->en Hs s j=some (t,sw sd)->en W r i=some (s,j)
theorem Joined.sym {W:Web}(J:Joined Hs W)(ok:JoinOk Hs):Sym W:=by
 intro r i s j h
 obtain⟨es,h1,h2⟩:=jQi h
 have hr:r<Hs.length:=by rw[<-J.len];exact (lJg.mp h1).1
 obtain⟨es',h3,h4⟩:=J.row r _ (lJi hr)
 rw[h1] at h3;cases h3
 have hi:i<Hs[r].length:=by rw[<-h4];exact (lJg.mp h2).1
 have e1:en Hs r i=some (Hs[r][i]):=jVi (lJi hr) (lJi hi)
 generalize Hs[r][i]=e0 at e1
 obtain⟨t,sd⟩:=e0
 obtain⟨hsd,r',i',e2⟩:=ok.part r i t sd e1
 have e3:=J.to r i t sd r' i' e1 e2
 rw[h] at e3
 cases e3
 refine J.to s j t (sw sd) r i e2 ?_
 rw[(sw_sw hsd).1];exact e1
open Classical in
def oth (Hs:Web)(e:Nat×Nat):Nat×Nat:=if h:∃p:Nat×Nat,en Hs p.1 p.2=some (e.1,sw e.2) then h.choose else (0,0)
theorem qYj (h:en Hs r i=some (e.1,sw e.2)):en Hs (oth Hs e).1 (oth Hs e).2=some (e.1,sw e.2):=by
 unfold oth
 have:∃p:Nat×Nat,en Hs p.1 p.2=some (e.1,sw e.2):=⟨(r,i),h⟩
 rw[dif_pos this];exact this.choose_spec
theorem qJh (ok:JoinOk Hs):Joined Hs (Hs.map (List.map (oth Hs))) where
 len:=by simp
 row:=fun r hs h=>⟨hs.map (oth Hs),by simp[h],by simp⟩
 to:=fun r i t sd s j h1 h2=>by
  obtain⟨es,q1,q2⟩:=jQi h1
  have:en (Hs.map (List.map (oth Hs))) r i=some (oth Hs (t,sd)):=jVi (es:=es.map (oth Hs)) (by simp[q1]) (by simp[q2])
  rw[this]
  have h3:=qYj (e:=(t,sd)) h2
  obtain⟨z1,z2⟩:=ok.inj _ _ _ _ _ h3 h2
  rw[<-z1,<-z2]
def jXo:Sp3:=fun xs G Q=>∃(h:Addr) (Hs:Web) (rs:List Addr),xs=[.ref h]/\RowsAt G h Hs rs/\JoinOk Hs/\∀G' W,Sub G G'->Joined Hs W->Q (encW W) G'
noncomputable def qJs:List Str:=["_law_halves","_law_at","_law_room","_law_door","_law_half","_law_web_here","_law_doors","_law_tie","_law_side"]
noncomputable def jXq:TS3:=
 (tSeq (tAsg jQ1 (jJg 1))
 (tSeq (tFor (jKc (jJa (tCB rLen (jJa (tVar 0) tNil)) tNil)) (jJg 2) (tFor (jY6 (jJa (tOp rIxF (tVar 0) (tVar 2)) tNil)) (gTup 2 (jJx (jJg 3) (jJx (jJg 4) gNil))) (tAsg (tTup (jJa (tVar 2) (jJa (tVar 3) tNil))) (gSub (tVar 1) (tVar 4) jUu))))
 (tSeq (tAsg (tLst tNil) (jJg 5))
 (tSeq (tFor (iSeq (tVar 0)) (jJg 6) (jUi (tBM "list" jK3 (tVar 5) (jJa (tCB jKa (jJa (jKp [false,false,false,false,false,false,false,true,true] (iSeq (tVar 6)) (gTup 2 (jJx (jJg 7) (jJx (jJg 8) gNil))) jK2 (tOp rIxF (tVar 1) (tTup (jJa (tVar 7) (jJa (tOp rIxF (tLst (jJa (tC (.int 1)) (jJa (tC (.int 0)) (jJa (tC (.int 2)) tNil)))) (tVar 8)) tNil))))) tNil)) tNil))))
 (tRet (tCB jKa (jJa (tVar 5) tNil)))))))
def Tab (Hs:Web)(kvs:List (L2.TKey×T))(done:Nat->Nat->Prop):Prop:=∀r i e,en Hs r i=some e->done r i->valT kvs (keyE e)=some (encE (r,i))
variable {x:T}
theorem jQ9 (h:(rngT 0 n)[i]? =some x):i<n/\x= .int i:=by
 unfold rngT at h
 rw[lJr] at h
 have hi:i<n:=by
  rcases lQg i n with z | z
  ·exact z
  ·rw[lJ3 (by simpa using z)] at h;cases h
 simp[hi] at h
 exact⟨hi,h.symm⟩
theorem jJ9:(rngT 0 n).length=n:=by simp[rngT]
theorem kQm:RdOk jXo jXq qJs:=by
 intro xs G Q h_;apply xe3 h_;clear h_;intro h Hs rs h_;apply ae3 h_;clear h_;intro q0_ ok kk
 obtain⟨hh,hlen,hrow⟩:=q0_
 show jXq _ [some (.ref h),none,none,none,none,none,none,none,none] G
 have hs:=sz
 have hL:=ok.len
 wp_walk using 1,jXq,jQ1,jJ2,jKc
 refine .inl fun d hd=> ?_
 have hhd:=jJe hh hd
 have hrl:(rs.map T.ref).length=Hs.length:=by simp[hlen]
 refine⟨rs.map T.ref,by simp only[seqT,jJs hhd,hh,asL],by rw[hrl];omega,by rw[hrl];omega,?_⟩
 rw[hrl,show ((Hs.length:Int)).toNat=Hs.length by omega]
 refine⟨fun r τ G'=>∃(v2 v3 v4:Option T) (kvs:List (L2.TKey×T)),τ=[some (.ref h),some (.ref d),v2,v3,v4,none,none,none,none]/\G' d=some (.dct kvs)/\kvs.length<=1000*r/\Tab Hs kvs (fun r' _=>r'<r)/\Sub G G',?_,?_,?_,?_⟩
 ·exact⟨none,none,none,[],rfl,jJh,lJ9 _,fun r i e _ z=>absurd z (lVu _),.new hd⟩
 ·intros;trivial
 ·intro r x τ G1 hx h_;apply xe4 h_;clear h_;intro v2 v3 v4 kvs h_;apply ae4 h_;clear h_;intro hdk hkl tab sb
  obtain⟨hr,rfl⟩:=jQ9 hx
  have hri:r<rs.length:=by omega
  obtain⟨hs',hH,hG⟩:=hrow r rs[r] (lJi hri)
  have hh1:=sb _ _ hh
  have hG1:=sb _ _ hG
  have hat:L2.atI (rs.map T.ref) (r:Int)=some (.ref rs[r]):=by rw[atN];simp[hri]
  have hrow1000:=ok.row r hs' hH
  wp_walk using 1,jJ2,jY6,jJ6 hh1,hat
  refine⟨hs'.map encE,by simp only[jUx,hG1,asL],?_⟩
  refine⟨fun i τ G'=>∃(v3 v4:Option T) (kvs:List (L2.TKey×T)),τ=[some (.ref h),some (.ref d),some (.int r),v3,v4,none,none,none,none]/\G' d=some (.dct kvs)/\kvs.length<=1000*r+i/\Tab Hs kvs (fun r' i'=>r'<r\/(r'=r/\i'<i))/\Sub G G',?_,?_,?_,?_⟩
  ·exact⟨v3,v4,kvs,rfl,hdk,hkl,fun r' i' e he hd'=>tab r' i' e he (by rcases hd' with z | ⟨_,z⟩;exact z;exact absurd z (lVu _)),sb⟩
  ·intro i τ G' hi h_;apply xe3 h_;clear h_;intro v3 v4 kvs h_;apply ae4 h_;clear h_;intro h1 h2 h3 h4
   simp only[jUx,h4 _ _ hG,asL]
  ·intro i x τ G2 hx h_;apply xe3 h_;clear h_;intro v3 v4 kvs h_;apply ae4 h_;clear h_;intro h1 h2 h3 h4
   have hi:i<hs'.length:=by have:=(lJg.mp hx).1;simpa[jK4] using this
   have hri2:(hs'.map encE)[i]? =some (encE hs'[i]):=by simp[hi]
   rw[jXa hri2] at hx
   cases hx
   have hz:kvs.length<sizeLine:=by omega
   wp_walk using 1,encE,jZt h1 jQk hz
   refine⟨by omega,?_⟩
   refine⟨putT kvs (keyE hs'[i]) (encE (r,i)),rfl,by have:=kQx kvs (keyE hs'[i]) (encE (r,i));omega,fun r' i' e he hd'=> ?_,h4.over hd⟩
   show valT (putT kvs (keyE hs'[i]) _) (keyE e)=_
   rw[kYe]
   have eri:en Hs r i=some hs'[i]:=jVi hH (lJi hi)
   by_cases hk:keyE hs'[i]=keyE e
   ·rw[lJb hk]
    have:=jXe hk
    subst this
    obtain⟨z1,z2⟩:=ok.inj _ _ _ _ _ eri he
    subst z1;subst z2;rfl
   ·rw[lJa hk]
    refine h3 r' i' e he ?_
    rcases hd' with z | ⟨z1,z2⟩
    ·exact .inl z
    ·subst z1
     by_cases hii:i'=i
     ·subst hii;rw[eri] at he;cases he;exact absurd rfl hk
     ·exact .inr ⟨rfl,by omega⟩
  ·intro τ G' h_;apply xe3 h_;clear h_;intro v3 v4 kvs h_;apply ae4 h_;clear h_;intro h1 h2 h3 h4
   refine⟨some (.int r),v3,v4,rfl,kvs,h1,?_,fun r' i' e he hd'=>h3 r' i' e he ?_,h4⟩
   ·simp only[jK4,lJe] at h2;omega
   ·rcases lQg r' r with z | z
    ·exact .inl z
    ·have:r'=r:=by omega
     subst this
     obtain⟨es,q1,q2⟩:=jQi he
     rw[hH] at q1;cases q1
     exact .inr ⟨rfl,by simpa[jK4] using (lJg.mp q2).1⟩
 ·intro τ G1 h_;apply xe4 h_;clear h_;intro v2 v3 v4 kvs h_;apply ae4 h_;clear h_;intro hdk hkl tab sb
  rw[jJ9] at tab
  wp_walk using 1,jJ2,iSeq
  refine⟨lJ9 _,fun w hw=> ?_⟩
  have hdw:=jJe hdk hw
  have hhw:=jJe (sb _ _ hh) hw
  refine⟨rs.map T.ref,by simp only[seqT,jJs hhw,sb _ _ hh,asL],?_⟩
  refine⟨fun i τ G'=>∃(v6:Option T),τ=[some (.ref h),some (.ref d),v2,v3,v4,some (.ref w),v6,none,none]/\G' w=some (.lst ((Hs.take i).map fun hs=>encR (hs.map (oth Hs))))/\Sub G1 G',?_,?_,?_,?_⟩
  ·exact⟨none,rfl,by simp[jJh],.new hw⟩
  ·intro i τ G' hi h_;apply xe1 h_;clear h_;intro v6 h_;apply ae2 h_;clear h_;intro h1 h2
   simp only[seqT,h2 _ _ (sb _ _ hh),asL]
  ·intro i x τ G2 hx0 h_;apply xe1 h_;clear h_;intro v6 h_;apply ae2 h_;clear h_;intro h1 h2
   obtain⟨ra,hx,rfl⟩:=jKz hx0
   obtain⟨hs',hH,hG⟩:=hrow i ra hx
   have hG2:=h2 _ _ (sb _ _ hG)
   have hrow1000:=ok.row i hs' hH
   wp_walk using 1,iSeq,jK1 h1
   refine⟨hs'.map encE,jJm hG2,?_⟩
   refine jKm (fun e=>encE (oth Hs e)) (by omega) (fun G' s=>jJm (s _ _ hG2)) ?_ ?_
   ·intro j e he G' K K0 s hk
    obtain⟨t,sd⟩:=e
    have hen:=jVi hH he
    obtain⟨hsd,r',i',e2⟩:=ok.part _ _ _ _ hen
    have hv:=qYj (e:=(t,sd)) e2
    have hr':(oth Hs (t,sd)).1<List.length Hs:=by obtain⟨es,q1,q2⟩:=jQi hv;exact (lJg.mp q1).1
    have ht:=tab _ _ _ hv hr'
    have hd3:=s _ _ (h2 _ _ hdk)
    wp_walk using 1,encE
    refine⟨by omega,fun p hp=> ?_⟩
    have hdp:=jJe hd3 hp
    have hsw:L2.atI [T.int 1,T.int 0,T.int 2] (sd:Int)=some (.int (sw sd:Int)):=by
     have:sd=0\/sd=1\/sd=2:=by omega
     rcases this with rfl | rfl | rfl<;>rw[atN]<;>rfl
    refine⟨_,hsw,by omega,_,uJa (ks:=[.inl (.inl (t:Int)),.inl (.inl (sw sd:Int))]) (by rw[jJs hdp];exact hd3) jQk ht,hk _ (.new hp)⟩
   ·intro D G3 hD h3 h4
    wp_walk using 1,jJm h3,h4 _ _ h1
    refine⟨by simp;omega,?_,((h2.trans h4).over hw)⟩
    rw[lKz,hH];simp[encR]
  ·intro τ G' h_;apply xe1 h_;clear h_;intro v6 h_;apply ae2 h_;clear h_;intro h1 h2
   wp_walk using 1,jJm h1
   have e1:(Hs.take (rs.map T.ref).length).map (fun hs=>encR (hs.map (oth Hs)))=(Hs.map (List.map (oth Hs))).map encR:=by
    rw[hrl,lQl,lJw];rfl
   rw[e1]
   exact kk G' _ (sb.trans h2) (qJh ok)
variable {m:Nat}
theorem BoxAt.mono (h:BoxAt G b n)(hm:n<=m):BoxAt G b m:=by
 obtain⟨x,y,z,h1,h2,h3,h4,h5,h6⟩:=h
 exact⟨x,y,z,h1,h2,h3,h4,h5,by omega⟩
theorem BoxAt.some (h:BoxAt G b n):∃o,G b=some o:=by
 obtain⟨x,y,z,h1,_⟩:=h
 exact⟨_,h1⟩
theorem BoxAt.sub (h:BoxAt G b n)(s:Sub G G'):BoxAt G' b n:=by
 obtain⟨x,y,z,h1,h2,h3,h4,h5,h6⟩:=h
 exact⟨x,y,z,s _ _ h1,h2,h3,h4,h5,h6⟩
theorem BoxAt.gup (h:BoxAt G b n)(hp:b≠p):BoxAt (gup G p o) b n:=by
 obtain⟨x,y,z,h1,h2,h3,h4,h5,h6⟩:=h
 exact⟨x,y,z,by rw[jJs hp];exact h1,h2,h3,h4,h5,h6⟩
theorem Keep.sub (h:Sub G G'):Keep b G G':=fun c o _ e=>h c o e
theorem Keep.over (h:Keep b G G')(hp:G p=none):Keep b G (L3.gup G' p o):=fun c u hc e=>by rw[jJs];exact h c u hc e;rintro rfl;rw[hp] at e;cases e
theorem RowsAt.keep (s:Keep b G G')(hb:b∉h::rs)(x:RowsAt G h Hs rs):RowsAt G' h Hs rs:=by
 simp only[lJy,not_or] at hb
 exact⟨s _ _ (Ne.symm hb.1) x.1,x.2.1,fun i r e=>let ⟨hs,h1,h2⟩:=x.2.2 i r e;⟨hs,h1,s _ _ (by rintro rfl;exact hb.2 (lJt e)) h2⟩⟩
theorem RowsAt.set {a:Addr}{hs':List (Nat×Nat)}(x:RowsAt G h Hs rs)(hn:(h::rs).Nodup)(hr:rs[r]? =some a):RowsAt (gup G a (.lst (hs'.map encE))) h (Hs.set r hs') rs:=by
 rw[lQb] at hn
 have hrl:r<rs.length:=(lJg.mp hr).1
 refine⟨by rw[jJs];exact x.1;rintro rfl;exact hn.1 (lJt hr),by rw[lQ6];exact x.2.1,fun i c e=> ?_⟩
 by_cases hi:i=r
 ·subst hi
  rw[hr] at e;cases e
  exact⟨hs',by rw[lKx];rw[<-x.2.1];exact hrl,jJh⟩
 ·obtain⟨hs,h1,h2⟩:=x.2.2 i c e
  refine⟨hs,by rw[lKt (Ne.symm hi)];exact h1,?_⟩
  rw[jJs];exact h2
  rintro rfl
  have hil:i<rs.length:=(lJg.mp e).1
  exact hi ((lVw hil hn.2).mp (e.trans hr.symm))
noncomputable def hv (n t:Nat)(p:Nat×Nat):List (Nat×Nat×Nat):=if p.2=n then [(p.1,t,2)] else [(p.1,t,0),(p.2,t,1)]
noncomputable def hvs (P:List (Nat×Nat))(n k:Nat):List (Nat×Nat×Nat):=(List.range k).flatMap fun t=>match P[t]? with
 | some p=>hv n t p
 | none=>[]
variable {P:List (Nat×Nat)}
theorem jU7 {k:Nat}{p:Nat×Nat}(h:P[k]? =some p):hvs P n (k+1)=hvs P n k++hv n k p:=by
 unfold hvs
 rw[lQ9,lXt]
 simp[h]
variable {t' s:Nat}
theorem kK1 {t:Nat}{p:Nat×Nat}(h:(r,t',s)∈hv n t p):t'=t/\s<=2/\((p.2=n/\s=2/\r=p.1)\/(p.2≠n/\s=0/\r=p.1)\/(p.2≠n/\s=1/\r=p.2)):=by
 unfold hv at h
 split at h
 ·rename_i hp;simp at h;obtain⟨rfl,rfl,rfl⟩:=h;exact⟨rfl,by omega,.inl ⟨hp,rfl,rfl⟩⟩
 ·rename_i hp;simp at h
  rcases h with ⟨rfl,rfl,rfl⟩ | ⟨rfl,rfl,rfl⟩
  ·exact⟨rfl,by omega,.inr (.inl ⟨hp,rfl,rfl⟩)⟩
  ·exact⟨rfl,by omega,.inr (.inr ⟨hp,rfl,rfl⟩)⟩
theorem kJv {k:Nat}{t:Nat}(h:(r,t,s)∈hvs P n k):∃p,P[t]? =some p/\t<k/\(r,t,s)∈hv n t p:=by
 unfold hvs at h
 rw[List.mem_flatMap] at h
 obtain⟨t',h1,h2⟩:=h
 cases e:P[t']? with
 | none=>rw[e] at h2;cases h2
 | some p=>
  rw[e] at h2
  have h2:(r,t,s)∈hv n t' p:=h2
  have ht:=(kK1 h2).1
  subst ht
  exact⟨p,e,lQs.mp h1,h2⟩
theorem kZb {k:Nat}{t:Nat}{p:Nat×Nat}(h:P[t]? =some p)(hk:t<k)(hm:(r,t,s)∈hv n t p):(r,t,s)∈hvs P n k:=by
 unfold hvs
 rw[List.mem_flatMap]
 exact⟨t,lQs.mpr hk,by rw[h];exact hm⟩
theorem kJu {P:List (Nat×Nat)} {n:Nat}:∀k,((hvs P n k).map fun x=>x.2).Nodup
 | 0=>by simp[hvs]
 | k+1=>by
  cases e:P[k]? with
  | none=>
   have:hvs P n (k+1)=hvs P n k:=by unfold hvs;rw[lQ9,lXt];simp[e]
   rw[this];exact kJu k
  | some p=>
   rw[jU7 e,lKw,lVp]
   refine⟨kJu k,by unfold hv;split<;>simp,?_⟩
   intro a ha b hb
   obtain⟨⟨r,t,s⟩,h1,rfl⟩:=lJ2.mp ha
   obtain⟨⟨r',t',s'⟩,h2,rfl⟩:=lJ2.mp hb
   obtain⟨_,_,h3,_⟩:=kJv h1
   have h4:=(kK1 h2).1
   intro z
   have:t=t':=lKa Prod.fst z
   omega
theorem kQ5 {P:List (Nat×Nat)} {n:Nat}:∀k,(hvs P n k).length<=2*k
 | 0=>by simp[hvs]
 | k+1=>by
  have ih:=kQ5 (P:=P) (n:=n) k
  cases e:P[k]? with
  | none=>
   have:hvs P n (k+1)=hvs P n k:=by unfold hvs;rw[lQ9,lXt];simp[e]
   rw[this];omega
  | some p=>
   rw[jU7 e,lJv]
   have:(hv n k p).length<=2:=by unfold hv;split<;>simp
   omega
structure HalfL (L:List (Nat×Nat×Nat)) (n:Nat) (Hs:Web):Prop where
 len:Hs.length=n
 perm:∀(r:Nat) (hs:List (Nat×Nat)),Hs[r]? =some hs->hs.Perm ((L.filter fun x=>x.1 == r).map fun x=>x.2)
theorem ins_perm {α:Type}{xs:List α}{k:Nat}{y:α}:(xs.take k++y::xs.drop k).Perm (xs++[y]):=by
 have h1:(xs.take k++y::xs.drop k).Perm (y::(xs.take k++xs.drop k)):=List.perm_middle
 rw[lQf] at h1
 exact h1.trans (lXq (l₁:=[y]) (l₂:=xs))
variable {hs:List (Nat×Nat)}
theorem HalfL.ins {L:List (Nat×Nat×Nat)}{k:Nat}(h:HalfL L n Hs)(hr:Hs[r]? =some hs):HalfL (L++[(r,e)]) n (Hs.set r (hs.take k++e::hs.drop k)) where
 len:=by rw[lQ6];exact h.len
 perm:=fun r' hs' h'=>by
  have hrl:r<Hs.length:=(lJg.mp hr).1
  rw[List.filter_append,lKw]
  by_cases hi:r'=r
  ·subst hi
   rw[lKx hrl] at h'
   cases h'
   have:=h.perm r' hs hr
   refine ins_perm.trans ?_
   simp
   exact this.append_right [e]
  ·rw[lKt (Ne.symm hi)] at h'
   have:=h.perm r' hs' h'
   have hne:¬ r=r':=fun z=>hi z.symm
   simp[hne]
   exact this
theorem HalfL.mem {L:List (Nat×Nat×Nat)}(h:HalfL L n Hs)(he:en Hs r i=some e):(r,e)∈L:=by
 obtain⟨es,h1,h2⟩:=jQi he
 have:=(h.perm r es h1).mem_iff.mp (lJt h2)
 obtain⟨⟨r',e'⟩,h3,rfl⟩:=lJ2.mp this
 obtain⟨h4,h5⟩:=lVn.mp h3
 have:r'=r:=by simpa using h5
 subst this;exact h4
theorem HalfL.of {L:List (Nat×Nat×Nat)}(h:HalfL L n Hs)(hr:r<n)(he:(r,e)∈L):∃i,en Hs r i=some e:=by
 have hrl:r<Hs.length:=by rw[h.len];exact hr
 have h1:Hs[r]? =some Hs[r]:=lJi hrl
 have:e∈Hs[r]:=(h.perm r _ h1).mem_iff.mpr (lJ2.mpr ⟨(r,e),lVn.mpr ⟨he,by simp⟩,rfl⟩)
 obtain⟨i,hi⟩:=lJ7 this
 exact⟨i,jVi h1 hi⟩
def kUl (P:List (Nat×Nat))(n:Nat):Prop:=∀p,p∈P->p.1<n/\p.2<=n
theorem HalfL.ok (h:HalfL (hvs P n P.length) n Hs)(hp:kUl P n)(hn:n<=1000)(hl:P.length<=500):JoinOk Hs where
 len:=by rw[h.len];exact hn
 row:=fun r hs hr=>by
  rw[(h.perm r hs hr).length_eq,lJe]
  have h1:=lXd (fun x:Nat×Nat×Nat=>x.1 == r) (hvs P n P.length)
  have h2:=kQ5 (P:=P) (n:=n) P.length
  omega
 inj:=fun r i r' i' e h1 h2=>by
  obtain⟨t,s⟩:=e
  obtain⟨p,q1,q2,q3⟩:=kJv (h.mem h1)
  obtain⟨p',q1',q2',q3'⟩:=kJv (h.mem h2)
  rw[q1] at q1';cases q1'
  have m1:=(kK1 q3).2.2
  have m2:=(kK1 q3').2.2
  have hrr:r=r':=by
   rcases m1 with ⟨a,b,c⟩ | ⟨a,b,c⟩ | ⟨a,b,c⟩<;>rcases m2 with ⟨a',b',c'⟩ | ⟨a',b',c'⟩ | ⟨a',b',c'⟩<;>omega
  subst hrr
  refine⟨rfl,?_⟩
  obtain⟨es,z1,z2⟩:=jQi h1
  obtain⟨es',z3,z4⟩:=jQi h2
  rw[z1] at z3;cases z3
  have nd:es.Nodup:=by
   rw[(h.perm r es z1).nodup_iff]
   exact (List.filter_sublist.map _).nodup (kJu _)
  exact (lVw (lJg.mp z2).1 nd).mp (z2.trans z4.symm)
 part:=fun r i t s h1=>by
  obtain⟨p,q1,q2,q3⟩:=kJv (h.mem h1)
  obtain⟨_,h2,m⟩:=kK1 q3
  refine⟨h2,?_⟩
  have hpp:=hp p (lJt q1)
  rcases m with ⟨a,rfl,c⟩ | ⟨a,rfl,c⟩ | ⟨a,rfl,c⟩
  ·exact⟨r,i,h1⟩
  ·obtain⟨i',h3⟩:=h.of (r:=p.2) (e:=(t,1)) (by omega) (kZb q1 q2 (by unfold hv;rw[lJa a];simp))
   exact⟨p.2,i',h3⟩
  ·obtain⟨i',h3⟩:=h.of (r:=p.1) (e:=(t,0)) (by omega) (kZb q1 q2 (by unfold hv;rw[lJa a];simp))
   exact⟨p.1,i',h3⟩
structure Made (P:List (Nat×Nat)) (n:Nat) (W:Web):Prop where
 len:W.length=n
 sym:Sym W
 deg:∀(r:Nat) (es:List (Nat×Nat)),W[r]? =some es->es.length=((hvs P n P.length).filter fun x=>x.1 == r).length
 tie:∀p,p∈P->p.2<n->∃i j,en W p.1 i=some (p.2,j)
theorem qZw {W:Web}(h:HalfL (hvs P n P.length) n Hs)(hp:kUl P n)(ok:JoinOk Hs)(J:Joined Hs W):Made P n W where
 len:=by rw[J.len,h.len]
 sym:=J.sym ok
 deg:=fun r es hr=>by
  have hrl:r<Hs.length:=by rw[<-J.len];exact (lJg.mp hr).1
  obtain⟨es',h1,h2⟩:=J.row r _ (lJi hrl)
  rw[hr] at h1;cases h1
  rw[h2,(h.perm r _ (lJi hrl)).length_eq,lJe]
 tie:=fun p hpm hpn=>by
  obtain⟨t,ht⟩:=lJ7 hpm
  have htl:t<P.length:=(lJg.mp ht).1
  have hne:¬ p.2=n:=by omega
  obtain⟨i,h1⟩:=h.of (r:=p.1) (e:=(t,0)) (hp p hpm).1 (kZb ht htl (by unfold hv;rw[lJa hne];simp))
  obtain⟨j,h2⟩:=h.of (r:=p.2) (e:=(t,1)) hpn (kZb ht htl (by unfold hv;rw[lJa hne];simp))
  exact⟨i,j,J.to _ _ _ _ _ _ h1 h2⟩
theorem Keep.none (h:Keep b G G')(hb:p≠b)(hp:G' p=none):G p=none:=by
 cases e:G p with
 | none=>rfl
 | some o=>rw[h p o hb e] at hp;cases hp
theorem qXa {xs:List (Nat×Nat)}{k:Nat}{y:Nat×Nat}:insT (xs.map encE) k (encE y)=(xs.take k++y::xs.drop k).map encE:=by simp[insT,List.map_take,List.map_drop]
theorem HalfL.len_le {L:List (Nat×Nat×Nat)}(h:HalfL L n Hs)(hr:Hs[r]? =some hs):hs.length<=L.length:=by
 rw[(h.perm r hs hr).length_eq,lJe];exact lXd _ _
variable {E:Ends3}{D:Addr}{S:List (Nat×Nat)}{w2 w5 w6 w8 w9:Option T}
theorem kJ1 {k m':Nat}{L:List (Nat×Nat×Nat)}{w1:Option T}(h1:HalfL L n Hs)(h2:RowsAt G2 D Hs rs)(h3:BoxAt G2 b m')(h4:Keep b G G2)(hnd:(D::rs).Nodup)(hbn:b∉D::rs)(hfr:∀r,r∈D::rs->G r=none)(hp:G2 p=some (.lst (S.map encE)))(hpn:p∉D::rs)(hpb:p≠b)(hS:∀x,x∈S->x.1<n)(hm:m'+S.length<2^40)(hL:L.length+S.length<10000)(kk:∀G' Hs' v8 v9,HalfL (L++S.map fun x=>(x.1,k,x.2)) n Hs'->RowsAt G' D Hs' rs->BoxAt G' b (m'+S.length)->Keep b G G'->E.nx [some (.ref b),w1,w2,some (.ref D),some (.int k),w5,w6,some (.ref p),v8,v9] G'):
  uJ9 (gTup 2 (jJx (jJg 8) (jJx (jJg 9) gNil))) (jUi (tBM "list" kJk (tOp rIxF (tVar 3) (tVar 8)) (jJa (jJo jJi (jJa (tVar 0) (jJa (tOp jJt (tCB rLen (jJa (tOp rIxF (tVar 3) (tVar 8)) tNil)) (tC (T.int 1))) tNil))) (jJa (tTup (jJa (tVar 4) (jJa (tVar 9) tNil))) tNil)))) E
   [some (.ref b),w1,w2,some (.ref D),some (.int k),w5,w6,some (.ref p),w8,w9] (S.map encE) (fun G'=>seqT G' (.ref p)=some (S.map encE)) G2:=by
 have hs:=sz
 refine⟨fun j τ G'=>∃(v8 v9:Option T) (Hs:Web),τ=[some (.ref b),w1,w2,some (.ref D),some (.int k),w5,w6,some (.ref p),v8,v9]/\HalfL (L++(S.take j).map fun x=>(x.1,k,x.2)) n Hs/\RowsAt G' D Hs rs/\BoxAt G' b (m'+j)/\Keep b G G'/\G' p=some (.lst (S.map encE)),?_,?_,?_,?_⟩
 ·exact⟨w8,w9,Hs,rfl,by simpa using h1,h2,h3,h4,hp⟩
 ·intro j τ G' hj h_;apply xe3 h_;clear h_;intro v8 v9 Hs h_;apply ae5 h_;clear h_;intro i1 i2 i3 i4 i5
  exact jJm i5
 ·intro j x τ G' hx0 h_;apply xe3 h_;clear h_;intro v8 v9 Hs h_;apply ae5 h_;clear h_;intro i1 i2 i3 i4 i5
  obtain⟨⟨r,s⟩,hx,rfl⟩:=jKz hx0
  have hj:j<S.length:=(lJg.mp hx).1
  have hr:r<n:=hS _ (lJt hx)
  have hrl:r<rs.length:=by rw[i2.2.1,i1.len];exact hr
  have hra:rs[r]? =some rs[r]:=lJi hrl
  generalize rs[r]=a at hra
  obtain⟨hs',hh1,hh2⟩:=i2.2.2 r a hra
  have hat:L2.atI (rs.map T.ref) (r:Int)=some (.ref a):=by rw[atN];simp[hra]
  have hle:=i1.len_le hh1
  have hlt:(L++(S.take j).map fun x=>(x.1,k,x.2)).length<10000:=by simp;omega
  wp_walk using 1,encE,jJ6 i2.1,hat,jK1 hh2,jJm hh2,List.length_map
  refine⟨b,_,m'+j,rfl,i3,by omega,by omega,by omega,fun c G3 c0 c1 bx kp=> ?_⟩
  have ham:a∈D::rs:=lKp _ (lJt hra)
  have hab:a≠b:=by rintro rfl;exact hbn ham
  have hap:a≠p:=by rintro rfl;exact hpn ham
  have i2':=i2.keep kp hbn
  refine⟨by omega,hs'.map encE,c,rfl,kp _ _ hab hh2,c0,by simp;omega,by simp;omega,?_⟩
  rw[show T.tup [T.int (k:Int),T.int (s:Int)]=encE (k,s) from rfl,qXa]
  refine⟨Hs.set r (hs'.take c.toNat++(k,s)::hs'.drop c.toNat),?_,i2'.set hnd hra,?_,(i4.trans kp).over (hfr a ham),?_⟩
  ·have:=i1.ins (k:=c.toNat) (e:=(k,s)) hh1
   rw[lKz,hx,lKw,<-lJx]
   exact this
  ·exact bx.gup hab.symm
  ·rw[jJs hap.symm];exact kp _ _ hpb i5
 ·intro τ G' h_;apply xe3 h_;clear h_;intro v8 v9 Hs h_;apply ae5 h_;clear h_;intro i1 i2 i3 i4 i5
  rw[lJe] at i1 i3
  rw[lQl] at i1
  exact kk G' Hs v8 v9 i1 i2 i3 i4
variable {xs:List T}
theorem jZx:(numT xs).length=xs.length:=by simp[numT]
noncomputable def jUq:Sp3:=fun xs G Q=>∃(b pr:Addr) (P:List (Nat×Nat)) (n m:Nat),xs=[.ref b,.ref pr,.int n]/\BoxAt G b m/\m+2*P.length<2^40/\pr≠b/\G pr=some (.lst (P.map encE))/\kUl P n/\n<=1000/\P.length<=500/\∀W G',Made P n W->BoxAt G' b (m+2*P.length)->Keep b G G'->Q (encW W) G'
noncomputable def kUm:List Str:=["_law_box_here","_law_pairs","_law_many","_law_halves","_law_tie","_law_one","_law_other","_law_sides","_law_room","_law_side"]
noncomputable def jUr:TS3:=
 (tSeq (tAsg (jKp [false,false,false,false,false,false,false,false,true,false] (jKc (jJa (tVar 2) tNil)) (jJg 8) jK2 (tLst tNil)) (jJg 3))
 (tSeq (tFor (jY6 (jJa (tVar 1) tNil)) (gTup 2 (jJx (jJg 4) (jJx (gTup 2 (jJx (jJg 5) (jJx (jJg 6) gNil))) gNil))) (tSeq (tAsg (tIf (jJ1 (tOp rEqA (tVar 6) (tVar 2))) (tLst (jJa (tTup (jJa (tVar 5) (jJa (tC (.int 2)) tNil))) tNil)) (tLst (jJa (tTup (jJa (tVar 5) (jJa (tC (.int 0)) tNil))) (jJa (tTup (jJa (tVar 6) (jJa (tC (.int 1)) tNil))) tNil)))) (jJg 7))
 (tFor (iSeq (tVar 7)) (gTup 2 (jJx (jJg 8) (jJx (jJg 9) gNil))) (jUi (tBM "list" kJk (tOp rIxF (tVar 3) (tVar 8)) (jJa (jJo jJi (jJa (tVar 0) (jJa (tOp jJt (tCB rLen (jJa (tOp rIxF (tVar 3) (tVar 8)) tNil)) (tC (.int 1))) tNil))) (jJa (tTup (jJa (tVar 4) (jJa (tVar 9) tNil))) tNil)))))))
 (tRet (jJo jXo (jJa (tVar 3) tNil)))))
theorem jUn:rngT 0 n=(List.range n).map fun (k:Nat)=>T.int k:=by simp[rngT]
theorem jZg:RdOk jUq jUr kUm:=by
 intro xs G Q h_;apply xe5 h_;clear h_;intro b pr P n m h_;apply ae8 h_;clear h_;intro hb hm hpb hpr hP hn hPl kk
 show jUr _ [some (.ref b),some (.ref pr),some (.int n),none,none,none,none,none,none,none] G
 have hs:=sz
 wp_walk using 1,jUr,jJ2,jKc,jY6
 refine⟨by omega,by omega,?_⟩
 rw[show ((n:Int)).toNat=n by omega,jUn]
 refine kK2 (fun _=>[]) (by simp;omega) (fun _ _=>trivial) ?_ ?_
 ·intro i e he G' K K0 s hk
  wp_walk using 1,tSeq
  exact⟨lJ9 _,fun p hp=>hk p _ hp jJh (.new hp)⟩
 ·intro D rs G1 hD hD1 s1 hrl hnd hrs
  rw[lK6] at hrl
  obtain⟨bo,hbo⟩:=hb.some
  have hbn:b∉D::rs:=by
   intro z
   rw[lJy] at z
   rcases z with rfl | z
   ·rw[hD] at hbo;cases hbo
   ·obtain⟨j,hj⟩:=lJ7 z
    have hjl:j<rs.length:=(lJg.mp hj).1
    have:=(hrs j b j hj (by rw[lQv (by omega)])).1
    rw[this] at hbo;cases hbo
  have hfr:∀r,r∈D::rs->G r=none:=by
   intro r z
   rw[lJy] at z
   rcases z with rfl | z
   ·exact hD
   ·obtain⟨j,hj⟩:=lJ7 z
    have hjl:j<rs.length:=(lJg.mp hj).1
    exact (hrs j r j hj (by rw[lQv (by omega)])).1
  refine⟨P.map encE,by simp only[jUx,s1 _ _ hpr,asL],?_⟩
  refine⟨fun k τ G'=>∃(v4 v5 v6 v7 v8 v9:Option T) (Hs:Web),τ=[some (.ref b),some (.ref pr),some (.int n),some (.ref D),v4,v5,v6,v7,v8,v9]/\HalfL (hvs P n k) n Hs/\RowsAt G' D Hs rs/\BoxAt G' b (m+2*k)/\Keep b G G',?_,?_,?_,?_⟩
  ·refine⟨none,none,none,none,none,none,List.replicate n [],rfl,⟨by simp,?_⟩,⟨hD1,by simp[hrl],?_⟩,hb.sub s1,.sub s1⟩
   ·intro r hs' h
    have:hs'=[]:=by rw[lX1] at h;split at h;cases h;rfl;cases h
    subst this;simp[hvs]
   ·intro i r h
    have hi:i<n:=by rw[<-hrl];exact (lJg.mp h).1
    exact⟨[],by simp[hi],(hrs i r i h (by simp[hi])).2⟩
  ·intro k τ G' hk h_;apply xe7 h_;clear h_;intro v4 v5 v6 v7 v8 v9 Hs h_;apply ae4 h_;clear h_;intro h1 h2 h3 h4
   simp only[jUx,h4 _ _ hpb hpr,asL]
  ·intro k x τ G2 hx h_;apply xe7 h_;clear h_;intro v4 v5 v6 v7 v8 v9 Hs h_;apply ae4 h_;clear h_;intro h1 h2 h3 h4
   have hk:k<P.length:=by have:=(lJg.mp hx).1;simpa[jZx] using this
   rw[jXa (x:=encE P[k]) (by simp[hk])] at hx
   cases hx
   generalize hpk:P[k]=p
   have hpe:P[k]? =some p:=by rw[lJi hk,hpk]
   obtain⟨a,c⟩:=p
   obtain⟨ha,hc⟩:=hP _ (lJt hpe)
   have ha:a<n:=ha
   have hc:c<=n:=hc
   wp_walk using 1,encE,rEqA,iSeq,jJ2
   rw[show eqG G2 (T.int (c:Int)) (T.int (n:Int))=some (decide ((c:Int)=n)) from rfl]
   have hL:=kQ5 (P:=P) (n:=n) k
   refine⟨_,rfl,?_⟩
   have fresh:∀p,G2 p=none->p∉D::rs/\p≠b:=by
    intro p hp
    refine⟨fun z=> ?_,?_⟩
    ·rw[lJy] at z
     rcases z with rfl | z
     ·rw[h2.1] at hp;cases hp
     ·obtain⟨j,hj⟩:=lJ7 z
      obtain⟨_,_,q⟩:=h2.2.2 j p hj
      rw[q] at hp;cases hp
    ·rintro rfl
     obtain⟨o,ho⟩:=h3.some
     rw[ho] at hp;cases hp
   by_cases hcn:c=n
   ·rw[lJb (by simp[hcn])]
    refine⟨by omega,by omega,fun p hp=> ?_⟩
    obtain⟨f1,f2⟩:=fresh p hp
    refine kJ1 (S:=[(a,2)]) h1 (h2.sub (.new hp)) (h3.gup f2.symm) (h4.over (h4.none f2 hp)) hnd hbn hfr jJh f1 f2 (by simp[ha]) (by simp;omega) (by simp;omega) ?_
    intro G' Hs' v8 v9 i1 i2 i3 i4
    refine⟨_,_,_,_,_,_,rfl,Hs',?_,i2,i3.mono (by simp;omega),i4⟩
    rw[jU7 hpe];unfold hv;rw[lJb hcn];exact i1
   ·rw[lJa (by simp;omega)]
    refine⟨by omega,by omega,by omega,fun p hp=> ?_⟩
    obtain⟨f1,f2⟩:=fresh p hp
    refine kJ1 (S:=[(a,0),(c,1)]) h1 (h2.sub (.new hp)) (h3.gup f2.symm) (h4.over (h4.none f2 hp)) hnd hbn hfr jJh f1 f2 (by simp;omega) (by simp;omega) (by simp;omega) ?_
    intro G' Hs' v8 v9 i1 i2 i3 i4
    refine⟨_,_,_,_,_,_,rfl,Hs',?_,i2,i3.mono (by simp;omega),i4⟩
    rw[jU7 hpe];unfold hv;rw[lJa hcn];exact i1
  ·intro τ G' h_;apply xe7 h_;clear h_;intro v4 v5 v6 v7 v8 v9 Hs h_;apply ae4 h_;clear h_;intro h1 h2 h3 h4
   rw[jZx,lJe] at h1 h3
   wp_walk using 1,tSeq
   have ok:=h1.ok hP hn hPl
   refine⟨D,Hs,rs,rfl,h2,ok,fun G3 W s3 J=> ?_⟩
   exact kk W G3 (qZw h1 hP ok J) (h3.sub s3) (h4.trans (.sub s3))
noncomputable def dgr (P:List (Nat×Nat))(n r:Nat):Nat:=((hvs P n P.length).filter fun x=>x.1 == r).length
noncomputable def jQz (n:Nat)(p:Nat×Nat):List Nat:=if p.2=n then [p.1] else [p.1,p.2]
theorem qQu {P Q:List (Nat×Nat)} {n:Nat}:∀k,k<=P.length->hvs (P++Q) n k=hvs P n k
 | 0,_=>rfl
 | k+1,h=>by
  have e:P[k]? =some P[k]:=lJi (by omega)
  rw[jU7 e,jU7 (p:=P[k]) (by rw[lKy (by omega)];exact e),qQu k (by omega)]
theorem qXf {p:Nat×Nat}:hvs (P++[p]) n (P++[p]).length=hvs P n P.length++hv n P.length p:=by
 rw[lJv,lX3,jU7 (p:=p) (by simp),qQu _ (lJj _)]
theorem hv_cnt {t:Nat}{p:Nat×Nat}:((hv n t p).filter fun x=>x.1 == r).length=(jQz n p).count r:=by
 unfold hv jQz
 split
 ·by_cases h:p.1=r<;>simp[h]
 ·by_cases h:p.1=r<;>by_cases h':p.2=r<;>simp[h,h',lXe]
theorem jZ3 {p:Nat×Nat}:dgr (P++[p]) n r=dgr P n r+(jQz n p).count r:=by
 unfold dgr
 rw[qXf,List.filter_append,lJv,hv_cnt]
theorem qXh {L:List (Nat×Nat×Nat)}{k:Nat}:(L.filter fun x=>decide (x.1<k+1)).length=(L.filter fun x=>decide (x.1<k)).length+(L.filter fun x=>x.1 == k).length:=by
 induction L with
 | nil=>rfl
 | cons a as ih=>
  rw[lXe,lXe,lXe]
  rcases Nat.lt_trichotomy a.1 k with h | h | h
  ·have h1:a.1<k+1:=by omega
   have h2:¬ a.1=k:=by omega
   simp[h,h1,h2,ih];omega
  ·have h1:a.1<k+1:=by omega
   simp[h,ih];omega
  ·have h1:¬ a.1<k+1:=by omega
   have h2:¬ a.1=k:=by omega
   have h3:¬ a.1<k:=by omega
   simp[h1,h2,h3,ih]
theorem qYi {L:List (Nat×Nat×Nat)} {d:Nat}:∀k,(∀r,r<k->d<=(L.filter fun x=>x.1 == r).length)->k*d<=(L.filter fun x=>decide (x.1<k)).length
 | 0,_=>by simp
 | k+1,h=>by
  rw[qXh,lVg]
  have h1:=qYi k fun r hr=>h r (by omega)
  have h2:=h k (by omega)
  omega
theorem qQz {d k:Nat}(hd:2<=d)(hk:P.length<k):∃r,r<k/\dgr P n r<d:=by
 apply lXz
 intro h
 have h1:∀r,r<k->d<=((hvs P n P.length).filter fun x=>x.1 == r).length:=fun r hr=>by
  rcases lQg (dgr P n r) d with z | z
  ·exact absurd ⟨r,hr,z⟩ h
  ·exact z
 have h2:=qYi k h1
 have h3:=lXd (fun x:Nat×Nat×Nat=>decide (x.1<k)) (hvs P n P.length)
 have h4:=kQ5 (P:=P) (n:=n) P.length
 have h5:k*2<=k*d:=Nat.mul_le_mul_left k hd
 omega
theorem qXq {k:Nat}(h:∀p,p∈P->p.1<k/\p.2<k)(hr:k<=r):dgr P n r=0:=by
 unfold dgr
 rw[lQk,List.filter_eq_nil_iff]
 rintro⟨a,t,s⟩ hx
 obtain⟨p,h1,h2,h3⟩:=kJv hx
 have h4:=h p (lJt h1)
 have h5:=(kK1 h3).2.2
 simp
 omega
noncomputable def jUd (n:Nat)(f:Nat->Nat):List T:=(List.range n).map fun r=>T.int (f r)
variable {f:Nat->Nat}
theorem kK8 (h:r<n):L2.atI (jUd n f) (r:Int)=some (.int (f r)):=by rw[atN];simp[jUd,h]
theorem qJz:(jUd n f).length=n:=by simp[jUd]
theorem qJy {v:Nat}:(jUd n f).set r (.int v)=jUd n fun x=>if x=r then v else f x:=by
 apply lK2
 intro i
 by_cases hi:i=r
 ·subst hi
  by_cases h:i<n
  ·rw[lKx (by simpa[jUd] using h)];simp[jUd,h]
  ·rw[lJ3 (by simp[jUd];omega),lJ3 (by simp[jUd];omega)]
 ·rw[lKt (Ne.symm hi)]
  by_cases h:i<n
  ·simp[jUd,h,hi]
  ·rw[lJ3 (by simp[jUd];omega),lJ3 (by simp[jUd];omega)]
variable {u:Addr}
theorem bump {es:List Nat}{stay:Gp->Prop}{w0 w1 w4 w7 w10 w11:Option T}(hu:G2 u=some (.lst (jUd n f)))(hst:∀G',(∀c,c≠u->G' c=G2 c)->stay G')(hes:∀e,e∈es->e<n)(kk:∀G' v7,G' u=some (.lst (jUd n fun r=>f r+es.count r))->(∀c,c≠u->G' c=G2 c)->E.nx [w0,w1,w2,some (.ref u),w4,w5,w6,v7,w8,w9,w10,w11] G'):
  uJ9 (jJg 7) (tAsg (tOp jJt (tOp rIxF (tVar 3) (tVar 7)) (tC (.int 1))) (gSub (tVar 3) (tVar 7) jUu)) E [w0,w1,w2,some (.ref u),w4,w5,w6,w7,w8,w9,w10,w11] (es.map fun e=>T.int (e:Nat)) stay G2:=by
 refine⟨fun j τ G'=>∃v7,τ=[w0,w1,w2,some (.ref u),w4,w5,w6,v7,w8,w9,w10,w11]/\G' u=some (.lst (jUd n fun r=>f r+(es.take j).count r))/\(∀c,c≠u->G' c=G2 c),?_,?_,?_,?_⟩
 ·exact⟨w7,rfl,by simpa using hu,fun _ _=>rfl⟩
 ·intro j τ G' hj h_;apply xe1 h_;clear h_;intro v7 h_;apply ae2 h_;clear h_;intro h1 h2
  exact hst G' h2
 ·intro j x τ G' hx0 h_;apply xe1 h_;clear h_;intro v7 h_;apply ae2 h_;clear h_;intro h1 h2
  obtain⟨e,hx,rfl⟩:=jKz hx0
  have he:=hes e (lJt hx)
  have hix:L2.ixN (jUd n fun r=>f r+(es.take j).count r).length (e:Int)=some e:=kQ4 (by rw[qJz];exact he)
  wp_walk using 1,jJ6 h1,kK8 he,jX5 h1 hix
  refine⟨?_,fun c hc=>by rw[jJs hc];exact h2 c hc⟩
  rw[show T.int (((f e+(es.take j).count e:Nat):Int)+1)=T.int ((f e+(es.take j).count e+1:Nat):Int) by simp,qJy]
  congr 1
  funext r
  rw[lKz,hx,Option.toList_some,List.count_append]
  by_cases hr:r=e
  ·subst hr;simp;omega
  ·have:¬ e=r:=fun z=>hr z.symm
   simp[hr,this]
 ·intro τ G' h_;apply xe1 h_;clear h_;intro v7 h_;apply ae2 h_;clear h_;intro h1 h2
  rw[lJe,lQl] at h1
  exact kk G' v7 h1 h2
structure WebOk (n d:Nat) (W:Web):Prop where
 len:W.length=n
 sym:Sym W
 deg:∀(r:Nat) (es:List (Nat×Nat)),W[r]? =some es->es.length<=d
 low:∀r,1<=r->r<n->∃i a j,en W r i=some (a,j)/\a<r
structure POk (P:List (Nat×Nat)) (n d k:Nat):Prop where
 ok:kUl P n
 deg:∀r,r<n->dgr P n r<=d
 low:∀r,1<=r->r<k->∃p,p∈P/\p.2=r/\p.1<r
theorem POk.web {d:Nat}{W:Web}(h:POk P n d n)(m:Made P n W):WebOk n d W where
 len:=m.len
 sym:=m.sym
 deg:=fun r es hr=>by
  rw[m.deg r es hr];exact h.deg r (by rw[<-m.len];exact (lJg.mp hr).1)
 low:=fun r h1 h2=>by
  obtain⟨p,q1,q2,q3⟩:=h.low r h1 h2
  obtain⟨i,j,q4⟩:=m.tie p q1 (by omega)
  have:=m.sym _ _ _ _ q4
  rw[q2] at this
  exact⟨j,p.1,i,this,q3⟩
noncomputable def jX0:Sp3:=fun xs G Q=>∃(b:Addr) (n d m:Nat),xs=[.ref b,.int n,.int d]/\BoxAt G b m/\m+300<2^40/\1<=n/\n<=24/\2<=d/\d<=100/\∀W G',WebOk n d W->BoxAt G' b (m+300)->Keep b G G'->Q (encW W) G'
noncomputable def uJ4:List Str:=["_law_box_here","_law_many","_law_most","_law_used","_law_pairs","_law_room","_law_free","_law_end","_law_turn_here","_law_pair","_law_ends_here","_law_one"]
noncomputable def kQp:TS3:=
 (tSeq (tAsg (tOp jVh (tLst (jJa (tC (.int 0)) tNil)) (tVar 1)) (jJg 3))
 (tSeq (tAsg (tLst tNil) (jJg 4))
 (tSeq (tFor (uJh (jJa (tC (.int 1)) (jJa (tVar 1) tNil))) (jJg 5) (tSeq (tAsg (jKp [false,false,false,false,false,false,false,false,false,false,false,true] (jKc (jJa (tVar 5) tNil)) (jJg 11) (jJ1 (tOp rLt (tOp rIxF (tVar 3) (tVar 11)) (tVar 2))) (tVar 11)) (jJg 6))
 (tSeq (jUi (tBM "list" jK3 (tVar 4) (jJa (tTup (jJa (tOp rIxF (tVar 6) (jJo jJi (jJa (tVar 0) (jJa (tCB rLen (jJa (tVar 6) tNil)) tNil)))) (jJa (tVar 5) tNil))) tNil)))
 (tFor (iSeq (tOp rIxF (tVar 4) (tUn rNeg (tC (.int 1))))) (jJg 7) (tAsg (tOp jJt (tOp rIxF (tVar 3) (tVar 7)) (tC (.int 1))) (gSub (tVar 3) (tVar 7) jUu))))))
 (tSeq (tFor (jKc (jJa (jJo jJi (jJa (tVar 0) (jJa (tOp jJt (tVar 1) (tC (.int 2))) tNil))) tNil)) (jJg 8) (tSeq (tAsg (tTup (jJa (jJo jJi (jJa (tVar 0) (jJa (tVar 1) tNil))) (jJa (jJo jJi (jJa (tVar 0) (jJa (tOp jJt (tVar 1) (tC (.int 1))) tNil))) tNil))) (jJg 9))
 (tSeq (tAsg (jKp [false,false,false,false,false,false,false,true,false,false,false,false] (iSeq (tVar 9)) (jJg 7) (jJ1 (tOp rLt (tVar 7) (tVar 1))) (tVar 7)) (jJg 10))
 (tIfS (jJ1 (tCB rAll (jJa (jKp [false,false,false,false,false,false,false,true,false,false,false,false] (iSeq (tVar 10)) (jJg 7) jK2 (tOp rLeF (tOp jJt (tOp rIxF (tVar 3) (tVar 7)) (tBM "list" qKw (tVar 10) (jJa (tVar 7) tNil))) (tVar 2))) tNil))) (tSeq (jUi (tBM "list" jK3 (tVar 4) (jJa (tVar 9) tNil)))
 (tFor (iSeq (tVar 10)) (jJg 7) (tAsg (tOp jJt (tOp rIxF (tVar 3) (tVar 7)) (tC (.int 1))) (gSub (tVar 3) (tVar 7) jUu)))) jKl))))
 (tRet (jJo jUq (jJa (tVar 0) (jJa (tVar 4) (jJa (tVar 1) tNil)))))))))
theorem qVg:(List.replicate n [T.int 0]).flatten=jUd n fun _=>0:=by
 have:(List.replicate n [T.int 0]).flatten=List.replicate n (T.int 0):=by
  induction n with
  | zero=>rfl
  | succ n ih=>rw[lQi,lQ7,ih];rfl
 rw[this]
 apply lK2
 intro i
 by_cases h:i<n
 ·simp[jUd,h]
 ·rw[lJ3 (by simp;omega),lJ3 (by simp[jUd];omega)]
theorem qKd {lo:Nat}:rngT lo n=(List.range n).map fun (k:Nat)=>T.int ((lo+k:Nat):Int):=by simp[rngT]
theorem uJv {es:List Nat}:(es.map fun e=>T.int (e:Nat)).countP (fun z=>eqT z (.int r))=es.count r:=by
 rw[List.countP_map,List.count]
 congr 1
 funext e
 simp only[eqT,Function.comp]
 by_cases h:e=r
 ·subst h;simp
 ·have h2:¬ (e:Int)=r:=by omega
  rw[beq_eq_false_iff_ne.mpr h,beq_eq_false_iff_ne.mpr h2]
theorem kVg {es:List Nat}:(es.map fun e=>T.int (e:Nat)).all jYl=true:=by
 rw[List.all_map,lQc];intros;rfl
theorem jV5 {α:Type} {f:α->Bool}:∀ {es:List α},kX4 (es.map fun e=>T.bl (f e))=some (es.all f)
 | []=>rfl
 | e::es=>by rw[lJ6,kX4,jV5,lKv]
theorem kZ2:RdOk jX0 kQp uJ4:=by
 intro xs G Q h_;apply xe4 h_;clear h_;intro b n d m h_;apply ae7 h_;clear h_;intro hb hm hn1 hn2 hd1 hd2 kk
 show kQp _ [some (.ref b),some (.int n),some (.int d),none,none,none,none,none,none,none,none,none] G
 have hs:=sz
 wp_walk using 1,kQp,jJ2,jKc,uJh
 refine⟨by omega,fun z hz=> ?_⟩
 have e1:mulR (gup G z (GO.lst [T.int 0])) (.ref z) (.int n)=some (.newL (jUd n fun _=>0)):=by
  rw[<-qVg]
  simp only[mulR,jJh];rw[lJb];congr;refine⟨?_,?_,?_⟩<;>simp<;>omega
 wp_walk using 1,e1
 intro u hu
 obtain⟨huz,hu0⟩:=jK7 hu
 refine⟨lJ9 _,fun pr hpr=> ?_⟩
 obtain⟨hpu,hpr1⟩:=jK7 hpr
 obtain⟨hpz,hpr0⟩:=jK7 hpr1
 obtain⟨bo,hbo⟩:=hb.some
 have hbu:=jJe hbo hu0
 have hbp:=jJe hbo hpr0
 have hbz:=jJe hbo hz
 refine⟨by omega,by omega,by omega,by omega,?_⟩
 rw[show ((n:Int)-1).toNat=n-1 by omega,show rngT 1 (n-1)=rngT ((1:Nat):Int) (n-1) from rfl,qKd]
 let J1:Nat->St3->Gp->Prop:=fun k τ G'=>∃(v5 v6 v7:Option T) (P:List (Nat×Nat)),τ=[some (.ref b),some (.int n),some (.int d),some (.ref u),some (.ref pr),v5,v6,v7,none,none,none,none]/\P.length=k/\POk P n d (k+1)/\(∀p,p∈P->p.1<k+1/\p.2<k+1)/\G' u=some (.lst (jUd n (dgr P n)))/\G' pr=some (.lst (P.map encE))/\BoxAt G' b (m+k)/\Keep b G G'
 refine⟨J1,?_,?_,?_,?_⟩
 ·refine xi4 none none none [] rfl ⟨rfl,⟨by intro p h;simp at h,fun r _=>by simp[dgr,hvs],fun r h1 h2=>by omega⟩,by intro p h;simp at h,by rw[jJs hpu.symm,jJh];rfl,jJh,((hb.gup hbz).gup hbu).gup hbp,(((Keep.new hz).over hu0).over hpr0)⟩
 ·intros;trivial
 ·intro k x τ G1 hx0 h_;apply xe4 h_;clear h_;intro v5 v6 v7 P h_;apply ae7 h_;clear h_;intro hPl hP hlt hgu hgp hbx hkp
  obtain⟨e,hx,rfl⟩:=jKz hx0
  obtain⟨hk,rfl⟩:k<n-1/\k=e:=by
   rw[lJg] at hx;obtain⟨q1,q2⟩:=hx;simp at q1 q2;exact⟨q1,q2⟩
  wp_walk using 1,iSeq,jKc,jJ2
  refine⟨by omega,by omega,?_⟩
  rw[show (((1+k:Nat)):Int).toNat=1+k by omega,jUn]
  refine jYm (fun r=>if dgr P n r<d then some (T.int (r:Nat)) else none) (by simp;omega) (fun _ _=>trivial) ?_ ?_
  ·intro i r hr G2 K K0 s2 hK hK0
   obtain⟨hr1,rfl⟩:i<1+k/\i=r:=by
    rw[lJg] at hr;obtain⟨q1,q2⟩:=hr;simp at q1 q2;exact⟨q1,q2⟩
   wp_walk using 1,jJ6 (s2 _ _ hgu),kK8 (show i<n by omega)
   by_cases hdg:dgr P n i<d
   ·rw[lJb (by omega)]
    exact hK _ _ (by rw[lJb hdg]) (.refl _)
   ·rw[lJa (by omega)]
    exact hK0 (by rw[lJa hdg]) _ (.refl _)
  ·intro fr G2 hfr hfr2 s2
   obtain⟨F,hF1,hF2⟩:∃F:List Nat,(List.range (1+k)).filterMap (fun r=>if dgr P n r<d then some (T.int (r:Nat)) else none)=F.map (fun r=>T.int (r:Nat))/\F=(List.range (1+k)).filter fun r=>decide (dgr P n r<d):=by
    refine⟨_,?_,rfl⟩
    generalize List.range (1+k)=l
    induction l with
    | nil=>rfl
    | cons a as ih=>
     rw[lXi,lXe]
     by_cases h:dgr P n a<d<;>simp[h,ih]
   rw[hF1] at hfr2
   have hFl:F.length<=1+k:=by rw[hF2];have:=lXd (fun r=>decide (dgr P n r<d)) (List.range (1+k));rw[lK6] at this;exact this
   have hF0:1<=F.length:=by
    obtain⟨r,q1,q2⟩:=qQz (P:=P) (n:=n) (d:=d) (k:=1+k) hd1 (by omega)
    have:r∈F:=by rw[hF2,lVn];exact⟨lQs.mpr q1,by simpa using q2⟩
    exact List.length_pos_of_mem this
   have hgp2:=s2 _ _ hgp
   wp_walk using 1,jK1 hgp2,jJm hfr2,List.length_map
   refine⟨b,_,m+k,rfl,hbx.sub s2,by omega,by omega,by omega,fun c G3 c0 c1 bx kp=> ?_⟩
   have hfb:fr≠b:=by rintro rfl;obtain⟨o,ho⟩:=hbx.some;rw[ho] at hfr;cases hfr
   have hcF:c.toNat<F.length:=by omega
   have hca:L2.atI (F.map fun r=>T.int (r:Nat)) c=some (.int (F[c.toNat]:Nat)):=by rw[atZ c0];simp[hcF]
   have hmem:F[c.toNat]∈F:=lVk hcF
   generalize F[c.toNat]=a at hca hmem
   rw[hF2,lVn] at hmem
   have ha1:a<1+k:=lQs.mp hmem.1
   have ha2:dgr P n a<d:=by simpa using hmem.2
   have hgp3:=kp _ _ hbp.symm hgp2
   have hgu3:=kp _ _ hbu.symm (s2 _ _ hgu)
   wp_walk using 1,jJ6 (kp _ _ hfb hfr2),hca,hgp3
   refine⟨by omega,by simp;omega,_,uJ0,[T.int (a:Nat),T.int ((1+k:Nat):Int)],rfl,?_⟩
   have hne:u≠pr:=hpu.symm
   have hE:jQz n (a,1+k)=[a,1+k]:=by unfold jQz;rw[lJa (show ¬ (1+k)=n by omega)]
   refine bump (es:=[a,1+k]) (n:=n) (f:=dgr P n) (by rw[jJs hne];exact hgu3) (fun _ _=>rfl) (by simp;omega) ?_
   intro G4 v7 hu4 hk4
   have hlt':∀p,p∈P++[(a,1+k)]->p.1<k+1+1/\p.2<k+1+1:=by
    intro p hp
    rw[lJm,lJn] at hp
    rcases hp with hp | rfl
    ·have:=hlt p hp;omega
    ·exact⟨by show a<_;omega,by show 1+k<_;omega⟩
   refine xi4 _ _ _ (P++[(a,1+k)]) rfl ⟨by simp[hPl],⟨?_,?_,?_⟩,hlt',?_,?_,?_,?_⟩
   ·intro p hp
    have:=hlt' p hp;omega
   ·intro r hr
    rw[jZ3,hE]
    have h0:=hP.deg r hr
    have hz1:=qXq (n:=n) (r:=1+k) hlt (by omega)
    by_cases h1:r=a
    ·subst h1
     have:¬ 1+k=r:=by omega
     simp[this];omega
    ·have h1':¬ a=r:=fun z=>h1 z.symm
     by_cases h2:1+k=r
     ·subst h2;simp[h1'];omega
     ·simp[h1',h2];omega
   ·intro r h1 h2
    by_cases h3:r<k+1
    ·obtain⟨p,q1,q2⟩:=hP.low r h1 h3
     exact⟨p,lKh _ q1,q2⟩
    ·exact⟨(a,1+k),by simp,by show 1+k=r;omega,by show a<r;omega⟩
   ·rw[hu4,show (fun r=>dgr P n r+List.count r [a,1+k])=dgr (P++[(a,1+k)]) n from funext fun r=>by rw[jZ3,hE]]
   ·rw[hk4 pr hpu,jJh];simp[encE]
   ·obtain⟨x,y,w,z1,z2⟩:=bx
    exact⟨x,y,w,by rw[hk4 b hbu,jJs hbp];exact z1,z2⟩
   ·intro c o hc he
    have hcu:=jJe he hu0
    have hcp:=jJe he hpr0
    rw[hk4 c hcu,jJs hcp]
    exact kp _ _ hc (s2 _ _ (hkp _ _ hc he))
 ·intro τ G1 h_;apply xe4 h_;clear h_;intro v5 v6 v7 P h_;apply ae7 h_;clear h_;intro hPl hP hlt hgu hgp hbx hkp
  rw[lJe,lK6] at hPl hP hbx
  rw[show n-1+1=n by omega] at hP
  wp_walk using 1,jJ2,jKc
  refine⟨b,_,m+(n-1),rfl,hbx,by omega,by omega,by omega,fun q G2 q0 q1 bx kp=> ?_⟩
  refine⟨q,rfl,by omega,by omega,?_⟩
  let J2:Nat->St3->Gp->Prop:=fun k τ G'=>∃(v7 v8 v9 v10 v11:Option T) (P:List (Nat×Nat)),τ=[some (.ref b),some (.int n),some (.int d),some (.ref u),some (.ref pr),v5,v6,v7,v8,v9,v10,v11]/\P.length<=n+k/\POk P n d n/\G' u=some (.lst (jUd n (dgr P n)))/\G' pr=some (.lst (P.map encE))/\BoxAt G' b (m+n+2*k)/\Keep b G G'
  refine⟨J2,?_,?_,?_,?_⟩
  ·exact xi6 _ _ _ _ _ P rfl ⟨by omega,hP,kp _ _ hbu.symm hgu,kp _ _ hbp.symm hgp,bx.mono (by omega),hkp.trans kp⟩
  ·intros;trivial
  ·intro k x τ G3 hx0 h_;apply xe6 h_;clear h_;intro v7 v8 v9 v10 v11 P h_;apply ae6 h_;clear h_;intro hPl hP hgu hgp hbx hkp
   have hk:k<q.toNat:=by have:=(lJg.mp hx0).1;rw[jJ9] at this;exact this
   wp_walk using 1,jJ2,iSeq
   refine⟨b,_,_,rfl,hbx,by omega,by omega,by omega,fun c G4 c0 c1 bx4 kp4=> ?_⟩
   refine⟨b,_,_,rfl,bx4,by omega,by omega,by omega,fun e G5 e0 e1 bx5 kp5=> ?_⟩
   obtain⟨a,rfl⟩:=lKj c0
   obtain⟨y,rfl⟩:=lKj e0
   have ha:a<n:=by omega
   have hy:y<=n:=by omega
   have kp35:=kp4.trans kp5
   have hgu5:=kp35 _ _ hbu.symm hgu
   have hgp5:=kp35 _ _ hbp.symm hgp
   refine⟨by omega,?_⟩
   have hEn:∀e',e'∈jQz n (a,y)->e'<n:=by
    intro e' he'
    unfold jQz at he'
    split at he'<;>simp at he'<;>simp at * <;>omega
   have hEl:(jQz n (a,y)).length<=2:=by unfold jQz;split<;>simp
   refine jYm (es:=[a,y]) (enc:=fun r:Nat=>T.int r) (fun r=>if r<n then some (T.int (r:Nat)) else none) (by simp;omega) (fun _ _=>trivial) ?_ ?_
   ·intro i r hr G6 K K0 s6 hK hK0
    wp_walk using 1,tSeq
    by_cases hrn:r<n
    ·rw[lJb (by omega)]
     exact hK _ _ (by rw[lJb hrn]) (.refl _)
    ·rw[lJa (by omega)]
     exact hK0 (by rw[lJa hrn]) _ (.refl _)
   ·intro en G6 hen hen6 s6
    have hEE:List.filterMap (fun r=>if r<n then some (T.int (r:Nat)) else none) [a,y]=(jQz n (a,y)).map fun r=>T.int (r:Nat):=by
     unfold jQz
     by_cases hyn:y=n
     ·simp[ha,hyn]
     ·have:y<n:=by omega
      simp[ha,hyn,this]
    rw[hEE] at hen6
    refine⟨_,jJm hen6,?_⟩
    refine jKm (fun r=>T.bl (decide (dgr P n r+(jQz n (a,y)).count r<=d))) (by omega) (fun G' s=>jJm (s _ _ hen6)) ?_ ?_
    ·intro i r hr G7 K K0 s7 hK
     have hrn:=hEn r (lJt hr)
     wp_walk using 1,jJ6 (s7 _ _ (s6 _ _ hgu5)),kK8 hrn,jK1 (s7 _ _ hen6),qKw,s7 _ _ hen6,rLeF
     refine⟨rfl,kVg,?_⟩
     rw[uJv,show decide (((dgr P n r:Nat):Int)+((jQz n (a,y)).count r:Nat)<=(d:Nat))=decide (dgr P n r+(jQz n (a,y)).count r<=d) from decide_eq_decide.mpr (by omega)]
     exact hK _ (.refl _)
    ·intro al G7 hal hal7 s7
     refine⟨al,_,_,rfl,hal7,jV5,_,rfl,?_⟩
     have s57:=s6.trans s7
     have hgp7:=s57 _ _ hgp5
     have hgu7:=s57 _ _ hgu5
     have henp:en≠pr:=(jJe hgp5 hen).symm
     have henu:en≠u:=(jJe hgu5 hen).symm
     have hkp7:Keep b G G7:=(hkp.trans kp35).trans (.sub s57)
     split
     ·rename_i hall
      rw[lQc] at hall
      refine⟨by rw[jK1 hgp7];trivial,_,hgp7,by simp;omega,_,jJm (by rw[jJs henp];exact s7 _ _ hen6),?_⟩
      refine bump (es:=jQz n (a,y)) (n:=n) (f:=dgr P n) (by rw[jJs hpu.symm];exact hgu7) (fun G' hG'=>jJm (by rw[hG' _ henu,jJs henp];exact s7 _ _ hen6)) hEn ?_
      intro G8 w7 hu8 hk8
      refine xi6 _ _ _ _ _ (P++[(a,y)]) rfl ⟨by simp;omega,⟨?_,?_,?_⟩,?_,?_,?_,?_⟩
      ·intro p hp
       rw[lJm,lJn] at hp
       rcases hp with hp | rfl
       ·exact hP.ok p hp
       ·exact⟨ha,hy⟩
      ·intro r hr
       rw[jZ3]
       by_cases hm:r∈jQz n (a,y)
       ·simpa using hall r hm
       ·rw[List.count_eq_zero_of_not_mem hm];exact hP.deg r hr
      ·intro r h1 h2
       obtain⟨p,q1,q2⟩:=hP.low r h1 h2
       exact⟨p,lKh _ q1,q2⟩
      ·rw[hu8,show (fun r=>dgr P n r+List.count r (jQz n (a,y)))=dgr (P++[(a,y)]) n from funext fun r=>by rw[jZ3]]
      ·rw[hk8 pr hpu,jJh];simp[encE]
      ·obtain⟨x1,y1,w,z1,z2⟩:=(bx5.sub s57).mono (show m+n+2*k+1+1<=m+n+2*(k+1) by omega)
       exact⟨x1,y1,w,by rw[hk8 b hbu,jJs hbp];exact z1,z2⟩
      ·intro c o hc he
       have hcu:=jJe he hu0
       have hcp:=jJe he hpr0
       rw[hk8 c hcu,jJs hcp]
       exact hkp7 _ _ hc he
     ·exact xi6 _ _ _ _ _ P rfl ⟨by omega,hP,hgu7,hgp7,(bx5.sub s57).mono (by omega),hkp7⟩
  ·intro τ G3 h_;apply xe6 h_;clear h_;intro v7 v8 v9 v10 v11 P h_;apply ae6 h_;clear h_;intro hPl hP hgu hgp hbx hkp
   rw[jJ9] at hPl hbx
   wp_walk using 1,tSeq
   refine⟨b,pr,P,n,_,rfl,hbx,by omega,hbp.symm,hgp,hP.ok,by omega,by omega,fun W G4 mw bx4 kp4=> ?_⟩
   exact kk W G4 (hP.web mw) (bx4.mono (by omega)) (hkp.trans kp4)
def Conn (W:Web):Prop:=∀S:Nat->Prop,S 0->(∀r i s j,S r->en W r i=some (s,j)->S s)->∀r,r<W.length->S r
theorem WebOk.conn {d:Nat}{W:Web}(h:WebOk n d W):Conn W:=by
 intro S h0 hst r
 induction r using Nat.strongRecOn with
 | ind r ih=>
  intro hr
  by_cases hz:r=0
  ·subst hz;exact h0
  ·obtain⟨i,a,j,q1,q2⟩:=h.low r (by omega) (by rw[<-h.len];exact hr)
   exact hst a j r i (ih a q2 (by omega)) (h.sym _ _ _ _ q1)
theorem kJz {W:Web}(h:en W r i=some e):r<W.length:=by
 obtain⟨es,h1,h2⟩:=jQi h
 exact (lJg.mp h1).1
noncomputable def ring (n:Nat):Web:=(List.range n).map fun r=>[((r+1)%n,1),((r+n-1)%n,0)]
theorem kZk (h:r<n):en (ring n) r 0=some ((r+1)%n,1):=jVi (es:=[((r+1)%n,1),((r+n-1)%n,0)]) (by simp[ring,h]) rfl
theorem kQ8 (h:r<n):en (ring n) r 1=some ((r+n-1)%n,0):=jVi (es:=[((r+1)%n,1),((r+n-1)%n,0)]) (by simp[ring,h]) rfl
theorem kQi:(ring n).length=n:=by simp[ring]
theorem qZc (hn:1<=n):WebOk n 2 (ring n) where
 len:=kQi
 sym:=by
  intro r i s j h
  have hr:r<n:=by have:=kJz h;rwa [kQi] at this
  have hi:i=0\/i=1:=by
   obtain⟨es,h1,h2⟩:=jQi h
   have:es=[((r+1)%n,1),((r+n-1)%n,0)]:=by simp[ring,hr] at h1;exact h1.symm
   subst this
   have:=(lJg.mp h2).1
   simp at this;omega
  rcases hi with rfl | rfl
  ·rw[kZk hr] at h;cases h
   rw[kQ8 (Nat.mod_lt _ (by omega))]
   congr 2
   by_cases hz:r+1=n
   ·rw[hz,Nat.mod_self];rw[lQn (by omega)];omega
   ·rw[lQn (show r+1<n by omega),show r+1+n-1=r+n by omega,Nat.add_mod_right,lQn hr]
  ·rw[kQ8 hr] at h;cases h
   rw[kZk (Nat.mod_lt _ (by omega))]
   congr 2
   by_cases hz:r=0
   ·subst hz;rw[lQn (show 0+n-1<n by omega),show 0+n-1+1=n by omega,Nat.mod_self]
   ·rw[show r+n-1=(r-1)+n by omega,Nat.add_mod_right,lQn (show r-1<n by omega),show r-1+1=r by omega,lQn hr]
 deg:=fun r es hr=>by
  have hrl:r<n:=by have:=(lJg.mp hr).1;rwa [kQi] at this
  simp[ring,hrl] at hr;rw[<-hr];simp
 low:=fun r h1 h2=>⟨1,r-1,0,by rw[kQ8 h2,show r+n-1=(r-1)+n by omega,Nat.add_mod_right,lQn (show r-1<n by omega)],by omega⟩
def jZ8:Sp3:=fun xs G Q=>∃n:Nat,xs=[.int n]/\1<=n/\n<=1000/\∀G',Sub G G'->Q (encW (ring n)) G'
noncomputable def qX1:List Str:=["_law_many","_law_room"]
noncomputable def kJg:TS3:=
 (tRet (tCB jKa (jJa (jKp [false,true] (jKc (jJa (tVar 0) tNil)) (jJg 1) jK2 (tTup (jJa (tTup (jJa (tOp rMod (tOp jJt (tVar 1) (tC (.int 1))) (tVar 0)) (jJa (tC (.int 1)) tNil))) (jJa (tTup (jJa (tOp rMod (tOp rSub (tVar 1) (tC (.int 1))) (tVar 0)) (jJa (tC (.int 0)) tNil))) tNil)))) tNil)))
theorem kXb:RdOk jZ8 kJg qX1:=by
 intro xs G Q h_;apply xe1 h_;clear h_;intro n h_;apply ae3 h_;clear h_;intro hn1 hn2 kk
 show kJg _ [some (.int n),none] G
 have hs:=sz
 wp_walk using 1,kJg,jKc
 refine⟨by omega,by omega,?_⟩
 rw[show ((n:Int)).toNat=n by omega,jUn]
 refine jKm (fun r=>encR [((r+1)%n,1),((r+n-1)%n,0)]) (by simp;omega) (fun _ _=>trivial) ?_ ?_
 ·intro i r hr G' K K0 s hk
  have hrn:r<n:=by
   rw[lJg] at hr;obtain⟨q1,q2⟩:=hr;simp at q1 q2;omega
  wp_walk using 1,tSeq
  have e1:((r:Int)+1)%(n:Int)=(((r+1)%n:Nat):Int):=by simp
  have e2:((r:Int)-1)%(n:Int)=(((r+n-1)%n:Nat):Int):=by
   rw[Int.natCast_emod,show ((r+n-1:Nat):Int)=(r:Int)-1+n by omega,Int.add_emod_right]
  rw[e1,e2]
  refine⟨by omega,by omega,by omega,by omega,by omega,?_⟩
  exact hk _ (.refl _)
 ·intro D G' hD h1 h2
  wp_walk using 1,jJm h1
  have:=kk G' h2
  rw[encW,ring,lJw] at this
  exact this
structure Fine (W:Web):Prop where
 len:W.length<=1000
 row:∀(r:Nat) (es:List (Nat×Nat)),W[r]? =some es->es.length<=1000
 rng:∀r i s j,en W r i=some (s,j)->s<W.length
theorem jUh {W:Web}(h:W[r]? =some es):L2.atI (W.map encR) (r:Int)=some (encR es):=by rw[atN];simp[h]
theorem uJn (h:es[i]? =some e):L2.atI (es.map encE) (i:Int)=some (encE e):=by rw[atN];simp[h]
theorem jX8 {k:Nat}(h:(rngT 0 n)[k]? =some x):k<n/\x= .int (k:Nat):=jQ9 h
noncomputable def leE (a b:Nat×Nat):Bool:=HT.lexLe [(a.1:Int),(a.2:Int)] [(b.1:Int),(b.2:Int)]
theorem leE_iff {a b:Nat×Nat}:leE a b=true↔(a.1<b.1\/(a.1=b.1/\a.2<=b.2)):=by
 unfold leE
 rw[HT.lexLe_cons,HT.lexLe_cons,HT.lexLe_nil]
 by_cases h1:a.1=b.1
 ·rw[lJb (by omega)]
  by_cases h2:a.2=b.2
  ·rw[lJb (by omega)];simp;omega
  ·rw[lJa (by omega)];simp;omega
 ·rw[lJa (by omega)];simp;omega
abbrev Tie:=(Nat×Nat)×(Nat×Nat)
noncomputable def encT (x:Tie):T:= .tup [encE x.1,encE x.2]
noncomputable def jZm (r:Nat)(es:List (Nat×Nat))(i:Nat):Option Tie:=match es[i]? with
 | some e=>if leE (r,i) e=true then some ((r,i),e) else none
 | none=>none
noncomputable def rowE (W:Web)(r:Nat):List Tie:=match W[r]? with
 | some es=>(List.range es.length).filterMap (jZm r es)
 | none=>[]
noncomputable def jK8 (W:Web):List Tie:=(List.range W.length).flatMap (rowE W)
theorem jXg {x:Tie}(h:jZm r es i=some x):x.1=(r,i)/\es[i]? =some x.2/\leE x.1 x.2=true:=by
 unfold jZm at h
 split at h
 ·rename_i e he
  split at h
  ·rename_i hl;cases h;exact⟨rfl,he,hl⟩
  ·cases h
 ·cases h
theorem endsL_mem {W:Web}{x:Tie}:x∈jK8 W↔en W x.1.1 x.1.2=some x.2/\leE x.1 x.2=true:=by
 obtain⟨⟨r,i⟩,e⟩:=x
 unfold jK8
 rw[List.mem_flatMap]
 constructor
 ·rintro⟨r',h1,h2⟩
  unfold rowE at h2
  split at h2
  ·rename_i es hes
   rw[lXj] at h2
   obtain⟨i',h3,h4⟩:=h2
   obtain⟨q1,q2,q3⟩:=jXg h4
   cases q1
   exact⟨jVi hes q2,q3⟩
  ·cases h2
 ·rintro⟨h1,h2⟩
  obtain⟨es,q1,q2⟩:=jQi h1
  refine⟨r,lQs.mpr (lJg.mp q1).1,?_⟩
  unfold rowE
  rw[q1]
  show _∈List.filterMap _ _
  rw[lXj]
  refine⟨i,lQs.mpr (lJg.mp q2).1,?_⟩
  have q2:es[i]? =some e:=q2
  unfold jZm
  rw[q2]
  show (if leE (r,i) e=true then _ else _)=_
  rw[lJb h2]
theorem pw_fm {α β:Type}{f:α->Option β}{R:β->β->Prop}{xs:List α}(hx:xs.Nodup)(h:∀a a' b b',a≠a'->f a=some b->f a'=some b'->R b b'):(xs.filterMap f).Pairwise R:=by
 rw[List.pairwise_filterMap]
 exact hx.imp fun hne b hb b' hb'=>h _ _ b b' hne hb hb'
theorem kXw {W:Web}:(jK8 W).Nodup:=by
 unfold jK8
 have h:∀l:List Nat,l.Nodup->(l.flatMap (rowE W)).Nodup:=by
  intro l hl
  induction l with
  | nil=>exact lXl
  | cons a as ih=>
   rw[lQb] at hl
   rw[List.flatMap_cons,lVp]
   refine⟨?_,ih hl.2,?_⟩
   ·unfold rowE
    split
    ·refine pw_fm List.nodup_range ?_
     rintro i i' x x' hne hx hx' rfl
     have q1:=(jXg hx).1
     have q2:=(jXg hx').1
     rw[q1] at q2;cases q2;exact hne rfl
    ·exact lXl
   ·intro x hx y hy
    rintro rfl
    rw[List.mem_flatMap] at hy
    obtain⟨a',h1,h2⟩:=hy
    have fst:∀r,x∈rowE W r->x.1.1=r:=by
     intro r hr
     unfold rowE at hr
     split at hr
     ·rw[lXj] at hr
      obtain⟨i,_,h4⟩:=hr
      rw[(jXg h4).1]
     ·cases hr
    have:a=a':=(fst a hx).symm.trans (fst a' h2)
    subst this;exact hl.1 h1
 exact h _ List.nodup_range
def jX3:Sp3:=fun xs G Q=>∃W:Web,xs=[encW W]/\Fine W/\∀p G',G p=none->G' p=some (.lst ((jK8 W).map encT))->(jK8 W).length<=1000000->Sub G G'->Q (.ref p) G'
noncomputable def qX3:List Str:=["_law_web_here","_law_found","_law_room","_law_door"]
noncomputable def kJi:TS3:=
 (tSeq (tAsg (tLst tNil) (jJg 1))
 (tSeq (tFor (jKc (jJa (tCB rLen (jJa (tVar 0) tNil)) tNil)) (jJg 2) (tFor (jKc (jJa (tCB rLen (jJa (tOp rIxF (tVar 0) (tVar 2)) tNil)) tNil)) (jJg 3) (tIfS (jJ1 (tOp rLeF (tTup (jJa (tVar 2) (jJa (tVar 3) tNil))) (tOp rIxF (tOp rIxF (tVar 0) (tVar 2)) (tVar 3)))) (jUi (tBM "list" jK3 (tVar 1) (jJa (tTup (jJa (tTup (jJa (tVar 2) (jJa (tVar 3) tNil))) (jJa (tOp rIxF (tOp rIxF (tVar 0) (tVar 2)) (tVar 3)) tNil))) tNil))) jKl)))
 (tRet (tVar 1))))
theorem kXd:RdOk jX3 kJi qX3:=by
 intro xs G Q h_;apply xe1 h_;clear h_;intro W h_;apply ae2 h_;clear h_;intro fine kk
 show kJi _ [some (.tup (W.map encR)),none,none,none] G
 have hs:=sz
 have hl:=fine.len
 wp_walk using 1,kJi,jJ2,jKc,List.length_map
 refine⟨lJ9 _,fun p hp=>⟨by omega,by omega,?_⟩⟩
 rw[show ((W.length:Int)).toNat=W.length by omega]
 refine⟨fun k τ G'=>∃(v2 v3:Option T),τ=[some (.tup (W.map encR)),some (.ref p),v2,v3]/\G' p=some (.lst (((List.range k).flatMap (rowE W)).map encT))/\((List.range k).flatMap (rowE W)).length<=1000*k/\Sub G G',?_,?_,?_,?_⟩
 ·exact⟨none,none,rfl,jJh,lJ9 _,.new hp⟩
 ·intros;trivial
 ·intro k x τ G1 hx h_;apply xe2 h_;clear h_;intro v2 v3 h_;apply ae3 h_;clear h_;intro h1 h2 h3
  obtain⟨hk,rfl⟩:=jX8 hx
  have hW:W[k]? =some W[k]:=lJi hk
  generalize W[k]=es at hW
  have hes:=fine.row k es hW
  wp_walk using 1,jJ2,jKc,jUh hW,encR,List.length_map
  refine⟨by omega,by omega,?_⟩
  rw[show ((es.length:Int)).toNat=es.length by omega]
  refine⟨fun i τ G'=>∃(v3:Option T),τ=[some (.tup (W.map encR)),some (.ref p),some (.int k),v3]/\G' p=some (.lst (((List.range k).flatMap (rowE W)++(List.range i).filterMap (jZm k es)).map encT))/\((List.range k).flatMap (rowE W)++(List.range i).filterMap (jZm k es)).length<=1000*k+i/\Sub G G',?_,?_,?_,?_⟩
  ·exact⟨v3,rfl,by simpa using h1,by simpa using h2,h3⟩
  ·intros;trivial
  ·intro i x τ G2 hx h_;apply xe1 h_;clear h_;intro v3 h_;apply ae3 h_;clear h_;intro i1 i2 i3
   obtain⟨hi,rfl⟩:=jX8 hx
   have hE:es[i]? =some es[i]:=lJi hi
   generalize es[i]=e at hE
   wp_walk using 1,rLeF,jUh hW,encR,uJn hE,encE,jK1 i1,i1
   refine⟨by omega,?_⟩
   have hle:HT.lexLe [(k:Int),(i:Int)] [(e.1:Int),(e.2:Int)]=leE (k,i) e:=rfl
   rw[hle]
   by_cases hc:leE (k,i) e=true
   ·have hcell:jZm k es i=some ((k,i),e):=by unfold jZm;rw[hE];show (if _ then _ else _)=_;rw[lJb hc]
    rw[lJb hc]
    refine⟨by omega,by omega,by rw[lJe];omega,?_,?_,i3.over hp⟩
    ·rw[lQ9,lV9];simp[hcell,encT,encE]
    ·rw[lQ9,lV9,lJv,lJv]
     rw[lJv] at i2
     simp[hcell] at i2 ⊢; omega
   ·have hcell:jZm k es i=none:=by unfold jZm;rw[hE];show (if _ then _ else _)=_;rw[lJa hc]
    rw[lJa hc]
    refine⟨?_,?_,i3⟩
    ·rw[lQ9,lV9];simp[hcell]
    ·rw[lQ9,lV9];simp[hcell];simp at i2;omega
  ·intro τ G' h_;apply xe1 h_;clear h_;intro v3 h_;apply ae3 h_;clear h_;intro i1 i2 i3
   rw[jJ9] at i1 i2
   have e1:(List.range (k+1)).flatMap (rowE W)=(List.range k).flatMap (rowE W)++(List.range es.length).filterMap (jZm k es):=by
    rw[lQ9,lXt]
    congr 1
    simp[rowE,hW]
   refine⟨_,_,rfl,by rw[e1];exact i1,by rw[e1];omega,i3⟩
 ·intro τ G1 h_;apply xe2 h_;clear h_;intro v2 v3 h_;apply ae3 h_;clear h_;intro h1 h2 h3
  rw[jJ9] at h1 h2
  wp_walk using 1,tSeq
  exact kk p G1 hp h1 (by show ((List.range W.length).flatMap (rowE W)).length<=_;omega) h3
noncomputable def jJq (F:List Nat):List T:=F.map fun e=>T.int (e:Nat)
theorem qXb {F:List Nat}:inT (.int r) (jJq F)=F.contains r:=by
 unfold inT jJq
 rw[List.any_map,List.contains_eq_any_beq]
 congr 1
 funext e
 simp only[Function.comp,eqT]
 by_cases h:e=r
 ·subst h;simp
 ·have h2:¬ (e:Int)=r:=by omega
  have h3:¬ r=e:=fun z=>h z.symm
  rw[beq_eq_false_iff_ne.mpr h3,beq_eq_false_iff_ne.mpr h2]
theorem kY9 {F:List Nat}(h:G p=some (.lst (jJq F))):inR G (.int r) (.ref p)=some (F.contains r):=by
 unfold inR
 rw[jJm h]
 show (if _ then _ else _)=_
 rw[lJb ⟨rfl,kVg⟩,qXb]
theorem jYg:∀ {n:Nat} {F:List Nat} (hn:F.Nodup) (hl:∀x,x∈F->x<n),F.length<=n
 | 0,F,hn,hl=>by
  cases F with
  | nil=>exact lJj _
  | cons a as=>exact absurd (hl a (lKn)) (lVu _)
 | n+1,F,hn,hl=>by
  have h1:=jYg (n:=n) (hn.erase n) (fun x hx=>by
   rw[hn.mem_erase_iff] at hx
   have:=hl x hx.2;omega)
  by_cases h:n∈F
  ·rw[List.length_erase_of_mem h] at h1;omega
  ·rw[List.erase_of_not_mem h] at h1;omega
theorem kJp {F:List Nat}(hn:F.Nodup)(hl:∀x,x∈F->x<n)(he:F.length=n):∀r,r<n->r∈F:=by
 intro r hr
 apply lXz
 intro hm
 have:(r::F).length<=n:=jYg (lQb.mpr ⟨hm,hn⟩) (fun x hx=>by rw[lJy] at hx;rcases hx with rfl | hx;exact hr;exact hl x hx)
 simp at this;omega
def Closed (W:Web)(S:Nat->Prop):Prop:=∀r i s j,S r->en W r i=some (s,j)->S s
structure Found (W:Web) (r0:Nat) (F:List Nat):Prop where
 nd:F.Nodup
 lt:∀x,x∈F->x<W.length
 got:∀S,S r0->Closed W S->∀x,x∈F->S x
noncomputable def vis (F:List Nat)(es:List (Nat×Nat)):List Nat:=es.foldl (fun F e=>if F.contains e.1=true then F else F++[e.1]) F
noncomputable def row (W:Web)(r:Nat):List (Nat×Nat):=(W[r]?).getD []
theorem jX6 {W:Web}(h:W[r]? =some es):row W r=es:=by unfold row;rw[h];rfl
variable {j:Nat}
theorem kYc {F:List Nat}(h:es[j]? =some e):vis F (es.take (j+1))=if (vis F (es.take j)).contains e.1=true then vis F (es.take j) else vis F (es.take j)++[e.1]:=by
 unfold vis
 rw[lKz,h,List.foldl_append];rfl
noncomputable def bfsN (W:Web):Nat->Nat->List Nat->List Nat
 | 0,_,F=>F
 | n+1,k,F=>match F[k]? with
  | some r=>bfsN W n (k+1) (vis F (row W r))
  | none=>F
noncomputable def bfs (W:Web)(r:Nat):List Nat:=bfsN W W.length 0 [r]
theorem qUs {W:Web}{k:Nat}{F:List Nat}(h:F.length<=k):bfsN W n k F=F:=by
 cases n with
 | zero=>rfl
 | succ n=>rw[bfsN,lJ3 h]
theorem qUr {W:Web}{k:Nat}{F:List Nat}(h:F[k]? =some r):bfsN W (n+1) k F=bfsN W n (k+1) (vis F (row W r)):=by rw[bfsN,h]
noncomputable def jVo:Sp3:=fun xs G Q=>∃(W:Web) (r0:Nat),xs=[encW W,.int r0]/\Fine W/\r0<W.length/\∀p G' F,G p=none->G' p=some (.lst (jJq F))->Found W r0 F->F=bfs W r0->Sub G G'->Q (.ref p) G'
noncomputable def kX7:List Str:=["_law_web_here","_law_room","_law_found","_law_at","_law_other","_law_door"]
noncomputable def jVs:TS3:=
 (tSeq (tAsg (tLst (jJa (tVar 1) tNil)) (jJg 2))
 (tSeq (tAsg (tC (.int 0)) (jJg 3))
 (tSeq (kUo (jJ1 (tOp rLt (tVar 3) (tCB rLen (jJa (tVar 2) tNil)))) (tSeq (tFor (iSeq (tOp rIxF (tVar 0) (tOp rIxF (tVar 2) (tVar 3)))) (gTup 2 (jJx (jJg 4) (jJx (jJg 5) gNil))) (tIfS (jJ1 (tOp jQo (tVar 4) (tVar 2))) (jUi (tBM "list" jK3 (tVar 2) (jJa (tVar 4) tNil))) jKl))
 (tAsg (tOp jJt (tVar 3) (tC (.int 1))) (jJg 3))))
 (tRet (tVar 2)))))
theorem kKg:RdOk jVo jVs kX7:=by
 intro xs G Q h_;apply xe2 h_;clear h_;intro W r0 h_;apply ae3 h_;clear h_;intro fine hr0 kk
 show jVs _ [some (.tup (W.map encR)),some (.int r0),none,none,none,none] G
 have hs:=sz
 have hl:=fine.len
 wp_walk using 1,jVs,kUo,jJ2
 refine⟨by omega,fun p hp=> ?_⟩
 refine⟨fun m τ G'=>∃(at':Nat) (v4 v5:Option T) (F:List Nat),τ=[some (.tup (W.map encR)),some (.int r0),some (.ref p),some (.int at'),v4,v5]/\G' p=some (.lst (jJq F))/\Found W r0 F/\Sub G G'/\bfs W r0=bfsN W (W.length-at') at' F/\m=W.length-at',⟨_,0,none,none,[r0],rfl,jJh,⟨by simp,by simpa using hr0,fun S h0 _ x hx=>by rw[lJn] at hx;rw[hx];exact h0⟩,.new hp,rfl,rfl⟩,?_⟩
 intro m τ G1 h_;apply xe4 h_;clear h_;intro at' v4 v5 F h_;apply ae5 h_;clear h_;intro h1 h2 h3 hB e4_
 subst e4_
 wp_walk using 1,iSeq,jJm h1,jJ6 h1
 have hFl:=jYg h2.nd h2.lt
 split
 ·rename_i hc
  have hat:at'<F.length:=by rw[jJq,lJe] at hc;omega
  have hF:F[at']? =some F[at']:=lJi hat
  have hfm:F[at']∈F:=lVk hat
  generalize F[at']=r at hF hfm
  have hrW:=h2.lt r hfm
  have hW:W[r]? =some W[r]:=lJi hrW
  generalize W[r]=es at hW
  have hatI:L2.atI (jJq F) (at':Int)=some (.int r):=by rw[atN];simp[jJq,hF]
  wp_walk using 1,hatI,jUh hW,encR
  refine⟨fun τ G'=>∃(v4 v5:Option T) (F:List Nat),τ=[some (.tup (W.map encR)),some (.int r0),some (.ref p),some (.int ((at'+1:Nat):Int)),v4,v5]/\G' p=some (.lst (jJq F))/\Found W r0 F/\Sub G G'/\bfs W r0=bfsN W (W.length-(at'+1)) (at'+1) F,?_,?_⟩
  ·intro τ' G' h_;apply xe3 h_;clear h_;intro v4 v5 F' h_;apply ae4 h_;clear h_;intro i1 i2 i3 iB
   exact⟨W.length-(at'+1),by omega,at'+1,v4,v5,rfl,F',i1,i2,i3,iB,rfl⟩
  ·refine⟨fun j τ G'=>∃(v4 v5:Option T) (F':List Nat),τ=[some (.tup (W.map encR)),some (.int r0),some (.ref p),some (.int at'),v4,v5]/\G' p=some (.lst (jJq F'))/\r∈F'/\Found W r0 F'/\Sub G G'/\F'=vis F (es.take j),?_,?_,?_,?_⟩
   ·exact⟨v4,v5,F,rfl,h1,hfm,h2,h3,rfl⟩
   ·intros;trivial
   ·intro j x τ G2 hx0 h_;apply xe3 h_;clear h_;intro v4 v5 F0 h_;apply ae5 h_;clear h_;intro i1 i2 i3 i4 iB
    obtain⟨⟨s,t⟩,hx,rfl⟩:=jKz hx0
    have hen:=jVi hW hx
    wp_walk using 1,encE,jQo,kY9 i1,jK1 i1,i1
    by_cases hm:s∈F0
    ·rw[lJa (by simp[hm])]
     exact⟨F0,rfl,i2,i3,i4,by rw[kYc hx,<-iB,lJb (by simpa using hm)]⟩
    ·rw[lJb (by simp[hm])]
     have hFl:=jYg i3.nd i3.lt
     refine⟨by rw[jJq,lJe];omega,F0++[s],by simp[jJq],lKh _ i2,⟨?_,?_,?_⟩,i4.over hp,by rw[kYc hx,<-iB,lJa (by simpa using hm)]⟩
     ·rw[lVp];exact⟨i3.nd,by simp,fun a ha b hb=>by rw[lJn] at hb;subst hb;rintro rfl;exact hm ha⟩
     ·intro x hx
      rw[lJm,lJn] at hx
      rcases hx with hx | rfl
      ·exact i3.lt x hx
      ·exact fine.rng _ _ _ _ hen
     ·intro S h0 hc x hx
      rw[lJm,lJn] at hx
      rcases hx with hx | rfl
      ·exact i3.got S h0 hc x hx
      ·exact hc _ _ _ _ (i3.got S h0 hc r i2) hen
   ·intro τ G' h_;apply xe3 h_;clear h_;intro v4 v5 F0 h_;apply ae5 h_;clear h_;intro i1 i2 i3 i4 iB
    wp_walk using 1,tSeq
    refine⟨by simp,F0,i1,i3,i4,?_⟩
    rw[lJe,lQl] at iB
    rw[hB,show W.length-at'=W.length-(at'+1)+1 by omega,qUr hF,jX6 hW,<-iB]
 ·rename_i hc
  exact kk p G1 F hp h1 h2 (by rw[hB,qUs (by rw[jJq,lJe] at hc;omega)]) h3
structure Turn (m:Nat) (σ:List Nat):Prop where
 len:σ.length=m
 nd:σ.Nodup
 lt:∀x,x∈σ->x<m
def Invol (σ:List Nat):Prop:=∀(k x:Nat),σ[k]? =some x->σ[x]? =some k
variable {σ:List Nat}
theorem Turn.at (h:Turn m σ){k:Nat}(hk:k<m):∃x,σ[k]? =some x/\x<m:=by
 have hk':k<σ.length:=by rw[h.len];exact hk
 exact⟨σ[k],lJi hk',h.lt _ (lVk hk')⟩
theorem Turn.onto (h:Turn m σ){x:Nat}(hx:x<m):∃k,k<m/\σ[k]? =some x:=by
 obtain⟨k,hk⟩:=lJ7 (kJp h.nd h.lt h.len x hx)
 exact⟨k,by rw[<-h.len];exact (lJg.mp hk).1,hk⟩
variable {k':Nat}
theorem Turn.inj (h:Turn m σ){k x:Nat}(h1:σ[k]? =some x)(h2:σ[k']? =some x):k=k':=
 (lVw (lJg.mp h1).1 h.nd).mp (h1.trans h2.symm)
theorem Invol.turn (hl:σ.length=m)(h:Invol σ):Turn m σ where
 len:=hl
 nd:=by
  unfold List.Nodup
  refine lYi.mpr ?_
  intro i j hi hj hij e
  have h1:=h j _ (lJi hj)
  have h2:=h i _ (lJi hi)
  rw[e,h1] at h2;cases h2;omega
 lt:=fun x hx=>by
  obtain⟨k,hk⟩:=lJ7 hx
  rw[<-hl];exact (lJg.mp (h k x hk)).1
variable {a:Nat}
theorem Invol.swap {b:Nat}(h:Invol σ)(ha:σ[a]? =some a)(hb:σ[b]? =some b)(hab:a≠b):Invol ((σ.set a b).set b a):=by
 have hal:=(lJg.mp ha).1
 have hbl:=(lJg.mp hb).1
 have gt:∀k,((σ.set a b).set b a)[k]? =if k=b then some a else if k=a then some b else σ[k]? :=by
  intro k
  by_cases h1:k=b
  ·subst h1;rw[lJb rfl,lKx (by simpa using hbl)]
  ·rw[lJa h1,lKt (fun z=>h1 z.symm)]
   by_cases h2:k=a
   ·subst h2;rw[lJb rfl,lKx hal]
   ·rw[lJa h2,lKt (fun z=>h2 z.symm)]
 intro k x hk
 rw[gt] at hk ⊢
 by_cases h1:k=b
 ·subst h1;rw[lJb rfl] at hk;cases hk
  rw[lJa hab,lJb rfl]
 ·rw[lJa h1] at hk
  by_cases h2:k=a
  ·subst h2;rw[lJb rfl] at hk;cases hk
   rw[lJb rfl]
  ·rw[lJa h2] at hk
   have hx:=h k x hk
   have h3:x≠b:=by rintro rfl;rw[hb] at hx;cases hx;exact h1 rfl
   have h4:x≠a:=by rintro rfl;rw[ha] at hx;cases hx;exact h2 rfl
   rw[lJa h3,lJa h4];exact hx
noncomputable def jX1:Sp3:=fun xs G Q=>∃(b:Addr) (m n:Nat) (own:Bool),xs=[.ref b,.int m,.bl own]/\BoxAt G b n/\n+m<2^40/\1<=m/\m<=1000/\∀ σ G',Turn m σ->(own=true->Invol σ)->BoxAt G' b (n+m)->Keep b G G'->Q (.tup (jJq σ)) G'
noncomputable def qXy:List Str:=["_law_box_here","_law_many","_law_own","_law_order","_law_k","_law_turn_here","_law_one","_law_other"]
noncomputable def kJd:TS3:=
 (tSeq (tAsg (tLst tNil) (jJg 3))
 (tSeq (tFor (jKc (jJa (tVar 1) tNil)) (jJg 4) (jUi (tBM "list" kJk (tVar 3) (jJa (jJo jJi (jJa (tVar 0) (jJa (tOp jJt (tVar 4) (tC (.int 1))) tNil))) (jJa (tVar 4) tNil)))))
 (tSeq (tIfS (tNot (tTru rTru (tVar 2))) (tRet (tCB jKa (jJa (tVar 3) tNil))) jKl)
 (tSeq (tAsg (jV8 (jJa (tVar 1) tNil)) (jJg 5))
 (tSeq (tFor (qXe (jJa (tC (.int 0)) (jJa (tOp rSub (tVar 1) (tC (.int 1))) (jJa (tC (.int 2)) tNil)))) (jJg 4) (tSeq (tPar 6 7 (jJa (tOp rIxF (tVar 3) (tVar 4)) (jJa (tOp rIxF (tVar 3) (tOp jJt (tVar 4) (tC (.int 1)))) tNil)))
 (tSeq (tAsg (tVar 7) (gSub (tVar 5) (tVar 6) jUu))
 (tAsg (tVar 6) (gSub (tVar 5) (tVar 7) jUu)))))
 (tRet (tCB jKa (jJa (tVar 5) tNil))))))))
theorem kV8:RdOk jX1 kJd qXy:=by
 intro xs G Q h_;apply xe4 h_;clear h_;intro b m n own h_;apply ae5 h_;clear h_;intro hb hn hm1 hm2 kk
 show kJd _ [some (.ref b),some (.int m),some (.bl own),none,none,none,none,none] G
 have hs:=sz
 obtain⟨bo,hbo⟩:=hb.some
 wp_walk using 1,kJd,jJ2,jKc,qXe,jV8
 refine⟨lJ9 _,fun o ho=>⟨by omega,by omega,?_⟩⟩
 have hob:=jJe hbo ho
 rw[show ((m:Int)).toNat=m by omega]
 refine⟨fun k τ G'=>∃(v4:Option T) (σ:List Nat),τ=[some (.ref b),some (.int m),some (.bl own),some (.ref o),v4,none,none,none]/\G' o=some (.lst (jJq σ))/\Turn k σ/\BoxAt G' b (n+k)/\Keep b G G',?_,?_,?_,?_⟩
 ·exact⟨none,[],rfl,jJh,⟨rfl,lXl,fun x hx=>by cases hx⟩,hb.gup hob,.new ho⟩
 ·intros;trivial
 ·intro k x τ G1 hx h_;apply xe2 h_;clear h_;intro v4 σ h_;apply ae4 h_;clear h_;intro h1 h2 h3 h4
  obtain⟨hk,rfl⟩:=jX8 hx
  wp_walk using 1,jK1 h1
  refine⟨b,_,n+k,rfl,h3,by omega,by omega,by omega,fun c G2 c0 c1 bx kp=> ?_⟩
  have h1':=kp _ _ hob.symm h1
  refine⟨jJq σ,c,rfl,h1',c0,by rw[jJq,lJe,h2.len];omega,by rw[jJq,lJe,h2.len];omega,σ.take c.toNat++k::σ.drop c.toNat,?_,⟨?_,?_,?_⟩,bx.gup hob,(h4.trans kp).over ho⟩
  ·simp[insT,jJq,List.map_take,List.map_drop]
  ·rw[ins_perm.length_eq,lJv,h2.len];rfl
  ·rw[ins_perm.nodup_iff,lVp]
   exact⟨h2.nd,by simp,fun a ha e he=>by rw[lJn] at he;subst he;have:=h2.lt a ha;omega⟩
  ·intro x hx
   rw[ins_perm.mem_iff,lJm,lJn] at hx
   rcases hx with hx | rfl
   ·have:=h2.lt x hx;omega
   ·omega
 ·intro τ G1 h_;apply xe2 h_;clear h_;intro v4 σ h_;apply ae4 h_;clear h_;intro h1 h2 h3 h4
  rw[jJ9] at h2 h3
  wp_walk using 1,jJm h1
  cases own with
  | false=>exact kk σ G1 h2 (fun z=>by cases z) h3 h4
  | true=>
   wp_walk using 1,jJ2,qXe,jV8
   refine⟨by omega,by omega,fun t ht=> ?_⟩
   have hto:=jJe h1 ht
   have htb:b≠t:=by obtain⟨u,hu⟩:=h3.some;exact jJe hu ht
   have ht0:=h4.none htb.symm ht
   have hsm:Builtin.Range.small 0 ((m:Int)-1) 2=true:=by
    unfold Builtin.Range.small Builtin.Range.rangeSize
    simp only[Builtin.Range.rangeFitsLong,lKu,Bool.or_eq_true,lKs,beq_iff_eq,show (2:Int)>0 by decide,lK1]
    split<;>omega
   refine⟨by decide,by decide,hsm,?_⟩
   have hN:(Builtin.Range.rangeSize 0 ((m:Int)-1) 2).toNat=m / 2:=by
    unfold Builtin.Range.rangeSize;rw[lJb (by decide)]
    split<;>omega
   rw[hN,show ((m:Int)).toNat=m by omega,jUn]
   refine⟨fun k τ G'=>∃(v4 v6 v7:Option T) (ρ:List Nat),τ=[some (.ref b),some (.int m),some (.bl true),some (.ref o),v4,some (.ref t),v6,v7]/\G' t=some (.lst (jJq ρ))/\G' o=some (.lst (jJq σ))/\Invol ρ/\ρ.length=m/\(∀i x,2*k<=i->σ[i]? =some x->ρ[x]? =some x)/\BoxAt G' b (n+m)/\Keep b G G',?_,?_,?_,?_⟩
   ·refine⟨_,_,_,List.range m,rfl,jJh,by rw[jJs hto];exact h1,?_,by simp,?_,h3.gup htb,h4.over ht0⟩
    ·intro k x hk
     obtain⟨q1,q2⟩:=lJg.mp hk
     simp at q1 q2;subst q2;exact hk
    ·intro i x _ hx
     have:=h2.lt x (lJt hx)
     simp[this]
   ·intros;trivial
   ·intro k x τ G2 hx h_;apply xe4 h_;clear h_;intro v4 v6 v7 ρ h_;apply ae7 h_;clear h_;intro i1 i2 i3 i4 i5 i6 i7
    obtain⟨hk,rfl⟩:k<m / 2/\x= .int ((2*k:Nat):Int):=by
     obtain⟨q1,q2⟩:=lJg.mp hx
     simp[rngS] at q1 q2;refine⟨q1,?_⟩;rw[<-q2];congr 1;omega
    obtain⟨a,ha,_⟩:=h2.at (show 2*k<m by omega)
    obtain⟨c,hc,_⟩:=h2.at (show 2*k+1<m by omega)
    have hca:L2.atI (jJq σ) ((2*k:Nat):Int)=some (.int (a:Nat)):=by rw[atN];simp[jJq,ha]
    have hcc:L2.atI (jJq σ) (((2*k:Nat):Int)+1)=some (.int (c:Nat)):=by rw[show ((2*k:Nat):Int)+1=((2*k+1:Nat):Int) by omega,atN];simp[jJq,hc]
    have hac:a≠c:=by rintro rfl;have:=h2.inj ha hc;omega
    have fa:=i5 (2*k) a (lJj _) ha
    have fc:=i5 (2*k+1) c (by omega) hc
    have hal:a<ρ.length:=(lJg.mp fa).1
    have hcl:c<ρ.length:=(lJg.mp fc).1
    have ixa:L2.ixN (jJq ρ).length (a:Int)=some a:=kQ4 (by rw[jJq,lJe];exact hal)
    have ixc:L2.ixN ((jJq ρ).set a (.int (c:Nat))).length (c:Int)=some c:=kQ4 (by rw[lQ6,jJq,lJe];exact hcl)
    wp_walk using 1,jJ6 i2,hca,hcc,jX5 i1 ixa,ixc
    have e1:((jJq ρ).set a (.int (c:Nat))).set c (.int (a:Nat))=jJq ((ρ.set a c).set c a):=by simp[jJq,List.map_set]
    rw[e1]
    refine⟨(ρ.set a c).set c a,rfl,by rw[jJs hto];exact i2,i3.swap fa fc hac,by simp[i4],?_,i6.gup htb,i7.over ht0⟩
    intro i x hi hx
    have hxa:a≠x:=by rintro rfl;have:=h2.inj ha hx;omega
    have hxc:c≠x:=by rintro rfl;have:=h2.inj hc hx;omega
    rw[lKt hxc,lKt hxa]
    exact i5 i x (by omega) hx
   ·intro τ G2 h_;apply xe4 h_;clear h_;intro v4 v6 v7 ρ h_;apply ae7 h_;clear h_;intro i1 i2 i3 i4 i5 i6 i7
    wp_walk using 1,jJm i1
    exact kk ρ G2 (i3.turn i4) (fun _=>i3) i6 i7
structure TurnsOk (W:Web) (m:Nat) (Ts:List (List Nat)):Prop where
 len:Ts.length=(jK8 W).length
 ok:∀(t:Nat) (x:Tie) (σ:List Nat),(jK8 W)[t]? =some x->Ts[t]? =some σ->Turn m σ/\(x.1=x.2->Invol σ)
def Bel (W:Web)(Ts:List (List Nat))(x i y j:Nat):Prop:=∃(t:Nat) (e f:Nat×Nat) (σ:List Nat) (k k':Nat),(jK8 W)[t]? =some (e,f)/\Ts[t]? =some σ/\σ[k]? =some k'/\
 ((x=e.1+k*W.length/\i=e.2/\y=f.1+k'*W.length/\j=f.2)\/(y=e.1+k*W.length/\j=e.2/\x=f.1+k'*W.length/\i=f.2))
variable {Ts:List (List Nat)}{y:Nat}
theorem Bel.symm {W:Web}{x:Nat}(h:Bel W Ts x i y j):Bel W Ts y j x i:=by
 obtain⟨t,e,f,σ,k,k',h1,h2,h3,h4⟩:=h
 exact⟨t,e,f,σ,k,k',h1,h2,h3,h4.symm⟩
theorem spl {k r':Nat}(h1:r<n)(h2:r'<n)(h:r+k*n=r'+k'*n):r=r'/\k=k':=by
 have e1:(r+k*n)%n=r:=by rw[lYm,lQn h1]
 have e2:(r'+k'*n)%n=r':=by rw[lYm,lQn h2]
 have hn:0<n:=by omega
 have e3:(r+k*n) / n=k:=by rw[Nat.add_mul_div_right _ _ hn,Nat.div_eq_of_lt h1,lQ0]
 have e4:(r'+k'*n) / n=k':=by rw[Nat.add_mul_div_right _ _ hn,Nat.div_eq_of_lt h2,lQ0]
 rw[h] at e1 e3
 exact⟨e1.symm.trans e2,e3.symm.trans e4⟩
theorem kQb {W:Web}{t:Nat}{x:Tie}(h:(jK8 W)[t]? =some x):en W x.1.1 x.1.2=some x.2/\leE x.1 x.2=true:=endsL_mem.mp (lJt h)
theorem kQa {W:Web}{t:Nat}{x:Tie}(h:(jK8 W)[t]? =some x)(h':(jK8 W)[t']? =some x):t=t':=(lVw (lJg.mp h).1 kXw).mp (h.trans h'.symm)
theorem Bel.fn {W:Web}{x y' j':Nat}(hs:Sym W)(ok:TurnsOk W m Ts)(h:Bel W Ts x i y j)(h':Bel W Ts x i y' j'):y=y'/\j=j':=by
 obtain⟨t,e,f,σ,k,l,h1,h2,h3,h4⟩:=h
 obtain⟨t',e',f',σ',k',l',h1',h2',h3',h4'⟩:=h'
 obtain⟨q1,q2⟩:=kQb h1
 obtain⟨q1',q2'⟩:=kQb h1'
 have q1:en W e.1 e.2=some (f.1,f.2):=q1
 have q1':en W e'.1 e'.2=some (f'.1,f'.2):=q1'
 have qs:=hs _ _ _ _ q1
 have qs':=hs _ _ _ _ q1'
 have l1:=kJz q1
 have l2:=kJz qs
 have l1':=kJz q1'
 have l2':=kJz qs'
 obtain⟨e1,e2⟩:=e;obtain⟨f1,f2⟩:=f;obtain⟨e1',e2'⟩:=e';obtain⟨f1',f2'⟩:=f'
 obtain⟨T1,T2⟩:=ok.ok _ _ _ h1 h2
 simp only at *
 rcases h4 with ⟨rfl,rfl,rfl,rfl⟩ | ⟨rfl,rfl,rfl,rfl⟩<;>rcases h4' with ⟨z1,rfl,rfl,rfl⟩ | ⟨rfl,rfl,z1,rfl⟩
 ·obtain⟨rfl,rfl⟩:=spl l1 l1' z1
  rw[q1] at q1';cases q1'
  have:=kQa h1 h1';subst this
  rw[h2] at h2';cases h2'
  rw[h3] at h3';cases h3'
  exact⟨rfl,rfl⟩
 ·obtain⟨rfl,rfl⟩:=spl l1 l2' z1
  rw[q1] at qs';cases qs'
  have a1:=leE_iff.mp q2
  have a2:=leE_iff.mp q2'
  simp only at a1 a2
  have:e1=f1/\i=j:=by omega
  obtain⟨rfl,rfl⟩:=this
  have:=kQa h1 h1';subst this
  rw[h2] at h2';cases h2'
  have:=T2 rfl _ _ h3'
  rw[h3] at this;cases this
  exact⟨rfl,rfl⟩
 ·obtain⟨rfl,rfl⟩:=spl l2 l1' z1
  rw[qs] at q1';cases q1'
  have a1:=leE_iff.mp q2
  have a2:=leE_iff.mp q2'
  simp only at a1 a2
  have:e1=f1/\j=i:=by omega
  obtain⟨rfl,rfl⟩:=this
  have:=kQa h1 h1';subst this
  rw[h2] at h2';cases h2'
  have:=T2 rfl _ _ h3
  rw[h3'] at this;cases this
  exact⟨rfl,rfl⟩
 ·obtain⟨rfl,rfl⟩:=spl l2 l2' z1
  rw[qs] at qs';cases qs'
  have:=kQa h1 h1';subst this
  rw[h2] at h2';cases h2'
  have:=T1.inj h3 h3';subst this
  exact⟨rfl,rfl⟩
noncomputable def cl (M:List (List T))(x i:Nat):Option T:=(M[x]?).bind fun ts=>ts[i]?
noncomputable def put (M:List (List T))(x i:Nat)(v:T):List (List T):=match M[x]? with
 | some ts=>M.set x (ts.set i v)
 | none=>M
variable {M:List (List T)}
theorem kUd {x:Nat}(h:cl M x i=some v):∃ts,M[x]? =some ts/\ts[i]? =some v:=by
 unfold cl at h
 cases e1:M[x]? with
 | none=>rw[e1] at h;cases h
 | some ts=>rw[e1] at h;exact⟨ts,rfl,h⟩
variable {ts:List T}
theorem kVo {x:Nat}(h1:M[x]? =some ts):cl M x i=ts[i]? :=by unfold cl;rw[h1];rfl
theorem kZp {x:Nat}{u:T}(h:cl M x i=some u)(x' i':Nat):cl (put M x i v) x' i'=if x'=x/\i'=i then some v else cl M x' i':=by
 obtain⟨ts,h1,h2⟩:=kUd h
 have hx:=(lJg.mp h1).1
 have hi:=(lJg.mp h2).1
 unfold put
 rw[h1]
 show cl (M.set x (ts.set i v)) x' i'=_
 by_cases hxx:x'=x
 ·subst hxx
  rw[kVo (lKx hx),kVo h1]
  by_cases hii:i'=i
  ·subst hii;rw[lKx hi,lJb ⟨rfl,rfl⟩]
  ·rw[lKt (fun z=>hii z.symm),lJa (fun z=>hii z.2)]
 ·rw[lJa (fun z=>hxx z.1)]
  unfold cl
  rw[lKt (fun z=>hxx z.symm)]
structure SInv (W:Web) (m:Nat) (Ts:List (List Nat)) (M:List (List T)):Prop where
 len:M.length=m*W.length
 row:∀(x:Nat) (ts:List T),M[x]? =some ts->∃es,W[x%W.length]? =some es/\ts.length=es.length
 val:∀x i v,cl M x i=some v->v= .non\/∃y j,Bel W Ts x i y j/\v=encE (y,j)
def Fl (M:List (List T))(x i:Nat):Prop:=∃e,cl M x i=some (encE e)
theorem SInv.at {W:Web}{k:Nat}(h:SInv W m Ts M)(hk:k<m)(he:en W r i=some e):∃ts,M[r+k*W.length]? =some ts/\i<ts.length:=by
 obtain⟨es,h1,h2⟩:=jQi he
 have hr:=kJz he
 have hx:r+k*W.length<M.length:=by
  rw[h.len]
  have:(k+1)*W.length<=m*W.length:=lXu _ hk
  rw[lVg] at this;omega
 have hM:M[r+k*W.length]? =some M[r+k*W.length]:=lJi hx
 obtain⟨es',q1,q2⟩:=h.row _ _ hM
 rw[lYm,lQn hr,h1] at q1;cases q1
 exact⟨_,hM,by rw[q2];exact (lJg.mp h2).1⟩
theorem SInv.put {W:Web}{x:Nat}(h:SInv W m Ts M)(hx:M[x]? =some ts)(hi:i<ts.length)(hb:Bel W Ts x i y j):
  SInv W m Ts (M.set x (ts.set i (encE (y,j))))/\Fl (M.set x (ts.set i (encE (y,j)))) x i/\∀x' i',Fl M x' i'->Fl (M.set x (ts.set i (encE (y,j)))) x' i':=by
 have hc:cl M x i=some ts[i]:=by rw[kVo hx];exact lJi hi
 have hp:M.set x (ts.set i (encE (y,j)))=_root_.W.put M x i (encE (y,j)):=by unfold _root_.W.put;rw[hx]
 have hxl:=(lJg.mp hx).1
 refine⟨⟨by rw[lQ6];exact h.len,fun x' ts' h'=> ?_,fun x' i' v hv=> ?_⟩,?_,fun x' i' ⟨e,he⟩=> ?_⟩
 ·by_cases hxx:x'=x
  ·subst hxx
   rw[lKx hxl] at h';cases h'
   rw[lQ6];exact h.row _ _ hx
  ·rw[lKt (fun z=>hxx z.symm)] at h';exact h.row _ _ h'
 ·rw[hp,kZp hc] at hv
  by_cases hxx:x'=x/\i'=i
  ·rw[lJb hxx] at hv;cases hv
   obtain⟨rfl,rfl⟩:=hxx
   exact .inr ⟨y,j,hb,rfl⟩
  ·rw[lJa hxx] at hv;exact h.val _ _ _ hv
 ·exact⟨(y,j),by rw[hp,kZp hc,lJb ⟨rfl,rfl⟩]⟩
 ·by_cases hxx:x'=x/\i'=i
  ·exact⟨(y,j),by rw[hp,kZp hc,lJb hxx]⟩
  ·exact⟨e,by rw[hp,kZp hc,lJa hxx];exact he⟩
structure Sheet (W:Web) (m:Nat) (V:Web):Prop where
 len:V.length=m*W.length
 row:∀(x:Nat) (ts:List (Nat×Nat)),V[x]? =some ts->∃es,W[x%W.length]? =some es/\ts.length=es.length
 sym:Sym V
def uKa (W:Web)(m:Nat)(Ts:List (List Nat))(M:List (List T))(d:Nat->Nat->Prop):Prop:=∀t k e f σ k',d t k->(jK8 W)[t]? =some (e,f)->Ts[t]? =some σ->σ[k]? =some k'->Fl M (e.1+k*W.length) e.2/\Fl M (f.1+k'*W.length) f.2
noncomputable def dec:T->Nat×Nat
 | .tup [.int a,.int b]=>(a.toNat,b.toNat)
 | _=>(0,0)
theorem kJ2:dec (encE e)=e:=by obtain⟨a,b⟩:=e;simp[encE,dec]
theorem qVa {W:Web}(hs:Sym W)(ok:TurnsOk W m Ts)(h:SInv W m Ts M)(hd:uKa W m Ts M fun t k=>t<(jK8 W).length/\k<m):Sheet W m (M.map (List.map dec))/\M=(M.map (List.map dec)).map (List.map encE):=by
 have full:∀x i v,cl M x i=some v->Fl M x i:=by
  intro x i v hv
  obtain⟨ts,h1,h2⟩:=kUd hv
  obtain⟨es,q1,q2⟩:=h.row _ _ h1
  have hx:x<m*W.length:=by rw[<-h.len];exact (lJg.mp h1).1
  have hi:i<es.length:=by rw[<-q2];exact (lJg.mp h2).1
  have hW:0<W.length:=by rcases Nat.eq_zero_or_pos W.length with z | z;rw[z] at hx;omega;exact z
  have hk:x / W.length<m:=Nat.div_lt_of_lt_mul (by rw[Nat.mul_comm];exact hx)
  have hxe:x%W.length+x / W.length*W.length=x:=by rw[Nat.mul_comm];exact Nat.mod_add_div x W.length
  have he:=jVi q1 (lJi hi)
  generalize es[i]=e at he
  obtain⟨s,j⟩:=e
  by_cases hle:leE (x%W.length,i) (s,j)=true
  ·obtain⟨t,ht⟩:=lJ7 (endsL_mem (x:=((x%W.length,i),(s,j))).mpr ⟨he,hle⟩)
   have htl:=(lJg.mp ht).1
   have htT:t<Ts.length:=by rw[ok.len];exact htl
   have hσ:Ts[t]? =some Ts[t]:=lJi htT
   obtain⟨k',hk',_⟩:=(ok.ok _ _ _ ht hσ).1.at hk
   have:=(hd t _ _ _ _ _ ⟨htl,hk⟩ ht hσ hk').1
   simp only at this
   rw[hxe] at this;exact this
  ·have hle2:leE (s,j) (x%W.length,i)=true:=by
    rw[leE_iff] at hle ⊢; simp only at hle ⊢; omega
   obtain⟨t,ht⟩:=lJ7 (endsL_mem (x:=((s,j),(x%W.length,i))).mpr ⟨hs _ _ _ _ he,hle2⟩)
   have htl:=(lJg.mp ht).1
   have htT:t<Ts.length:=by rw[ok.len];exact htl
   have hσ:Ts[t]? =some Ts[t]:=lJi htT
   obtain⟨k0,hk0,hk1⟩:=(ok.ok _ _ _ ht hσ).1.onto hk
   have:=(hd t _ _ _ _ _ ⟨htl,hk0⟩ ht hσ hk1).2
   simp only at this
   rw[hxe] at this;exact this
 have enM:∀x i e,en (M.map (List.map dec)) x i=some e->cl M x i=some (encE e)/\Bel W Ts x i e.1 e.2:=by
  intro x i e he
  obtain⟨es,h1,h2⟩:=jQi he
  rw[lJr] at h1
  cases e1:M[x]? with
  | none=>rw[e1] at h1;cases h1
  | some ts=>
   rw[e1] at h1;cases h1
   rw[lJr] at h2
   cases e2:ts[i]? with
   | none=>rw[e2] at h2;cases h2
   | some v=>
    rw[e2] at h2;cases h2
    have hc:cl M x i=some v:=by rw[kVo e1];exact e2
    obtain⟨e',he'⟩:=full x i v hc
    rw[hc] at he';cases he'
    rw[kJ2]
    refine⟨hc,?_⟩
    rcases h.val _ _ _ hc with z | ⟨y,j,hb,z⟩
    ·cases z
    ·have:e'=(y,j):=by rw[<-kJ2 (e:=e'),z,kJ2]
     rw[this];exact hb
 have toM:∀x i e,cl M x i=some (encE e)->en (M.map (List.map dec)) x i=some e:=by
  intro x i e he
  obtain⟨ts,h1,h2⟩:=kUd he
  exact jVi (es:=ts.map dec) (by simp[h1]) (by simp[h2,kJ2])
 refine⟨⟨by rw[lJe];exact h.len,fun x ts hx=> ?_,fun x i y j he=> ?_⟩,?_⟩
 ·rw[lJr] at hx
  cases e1:M[x]? with
  | none=>rw[e1] at hx;cases hx
  | some us=>
   rw[e1] at hx;cases hx
   rw[lJe];exact h.row _ _ e1
 ·obtain⟨h1,h2⟩:=enM x i (y,j) he
  have h3:Bel W Ts y j x i:=h2.symm
  have hin:∃v,cl M y j=some v:=by
   obtain⟨t,e,f,σ,k,k',q1,q2,q3,q4⟩:=h3
   obtain⟨z1,z2⟩:=kQb q1
   have z1:en W e.1 e.2=some (f.1,f.2):=z1
   have T1:=(ok.ok _ _ _ q1 q2).1
   have hk:k<m:=by rw[<-T1.len];exact (lJg.mp q3).1
   have hk':k'<m:=T1.lt _ (lJt q3)
   rcases q4 with ⟨a1,a2,_,_⟩ | ⟨_,_,a1,a2⟩
   ·obtain⟨ts,b1,b2⟩:=h.at hk z1
    exact⟨ts[e.2],by rw[a1,a2,kVo b1];exact lJi b2⟩
   ·obtain⟨ts,b1,b2⟩:=h.at hk' (hs _ _ _ _ z1)
    exact⟨ts[f.2],by rw[a1,a2,kVo b1];exact lJi b2⟩
  obtain⟨v,hv⟩:=hin
  obtain⟨e',he'⟩:=full y j v hv
  have h4:=toM y j e' he'
  obtain⟨_,h5⟩:=enM y j e' h4
  obtain⟨a1,a2⟩:=Bel.fn hs ok h3 h5
  rw[h4,<-show (e'.1,e'.2)=e' from rfl,<-a1,<-a2]
 ·rw[lJw]
  conv=>lhs;rw[<-List.map_id M]
  apply lVv
  intro ts hts
  show ts=(ts.map dec).map encE
  rw[lJw]
  conv=>lhs;rw[<-List.map_id ts]
  apply lVv
  intro v hv
  obtain⟨x,hx⟩:=lJ7 hts
  obtain⟨i,hi⟩:=lJ7 hv
  obtain⟨e,he⟩:=full x i v (by rw[kVo hx];exact hi)
  rw[kVo hx,hi] at he;cases he
  show encE e=encE (dec (encE e))
  rw[kJ2]
def RowsT (G:Gp)(h:Addr)(M:List (List T))(rs:List Addr):Prop:=G h=some (.lst (rs.map T.ref))/\rs.length=M.length/\∀(i:Nat) (r:Addr),rs[i]? =some r->∃ts:List T,M[i]? =some ts/\G r=some (.lst ts)
theorem RowsT.set {a:Addr}(x:RowsT G h M rs)(hn:(h::rs).Nodup)(hr:rs[r]? =some a):RowsT (gup G a (.lst ts)) h (M.set r ts) rs:=by
 rw[lQb] at hn
 have hrl:r<rs.length:=(lJg.mp hr).1
 refine⟨by rw[jJs];exact x.1;rintro rfl;exact hn.1 (lJt hr),by rw[lQ6];exact x.2.1,fun i c e=> ?_⟩
 by_cases hi:i=r
 ·subst hi
  rw[hr] at e;cases e
  exact⟨ts,by rw[lKx];rw[<-x.2.1];exact hrl,jJh⟩
 ·obtain⟨us,h1,h2⟩:=x.2.2 i c e
  refine⟨us,by rw[lKt (Ne.symm hi)];exact h1,?_⟩
  rw[jJs];exact h2
  rintro rfl
  have hil:i<rs.length:=(lJg.mp e).1
  exact hi ((lVw hil hn.2).mp (e.trans hr.symm))
theorem RowsT.get {x:Nat}(R:RowsT G h M rs)(hx:M[x]? =some ts):∃a,rs[x]? =some a/\L2.atI (rs.map T.ref) (x:Int)=some (.ref a)/\G a=some (.lst ts):=by
 have hxl:x<rs.length:=by rw[R.2.1];exact (lJg.mp hx).1
 have hr:rs[x]? =some rs[x]:=lJi hxl
 obtain⟨us,h1,h2⟩:=R.2.2 x _ hr
 rw[hx] at h1;cases h1
 exact⟨_,hr,by rw[atN,lJr,hr];rfl,h2⟩
theorem qZd:(List.replicate n [T.non]).flatten=List.replicate n T.non:=by
 induction n with
 | zero=>rfl
 | succ n ih=>rw[lQi,lQ7,ih];rfl
noncomputable def rowN (W:Web)(x:Nat):List T:=List.replicate ((W[x%W.length]?).getD []).length .non
theorem kZ1 {W:Web}:SInv W m Ts ((List.range (m*W.length)).map (rowN W)) where
 len:=by simp
 row:=fun x ts h=>by
  rw[lJr] at h
  cases e:(List.range (m*W.length))[x]? with
  | none=>rw[e] at h;cases h
  | some y=>
   rw[e] at h;cases h
   obtain⟨q1,q2⟩:=lJg.mp e
   simp at q1 q2;subst q2
   have hW:0<W.length:=by rcases Nat.eq_zero_or_pos W.length with z | z;rw[z] at q1;omega;exact z
   have hx:x%W.length<W.length:=Nat.mod_lt _ hW
   exact⟨W[x%W.length],lJi hx,by simp[rowN,hx]⟩
 val:=fun x i v h=>by
  obtain⟨ts,h1,h2⟩:=kUd h
  rw[lJr] at h1
  cases e:(List.range (m*W.length))[x]? with
  | none=>rw[e] at h1;cases h1
  | some y=>
   rw[e] at h1;cases h1
   have:=lJt h2
   unfold rowN at this
   exact .inl (List.mem_replicate.mp this).2
noncomputable def jVm:Sp3:=fun xs G Q=>∃(W:Web) (tr:Addr) (m:Nat) (Ts:List (List Nat)),xs=[encW W,.ref tr,.int m]/\Fine W/\Sym W/\1<=W.length/\1<=m/\m*W.length<=1000/\TurnsOk W m Ts/\G tr=some (.lst (Ts.map fun σ=>T.tup (jJq σ)))/\∀V G',Sheet W m V->Sub G G'->Q (encW V) G'
noncomputable def kX5:List Str:=["_law_web_here","_law_turns","_law_many","_law_made","_law_t","_law_one","_law_other","_law_k","_law_spot","_law_there","_law_n","_law_room"]
noncomputable def jVq:TS3:=
 (tSeq (tAsg (jKp [false,false,false,false,false,false,false,false,false,false,true,false] (jKc (jJa (tOp jVh (tVar 2) (tCB rLen (jJa (tVar 0) tNil))) tNil)) (jJg 10) jK2 (tOp jVh (tLst (jJa (tC .non) tNil)) (tCB rLen (jJa (tOp rIxF (tVar 0) (tOp rMod (tVar 10) (tCB rLen (jJa (tVar 0) tNil)))) tNil)))) (jJg 3))
 (tSeq (tFor (jY6 (jJa (jJo jX3 (jJa (tVar 0) tNil)) tNil)) (gTup 2 (jJx (jJg 4) (jJx (gTup 2 (jJx (jJg 5) (jJx (jJg 6) gNil))) gNil))) (tFor (jKc (jJa (tVar 2) tNil)) (jJg 7) (tSeq (tAsg (tOp jJt (tOp rIxF (tVar 5) (tC (.int 0))) (tOp jVh (tVar 7) (tCB rLen (jJa (tVar 0) tNil)))) (jJg 8))
 (tSeq (tAsg (tOp jJt (tOp rIxF (tVar 6) (tC (.int 0))) (tOp jVh (tOp rIxF (tOp rIxF (tVar 1) (tVar 4)) (tVar 7)) (tCB rLen (jJa (tVar 0) tNil)))) (jJg 9))
 (tSeq (tAsg (tTup (jJa (tVar 9) (jJa (tOp rIxF (tVar 6) (tC (.int 1))) tNil))) (gSub (tOp rIxF (tVar 3) (tVar 8)) (tOp rIxF (tVar 5) (tC (.int 1))) jUu))
 (tAsg (tTup (jJa (tVar 8) (jJa (tOp rIxF (tVar 5) (tC (.int 1))) tNil))) (gSub (tOp rIxF (tVar 3) (tVar 9)) (tOp rIxF (tVar 6) (tC (.int 1))) jUu)))))))
 (tRet (tCB jKa (jJa (jKp [false,false,false,false,false,false,false,false,false,false,false,true] (iSeq (tVar 3)) (jJg 11) jK2 (tCB jKa (jJa (tVar 11) tNil))) tNil)))))
theorem kKe:RdOk jVm jVq kX5:=by
 intro xs G Q h_;apply xe4 h_;clear h_;intro W tr m Ts h_;apply ae8 h_;clear h_;intro fine sym hW1 hm1 hmn ok htr kk
 show jVq _ [some (.tup (W.map encR)),some (.ref tr),some (.int m),none,none,none,none,none,none,none,none,none] G
 have hs:=sz
 have hl:=fine.len
 have hm2:m<=1000:=lKb (Nat.le_mul_of_pos_right m hW1) hmn
 wp_walk using 1,jVq,jJ2,jKc,jY6,iSeq,List.length_map
 have hcast:(m:Int)*(W.length:Int)=((m*W.length:Nat):Int):=by simp
 rw[hcast]
 refine⟨.inr ⟨by omega,by omega⟩,by omega,by omega,?_⟩
 rw[show ((m*W.length:Nat):Int).toNat=m*W.length by omega,jUn]
 refine kK2 (rowN W) (by simp;omega) (fun _ _=>trivial) ?_ ?_
 ·intro x x' hx G' K K0 s hk
  obtain⟨q1,q2⟩:=lJg.mp hx
  simp at q1 q2;subst q2
  have hmod:x%W.length<W.length:=Nat.mod_lt _ hW1
  have hWx:W[x%W.length]? =some W[x%W.length]:=lJi hmod
  have hrow:rowN W x=List.replicate (W[x%W.length]).length .non:=by simp[rowN,hWx]
  rw[hrow] at hk
  generalize W[x%W.length]=es at hWx hk
  have hes:=fine.row _ _ hWx
  wp_walk using 1,List.length_map,show (x:Int)%(W.length:Int)=((x%W.length:Nat):Int) by simp,jUh hWx,encR
  refine⟨by omega,fun p hp=>⟨by omega,.newL (List.replicate es.length .non),?_,?_⟩⟩
  ·rw[<-qZd]
   simp only[mulR,jJh];rw[lJb];congr;refine⟨?_,?_,?_⟩<;>simp<;>omega
  ·rw[jU9]
   intro q hq
   have hq0:=(jK7 hq).2
   exact hk q _ hq0 jJh ((Sub.new hp).over hq0)
 ·intro D rs G1 hD hD1 s1 hrl hnd hrs
  rw[lK6] at hrl
  have hfr:∀r,r∈rs->G r=none:=by
   intro r z
   obtain⟨j,hj⟩:=lJ7 z
   have hjl:j<rs.length:=(lJg.mp hj).1
   exact (hrs j r j hj (by rw[lQv (by omega)])).1
  refine⟨W,rfl,fine,fun pe G2 hpe hG2 hlen s2=> ?_⟩
  have hpn:∀r,r∈rs->pe≠r:=by
   rintro r z rfl
   obtain⟨j,hj⟩:=lJ7 z
   have hjl:j<rs.length:=(lJg.mp hj).1
   have:=(hrs j pe j hj (by rw[lQv (by omega)])).2
   rw[this] at hpe;cases hpe
  refine⟨(jK8 W).map encT,by simp only[jUx,hG2,asL],?_⟩
  let J1:Nat->St3->Gp->Prop:=fun t τ G'=>∃(v4 v5 v6 v7 v8 v9:Option T) (M:List (List T)),τ=[some (.tup (W.map encR)),some (.ref tr),some (.int m),some (.ref D),v4,v5,v6,v7,v8,v9,none,none]/\RowsT G' D M rs/\SInv W m Ts M/\uKa W m Ts M (fun t' k=>t'<t/\k<m)/\Sub G G'/\G' pe=some (.lst ((jK8 W).map encT))
  refine⟨J1,?_,?_,?_,?_⟩
  ·refine xi7 none none none none none none ((List.range (m*W.length)).map (rowN W)) rfl ⟨⟨s2 _ _ hD1,by simp[hrl],fun i r hi=> ?_⟩,kZ1,fun t k e f σ k' h=>absurd h.1 (lVu _),s1.trans s2,hG2⟩
   have hil:i<m*W.length:=by rw[<-hrl];exact (lJg.mp hi).1
   exact⟨rowN W i,by simp[hil],s2 _ _ (hrs i r i hi (by simp[hil])).2⟩
  ·intro t τ G' ht h_;apply xe7 h_;clear h_;intro v4 v5 v6 v7 v8 v9 M h_;apply ae5 h_;clear h_;intro i1 i2 i3 i4 i5
   simp only[jUx,i5,asL]
  ·intro t x τ G3 hx h_;apply xe7 h_;clear h_;intro v4 v5 v6 v7 v8 v9 M h_;apply ae5 h_;clear h_;intro i1 i2 i3 i4 i5
   have ht:t<(jK8 W).length:=by have:=(lJg.mp hx).1;simpa[jZx] using this
   have hte:(jK8 W)[t]? =some (jK8 W)[t]:=lJi ht
   rw[jXa (x:=encT (jK8 W)[t]) (by simp[ht])] at hx
   cases hx
   generalize (jK8 W)[t]=x at hte
   obtain⟨e,f⟩:=x
   have htT:t<Ts.length:=by rw[ok.len];exact ht
   have hσ:Ts[t]? =some Ts[t]:=lJi htT
   generalize Ts[t]=σ at hσ
   obtain⟨T1,T2⟩:=ok.ok _ _ _ hte hσ
   have hef:en W e.1 e.2=some (f.1,f.2):=(kQb hte).1
   have hfe:=sym _ _ _ _ hef
   wp_walk using 1,jJ2,jKc,encT
   refine⟨by omega,by omega,?_⟩
   rw[show ((m:Int)).toNat=m by omega]
   let J2:Nat->St3->Gp->Prop:=fun k τ G'=>∃(v7 v8 v9:Option T) (M:List (List T)),τ=[some (.tup (W.map encR)),some (.ref tr),some (.int m),some (.ref D),some (.int t),some (encE e),some (encE f),v7,v8,v9,none,none]/\RowsT G' D M rs/\SInv W m Ts M/\uKa W m Ts M (fun t' k'=>(t'<t/\k'<m)\/(t'=t/\k'<k))/\Sub G G'/\G' pe=some (.lst ((jK8 W).map encT))
   refine⟨J2,?_,?_,?_,?_⟩
   ·refine xi4 v7 v8 v9 M rfl ⟨i1,i2,fun t' k e f σ k' h=> ?_,i4,i5⟩
    rcases h with h | h
    ·exact i3 t' k e f σ k' h
    ·exact absurd h.2 (lVu _)
   ·intros;trivial
   ·intro k x τ G4 hx h_;apply xe4 h_;clear h_;intro v7 v8 v9 M h_;apply ae5 h_;clear h_;intro i1 i2 i3 i4 i5
    obtain⟨hk,rfl⟩:=jX8 hx
    obtain⟨k',hk',hkm⟩:=T1.at hk
    have hb1:Bel W Ts (e.1+k*W.length) e.2 (f.1+k'*W.length) f.2:=⟨t,e,f,σ,k,k',hte,hσ,hk',.inl ⟨rfl,rfl,rfl,rfl⟩⟩
    obtain⟨ts,m1,m2⟩:=i2.at hk hef
    obtain⟨a,a1,a2,a3⟩:=i1.get m1
    have ham:=lJt a1
    obtain⟨p1,p2,p3⟩:=i2.put m1 m2 hb1
    have q1:=i1.set (ts:=ts.set e.2 (encE (f.1+k'*W.length,f.2))) hnd a1
    obtain⟨us,m3,m4⟩:=p1.at hkm hfe
    obtain⟨c,c1,c2,c3⟩:=q1.get m3
    have hcm:=lJt c1
    obtain⟨p4,p5,p6⟩:=p1.put m3 m4 hb1.symm
    have q2:=q1.set (ts:=us.set f.2 (encE (e.1+k*W.length,e.2))) hnd c1
    have g2:L2.atI (Ts.map fun σ=>T.tup (jJq σ)) (t:Int)=some (.tup (jJq σ)):=by rw[atN];simp[hσ]
    have g3:L2.atI (jJq σ) (k:Int)=some (.int (k':Nat)):=by rw[atN];simp[jJq,hk']
    have b1:e.1+k*W.length<m*W.length:=by rw[<-i2.len];exact (lJg.mp m1).1
    have b2:f.1+k'*W.length<m*W.length:=by rw[<-p1.len];exact (lJg.mp m3).1
    have s8:(e.1:Int)+(k:Int)*(W.length:Int)=((e.1+k*W.length:Nat):Int):=by simp
    have s9:(f.1:Int)+(k':Int)*(W.length:Int)=((f.1+k'*W.length:Nat):Int):=by simp
    wp_walk using 1,encE,List.length_map,jJ6 (i4 _ _ htr),g2,g3,s8,s9,jJ6 i1.1,a2,jX5 a3 (kQ4 m2)
    refine⟨.inr ⟨by omega,by omega⟩,.inr ⟨by omega,by omega⟩,by omega,by omega,.ref c,(jJ6 q1.1).trans c2,_,jX5 c3 (kQ4 m4),xi4 _ _ _ _ rfl ⟨q2,p4,?_,(i4.over (hfr a ham)).over (hfr c hcm),?_⟩⟩
    ·intro t' k0 e' f' σ' k1 h g4 g5 g6
     by_cases hh:t'=t/\k0=k
     ·obtain⟨rfl,rfl⟩:=hh
      rw[hte] at g4;cases g4
      rw[hσ] at g5;cases g5
      rw[hk'] at g6;cases g6
      exact⟨p6 _ _ p2,p5⟩
     ·obtain⟨z1,z2⟩:=i3 t' k0 e' f' σ' k1 (by omega) g4 g5 g6
      exact⟨p6 _ _ (p3 _ _ z1),p6 _ _ (p3 _ _ z2)⟩
    ·rw[jJs (hpn c hcm),jJs (hpn a ham)];exact i5
   ·intro τ G' h_;apply xe4 h_;clear h_;intro v7 v8 v9 M h_;apply ae5 h_;clear h_;intro i1 i2 i3 i4 i5
    rw[jJ9] at i3
    refine xi7 _ _ _ _ _ _ M rfl ⟨i1,i2,fun t' k e f σ k' h=>i3 t' k e f σ k' ?_,i4,i5⟩
    by_cases hh:t'=t
    ·exact .inr ⟨hh,h.2⟩
    ·exact .inl ⟨by omega,h.2⟩
  ·intro τ G3 h_;apply xe7 h_;clear h_;intro v4 v5 v6 v7 v8 v9 M h_;apply ae5 h_;clear h_;intro i1 i2 i3 i4 i5
   rw[jZx,lJe] at i3
   obtain⟨sh,eM⟩:=qVa sym ok i2 i3
   wp_walk using 1,iSeq,jJm i1.1
   refine jKm (es:=rs) (fun r=>T.tup (match G3 r with | some (.lst ts)=>ts | _=>[])) (by omega) (fun G' s=>jJm (s _ _ i1.1)) ?_ ?_
   ·intro i r hr G4 K K0 s hk
    obtain⟨ts,z1,z2⟩:=i1.2.2 i r hr
    wp_walk using 1,jJm (s _ _ z2)
    have:=hk G4 (.refl _)
    rw[z2] at this
    exact this
   ·intro E G4 hE h4 s4
    refine⟨_,jJm h4,?_⟩
    have e1:rs.map (fun r=>T.tup (match G3 r with | some (.lst ts)=>ts | _=>[]))=(M.map (List.map dec)).map encR:=by
     have e2:(M.map (List.map dec)).map encR=M.map T.tup:=by
      conv=>rhs;rw[eM]
      rw[lJw,lJw,lJw];rfl
     rw[e2]
     apply lK2
     intro i
     by_cases hi:i<rs.length
     ·have hri:rs[i]? =some rs[i]:=lJi hi
      obtain⟨ts,z1,z2⟩:=i1.2.2 i _ hri
      rw[lJr,lJr,hri,z1]
      simp only[lQe,z2]
     ·rw[lJ3 (by rw[lJe];omega),lJ3 (by rw[lJe,<-i1.2.1];omega)]
    rw[e1]
    exact kk _ G4 sh (i4.trans s4)
def Cov (W:Web)(m:Nat)(V:Web):Prop:=V=W\/(Sheet W m V/\Conn V)
theorem Sheet.fine {W V:Web}(h:Sheet W m V)(f:Fine W)(hm:m*W.length<=1000):Fine V where
 len:=by rw[h.len];exact hm
 row:=fun x ts hx=>by obtain⟨es,h1,h2⟩:=h.row x ts hx;rw[h2];exact f.row _ _ h1
 rng:=fun r i s j he=>kJz (h.sym _ _ _ _ he)
theorem Found.conn {V:Web}{F:List Nat}(h:Found V 0 F)(hl:F.length=V.length):Conn V:=fun S h0 hst r hr=>h.got S h0 hst r (kJp h.nd h.lt hl r hr)
theorem uJl {f:Nat×Nat}:eqG G (encE e) (encE f)=some (decide (e=f)):=by
 obtain⟨a,b⟩:=e;obtain⟨c,d⟩:=f
 rw[show eqG G (encE (a,b)) (encE (c,d))=some (eqT (encE (a,b)) (encE (c,d))) from rfl]
 congr 1
 simp only[encE,eqT,eqTs,Bool.and_true]
 by_cases h1:a=c
 ·by_cases h2:b=d
  ·simp[h1,h2]
  ·have:¬ (b:Int)=d:=by omega
   simp[h1,h2,this]
 ·have:¬ (a:Int)=c:=by omega
  simp[h1,this]
variable {c:Nat}
theorem jQ4:eqG G (.int a) (.int c)=some (decide (a=c)):=by
 rw[show eqG G (.int a) (.int c)=some (eqT (.int a) (.int c)) from rfl]
 congr 1
 simp only[eqT]
 by_cases h1:a=c
 ·simp[h1]
 ·have:¬ (a:Int)=c:=by omega
  simp[h1,this]
noncomputable def jQv:Sp3:=fun xs G Q=>∃(b:Addr) (W:Web) (m n:Nat),xs=[.ref b,encW W,.int m]/\BoxAt G b n/\n+3*((jK8 W).length*m)<2^40/\Fine W/\Sym W/\1<=W.length/\1<=m/\m*W.length<=1000/\∀V G',Cov W m V->BoxAt G' b (n+3*((jK8 W).length*m))->Keep b G G'->Q (encW V) G'
noncomputable def kX8:List Str:=["_law_box_here","_law_web_here","_law_many","_law_turn_here","_law_turns","_law_made","_law_pair"]
noncomputable def jVt:TS3:=
 (tSeq (tFor (jKc (jJa (tC (.int 3)) tNil)) (jJg 3) (tSeq (tAsg (jKp [false,false,false,false,false,false,true] (iSeq (jJo jX3 (jJa (tVar 1) tNil))) (jJg 6) jK2 (jJo jX1 (jJa (tVar 0) (jJa (tVar 2) (jJa (tOp rEqA (tOp rIxF (tVar 6) (tC (.int 0))) (tOp rIxF (tVar 6) (tC (.int 1)))) tNil))))) (jJg 4))
 (tSeq (tAsg (jJo jVm (jJa (tVar 1) (jJa (tVar 4) (jJa (tVar 2) tNil)))) (jJg 5))
 (tIfS (jJ1 (tOp rEqA (tCB rLen (jJa (jJo jVo (jJa (tVar 5) (jJa (tC (.int 0)) tNil))) tNil)) (tCB rLen (jJa (tVar 5) tNil)))) (tRet (tVar 5)) jKl))))
 (tRet (tVar 1)))
theorem kKh:RdOk jQv jVt kX8:=by
 intro xs G Q h_;apply xe4 h_;clear h_;intro b W m n h_;apply ae8 h_;clear h_;intro hb hn fine sym hW1 hm1 hmn kk
 show jVt _ [some (.ref b),some (encW W),some (.int m),none,none,none,none] G
 have hs:=sz
 have hm2:m<=1000:=lKb (Nat.le_mul_of_pos_right m hW1) hmn
 wp_walk using 1,jVt,jJ2,jKc
 refine⟨by decide,by decide,?_⟩
 refine⟨fun k τ G'=>∃(v3 v4 v5:Option T),τ=[some (.ref b),some (encW W),some (.int m),v3,v4,v5,none]/\BoxAt G' b (n+k*((jK8 W).length*m))/\Keep b G G',?_,?_,?_,?_⟩
 ·exact⟨none,none,none,rfl,by simpa using hb,.refl _ _⟩
 ·intros;trivial
 ·intro k x τ G1 hx h_;apply xe3 h_;clear h_;intro v3 v4 v5 h_;apply ae2 h_;clear h_;intro hb1 kp1
  have hk:k<3:=by have:=(lJg.mp hx).1;rw[jJ9] at this;exact this
  have hk3:(k+1)*((jK8 W).length*m)<=3*((jK8 W).length*m):=lXu _ (by omega)
  rw[lVg] at hk3
  obtain⟨bo,hbo⟩:=hb1.some
  wp_walk using 1,iSeq
  refine⟨W,rfl,fine,fun pe G2 hpe hG2 hlen s2=> ?_⟩
  have hpb:=jJe hbo hpe
  refine⟨_,jJm hG2,?_⟩
  intro D hD
  have hDb:=jJe (s2 _ _ hbo) hD
  have hDe:=jJe hG2 hD
  refine⟨fun i acc G'=>∃Ts:List (List Nat),acc=Ts.map (fun σ=>T.tup (jJq σ))/\Ts.length=i/\(∀(t:Nat) (x:Tie) (σ:List Nat),(jK8 W)[t]? =some x->Ts[t]? =some σ->Turn m σ/\(x.1=x.2->Invol σ))/\BoxAt G' b (n+k*((jK8 W).length*m)+i*m)/\Keep b G2 G'/\G' D=some (.lst acc),?_,?_,?_,?_⟩
  ·exact⟨[],rfl,rfl,fun t x σ _ h=>by simp at h,by simpa using (hb1.sub s2).gup hDb,.new hD,jJh⟩
  ·rintro i acc G' hi ⟨Ts,rfl,j1,j2,j3,j4,j5⟩
   exact⟨jJm (j4 _ _ hpb.symm hG2),j5⟩
  ·rintro i x acc G3 hx0 ⟨Ts,rfl,j1,j2,j3,j4,j5⟩
   obtain⟨⟨e,f⟩,hte,rfl⟩:=jKz hx0
   have hi:i<(jK8 W).length:=(lJg.mp hte).1
   have him:(i+1)*m<=(jK8 W).length*m:=lXu _ hi
   rw[lVg] at him
   wp_walk using 1,encT,rEqA,uJl
   refine⟨b,m,_,_,rfl,j3,by omega,hm1,hm2,fun σ G4 T1 T2 bx kp=> ?_⟩
   refine⟨kp _ _ hDb.symm j5,by rw[lJe];omega,Ts++[σ],by simp,by simp[j1],?_,?_,?_⟩
   ·intro t y ρ h1 h2
    by_cases htl:t<Ts.length
    ·rw[lKy htl] at h2;exact j2 t y ρ h1 h2
    ·have htl2:t<(Ts++[σ]).length:=(lJg.mp h2).1
     simp at htl2
     have:t=Ts.length:=by omega
     subst this
     rw[lKq (lJj _)] at h2
     simp at h2;subst h2
     rw[j1,hte] at h1;cases h1
     exact⟨T1,fun z=>T2 (by simpa using z)⟩
   ·exact (bx.gup hDb).mono (by rw[lVg];omega)
   ·exact (j4.trans kp).over hD
  ·rintro acc G3 ⟨Ts,rfl,j1,j2,j3,j4,j5⟩
   rw[lJe] at j1 j3
   have hkp3:Keep b G G3:=(kp1.trans (.sub s2)).trans j4
   refine⟨W,D,m,Ts,rfl,fine,sym,hW1,hm1,hmn,⟨j1,j2⟩,j5,fun V G4 sh s4=> ?_⟩
   have hVl:1<=V.length:=by rw[sh.len];exact Nat.mul_pos hm1 hW1
   refine⟨V,0,rfl,sh.fine fine hmn,hVl,fun p G5 F hp hp5 fd _ s5=> ?_⟩
   wp_walk using 1,rEqA,jJm hp5,encW,jJq,List.length_map,jQ4
   split
   ·rename_i hc
    have hc:F.length=V.length:=by simpa using hc
    exact kk V G5 (.inr ⟨sh,fd.conn hc⟩) (((j3.sub s4).sub s5).mono (by omega)) ((hkp3.trans (.sub s4)).trans (.sub s5))
   ·exact⟨((j3.sub s4).sub s5).mono (by rw[lVg];omega),(hkp3.trans (.sub s4)).trans (.sub s5)⟩
 ·intro τ G1 h_;apply xe3 h_;clear h_;intro v3 v4 v5 h_;apply ae2 h_;clear h_;intro hb1 kp1
  rw[jJ9] at hb1
  wp_walk using 1,tSeq
  exact kk W G1 (.inl rfl) hb1 kp1
structure AnyWeb (W:Web):Prop where
 pos:1<=W.length
 len:W.length<=24
 sym:Sym W
 deg:∀(r:Nat) (es:List (Nat×Nat)),W[r]? =some es->es.length<=6
 conn:Conn W
theorem WebOk.any {d:Nat}{W:Web}(h:WebOk n d W)(h1:1<=n)(h2:n<=24)(h3:d<=6):AnyWeb W:=⟨by rw[h.len];exact h1,by rw[h.len];exact h2,h.sym,fun r es hr=>lKb (h.deg r es hr) h3,h.conn⟩
theorem WebOk.fine {d:Nat}{W:Web}(h:WebOk n d W)(h2:n<=24)(h3:d<=6):Fine W:=⟨by rw[h.len];omega,fun r es hr=>by have:=h.deg r es hr;omega,fun r i s j he=>kJz (h.sym _ _ _ _ he)⟩
theorem AnyWeb.fine {W:Web}(h:AnyWeb W):Fine W:=⟨by have:=h.len;omega,fun r es hr=>by have:=h.deg r es hr;omega,fun r i s j he=>kJz (h.sym _ _ _ _ he)⟩
theorem kZd {α β:Type} {f:α->List β} {d:Nat}:∀ {l:List α},(∀a,a∈l->(f a).length<=d)->(l.flatMap f).length<=l.length*d
 | [],_=>by simp
 | a::l,h=>by
  rw[List.flatMap_cons,lJv,lKc,lVg]
  have h1:=h a (lKn)
  have h2:=kZd (l:=l) fun x hx=>h x (lKp _ hx)
  omega
theorem kZj {W:Web}{d:Nat}(h:∀(r:Nat) (es:List (Nat×Nat)),W[r]? =some es->es.length<=d):(jK8 W).length<=W.length*d:=by
 have:=kZd (f:=rowE W) (d:=d) (l:=List.range W.length) fun r hr=>by
  unfold rowE
  split
  ·rename_i es hes
   have h1:=List.length_filterMap_le (jZm r es) (List.range es.length)
   rw[lK6] at h1
   have h2:=h r es hes
   omega
  ·simp
 rwa [lK6] at this
def jQj:Sp3:=fun xs G Q=>∃(b:Addr) (n:Nat),xs=[.ref b]/\BoxAt G b n/\n+1000<2^40/\∀W G',AnyWeb W->BoxAt G' b (n+1000)->Keep b G G'->Q (encW W) G'
noncomputable def kX9:List Str:=["_law_box_here","_law_way","_law_base","_law_many"]
noncomputable def jVv:TS3:=
 (tSeq (tAsg (jJo jJi (jJa (tVar 0) (jJa (tC (.int 8)) tNil))) (jJg 1))
 (tSeq (tIfS (jJ1 (tOp rEqA (tVar 1) (tC (.int 0)))) (tRet (jJo jX0 (jJa (tVar 0) (jJa (tOp jJt (tC (.int 8)) (jJo jJi (jJa (tVar 0) (jJa (tC (.int 17)) tNil)))) (jJa (tOp jJt (tC (.int 3)) (jJo jJi (jJa (tVar 0) (jJa (tC (.int 4)) tNil)))) tNil))))) jKl)
 (tSeq (tIfS (jJ1 (tOp rLt (tVar 1) (tC (.int 4)))) (tRet (jJo jX0 (jJa (tVar 0) (jJa (tOp jJt (tC (.int 1)) (jJo jJi (jJa (tVar 0) (jJa (tC (.int 7)) tNil)))) (jJa (tOp jJt (tC (.int 2)) (jJo jJi (jJa (tVar 0) (jJa (tC (.int 3)) tNil)))) tNil))))) jKl)
 (tSeq (tIfS (jJ1 (tOp rEqA (tVar 1) (tC (.int 4)))) (tRet (jJo jZ8 (jJa (tOp jJt (tC (.int 1)) (jJo jJi (jJa (tVar 0) (jJa (tC (.int 12)) tNil)))) tNil))) jKl)
 (tSeq (tAsg (jJo jX0 (jJa (tVar 0) (jJa (tOp jJt (tC (.int 1)) (jJo jJi (jJa (tVar 0) (jJa (tC (.int 4)) tNil)))) (jJa (tOp jJt (tC (.int 2)) (jJo jJi (jJa (tVar 0) (jJa (tC (.int 2)) tNil)))) tNil)))) (jJg 2))
 (tSeq (tAsg (tOp jJt (tC (.int 2)) (jJo jJi (jJa (tVar 0) (jJa (tOp rIxF (tLst (jJa (tC (.int 5)) (jJa (tC (.int 5)) (jJa (tC (.int 5)) (jJa (tC (.int 3)) tNil))))) (tOp rSub (tCB rLen (jJa (tVar 2) tNil)) (tC (.int 1)))) tNil)))) (jJg 3))
 (tRet (jJo jQv (jJa (tVar 0) (jJa (tVar 2) (jJa (tVar 3) tNil)))))))))))
theorem kKi:RdOk jQj jVv kX9:=by
 intro xs G Q h_;apply xe2 h_;clear h_;intro b n h_;apply ae3 h_;clear h_;intro hb hn kk
 show jVv _ [some (.ref b),none,none,none] G
 have hs:=sz
 wp_walk using 1,jVv,rEqA
 refine⟨b,_,n,rfl,hb,by omega,by omega,by omega,fun w G1 w0 w1 b1 k1=> ?_⟩
 obtain⟨w,rfl⟩:=lKj w0
 have e0:eqG G1 (T.int (w:Nat)) (T.int 0)=some (decide (w=0)):=jQ4 (c:=0)
 have e4:eqG G1 (T.int (w:Nat)) (T.int 4)=some (decide (w=4)):=jQ4 (c:=4)
 wp_walk using 1,e0,e4
 split
 ·refine⟨b,_,_,rfl,b1,by omega,by omega,by omega,fun r G2 r0 r1 b2 k2=> ?_⟩
  wp_walk using 1,tSeq
  refine⟨b,_,_,rfl,b2,by omega,by omega,by omega,fun q G3 q0 q1 b3 k3=> ?_⟩
  wp_walk using 1,tSeq
  obtain⟨r,rfl⟩:=lKj r0
  obtain⟨q,rfl⟩:=lKj q0
  refine⟨b,8+r,3+q,_,by simp,b3,by omega,by omega,by omega,by omega,by omega,fun W G4 ok b4 k4=> ?_⟩
  exact kk W G4 (ok.any (by omega) (by omega) (by omega)) (b4.mono (by omega)) (((k1.trans k2).trans k3).trans k4)
 split
 ·refine⟨b,_,_,rfl,b1,by omega,by omega,by omega,fun r G2 r0 r1 b2 k2=> ?_⟩
  wp_walk using 1,tSeq
  refine⟨b,_,_,rfl,b2,by omega,by omega,by omega,fun q G3 q0 q1 b3 k3=> ?_⟩
  wp_walk using 1,tSeq
  obtain⟨r,rfl⟩:=lKj r0
  obtain⟨q,rfl⟩:=lKj q0
  refine⟨b,1+r,2+q,_,by simp,b3,by omega,by omega,by omega,by omega,by omega,fun W G4 ok b4 k4=> ?_⟩
  exact kk W G4 (ok.any (by omega) (by omega) (by omega)) (b4.mono (by omega)) (((k1.trans k2).trans k3).trans k4)
 split
 ·refine⟨b,_,_,rfl,b1,by omega,by omega,by omega,fun r G2 r0 r1 b2 k2=> ?_⟩
  wp_walk using 1,tSeq
  obtain⟨r,rfl⟩:=lKj r0
  refine⟨1+r,by simp,by omega,by omega,fun G3 s3=> ?_⟩
  exact kk _ G3 ((qZc (n:=1+r) (by omega)).any (by omega) (by omega) (by omega)) ((b2.sub s3).mono (by omega)) ((k1.trans k2).trans (.sub s3))
 refine⟨b,_,_,rfl,b1,by omega,by omega,by omega,fun r G2 r0 r1 b2 k2=> ?_⟩
 wp_walk using 1,tSeq
 refine⟨b,_,_,rfl,b2,by omega,by omega,by omega,fun q G3 q0 q1 b3 k3=> ?_⟩
 wp_walk using 1,tSeq
 obtain⟨r,rfl⟩:=lKj r0
 obtain⟨q,rfl⟩:=lKj q0
 refine⟨b,1+r,2+q,_,by simp,b3,by omega,by omega,by omega,by omega,by omega,fun W G4 ok b4 k4=> ?_⟩
 wp_walk using 1,encW,List.length_map
 refine⟨by omega,fun p hp=> ?_⟩
 obtain⟨bo,hbo⟩:=b4.some
 have hbp:=jJe hbo hp
 have hWl:=ok.len
 have hfine:=ok.fine (by omega) (by omega)
 have hends:=kZj ok.deg
 obtain⟨c,hc,hc1,hc2,hc3⟩:∃c:Nat,L2.atI [T.int 5,T.int 5,T.int 5,T.int 3] ((W.length:Int)-1)=some (.int (c:Nat))/\1<=c/\c<=5/\(c+1)*W.length<=24:=by
  have:W.length=1\/W.length=2\/W.length=3\/W.length=4:=by omega
  rcases this with h | h | h | h<;>rw[h]
  ·exact⟨5,rfl,by decide,by decide,by decide⟩
  ·exact⟨5,rfl,by decide,by decide,by decide⟩
  ·exact⟨5,rfl,by decide,by decide,by decide⟩
  ·exact⟨3,rfl,by decide,by decide,by decide⟩
 refine⟨_,hc,?_⟩
 refine⟨b,_,_,rfl,b4.gup hbp,by omega,by omega,by omega,fun x G5 x0 x1 b5 k5=> ?_⟩
 wp_walk using 1,tSeq
 obtain⟨x,rfl⟩:=lKj x0
 have hm:(2+x)*W.length<=24:=lKb (lXu _ (by omega)) hc3
 have hcost:(jK8 W).length*(2+x)<=12*6:=lVx (lKb hends (by rw[hWl];exact lVx (show 1+r<=4 by omega) (show 2+q<=3 by omega))) (by omega)
 refine⟨b,W,2+x,_,by simp[encW],b5,by omega,hfine,ok.sym,by omega,by omega,by omega,fun V G6 cov b6 k6=> ?_⟩
 refine kk V G6 ?_ (b6.mono (by omega)) (((((k1.trans k2).trans k3).trans k4).trans (.new hp)).trans k5 |>.trans k6)
 rcases cov with rfl | ⟨sh,cn⟩
 ·exact ok.any (by omega) (by omega) (by omega)
 ·refine⟨by rw[sh.len];exact Nat.mul_pos (by omega) (by omega),by rw[sh.len];exact hm,sh.sym,fun y es hy=> ?_,cn⟩
  obtain⟨es',h1,h2⟩:=sh.row y es hy
  have:=ok.deg _ _ h1
  omega
variable {nu:List Nat}
theorem qUu {x:Nat}(h:nu[x]? =some y):L2.atI (jJq nu) (x:Int)=some (.int (y:Nat)):=by rw[atN];simp[jJq,h]
theorem jQ8 (h:Sub G G')(hp:G' p=none):G p=none:=by
 cases e:G p with
 | none=>rfl
 | some o=>rw[h _ _ e] at hp;cases hp
section
variable {κ:Type}[DecidableEq κ]
noncomputable def fst1 (F:List κ)(x:κ):List κ:=if x∈F then F else F++[x]
noncomputable def jQy (ls:List κ):List κ:=ls.foldl fst1 []
noncomputable def ix1 (F:List κ)(x:κ):Nat:=F.idxOf x
noncomputable def num (ls:List κ):List Nat:=ls.map fun x=>(jQy ls).idxOf x
theorem fst1_mem {F:List κ}{x y:κ}:y∈fst1 F x↔y∈F\/y=x:=by
 unfold fst1
 split
 ·rename_i h
  constructor
  ·exact .inl
  ·rintro (z | rfl)
   ·exact z
   ·exact h
 ·simp
theorem kZc:∀(ls F:List κ) {y:κ},y∈ls.foldl fst1 F↔y∈F\/y∈ls
 | [],F,y=>by simp
 | x::ls,F,y=>by
  rw[lV7,kZc ls,fst1_mem,lJy,or_assoc]
theorem firsts_mem {ls:List κ}{y:κ}:y∈jQy ls↔y∈ls:=by
 unfold jQy;rw[kZc];simp
theorem kJx {ls:List κ}{k:Nat}{x:κ}(h:ls[k]? =some x):jQy (ls.take (k+1))=fst1 (jQy (ls.take k)) x:=by
 unfold jQy
 rw[lKz,h,List.foldl_append];rfl
theorem kKt {ls:List κ}{k:Nat}{x:κ}(h:ls[k]? =some x):(num ls)[k]? =some ((jQy ls).idxOf x):=by simp[num,h]
theorem uJf {F:List κ}{x y:κ}(hx:x∈F)(h:F.idxOf x=F.idxOf y):x=y:=by
 have h1:=lYn hx
 have h2:F.idxOf y<F.length:=by rw[<-h];exact h1
 have e1:F[F.idxOf x]=x:=lYb h1
 have e2:F[F.idxOf y]=y:=lYb h2
 rw[<-e1,<-e2];congr 1
theorem qZr {ls:List κ}{b:Nat}{x y:κ}(ha:ls[a]? =some x)(hb:ls[b]? =some y)(h:(num ls)[a]? =(num ls)[b]?):x=y:=by
 rw[kKt ha,kKt hb] at h
 exact uJf (firsts_mem.mpr (lJt ha)) (lJ0 h)
theorem qQa {μ:Type}[DecidableEq μ]{f:κ->μ}{ls:List κ}(hf:∀x y,x∈ls->y∈ls->f x=f y->x=y):num (ls.map f)=num ls:=by
 have key:∀(ms F:List κ),(∀x,x∈ms->x∈ls)->(∀x,x∈F->x∈ls)->(ms.map f).foldl fst1 (F.map f)=(ms.foldl fst1 F).map f:=by
  intro ms
  induction ms with
  | nil=>intro F _ _;rfl
  | cons m ms ih=>
   intro F h1 h2
   rw[lJ6,lV7,lV7]
   have hm:=h1 m lKn
   have e:fst1 (F.map f) (f m)=(fst1 F m).map f:=by
    unfold fst1
    by_cases h:m∈F
    ·rw[lJb h,lJb (lJ2.mpr ⟨m,h,rfl⟩)]
    ·rw[lJa h,lJa,lKw];rfl
     intro z
     obtain⟨y,hy,e⟩:=lJ2.mp z
     rw[hf y m (h2 y hy) hm e] at hy
     exact h hy
   rw[e]
   refine ih _ (fun x hx=>h1 x (lKp _ hx)) fun x hx=> ?_
   rcases fst1_mem.mp hx with z | rfl
   ·exact h2 x z
   ·exact hm
 have e:=key ls [] (fun _ h=>h) (by simp)
 have ef:jQy (ls.map f)=(jQy ls).map f:=e
 unfold num
 rw[lJw]
 apply lVv
 intro x hx
 show (jQy (ls.map f)).idxOf (f x)=_
 rw[ef]
 have idx:∀F:List κ,(∀y,y∈F->y∈ls)->(F.map f).idxOf (f x)=F.idxOf x:=by
  intro F
  induction F with
  | nil=>intro _;rfl
  | cons a F ih=>
   intro hF
   rw[lJ6,List.idxOf_cons,List.idxOf_cons,ih fun y hy=>hF y (lKp _ hy)]
   by_cases h:a=x
   ·subst h;simp only[beq_self_eq_true]
   ·have:¬ f a=f x:=fun z=>h (hf a x (hF a lKn) hx z)
    rw[beq_eq_false_iff_ne.mpr this,beq_eq_false_iff_ne.mpr h]
 exact idx _ fun y hy=>firsts_mem.mp hy
end
noncomputable def tups (W:Web)(m:List Nat):List (List (Nat×Nat)):=W.map fun es=>es.map fun e=>(e.2,m.getD e.1 0)
noncomputable def jKt (W:Web):Nat->List Nat
 | 0=>num (W.map List.length)
 | k+1=>num (tups W (jKt W k))
theorem jYh {W:Web}:∀k,(jKt W k).length=W.length
 | 0=>by simp[jKt,num]
 | k+1=>by simp[jKt,num,tups]
theorem jYq {W:Web}{m:List Nat}(h:W[r]? =some es):(tups W m)[r]? =some (es.map fun e=>(e.2,m.getD e.1 0)):=by simp[tups,h]
theorem finer {W:Web} (f:Fine W):∀(k a b:Nat) (es fs:List (Nat×Nat)),W[a]? =some es->W[b]? =some fs->(es.map fun e=>(e.2,(jKt W k).getD e.1 0))=(fs.map fun e=>(e.2,(jKt W k).getD e.1 0))->(jKt W k)[a]? =(jKt W k)[b]?
 | 0,a,b,es,fs,ha,hb,h=>by
  have hl:=lKa List.length h
  simp at hl
  have h1:(W.map List.length)[a]? =some es.length:=by simp[ha]
  have h2:(W.map List.length)[b]? =some fs.length:=by simp[hb]
  show (num _)[a]? =(num _)[b]?
  rw[kKt h1,kKt h2,hl]
 | k+1,a,b,es,fs,ha,hb,h=>by
  show (num _)[a]? =(num _)[b]?
  rw[kKt (jYq ha),kKt (jYq hb)]
  congr 2
  apply lK2
  intro i
  have hi:=lKa (fun l=>l[i]?) h
  simp only[lJr] at hi ⊢
  cases e1:es[i]? with
  | none=>
   rw[e1] at hi
   cases e2:fs[i]? with
   | none=>rfl
   | some q=>rw[e2] at hi;cases hi
  | some p=>
   rw[e1] at hi
   cases e2:fs[i]? with
   | none=>rw[e2] at hi;cases hi
   | some q=>
    rw[e2] at hi
    simp only[lQe,lQw,Prod.mk.injEq] at hi ⊢
    refine⟨hi.1,?_⟩
    have hp:=f.rng a i p.1 p.2 (jVi ha e1)
    have hq:=f.rng b i q.1 q.2 (jVi hb e2)
    have gd:∀(k x:Nat),x<W.length->(jKt W k)[x]? =some ((jKt W k).getD x 0):=fun k x hx=>by
     have:x<(jKt W k).length:=by rw[jYh];exact hx
     simp[List.getD,lJi this]
    have hWp:W[p.1]? =some W[p.1]:=lJi hp
    have hWq:W[q.1]? =some W[q.1]:=lJi hq
    have same:(num (tups W (jKt W k)))[p.1]? =(num (tups W (jKt W k)))[q.1]? :=by
     have g1:=gd (k+1) p.1 hp
     have g2:=gd (k+1) q.1 hq
     show (jKt W (k+1))[p.1]? =(jKt W (k+1))[q.1]?
     rw[g1,g2,hi.2]
    have:=finer f k p.1 q.1 _ _ hWp hWq (qZr (jYq hWp) (jYq hWq) same)
    rw[gd k p.1 hp,gd k q.1 hq] at this
    exact lJ0 this
section
variable {κ K:Type}[DecidableEq κ][DecidableEq K]
noncomputable def dkvN (key:κ->K):Nat->List κ->List (K×T)
 | _,[]=>[]
 | n,x::F=>(key x,T.int (n:Nat))::dkvN key (n+1) F
noncomputable def dkv (key:κ->K)(F:List κ):List (K×T):=dkvN key 0 F
theorem kZo (key:κ->K) (x:κ):∀(F:List κ) (n:Nat),dkvN key n (F++[x])=dkvN key n F++[(key x,T.int ((n+F.length:Nat)))]
 | [],n=>rfl
 | y::F,n=>by
  rw[List.cons_append,dkvN,kZo key x F,dkvN,List.cons_append,lKc,show n+1+F.length=n+(F.length+1) by omega]
theorem uJr (key:κ->K)(x:κ)(F:List κ):dkv key (F++[x])=dkv key F++[(key x,T.int (F.length:Nat))]:=by
 unfold dkv;rw[kZo,lQ0]
theorem kZn (key:κ->K):∀(F:List κ) (n:Nat),(dkvN key n F).length=F.length
 | [],_=>rfl
 | _::F,n=>by rw[dkvN,lKc,kZn key F,lKc]
theorem qUf {key:κ->K}{F:List κ}:(dkv key F).length=F.length:=kZn key F 0
theorem kZm {key:κ->K} (hk:∀x y,key x=key y->x=y) (x:κ):∀(F:List κ) (n:Nat),valT (dkvN key n F) (key x)=if x∈F then some (T.int ((n+F.idxOf x:Nat))) else none
 | [],_=>by simp[dkvN,valT]
 | y::F,n=>by
  have ih:=kZm hk x F (n+1)
  unfold valT at ih ⊢
  rw[dkvN,lQj]
  by_cases h:y=x
  ·subst h
   simp
  ·have h1:decide (key y=key x)=false:=lJk fun e=>h (hk y x e)
   simp only[h1]
   rw[ih,List.idxOf_cons,beq_eq_false_iff_ne.mpr h]
   have h2:(x∈y::F)↔x∈F:=by
    rw[lJy]
    exact⟨fun z=>z.resolve_left fun e=>h e.symm,.inr⟩
   by_cases hx:x∈F
   ·rw[lJb hx,lJb (h2.mpr hx)]
    simp only[cond_false]
    congr 3;omega
   ·rw[lJa hx,lJa fun z=>hx (h2.mp z)]
theorem kXy {key:κ->K}(hk:∀x y,key x=key y->x=y){x:κ}{F:List κ}:valT (dkv key F) (key x)=if x∈F then some (T.int (F.idxOf x:Nat)) else none:=by
 unfold dkv;rw[kZm hk,lQ0]
theorem kUx {kvs:List (K×T)}{k:K}(h:valT kvs k=none):putT kvs k v=kvs++[(k,v)]:=by
 unfold putT
 rw[lJa]
 intro z
 rw[lXs] at z
 obtain⟨p,hp,e⟩:=z
 unfold valT at h
 rw[Option.map_eq_none_iff,List.find?_eq_none] at h
 exact h p hp e
theorem uJq {key:κ->K}(hk:∀x y,key x=key y->x=y){x:κ}{F:List κ}(h:x∉F):putT (dkv key F) (key x) (T.int (F.length:Nat))=dkv key (fst1 F x):=by
 rw[kUx (by rw[kXy hk,lJa h]),fst1,lJa h,uJr]
structure Dic (mk:List (K×T)->GO) (key:κ->K) (enc:κ->T):Prop where
 inj:∀x y,key x=key y->x=y
 has:∀(G:Gp) d kvs x,G d=some (mk kvs)->inR G (enc x) (.ref d)=some (valT kvs (key x)).isSome
 put:∀(G:Gp) d kvs x v,G d=some (mk kvs)->kvs.length<sizeLine->setR G (.ref d) (enc x) v=some (gup G d (mk (putT kvs (key x) v)))
 get:∀(G:Gp) d kvs x,G d=some (mk kvs)->ixR G (.ref d) (enc x)=valT kvs (key x)
 len:∀(G:Gp) d kvs,G d=some (mk kvs)->lenG G (.ref d)=some kvs.length
end
theorem dicT {κ:Type}[DecidableEq κ]{key:κ->L2.TKey}{enc:κ->List T}(hi:∀x y,key x=key y->x=y)(hk:∀x,jQw (enc x)=some (key x)):Dic (fun kvs=> .dct kvs) key (fun x=>T.tup (enc x)) where
 inj:=hi
 has:=fun G d kvs x h=>by
  have h1:seqT G (.ref d)=none:=by simp only[seqT,h,asL]
  have h2:=kX1 h (hk x)
  unfold inR;rw[h1,h2]
 put:=fun G d kvs x v h hz=>jZt h (hk x) hz
 get:=fun G d kvs x h=>by
  have h1:seqT G (.ref d)=none:=by simp only[seqT,h,asL]
  have h2:=kX1 h (hk x)
  unfold ixR;rw[h1,h2]
 len:=fun G d kvs h=>by simp only[lenG,h]
theorem qJk {κ:Type}[DecidableEq κ]{ls:List κ}:(jQy ls).length<=ls.length:=by
 have:∀(ms F:List κ),(ms.foldl fst1 F).length<=F.length+ms.length:=by
  intro ms
  induction ms with
  | nil=>intro F;simp
  | cons m ms ih=>
   intro F
   rw[lV7]
   have h1:=ih (fst1 F m)
   have h2:(fst1 F m).length<=F.length+1:=by unfold fst1;split<;>simp
   simp;omega
 have:=this ls []
 simpa[jQy] using this
theorem qQy {m:List Nat}{x:Nat}(h:x<m.length):L2.atI (jJq m) (x:Int)=some (.int (m.getD x 0:Nat)):=by
 rw[atN];simp[jJq,List.getD,lJi h]
noncomputable def line (n:Nat):Web:=(List.range n).map fun r=>[if r>0 then (r-1,1) else (0,0),if r<n-1 then (r+1,0) else (r,1)]
theorem jY3 (h:r<n):(line n)[r]? =some [if r>0 then (r-1,1) else (0,0),if r<n-1 then (r+1,0) else (r,1)]:=by simp[line,h]
theorem uJo (h:en (line n) r i=some (s,j)):r<n/\((i=0/\r>0/\s=r-1/\j=1)\/(i=0/\r=0/\s=0/\j=0)\/(i=1/\r<n-1/\s=r+1/\j=0)\/(i=1/\r=n-1/\s=r/\j=1)):=by
 have hr:=kJz h
 rw[show (line n).length=n by simp[line]] at hr
 obtain⟨es,h1,h2⟩:=jQi h
 rw[jY3 hr] at h1;cases h1
 refine⟨hr,?_⟩
 have hi:=(lJg.mp h2).1
 simp at hi
 have:i=0\/i=1:=by omega
 rcases this with rfl | rfl
 ·simp at h2
  by_cases h0:r>0
  ·rw[lJb h0] at h2;cases h2;exact .inl ⟨rfl,h0,rfl,rfl⟩
  ·rw[lJa h0] at h2;cases h2;exact .inr (.inl ⟨rfl,by omega,rfl,rfl⟩)
 ·simp at h2
  by_cases h0:r<n-1
  ·rw[lJb h0] at h2;cases h2;exact .inr (.inr (.inl ⟨rfl,h0,rfl,rfl⟩))
  ·rw[lJa h0] at h2;cases h2;exact .inr (.inr (.inr ⟨rfl,by omega,rfl,rfl⟩))
def jX2:Sp3:=fun xs G Q=>∃n:Nat,xs=[.int n]/\1<=n/\n<=1000/\∀G',Sub G G'->Q (encW (line n)) G'
noncomputable def qX2:List Str:=["_law_many","_law_made","_law_room","_law_back","_law_on"]
noncomputable def kJh:TS3:=
 (tSeq (tAsg (tLst tNil) (jJg 1))
 (tSeq (tFor (jKc (jJa (tVar 0) tNil)) (jJg 2) (tSeq (tAsg (tIf (jJ1 (tOp rGt (tVar 2) (tC (.int 0)))) (tTup (jJa (tOp rSub (tVar 2) (tC (.int 1))) (jJa (tC (.int 1)) tNil))) (tTup (jJa (tC (.int 0)) (jJa (tC (.int 0)) tNil)))) (jJg 3))
 (tSeq (tAsg (tIf (jJ1 (tOp rLt (tVar 2) (tOp rSub (tVar 0) (tC (.int 1))))) (tTup (jJa (tOp jJt (tVar 2) (tC (.int 1))) (jJa (tC (.int 0)) tNil))) (tTup (jJa (tVar 2) (jJa (tC (.int 1)) tNil)))) (jJg 4))
 (jUi (tBM "list" jK3 (tVar 1) (jJa (tTup (jJa (tVar 3) (jJa (tVar 4) tNil))) tNil))))))
 (tRet (tCB jKa (jJa (tVar 1) tNil)))))
theorem kXc:RdOk jX2 kJh qX2:=by
 intro xs G Q h_;apply xe1 h_;clear h_;intro n h_;apply ae3 h_;clear h_;intro hn1 hn kk
 show kJh _ [some (.int n),none,none,none,none] G
 have hs:=sz
 wp_walk using 1,kJh,jJ2,jKc
 refine⟨by omega,fun p hp=>⟨by omega,by omega,?_⟩⟩
 rw[show ((n:Nat):Int).toNat=n by omega]
 refine⟨fun k τ G'=>∃(v2 v3 v4:Option T),τ=[some (.int n),some (.ref p),v2,v3,v4]/\G' p=some (.lst (((line n).take k).map encR))/\Sub G G',?_,?_,?_,?_⟩
 ·exact⟨none,none,none,rfl,by rw[List.take_zero];exact jJh,.new hp⟩
 ·intros;trivial
 ·intro k y τ G1 hy h_;apply xe3 h_;clear h_;intro v2 v3 v4 h_;apply ae2 h_;clear h_;intro h1 h2
  obtain⟨hk,rfl⟩:=jQ9 hy
  have tk:((line n).take (k+1)).map encR=((line n).take k).map encR++[encR [if k>0 then (k-1,1) else (0,0),if k<n-1 then (k+1,0) else (k,1)]]:=by
   rw[lKz,jY3 hk];simp
  have hlen:(((line n).take k).map encR).length<sizeLine:=by simp[line];omega
  have hty:tyT G1 "list" (T.ref p):=by rw[jK1 h1];trivial
  wp_walk using 1,h1
  by_cases h0:0<k
  ·rw[lJb (by omega)]
   refine⟨by omega,?_⟩
   by_cases h3:k<n-1
   ·rw[lJb (by omega)]
    refine⟨by omega,hty,by omega,hlen,?_,h2.over hp⟩
    rw[tk,lJb h0,lJb h3,show ((k:Int)-1)=((k-1:Nat):Int) by omega];rfl
   ·rw[lJa (by omega)]
    refine⟨by omega,hty,by omega,hlen,?_,h2.over hp⟩
    rw[tk,lJb h0,lJa h3,show ((k:Int)-1)=((k-1:Nat):Int) by omega];rfl
  ·rw[lJa (by omega)]
   refine⟨by omega,?_⟩
   by_cases h3:k<n-1
   ·rw[lJb (by omega)]
    refine⟨by omega,hty,by omega,hlen,?_,h2.over hp⟩
    rw[tk,lJa h0,lJb h3];rfl
   ·rw[lJa (by omega)]
    refine⟨by omega,hty,by omega,hlen,?_,h2.over hp⟩
    rw[tk,lJa h0,lJa h3];rfl
 ·intro τ G1 h_;apply xe3 h_;clear h_;intro v2 v3 v4 h_;apply ae2 h_;clear h_;intro h1 h2
  rw[jJ9,lQd (by simp[line])] at h1
  wp_walk using 1,tSeq
  exact⟨_,jJm h1,kk G1 h2⟩
noncomputable def both (U V:Web):Web:=U++V.map fun es=>es.map fun e=>(e.1+U.length,e.2)
noncomputable def jX4:Sp3:=fun xs G Q=>∃(U V:Web),xs=[encW U,encW V]/\U.length<=1000/\V.length<=1000/\(∀(r:Nat) (es:List (Nat×Nat)),V[r]? =some es->es.length<=1000)/\∀p G',G p=none->G' p=some (.lst ((both U V).map encR))->Sub G G'->Q (.ref p) G'
noncomputable def qX4:List Str:=["_law_one","_law_other","_law_doors","_law_room","_law_door"]
noncomputable def kJj:TS3:=
 (tRet (tOp jJt (tCB jVx (jJa (tVar 0) tNil)) (jKp [false,false,true,false,false] (iSeq (tVar 1)) (jJg 2) jK2 (tCB jKa (jJa (jKp [false,false,false,true,true] (iSeq (tVar 2)) (gTup 2 (jJx (jJg 3) (jJx (jJg 4) gNil))) jK2 (tTup (jJa (tOp jJt (tVar 3) (tCB rLen (jJa (tVar 0) tNil))) (jJa (tVar 4) tNil)))) tNil)))))
theorem kXe:RdOk jX4 kJj qX4:=by
 intro xs G Q h_;apply xe2 h_;clear h_;intro U V h_;apply ae4 h_;clear h_;intro hU hV hd kk
 show kJj _ [some (encW U),some (encW V),none,none,none] G
 have hs:=sz
 wp_walk using 1,kJj,encW,jVx,jXt,iSeq
 intro p hp
 refine jKm (es:=V) (enc:=encR) (fun es=>encR (es.map fun e=>(e.1+U.length,e.2))) (by omega) (fun _ _=>trivial) ?_ ?_
 ·intro i es he G' K K0 s hk
  wp_walk using 1,encR,iSeq
  refine jKm (es:=es) (enc:=encE) (fun e=>encE (e.1+U.length,e.2)) (by have:=hd _ _ he;omega) (fun _ _=>trivial) ?_ ?_
  ·intro i e he G' K K0 s hk
   wp_walk using 1,encE,List.length_map
   exact⟨by omega,hk G' (.refl _)⟩
  ·intro q G1 hq h1 s1
   refine⟨_,jJm h1,?_⟩
   have:=hk G1 s1
   rw[encR,lJw] at this
   exact this
 ·intro q G1 hq h1 s1
  have hp1:G1 p=some (.lst (U.map encR)):=s1 _ _ jJh
  refine⟨_,jXh hp1 h1 (by simp;omega),?_⟩
  simp only[jU9]
  intro l hl
  refine kk l _ (jQ8 (Sub.trans (.new hp) s1) hl) (by rw[jJh,both,lKw,lJw];rfl) (Sub.trans (Sub.trans (.new hp) s1) (.new hl))
abbrev Look:=Nat×Option (List (Nat×Nat))
noncomputable def encK:Look->List T
 | (a,none)=>[.int (a:Nat),.int 0]
 | (a,some t)=>[.int (a:Nat),encR t]
noncomputable def kU9 (e:Nat×Nat):L2.K1:= .inr [.inl (e.1:Nat),.inl (e.2:Nat)]
noncomputable def keyK:Look->L2.TKey
 | (a,none)=>[.inl (.inl (a:Nat)),.inl (.inl 0)]
 | (a,some t)=>[.inl (.inl (a:Nat)),.inr (t.map kU9)]
theorem qQm {a b:Nat×Nat}(h:kU9 a=kU9 b):a=b:=by
 have h:=Sum.inr.inj h
 simp only[lVr,Sum.inl.injEq,and_true] at h
 obtain⟨a1,a2⟩:=a;obtain⟨b1,b2⟩:=b
 simp only at h
 rw[show a1=b1 by omega,show a2=b2 by omega]
theorem kU7:∀ {a b:List (Nat×Nat)},a.map kU9=b.map kU9->a=b
 | [],[],_=>rfl
 | [],_::_,h=>by simp at h
 | _::_,[],h=>by simp at h
 | x::a,y::b,h=>by
  simp only[lVr,lJ6] at h
  rw[qQm h.1,kU7 h.2]
theorem jZ0 (x y:Look)(h:keyK x=keyK y):x=y:=by
 obtain⟨a,s⟩:=x;obtain⟨b,t⟩:=y
 cases s<;>cases t<;>simp only[keyK,lVr,Sum.inl.injEq,Sum.inr.injEq,reduceCtorEq,and_true,and_false,true_and] at h
 ·rw[show a=b by omega]
 ·rename_i s t
  rw[show a=b by omega,kU7 h.2]
theorem qUy:∀t:List (Nat×Nat),allK key1 (t.map encE)=some (t.map kU9)
 | []=>rfl
 | e::t=>by
  show allK key1 (encE e::t.map encE)=_
  unfold allK
  rw[qUy t,show key1 (encE e)=some (kU9 e) from rfl];rfl
theorem kY6 (x:Look):jQw (encK x)=some (keyK x):=by
 obtain⟨a,s⟩:=x
 cases s with
 | none=>rfl
 | some t=>
  show allK key2 [.int (a:Nat),encR t]=_
  unfold allK
  rw[show key2 (.int (a:Nat))=some (.inl (.inl (a:Nat))) from rfl]
  unfold allK
  rw[show key2 (encR t)=some (.inr (t.map kU9)) by show (allK key1 (t.map encE)).map Sum.inr=_;rw[qUy];rfl]
  rfl
theorem dicK:Dic (fun kvs=> .dct kvs) keyK (fun x=>T.tup (encK x)):=dicT jZ0 kY6
noncomputable def jUb (W:Web):Nat->List Look
 | 0=>W.map fun es=>(es.length,none)
 | k+1=>(List.range W.length).map fun r=>((jKt W k).getD r 0,some ((row W r).map fun e=>(e.2,(jKt W k).getD e.1 0)))
theorem kJq {W:Web}:∀k,(jUb W k).length=W.length
 | 0=>by simp[jUb]
 | _+1=>by simp[jUb]
theorem qQi {W:Web}(f:Fine W):∀k,num (jUb W k)=jKt W k
 | 0=>by
  have:jUb W 0=(W.map List.length).map fun n=>((n,none):Look):=by simp[jUb,lJw]
  rw[this,qQa fun x y _ _ h=>(Prod.mk.inj h).1];rfl
 | k+1=>by
  have e:jUb W (k+1)=(tups W (jKt W k)).map fun t=>(((jKt W k).getD ((tups W (jKt W k)).idxOf t) 0,some t):Look):=by
   apply lK2
   intro r
   by_cases hr:r<W.length
   ·have hW:W[r]? =some W[r]:=lJi hr
    generalize W[r]=es at hW
    have ht:=jYq (m:=jKt W k) hW
    rw[lJr,ht]
    simp only[jUb,lJr,lQv hr,lQe,jX6 hW]
    congr 2
    have hm:=lJt ht
    have hi:=lYn hm
    have hie:(tups W (jKt W k))[(tups W (jKt W k)).idxOf (es.map fun e=>(e.2,(jKt W k).getD e.1 0))]? =some (es.map fun e=>(e.2,(jKt W k).getD e.1 0)):=by rw[lJi hi,lYb]
    generalize (tups W (jKt W k)).idxOf (es.map fun e=>(e.2,(jKt W k).getD e.1 0))=i at hi hie
    have hiW:i<W.length:=by simpa[tups] using hi
    have hWi:W[i]? =some W[i]:=lJi hiW
    generalize W[i]=fs at hWi
    rw[jYq hWi] at hie
    have:=finer f k r i es fs hW hWi (lJ0 hie).symm
    have l:=jYh (W:=W) k
    simp only[List.getD,this]
   ·rw[lJ3 (by rw[kJq];omega),lJ3 (by simp[tups];omega)]
  rw[e,qQa fun x y _ _ h=>lJ0 (Prod.mk.inj h).2];rfl
noncomputable def jU2:Sp3:=fun xs G Q=>∃(W:Web) (b mk:Addr) (n:Nat),xs=[.ref b,.ref mk,.int n]/\G b=some (.lst (W.map encR))/\G mk=some (.lst [])/\Fine W/\n<=500/\∀q rs G',G q=none->(∀r,r∈rs->G r=none)->RowsT G' q ((List.range (n+1)).map fun k=>jJq (jKt W k)) rs->Sub G G'->Q (.ref q) G'
noncomputable def qJr:List Str:=["_law_both_here","_law_marked","_law_many","_law_looks","_law_found","_law_turn_here","_law_some","_law_look","_law_row","_law_room","_law_doors","_law_end","_law_door"]
noncomputable def jXp:TS3:=
 (tSeq (tAsg (jKp [false,false,false,false,false,false,false,false,false,true,true,false,false] (jY6 (jJa (tVar 0) tNil)) (gTup 2 (jJx (jJg 9) (jJx (jJg 10) gNil))) jK2 (tTup (jJa (tCB qKu (jJa (tVar 10) tNil)) (jJa (tCB jYd (jJa (tOp kQu (tVar 9) (tVar 1)) tNil)) tNil)))) (jJg 3))
 (tSeq (tAsg (tLst tNil) (jJg 4))
 (tSeq (tFor (jKc (jJa (tOp jJt (tVar 2) (tC (.int 1))) tNil)) (jJg 5) (tSeq (tAsg jQ1 (jJg 6))
 (tSeq (tFor (iSeq (tVar 3)) (jJg 7) (jUi (tBM "dict" qKs (tVar 6) (jJa (tVar 7) (jJa (tCB qKu (jJa (tVar 6) tNil)) tNil)))))
 (tSeq (tAsg (jKp [false,false,false,false,false,false,false,true,false,false,false,false,false] (iSeq (tVar 3)) (jJg 7) jK2 (tOp rIxF (tVar 6) (tVar 7))) (jJg 8))
 (tSeq (jUi (tBM "list" jK3 (tVar 4) (jJa (tVar 8) tNil)))
 (tSeq (tAsg (tLst tNil) (jJg 3))
 (tFor (jY6 (jJa (tVar 0) tNil)) (gTup 2 (jJx (jJg 9) (jJx (jJg 10) gNil))) (jUi (tBM "list" jK3 (tVar 3) (jJa (tTup (jJa (tOp rIxF (tVar 8) (tVar 9)) (jJa (tCB jKa (jJa (jKp [false,false,false,false,false,false,false,false,false,false,false,true,true] (iSeq (tVar 10)) (gTup 2 (jJx (jJg 11) (jJx (jJg 12) gNil))) jK2 (tTup (jJa (tVar 12) (jJa (tOp rIxF (tVar 8) (tVar 11)) tNil)))) tNil)) tNil))) tNil))))))))))
 (tRet (tVar 4)))))
theorem qQc {W:Web}:numT (W.map encR)=(List.range W.length).map fun i=>T.tup [.int (i:Nat),encR (row W i)]:=by
 unfold numT
 rw[lJe]
 apply lVv
 intro i hi
 have hl:=lQs.mp hi
 have hW:W[i]? =some W[i]:=lJi hl
 simp[List.getD,row,hW]
theorem uJe {x:Nat}(h:G p=some (.lst [])):inR G (.int (x:Nat)) (.ref p)=some false:=by
 have:=kY9 (F:=[]) (r:=x) h
 simpa using this
theorem kQl:RdOk jU2 jXp qJr:=by
 intro xs G Q h_;apply xe4 h_;clear h_;intro W b mk n h_;apply ae5 h_;clear h_;intro hb hmk fine hn kk
 show jXp _ [some (.ref b),some (.ref mk),some (.int n),none,none,none,none,none,none,none,none,none,none] G
 have hs:=sz
 have hl:=fine.len
 wp_walk using 1,jXp,jJ2,jKc,jY6
 refine⟨W.map encR,by simp only[jUx,hb,asL],?_⟩
 rw[qQc]
 refine jKm (es:=List.range W.length) (enc:=fun i=>T.tup [.int (i:Nat),encR (row W i)]) (fun i=>T.tup (encK ((row W i).length,none))) (by simp;omega) (fun G' s=>by simp only[jUx,s _ _ hb,asL]) ?_ ?_
 ·intro i r hi G' K K0 s hk
  obtain⟨q1,q2⟩:=lJg.mp hi
  simp at q1 q2;subst q2
  wp_walk using 1,qKu,lenG,encR,List.length_map,kQu,uJe (s _ _ hmk),jYd
  exact⟨by omega,hk G' (.refl _)⟩
 ·intro lk0 G1 hlk0 h1 s1
  refine⟨by omega,fun p hp=>⟨by omega,by omega,?_⟩⟩
  rw[show ((n:Int)+1).toNat=n+1 by omega]
  have hlp:lk0≠p:=jJe h1 hp
  have hpG:=jQ8 s1 hp
  let J1:Nat->St3->Gp->Prop:=fun k τ G'=>∃(lk:Addr) (v5 v6 v7 v8 v9 v10:Option T) (rs:List Addr),τ=[some (.ref b),some (.ref mk),some (.int n),some (.ref lk),some (.ref p),v5,v6,v7,v8,v9,v10,none,none]/\G' lk=some (.lst ((jUb W k).map fun x=>T.tup (encK x)))/\RowsT G' p ((List.range k).map fun k=>jJq (jKt W k)) rs/\(∀r,r∈rs->G r=none)/\p∉rs/\Sub G G'
  refine⟨J1,?_,?_,?_,?_⟩
  ·refine xi8 lk0 none none none none none none [] rfl ⟨?_,⟨jJh,rfl,by simp⟩,by simp,by simp,s1.trans (.new hp)⟩
   rw[jJs hlp,h1]
   congr 2
   apply lK2
   intro r
   by_cases hr:r<W.length
   ·have hW:W[r]? =some W[r]:=lJi hr
    simp[jUb,lQv hr,row,hW]
   ·rw[lJ3 (by simp;omega),lJ3 (by simp[jUb];omega)]
  ·intros;trivial
  ·intro k y τ G2 hy h_;apply xe8 h_;clear h_;intro lk v5 v6 v7 v8 v9 v10 rs h_;apply ae5 h_;clear h_;intro i1 i2 i3 i4 i5
   obtain⟨hk,rfl⟩:=jQ9 hy
   have hb2:=i5 _ _ hb
   have hll:=kJq (W:=W) k
   wp_walk using 1,jQ1,jJ2,iSeq
   refine .inl fun d hd=> ?_
   have hdG:=jQ8 i5 hd
   have hld:lk≠d:=jJe i1 hd
   have i1d:gup G2 d (.dct []) lk=some (.lst ((jUb W k).map fun x=>T.tup (encK x))):=by rw[jJs hld];exact i1
   refine⟨_,jJm i1d,?_⟩
   let J2:Nat->St3->Gp->Prop:=fun i τ G'=>∃v7:Option T,τ=[some (.ref b),some (.ref mk),some (.int n),some (.ref lk),some (.ref p),some (.int k),some (.ref d),v7,v8,v9,v10,none,none]/\G' lk=some (.lst ((jUb W k).map fun x=>T.tup (encK x)))/\G' d=some (.dct (dkv keyK (jQy ((jUb W k).take i))))/\Sub G2 G'
   refine⟨J2,?_,?_,?_,?_⟩
   ·exact xi1 v7 rfl ⟨i1d,jJh,.new hd⟩
   ·intro i τ G' hi h_;apply xe1 h_;clear h_;intro v7 h_;apply ae3 h_;clear h_;intro j1 j2 j3
    exact jJm j1
   ·intro i y τ G3 hy h_;apply xe1 h_;clear h_;intro v7 h_;apply ae3 h_;clear h_;intro j1 j2 j3
    obtain⟨x,hx,rfl⟩:=jKz hy
    have hfl:(jQy ((jUb W k).take i)).length<=1000:=lKb qJk (by rw[lQ5];omega)
    wp_walk using 1,qKu,lenG,j2,qUf
    refine⟨.inr ⟨rfl,.inr ⟨_,j2⟩⟩,d,encK x,keyK x,_,.int _,rfl,rfl,kY6 x,j2,by rw[qUf];omega,?_⟩
    rw[kXy jZ0]
    by_cases hm:x∈jQy ((jUb W k).take i)
    ·rw[lJb hm]
     exact xi1 _ rfl ⟨j1,by rw[kJx hx,fst1,lJb hm];exact j2,j3⟩
    ·rw[lJa hm]
     refine xi1 _ rfl ?_
     show gup _ _ _ lk=_/\gup _ _ _ d=_/\Sub G2 (gup _ _ _)
     exact⟨by rw[jJs hld];exact j1,by rw[jJh,uJq jZ0 hm,kJx hx],j3.over hd⟩
   ·intro τ G3 h_;apply xe1 h_;clear h_;intro v7 h_;apply ae3 h_;clear h_;intro j1 j2 j3
    rw[lJe,lQl] at j2
    wp_walk using 1,iSeq,jJm j1
    refine jKm (es:=jUb W k) (enc:=fun x=>T.tup (encK x)) (fun x=>T.int (ix1 (jQy (jUb W k)) x:Nat)) (by omega) (fun G' s=>jJm (s _ _ j1)) ?_ ?_
    ·intro i x hx G' K' K0 s hK
     have hm:x∈jQy (jUb W k):=firsts_mem.mpr (lJt hx)
     wp_walk using 1,dicK.get _ _ _ x (s _ _ j2),kXy jZ0,if_pos hm
     exact hK G' (.refl _)
    ·intro q G4 hq h4 s4
     have h4':G4 q=some (.lst (jJq (jKt W k))):=by
      rw[h4,<-qQi fine k,num,jJq,lJw];rfl
     have s24:Sub G2 G4:=j3.trans s4
     have hqG:G q=none:=jQ8 i5 (jQ8 j3 hq)
     have hqp:q≠p:=fun e=>by
      rw[e] at hq
      have:=s24 _ _ i2.1
      rw[j3 _ _ i2.1] at hq;cases hq
     have hqr:q∉rs:=fun hm=>by
      obtain⟨j,hj⟩:=lJ7 (id hm)
      obtain⟨ts,_,z2⟩:=i2.2.2 j q hj
      rw[j3 _ _ z2] at hq;cases hq
     have hrl:rs.length=k:=by have:=i2.2.1;simpa using this
     have hp4:=s24 _ _ i2.1
     wp_walk using 1,hp4,jJ2,jY6
     refine⟨by rw[jK1 hp4];trivial,by simp;omega,by omega,fun l hl=> ?_⟩
     have hbp:b≠p:=jJe hb hpG
     have hb4:gup G4 p (.lst (rs.map T.ref++[.ref q])) b=some (.lst (W.map encR)):=by rw[jJs hbp];exact s24 _ _ hb2
     have hq4:gup G4 p (.lst (rs.map T.ref++[.ref q])) q=some (.lst (jJq (jKt W k))):=by rw[jJs hqp];exact h4'
     have hR4:RowsT (gup G4 p (.lst (rs.map T.ref++[.ref q]))) p ((List.range (k+1)).map fun k=>jJq (jKt W k)) (rs++[q]):=by
      refine⟨by rw[jJh];simp,by simp[hrl],fun i r hi=> ?_⟩
      by_cases hil:i<rs.length
      ·rw[lKy hil] at hi
       obtain⟨ts,z1,z2⟩:=i2.2.2 i r hi
       have hrp:r≠p:=fun e=>i4 (by rw[<-e];exact lJt hi)
       refine⟨ts,?_,by rw[jJs hrp];exact s24 _ _ z2⟩
       rw[lJr] at z1 ⊢
       rw[lQv (by omega)] at z1 ⊢
       exact z1
      ·have hi2:=(lJg.mp hi).1
       simp at hi2
       have e:i=rs.length:=by omega
       subst e
       rw[lKq (lJj _)] at hi
       simp at hi;subst hi
       exact⟨jJq (jKt W k),by simp[hrl],hq4⟩
     have sG4:Sub G (gup G4 p (.lst (rs.map T.ref++[.ref q]))):=(i5.trans s24).over hpG
     generalize gup G4 p (.lst (rs.map T.ref++[.ref q]))=G5 at hl hb4 hq4 hR4 sG4 ⊢
     have hbl:b≠l:=jJe hb4 hl
     have hlG:=jQ8 sG4 hl
     refine⟨W.map encR,by simp only[jUx,jJs hbl,hb4,asL],?_⟩
     rw[qQc]
     have hml:=jYh (W:=W) k
     have hlk:=kJq (W:=W) (k+1)
     let J3:Nat->St3->Gp->Prop:=fun i τ G'=>∃(v9 v10:Option T),τ=[some (.ref b),some (.ref mk),some (.int n),some (.ref l),some (.ref p),some (.int k),some (.ref d),v7,some (.ref q),v9,v10,none,none]/\G' l=some (.lst (((jUb W (k+1)).take i).map fun x=>T.tup (encK x)))/\Sub G5 G'
     refine⟨J3,?_,?_,?_,?_⟩
     ·exact xi2 v9 v10 rfl ⟨by rw[List.take_zero];exact jJh,.new hl⟩
     ·intro i τ G' hi h_;apply xe2 h_;clear h_;intro v9 v10 h_;apply ae2 h_;clear h_;intro q1 q2
      simp only[jUx,q2 _ _ hb4,asL]
     ·intro i y τ G6 hy h_;apply xe2 h_;clear h_;intro v9 v10 h_;apply ae2 h_;clear h_;intro q1 q2
      obtain⟨r,hr,rfl⟩:=jKz hy
      obtain⟨z1,z2⟩:=lJg.mp hr
      simp at z1 z2;subst z2
      have hW:W[i]? =some W[i]:=lJi z1
      generalize W[i]=es at hW
      have hes:=fine.row i es hW
      have hq6:=q2 _ _ hq4
      rw[jX6 hW]
      wp_walk using 1,encR,iSeq,jJ6 hq6,qQy (show i<(jKt W k).length by omega)
      refine⟨by rw[jK1 q1];trivial,?_⟩
      refine jKm (es:=es) (enc:=encE) (fun e=>encE (e.2,(jKt W k).getD e.1 0)) (by omega) (fun _ _=>trivial) ?_ ?_
      ·intro j e he G' K' K0 s hK
       have hlt:=fine.rng i j e.1 e.2 (jVi hW he)
       wp_walk using 1,encE,jJ6 (s _ _ hq6),qQy (show e.1<(jKt W k).length by omega)
       rw[encE] at hK
       exact⟨by omega,hK G' (.refl _)⟩
      ·intro D G7 hD h7 s7
       have hlD:l≠D:=jJe q1 hD
       refine⟨_,jJm h7,?_⟩
       have q1':=s7 _ _ q1
       have hlook:(jUb W (k+1))[i]? =some ((jKt W k).getD i 0,some (es.map fun e=>(e.2,(jKt W k).getD e.1 0))):=by
        simp[jUb,z1,jX6 hW]
       have tk:((jUb W (k+1)).take (i+1)).map (fun x=>T.tup (encK x))=((jUb W (k+1)).take i).map (fun x=>T.tup (encK x))++[T.tup [.int ((jKt W k).getD i 0:Nat),T.tup (es.map fun e=>encE (e.2,(jKt W k).getD e.1 0))]]:=by
        rw[lKz,hlook];simp[encK,encR,lJw]
       wp_walk using 1,q1'
       exact⟨by omega,by simp;omega,xi2 _ _ rfl ⟨by rw[jJh,tk],(q2.trans s7).over hl⟩⟩
     ·intro τ G6 h_;apply xe2 h_;clear h_;intro v9 v10 h_;apply ae2 h_;clear h_;intro q1 q2
      rw[lJe,lK6,lQd (by omega)] at q1
      refine xi8 _ _ _ _ _ _ _ (rs++[q]) rfl ⟨q1,⟨q2 _ _ hR4.1,hR4.2.1,fun i r hi=>let ⟨ts,z1,z2⟩:=hR4.2.2 i r hi;⟨ts,z1,q2 _ _ z2⟩⟩,fun r hr=> ?_,fun hm=> ?_,sG4.trans q2⟩
      ·rcases (lJm.mp hr) with h | h
       ·exact i3 r h
       ·rw[lJn.mp h];exact hqG
      ·rcases (lJm.mp hm) with h | h
       ·exact i4 h
       ·exact hqp (lJn.mp h).symm
  ·intro τ G2 h_;apply xe8 h_;clear h_;intro lk v5 v6 v7 v8 v9 v10 rs h_;apply ae5 h_;clear h_;intro i1 i2 i3 i4 i5
   rw[jJ9] at i2
   wp_walk using 1,tSeq
   exact kk p rs G2 hpG i3 i2 i5
noncomputable def tend (ts:List Nat)(e:Nat×Nat):Nat×Nat:=(e.1,if ts.getD e.1 0=0 then e.2 else 1-e.2)
noncomputable def trow (n:Nat)(ts:List Nat)(r:Nat):List (Nat×Nat):=if ts.getD r 0=0 then (((line n).getD r []).map (tend ts)) else (((line n).getD r []).map (tend ts)).reverse
noncomputable def jQ0 (n:Nat)(ts:List Nat):Web:=(List.range n).map (trow n ts)
noncomputable def jQf:Sp3:=fun xs G Q=>∃(n:Nat) (t:Addr) (ts:List Nat),xs=[.int n,.ref t]/\G t=some (.lst (jJq ts))/\1<=n/\n<=24/\n<=ts.length/\(∀x,x∈ts->x<=1)/\∀G',Sub G G'->Q (encW (jQ0 n ts)) G'
noncomputable def kKa:List Str:=["_law_many","_law_turned","_law_made","_law_room","_law_doors","_law_row","_law_other","_law_door"]
noncomputable def jQ3:TS3:=
 (tSeq (tAsg (tLst tNil) (jJg 2))
 (tSeq (tFor (iEnT (jJa (jJo jX2 (jJa (tVar 0) tNil)) tNil)) (gTup 2 (jJx (jJg 3) (jJx (jJg 4) gNil))) (tSeq (tAsg (jKp [false,false,false,false,false,false,true,true] (iSeq (tVar 4)) (gTup 2 (jJx (jJg 6) (jJx (jJg 7) gNil))) jK2 (tTup (jJa (tVar 6) (jJa (tOp rIxF (tLst (jJa (tVar 7) (jJa (tOp rSub (tC (.int 1)) (tVar 7)) tNil))) (tOp rIxF (tVar 1) (tVar 6))) tNil)))) (jJg 5))
 (jUi (tBM "list" jK3 (tVar 2) (jJa (tCB jKa (jJa (tOp rIxF (tLst (jJa (tVar 5) (jJa (qY4 (tVar 5) (jQd (tUn rNeg (tC (.int 1))))) tNil))) (tOp rIxF (tVar 1) (tVar 3))) tNil)) tNil)))))
 (tRet (tCB jKa (jJa (tVar 2) tNil)))))
theorem jYa:RdOk jQf jQ3 kKa:=by
 intro xs G Q h_;apply xe3 h_;clear h_;intro n t ts h_;apply ae6 h_;clear h_;intro ht hn1 hn hts h01 kk
 show jQ3 _ [some (.int n),some (.ref t),none,none,none,none,none,none] G
 have hs:=sz
 wp_walk using 1,jQ3,jJ2,iEnT,jX2
 refine⟨by omega,fun p hp=>⟨n,rfl,hn1,by omega,fun G1 s1=> ?_⟩⟩
 refine⟨(line n).map encR,rfl,?_⟩
 have hll:(line n).length=n:=by simp[line]
 rw[qQc,hll]
 refine⟨fun k τ G'=>∃(v3 v4 v5:Option T),τ=[some (.int n),some (.ref t),some (.ref p),v3,v4,v5,none,none]/\G' p=some (.lst (((jQ0 n ts).take k).map encR))/\Sub G G',?_,?_,?_,?_⟩
 ·exact⟨none,none,none,rfl,by rw[List.take_zero];exact s1 _ _ jJh,Sub.trans (.new hp) s1⟩
 ·intros;trivial
 ·intro k y τ G2 hy h_;apply xe3 h_;clear h_;intro v3 v4 v5 h_;apply ae2 h_;clear h_;intro h1 h2
  rw[lJr] at hy
  obtain⟨i,hi,rfl⟩:=lQu.mp hy
  obtain⟨hk,e⟩:=lJg.mp hi
  simp at hk e;subst e
  have hW:=jY3 hk
  have hrow:row (line n) k=(line n).getD k []:=by simp[row]
  have ht2:=h2 _ _ ht
  wp_walk using 1,iSeq,encR
  have hin:∀(i:Nat) (e:Nat×Nat),(row (line n) k)[i]? =some e->e.1<n/\e.2<=1:=by
   intro i e he
   rw[row,hW] at he
   simp only[Option.getD_some] at he
   have hi2:=(lJg.mp he).1
   simp at hi2
   have:i=0\/i=1:=by omega
   rcases this with rfl | rfl
   ·simp at he;subst he
    by_cases z:0<k
    ·rw[lJb z];simp;omega
    ·rw[lJa z];simp;omega
   ·simp at he;subst he
    by_cases z:k<n-1
    ·rw[lJb z];simp;omega
    ·rw[lJa z];simp;omega
  have hrl:(row (line n) k).length=2:=by rw[row,hW];rfl
  have bit:∀j,j<n->∃b:Nat,ts[j]? =some b/\ts.getD j 0=b/\b<=1:=fun j hj=>by
   have hj2:j<ts.length:=by omega
   exact⟨ts[j],lJi hj2,by simp[hj2],h01 _ (lVk hj2)⟩
  refine jKm (es:=row (line n) k) (enc:=encE) (fun e=>encE (tend ts e)) (by omega) (fun _ _=>trivial) ?_ ?_
  ·intro i e he G' K K0 s hk
   obtain⟨he1,he2⟩:=hin i e he
   obtain⟨b,hb1,hb2,hb3⟩:=bit _ he1
   wp_walk using 1,encE
   refine⟨by omega,fun l hl=>⟨.int b,?_,?_⟩⟩
   ·rw[jJ6 (xs:=jJq ts) (by rw[jJs (jJe (s _ _ ht2) hl)];exact s _ _ ht2)]
    exact L2.atI_nat (by simp[jJq,hb1])
   ·have hb:b=0\/b=1:=by omega
    have hk2:=hk _ (Sub.new (o:= .lst [T.int e.2,T.int (1-e.2)]) hl)
    rw[jJ6 (jJh)]
    rcases hb with rfl | rfl
    ·refine⟨.int e.2,rfl,by omega,?_⟩
     rw[tend,hb2,lJb rfl] at hk2;exact hk2
    ·refine⟨.int (1-e.2),rfl,by omega,?_⟩
     rw[tend,hb2,lJa (by decide)] at hk2
     rw[show ((1:Int)-(e.2:Nat))=((1-e.2:Nat):Int) by omega] at hk2 ⊢
     exact hk2
  ·intro q G3 hq h3 s3
   obtain⟨b,hb1,hb2,hb3⟩:=bit _ hk
   wp_walk using 1,qY4,jQd
   refine⟨by rw[jK1 (s3 _ _ h1)];trivial,(row (line n) k).map fun e=>encE (tend ts e),by simp only[jUx,h3,asL],fun l1 hl1=>⟨by omega,fun l2 hl2=> ?_⟩⟩
   have sA:=Sub.trans (Sub.new (o:= .lst ((row (line n) k).map fun e=>encE (tend ts e)).reverse) hl1) (Sub.new (o:= .lst [.ref q,.ref l1]) hl2)
   have aT:=sA _ _ (s3 _ _ ht2)
   have aP:=sA _ _ (s3 _ _ h1)
   have aQ:=sA _ _ h3
   have a1:=(Sub.new (o:= .lst [.ref q,.ref l1]) hl2) _ _ (jJh (G:=G3) (a:=l1) (o:= .lst ((row (line n) k).map fun e=>encE (tend ts e)).reverse))
   generalize hGA:gup (gup G3 l1 (.lst ((row (line n) k).map fun e=>encE (tend ts e)).reverse)) l2 (.lst [.ref q,.ref l1])=GA at *
   have a2:GA l2=some (.lst [.ref q,.ref l1]):=by rw[<-hGA];exact jJh
   have tk:((jQ0 n ts).take (k+1)).map encR=((jQ0 n ts).take k).map encR++[encR (trow n ts k)]:=by
    rw[lKz,show (jQ0 n ts)[k]? =some (trow n ts k) by simp[jQ0,hk]];simp
   have hlen:(((jQ0 n ts).take k).map encR).length<sizeLine:=by simp[jQ0];omega
   refine⟨.int b,by rw[jJ6 aT];exact L2.atI_nat (by simp[jJq,hb1]),?_⟩
   rw[jJ6 a2]
   have hb:b=0\/b=1:=by omega
   rcases hb with rfl | rfl
   ·refine⟨.ref q,rfl,_,jJm aQ,_,aP,hlen,?_,?_⟩
    ·rw[tk,trow,hb2,lJb rfl,<-hrow,encR,lJw];rfl
    ·exact (Sub.trans (Sub.trans h2 s3) sA).over hp
   ·refine⟨.ref l1,rfl,_,jJm a1,_,aP,hlen,?_,?_⟩
    ·rw[tk,trow,hb2,lJa (by decide),<-hrow,encR,List.map_reverse,lJw];rfl
    ·exact (Sub.trans (Sub.trans h2 s3) sA).over hp
 ·intro τ G2 h_;apply xe3 h_;clear h_;intro v3 v4 v5 h_;apply ae2 h_;clear h_;intro h1 h2
  rw[lJe,lK6,lQd (by simp[jQ0])] at h1
  wp_walk using 1,tSeq
  exact⟨_,jJm h1,kk G2 h2⟩
noncomputable def nuF (nu:List Nat)(x:Nat):Nat:=(nu[x]?).getD x
noncomputable def renE (nu:List Nat)(es:List (Nat×Nat)):List (Nat×Nat):=es.map fun e=>(nuF nu e.1,e.2)
structure Ren (W:Web) (nu:List Nat) (V:Web):Prop where
 len:V.length=W.length
 at':∀(r:Nat) (es:List (Nat×Nat)),W[r]? =some es->V[nuF nu r]? =some (renE nu es)
theorem jZc {x:Nat}(h:nu[x]? =some y):nuF nu x=y:=by unfold nuF;rw[h];rfl
theorem kJo {x:Nat}(h:nu.length<=x):nuF nu x=x:=by unfold nuF;rw[lJ3 h];rfl
theorem qYk (t:Turn n nu){x:Nat}(h:x<n):nuF nu x<n:=by
 obtain⟨y,hy,hl⟩:=t.at h
 rw[jZc hy];exact hl
theorem qZs (t:Turn n nu){x:Nat}(h:nuF nu x=nuF nu y):x=y:=by
 rcases lQg x n with hx | hx<;>rcases lQg y n with hy | hy
 ·obtain⟨a,ha,_⟩:=t.at hx
  obtain⟨b,hb,_⟩:=t.at hy
  rw[jZc ha,jZc hb] at h
  subst h
  exact (lVw (by rw[t.len];exact hx) t.nd).mp (ha.trans hb.symm)
 ·have:=qYk t hx;rw[h,kJo (by rw[t.len];exact hy)] at this;omega
 ·have:=qYk t hy;rw[<-h,kJo (by rw[t.len];exact hx)] at this;omega
 ·rw[kJo (by rw[t.len];exact hx),kJo (by rw[t.len];exact hy)] at h;exact h
theorem jYf (t:Turn n nu)(h:y<n):∃x,x<n/\nuF nu x=y:=by
 have hm:=kJp t.nd t.lt t.len y h
 obtain⟨x,hx⟩:=lJ7 hm
 exact⟨x,by have:=(lJg.mp hx).1;rw[t.len] at this;exact this,jZc hx⟩
theorem qKg {W V:Web}(t:Turn W.length nu)(h:Ren W nu V)(r i:Nat):en V (nuF nu r) i=(en W r i).map fun e=>(nuF nu e.1,e.2):=by
 unfold en
 rcases lQg r W.length with hr | hr
 ·have hW:W[r]? =some W[r]:=lJi hr
  rw[hW,h.at' r _ hW]
  show (renE nu W[r])[i]? =_
  rw[renE,lJr];rfl
 ·rw[lJ3 hr,kJo (by rw[t.len];exact hr),lJ3 (by rw[h.len];exact hr)];rfl
theorem qUi {W:Web}(sym:Sym W)(c:Conn W){r0:Nat}(hr:r0<W.length)(S:Nat->Prop)(h0:S r0)(cl:∀r i s j,S r->en W r i=some (s,j)->S s):∀r,r<W.length->S r:=
 c S (c (fun x=>S x->S 0) (fun h=>h) (fun x i s j hx he hs=>hx (cl s j x i hs (sym _ _ _ _ he))) r0 hr h0) cl
theorem qZe {W V:Web}(t:Turn W.length nu)(h:Ren W nu V)(a:AnyWeb W):AnyWeb V:=by
 have back:∀r i e,en V r i=some e->∃x d,nuF nu x=r/\en W x i=some d/\e=(nuF nu d.1,d.2):=by
  intro r i e he
  have hr:=kJz he
  rw[h.len] at hr
  obtain⟨x,hx,rfl⟩:=jYf t hr
  rw[qKg t h] at he
  obtain⟨d,hd,rfl⟩:=lQu.mp he
  exact⟨x,d,rfl,hd,rfl⟩
 refine⟨by rw[h.len];exact a.pos,by rw[h.len];exact a.len,?_,?_,?_⟩
 ·intro r i s j he
  obtain⟨x,d,rfl,hd,e⟩:=back r i _ he
  cases e
  rw[qKg t h,a.sym _ _ d.1 d.2 hd];rfl
 ·intro r es hr
  have hrl:=(lJg.mp hr).1
  rw[h.len] at hrl
  obtain⟨x,hx,rfl⟩:=jYf t hrl
  have hW:W[x]? =some W[x]:=lJi hx
  rw[h.at' x _ hW] at hr;cases hr
  rw[renE,lJe];exact a.deg x _ hW
 ·intro S h0 cl r hr
  rw[h.len] at hr
  have ap:=a.pos
  obtain⟨z,hz,e0⟩:=jYf t (show 0<W.length by omega)
  obtain⟨x,hx,rfl⟩:=jYf t hr
  exact qUi a.sym a.conn hz (fun x=>S (nuF nu x)) (by show S (nuF nu z);rw[e0];exact h0) (fun r i s j hS he=>cl _ i _ j hS (by rw[qKg t h,he];rfl)) x hx
noncomputable def renW (W:Web)(nu:List Nat):Web:=(List.range W.length).map fun i=>renE nu (row W (nu.idxOf i))
theorem qKh {W:Web}(t:Turn W.length nu):Ren W nu (renW W nu):=by
 refine⟨by simp[renW],fun r es hr=> ?_⟩
 have hrl:=(lJg.mp hr).1
 obtain⟨x,hx,hxl⟩:=t.at hrl
 have hi:=lYn (lJt hx)
 have e1:nu[nu.idxOf x]? =some x:=by rw[lJi hi,lYb]
 have e2:nu.idxOf x=r:=(lVw hi t.nd).mp (e1.trans hx.symm)
 rw[jZc hx]
 unfold renW
 rw[lJr,lQv hxl]
 show some (renE nu (row W (nu.idxOf x)))=_
 rw[e2,jX6 hr]
theorem qZx {W V:Web}{ms:List T}(t:Turn W.length nu)(h:Ren W nu V)(hl:ms.length=W.length)(hm:∀(r:Nat) (es:List (Nat×Nat)),r<W.length->W[r]? =some es->ms[nuF nu r]? =some (encR (renE nu es))):ms=V.map encR:=by
 apply lK2
 intro i
 rcases lQg i W.length with hi | hi
 ·obtain⟨x,hx,rfl⟩:=jYf t hi
  have hW:W[x]? =some W[x]:=lJi hx
  rw[hm x _ hx hW,lJr,h.at' x _ hW];rfl
 ·rw[lJ3 (by omega),lJ3 (by rw[lJe,h.len];exact hi)]
noncomputable def jUk:Sp3:=fun xs G Q=>∃(b:Addr) (W:Web) (n:Nat),xs=[.ref b,encW W]/\BoxAt G b n/\n+1000<2^40/\AnyWeb W/\∀nu V G',Turn W.length nu->Ren W nu V->BoxAt G' b (n+W.length)->Keep b G G'->Q (.tup [encW V,.tup (jJq nu)]) G'
noncomputable def kX6:List Str:=["_law_box_here","_law_web_here","_law_numbers","_law_made","_law_room","_law_other","_law_door"]
noncomputable def jVr:TS3:=
 (tSeq (tAsg (jJo jX1 (jJa (tVar 0) (jJa (tCB rLen (jJa (tVar 1) tNil)) (jJa (tC (.bl false)) tNil)))) (jJg 2))
 (tSeq (tAsg (tOp jVh (tLst (jJa (tC .non) tNil)) (tCB rLen (jJa (tVar 1) tNil))) (jJg 3))
 (tSeq (tFor (jKc (jJa (tCB rLen (jJa (tVar 1) tNil)) tNil)) (jJg 4) (tAsg (tCB jKa (jJa (jKp [false,false,false,false,false,true,true] (iSeq (tOp rIxF (tVar 1) (tVar 4))) (gTup 2 (jJx (jJg 5) (jJx (jJg 6) gNil))) jK2 (tTup (jJa (tOp rIxF (tVar 2) (tVar 5)) (jJa (tVar 6) tNil)))) tNil)) (gSub (tVar 3) (tOp rIxF (tVar 2) (tVar 4)) jUu)))
 (tRet (tTup (jJa (tCB jKa (jJa (tVar 3) tNil)) (jJa (tVar 2) tNil)))))))
theorem kKf:RdOk jUk jVr kX6:=by
 intro xs G Q h_;apply xe3 h_;clear h_;intro b W n h_;apply ae4 h_;clear h_;intro hb hn any kk
 show jVr _ [some (.ref b),some (.tup (W.map encR)),none,none,none,none,none] G
 have hs:=sz
 have hW1:=any.pos
 have hW2:=any.len
 have fine:=any.fine
 wp_walk using 1,jVr,jJ2,jKc,List.length_map
 refine⟨b,W.length,n,false,rfl,hb,by omega,hW1,by omega,fun nu G1 t _ b1 k1=> ?_⟩
 obtain⟨bo,hbo⟩:=b1.some
 wp_walk using 1,List.length_map
 refine⟨by omega,fun z hz=> ?_⟩
 have e1:mulR (gup G1 z (GO.lst [T.non])) (.ref z) (.int (W.length:Nat))=some (.newL (List.replicate W.length T.non)):=by
  simp only[mulR,jJh];rw[lJb]
  ·congr 2
   rw[show ((W.length:Nat):Int).toNat=W.length by omega]
   induction W.length with
   | zero=>rfl
   | succ n ih=>rw[lQi,lQ7,ih,lQi];rfl
  ·refine⟨?_,?_,?_⟩<;>simp<;>omega
 refine⟨_,e1,?_⟩
 rw[jU9]
 intro p hp
 have hbz:b≠z:=jJe hbo hz
 have hzp:z≠p:=jJe (jJh (G:=G1) (a:=z) (o:= .lst [T.non])) hp
 have hp1:G1 p=none:=by rw[jJs hzp.symm] at hp;exact hp
 have hbp:b≠p:=jJe hbo hp1
 have hpG:G p=none:=k1.none hbp.symm hp1
 refine⟨by omega,by omega,?_⟩
 refine⟨fun k τ G'=>∃(v4 v5 v6:Option T) (ms:List T),τ=[some (.ref b),some (.tup (W.map encR)),some (.tup (jJq nu)),some (.ref p),v4,v5,v6]/\G' p=some (.lst ms)/\ms.length=W.length/\(∀(r:Nat) (es:List (Nat×Nat)),r<k->W[r]? =some es->ms[nuF nu r]? =some (encR (renE nu es)))/\Sub G1 G',?_,?_,?_,?_⟩
 ·exact⟨none,none,none,_,rfl,jJh,by simp,fun r es h=>absurd h (lVu _),(Sub.new hz).trans (.new hp)⟩
 ·intros;trivial
 ·intro k y τ G2 hy h_;apply xe4 h_;clear h_;intro v4 v5 v6 ms h_;apply ae4 h_;clear h_;intro h1 h2 h3 h4
  obtain⟨hk,rfl⟩:=jQ9 hy
  have hk':k<W.length:=by omega
  have he:W[k]? =some W[k]:=lJi hk'
  generalize W[k]=es at he
  have hel:=any.deg k es he
  obtain⟨x,hx,hxl⟩:=t.at hk'
  wp_walk using 1,iSeq,jUh he,encR
  refine jKm (fun e=>encE (nuF nu e.1,e.2)) (by omega) (fun _ _=>trivial) ?_ ?_
  ·intro i e hi G3 K K0 s hK
   have hex:=fine.rng k i e.1 e.2 (jVi he hi)
   obtain⟨y,hy,_⟩:=t.at hex
   wp_walk using 1,encE,qUu hy
   rw[encE,jZc hy] at hK
   exact⟨by omega,hK G3 (.refl _)⟩
  ·intro D G3 hD q1 q2
   refine⟨_,jJm q1,?_⟩
   have hp3:=q2 _ _ h1
   wp_walk using 1,qUu hx,qJ9 hp3
   rw[kQ4 (show x<ms.length by rw[h2];exact hxl)]
   refine⟨_,rfl,ms.set x (encR (renE nu es)),(by show gup _ _ _ _=_;rw[jJh,encR,renE,lJw];rfl),by rw[lQ6];exact h2,fun r es' hr he'=> ?_,(h4.trans q2).over hp1⟩
   rcases lQy (lX8 hr) with h | rfl
   ·rw[lKt (fun e=> ?_)]
    ·exact h3 r es' h he'
    ·have:=qZs t ((jZc hx).trans e)
     omega
   ·rw[he] at he';cases he'
    rw[jZc hx,lKx (by rw[h2];exact hxl)];rfl
 ·intro τ G2 h_;apply xe4 h_;clear h_;intro v4 v5 v6 ms h_;apply ae4 h_;clear h_;intro h1 h2 h3 h4
  wp_walk using 1,tSeq
  refine⟨_,jJm h1,by omega,?_⟩
  rw[qZx t (qKh t) h2 fun r es hr=>h3 r es (by rw[rngT,lJe,lK6];omega)]
  exact kk nu (renW W nu) G2 t (qKh t) (b1.sub h4) (k1.trans (.sub h4))
structure OkD (d:Nat) (x:T):Prop where
 tr:tree x=true
 lay:(td x).canLay0=true
 dep:(td x).depth<=d
theorem okD_int {i:Int}:OkD 0 (.int i):=⟨rfl,rfl,Nat.le_of_eq (by simp[td,PyData.depth])⟩
theorem kXp {d:Nat}:∀xs:List T,(∀x,x∈xs->OkD d x)->jQt xs=true/\PyData.canLayAll0 (tds xs)=true/\PyData.depthAll (tds xs)<=d
 | [],_=>⟨rfl,by simp[tds,PyData.canLayAll0],by simp[tds,PyData.depthAll]⟩
 | x::xs,h=>by
  obtain⟨a1,a2,a3⟩:=kXp xs fun y hy=>h y (lKp _ hy)
  obtain⟨b1,b2,b3⟩:=h x (lKn ..)
  refine⟨?_,?_,?_⟩
  ·show (tree x&&jQt xs)=true;rw[a1,b1];rfl
  ·rw[tds,PyData.canLayAll0,a2,b2];rfl
  ·rw[tds,PyData.depthAll];omega
theorem qZo {d:Nat}(h:∀x,x∈xs->OkD d x):OkD (d+1) (.tup xs):=by
 obtain⟨a1,a2,a3⟩:=kXp xs h
 exact⟨a1,by rw[td,PyData.canLay0];exact a2,by rw[td,PyData.depth];omega⟩
theorem OkD.mono {d d':Nat}(h:OkD d x)(l:d<=d'):OkD d' x:=⟨h.tr,h.lay,lKb h.dep l⟩
theorem qK5 (h:∀x,x∈xs->OkD 40 x):jZl xs=true:=by
 obtain⟨a1,a2,a3⟩:=kXp xs h
 unfold jZl
 rw[a1,a2,lJq (show (PyData.list (tds xs)).depth<=50 by rw[PyData.depth];omega)];rfl
mutual
theorem qXj:∀x:T,tree x=true->eqT x x=true
 | .non,_=>rfl
 | .bl b,_=>by simp[eqT]
 | .int i,_=>by simp[eqT]
 | .str _,_=>by simp[eqT]
 | .tup xs,h=>kVi xs h
 | .scr _,h=>nomatch h
 | .ref _,h=>nomatch h
 | .ty _,h=>nomatch h
theorem kVi:∀xs:List T,jQt xs=true->eqTs xs xs=true
 | [],_=>rfl
 | x::xs,h=>by
  have h':(tree x&&jQt xs)=true:=h
  rw[lKu] at h'
  show (eqT x x&&eqTs xs xs)=true
  rw[qXj x h'.1,kVi xs h'.2];rfl
end
variable {U:Web}
theorem kVr {V:Web}(h:r<U.length):(both U V)[r]? =U[r]? :=by rw[both,lKy h]
theorem kK5 {V:Web}:(both U V)[U.length+r]? =(V[r]?).map fun es=>es.map fun e=>(e.1+U.length,e.2):=by
 rw[both,lKq (by omega),lJr];congr 2;omega
theorem kUg {V:Web}:(both U V).length=U.length+V.length:=by simp[both]
theorem qQ1 {V:Web}(fU:Fine U)(fV:Fine V)(h:U.length+V.length<=1000):Fine (both U V) where
 len:=by rw[kUg];exact h
 row:=fun r es hr=>by
  by_cases z:r<U.length
  ·rw[kVr z] at hr;exact fU.row r es hr
  ·obtain⟨k,rfl⟩:∃k,r=U.length+k:=⟨r-U.length,by omega⟩
   rw[kK5] at hr
   obtain⟨fs,h1,rfl⟩:=lQu.mp hr
   rw[lJe];exact fV.row _ _ h1
 rng:=fun r i s j hr=>by
  obtain⟨es,h1,h2⟩:=jQi hr
  rw[kUg]
  by_cases z:r<U.length
  ·rw[kVr z] at h1
   have:=fU.rng r i s j (jVi h1 h2);omega
  ·obtain⟨k,rfl⟩:∃k,r=U.length+k:=⟨r-U.length,by omega⟩
   rw[kK5] at h1
   obtain⟨fs,h3,rfl⟩:=lQu.mp h1
   rw[lJr] at h2
   obtain⟨e,h4,h5⟩:=lQu.mp h2
   cases h5
   have:=fV.rng k i e.1 e.2 (jVi h3 h4);omega
theorem qJl {ts:List Nat}(hn1:1<=n)(hn:n<=24):Fine (jQ0 n ts) where
 len:=by simp[jQ0];omega
 row:=fun r es hr=>by
  have hr2:=(lJg.mp hr).1
  have hl:r<n:=by simpa[jQ0] using hr2
  rw[show (jQ0 n ts)[r]? =some (trow n ts r) by simp[jQ0,hl]] at hr
  cases hr
  have:((line n).getD r []).length=2:=by rw[List.getD_eq_getElem?_getD,jY3 hl];rfl
  unfold trow
  split<;>simp at this ⊢ <;>omega
 rng:=fun r i s j hr=>by
  obtain⟨es,h1,h2⟩:=jQi hr
  have hr2:=(lJg.mp h1).1
  have hl:r<n:=by simpa[jQ0] using hr2
  rw[show (jQ0 n ts)[r]? =some (trow n ts r) by simp[jQ0,hl]] at h1
  cases h1
  have hm:=lJt h2
  have:(s,j)∈((line n).getD r []).map (tend ts):=by
   unfold trow at hm
   split at hm
   ·exact hm
   ·exact lVb.mp hm
  obtain⟨e,he,e2⟩:=lJ2.mp this
  obtain⟨i2,hi2⟩:=List.mem_iff_getElem?.mp he
  rw[List.getD_eq_getElem?_getD,jY3 hl] at hi2
  obtain⟨_,h7⟩:=uJo (jVi (jY3 hl) hi2:en (line n) r i2=some (e.1,e.2))
  have hs:s=e.1:=by have:=lKa Prod.fst e2;exact this.symm
  rw[show (jQ0 n ts).length=n by simp[jQ0],hs]
  rcases h7 with ⟨_,_,h,_⟩ | ⟨_,_,h,_⟩ | ⟨_,_,h,_⟩ | ⟨_,_,h,_⟩<;>omega
variable {mask:List Bool}{g:TG3}{tif:TT3}{te:TE3}{τ:St3}{Q:VK3}
theorem kJ5 {stay:Gp->Prop}(c:Nat)(Pr:Nat->T->Prop)(hz:xs.length<=sizeLine)(hb:BoxAt G b n)(hst:∀G',Keep b G G'->stay G')(h:∀(i:Nat) x,xs[i]? =some x->∀G' (K:T->Gp->Prop) (K0:Gp->Prop),BoxAt G' b (n+i*c)->Keep b G G'->(∀t G4,Pr i t->BoxAt G4 b (n+(i+1)*c)->Keep b G' G4->K t G4)->g x (msk mask τ) G' fun τ2 G2=>tif τ2 G2 fun b G3=>if b=true then te τ2 G3 K else K0 G3)(hq:∀D ts G',G D=none->G' D=some (.lst ts)->ts.length=xs.length->(∀(i:Nat) t,ts[i]? =some t->Pr i t)->BoxAt G' b (n+xs.length*c)->Keep b G G'->Q (.ref D) G'):kK7 mask g tif te τ xs stay G Q:=by
 intro D hD
 obtain⟨bo,hbo⟩:=hb.some
 have hDb:b≠D:=jJe hbo hD
 let J1:Nat->List T->Gp->Prop:=fun i acc G'=>acc.length=i/\(∀(j:Nat) t,acc[j]? =some t->Pr j t)/\BoxAt G' b (n+i*c)/\Keep b G G'/\G' D=some (.lst acc)
 refine⟨J1,?_,?_,?_,?_⟩
 ·exact⟨rfl,fun j t z=>by simp at z,by simpa using hb.gup hDb,.new hD,jJh⟩
 ·rintro i acc G' hi ⟨j1,j2,j3,j4,j5⟩
  exact⟨hst G' j4,j5⟩
 ·rintro i x acc G3 hx ⟨j1,j2,j3,j4,j5⟩
  have hi:i<xs.length:=(lJg.mp hx).1
  refine h i x hx G3 _ _ j3 j4 fun t G4 hp hb4 kp=> ?_
  refine⟨kp _ _ hDb.symm j5,by omega,by simp[j1],?_,hb4.gup hDb,(j4.trans kp).over hD,jJh⟩
  intro j u hu
  by_cases hjl:j<acc.length
  ·rw[lKy hjl] at hu;exact j2 j u hu
  ·have:=(lJg.mp hu).1
   simp at this
   have:j=acc.length:=by omega
   subst this
   rw[lKq (lJj _)] at hu
   simp at hu;subst hu
   rw[j1];exact hp
 ·rintro acc G3 ⟨j1,j2,j3,j4,j5⟩
  exact hq D acc G3 hD j5 j1 j2 j3 j4
theorem kQ2 {Pr:Nat->Prop}:∀(us:List T),(∀(i:Nat) t,us[i]? =some t->∃x:Nat,Pr x/\t= .int x)->∃ts:List Nat,us=jJq ts/\∀x,x∈ts->Pr x
 | [],_=>⟨[],rfl,fun x hx=>by simp at hx⟩
 | u::us,h=>by
  obtain⟨x,hx,rfl⟩:=h 0 u rfl
  obtain⟨ts,rfl,h2⟩:=kQ2 us fun i t hi=>h (i+1) t hi
  refine⟨x::ts,rfl,fun y hy=> ?_⟩
  rcases (lJy.mp hy) with rfl | hy
  ·exact hx
  ·exact h2 y hy
theorem qXs {ts:List Nat}(h:ts.length=24)(hm:m<=24):cutT (jJq ts) (some (24-(m:Int))) none=jJq (ts.drop (24-m)):=by
 have hl:(jJq ts).length=24:=by simp[jJq,h]
 unfold cutT
 simp only[HT.sIx,hl]
 rw[lJa (by omega),show min (24-(m:Int)).toNat 24=24-m by omega]
 rw[lQd (by simp[hl])]
 simp[jJq,List.map_drop]
theorem eqG_z {a c:Int}:eqG G (.int a) (.int c)=some (decide (a=c)):=by
 rw[show eqG G (.int a) (.int c)=some (eqT (.int a) (.int c)) from rfl]
 congr 1
theorem qXr {ds:List Nat}:cutT (jJq ds) none (some (c:Int))=jJq (ds.take c):=by
 unfold cutT
 rw[HT.sIx_none,HT.sIx_nat,lXa,Nat.sub_zero]
 simp[jJq,List.map_take]
def WR (p:Web×Nat):Prop:=Fine p.1/\1<=p.1.length/\p.1.length<=24/\p.2<p.1.length
noncomputable def jV9:Sp3:=fun xs G Q=>∃(b:Addr) (n:Nat),xs=[.ref b]/\BoxAt G b n/\n+100<2^40/\∀p q G',WR p->WR q->BoxAt G' b (n+40)->Keep b G G'->Q (.tup [encW p.1,.int p.2,encW q.1,.int q.2]) G'
noncomputable def qUz:List Str:=["_law_box_here","_law_turned","_law_start","_law_at","_law_sizes","_law_first","_law_aligned","_law_far","_law_found","_law_many","_law_room","_law_k"]
noncomputable def jYx:TS3:=
 (tSeq (tAsg (jKp [false,false,false,false,false,false,false,false,false,false,true,false] (jKc (jJa (tC (.int 24)) tNil)) (jJg 10) jK2 (tCB jYd (jJa (tOp rEqA (jJo jJi (jJa (tVar 0) (jJa (tC (.int 6)) tNil))) (tC (.int 0))) tNil))) (jJg 1))
 (tSeq (tAsg (tTup (jJa (jJo jJi (jJa (tVar 0) (jJa (tC (.int 2)) tNil))) (jJa (jJo jJi (jJa (tVar 0) (jJa (tC (.int 24)) tNil))) tNil))) (gTup 2 (jJx (jJg 2) (jJx (jJg 3) gNil))))
 (tSeq (tIfS (jJ1 (tOp rEqA (jJo jJi (jJa (tVar 0) (jJa (tC (.int 2)) tNil))) (tC (.int 0)))) (tAsg (jKp [false,false,false,false,false,false,false,false,false,false,true,false] (jKc (jJa (tC (.int 24)) tNil)) (jJg 10) jK2 (tOp rMod (tOp jJt (tOp jJt (tVar 10) (tVar 2)) (tCB jYd (jJa (tOp rGe (tVar 10) (tVar 3)) tNil))) (tC (.int 2)))) (jJg 1)) jKl)
 (tSeq (tAsg (jKp [false,false,false,false,false,false,false,false,false,false,false,true] (jKc (jJa (tC (.int 2)) tNil)) (jJg 11) jK2 (tOp jJt (tC (.int 2)) (jJo jJi (jJa (tVar 0) (jJa (tC (.int 23)) tNil))))) (jJg 4))
 (tSeq (qU5 5 6 7 (jJa (jJo jJi (jJa (tVar 0) (jJa (tC (.int 2)) tNil))) (jJa (jJo jJi (jJa (tVar 0) (jJa (tC (.int 2)) tNil))) (jJa (jJo jJi (jJa (tVar 0) (jJa (tCB qZk (jJa (tVar 4) tNil)) tNil))) tNil))))
 (tSeq (tAsg (tLst tNil) (jJg 8))
 (tSeq (tFor (iSeq (tVar 4)) (jJg 9) (tSeq (jUi (tBM "list" jK3 (tVar 8) (jJa (jJo jQf (jJa (tVar 9) (jJa (tOp rIxF (tLst (jJa (tSl rSlF (tVar 1) (jQd (tOp rSub (tC (.int 24)) (tVar 9))) jJ5) (jJa (tSl rSlF (tVar 1) jJ5 (jQd (tVar 9))) tNil))) (tVar 5)) tNil))) tNil)))
 (jUi (tBM "list" jK3 (tVar 8) (jJa (tOp rIxF (tLst (jJa (jJo jJi (jJa (tVar 0) (jJa (tVar 9) tNil))) (jJa (tOp rIxF (tLst (jJa (tOp rSub (tOp rSub (tVar 9) (tC (.int 1))) (tVar 7)) (jJa (tVar 7) tNil))) (tVar 5)) tNil))) (tVar 6)) tNil)))))
 (tRet (tCB jKa (jJa (tVar 8) tNil))))))))))
noncomputable def kJc:TS3:=(tSeq (tAsg (jKp [false,false,false,false,false,false,false,false,false,false,false,true] (jKc (jJa (tC (.int 2)) tNil)) (jJg 11) jK2 (tOp jJt (tC (.int 2)) (jJo jJi (jJa (tVar 0) (jJa (tC (.int 23)) tNil))))) (jJg 4))
 (tSeq (qU5 5 6 7 (jJa (jJo jJi (jJa (tVar 0) (jJa (tC (.int 2)) tNil))) (jJa (jJo jJi (jJa (tVar 0) (jJa (tC (.int 2)) tNil))) (jJa (jJo jJi (jJa (tVar 0) (jJa (tCB qZk (jJa (tVar 4) tNil)) tNil))) tNil))))
 (tSeq (tAsg (tLst tNil) (jJg 8))
 (tSeq (tFor (iSeq (tVar 4)) (jJg 9) (tSeq (jUi (tBM "list" jK3 (tVar 8) (jJa (jJo jQf (jJa (tVar 9) (jJa (tOp rIxF (tLst (jJa (tSl rSlF (tVar 1) (jQd (tOp rSub (tC (.int 24)) (tVar 9))) jJ5) (jJa (tSl rSlF (tVar 1) jJ5 (jQd (tVar 9))) tNil))) (tVar 5)) tNil))) tNil)))
 (jUi (tBM "list" jK3 (tVar 8) (jJa (tOp rIxF (tLst (jJa (jJo jJi (jJa (tVar 0) (jJa (tVar 9) tNil))) (jJa (tOp rIxF (tLst (jJa (tOp rSub (tOp rSub (tVar 9) (tC (.int 1))) (tVar 7)) (jJa (tVar 7) tNil))) (tVar 5)) tNil))) (tVar 6)) tNil)))))
 (tRet (tCB jKa (jJa (tVar 8) tNil)))))))
theorem kKv {ts:List Nat}{v2 v3:T}(hb:BoxAt G b n)(hn:n+50<2^40)(hu:G u=some (.lst (jJq ts)))(hub:u≠b)(hl:ts.length=24)(h01:∀x,x∈ts->x<=1)(kk:∀p q G',WR p->WR q->BoxAt G' b (n+10)->Keep b G G'->Q (.tup [encW p.1,.int p.2,encW q.1,.int q.2]) G'):
  kJc {nx:=fun _ G'=>Q .non G',rt:=Q} [some (.ref b),some (.ref u),some v2,some v3,none,none,none,none,none,none,none,none] G:=by
 have hs:=sz
 wp_walk using 1,kJc,jJ2,jKc,qU5
 refine⟨by decide,by decide,?_⟩
 refine kJ5 (b:=b) (n:=n) 1 (fun _ t=>∃x:Nat,(2<=x/\x<=24)/\t= .int x) (by rw[jJ9];omega) hb (fun _ _=>trivial) ?_ ?_
 ·intro i x hx G' K K0 hb1 kp hk
  obtain⟨hi,rfl⟩:=jQ9 hx
  wp_walk using 1,tSeq
  refine⟨b,23,n+i*1,rfl,hb1,by omega,by decide,by decide,fun r G2 r0 r1 hb2 kp2=> ?_⟩
  exact⟨_,rfl,hk _ G2 ⟨(2+r).toNat,by omega,by congr 1;omega⟩ (hb2.mono (by omega)) kp2⟩
 ·intro D us G1 hD hD1 hlen hus hb1 kp1
  obtain⟨ns,rfl,hns⟩:=kQ2 us hus
  rw[jJ9] at hb1 hlen
  obtain⟨n1,n2,rfl⟩:∃n1 n2,ns=[n1,n2]:=by
   match ns,hlen with
   | [x0,x1],_=>exact⟨x0,x1,rfl⟩
  have hn1:=hns n1 (by simp)
  have hn2:=hns n2 (by simp)
  obtain⟨bo,hbo⟩:=hb.some
  have hDb:D≠b:=(jJe hbo hD).symm
  refine⟨b,2,n+2,rfl,hb1,by omega,by decide,by decide,fun f G2 f0 f1 hb2 kp2=> ?_⟩
  refine⟨b,2,n+3,rfl,hb2,by omega,by decide,by decide,fun al G3 al0 al1 hb3 kp3=> ?_⟩
  have hD3:=(kp2.trans kp3) _ _ hDb hD1
  obtain⟨mn,hmn,hmn1,hmn2,hmn3⟩:∃mn:Nat,jV2 (n1:Int) [(n2:Int)]=mn/\2<=mn/\mn<=n1/\mn<=n2:=by
   unfold jV2 jV2
   split
   ·exact⟨n2,rfl,by omega,by omega,by omega⟩
   ·exact⟨n1,rfl,by omega,by omega,by omega⟩
  refine⟨D,(n1:Int),[(n2:Int)],rfl,hD3,?_⟩
  rw[hmn]
  refine⟨b,mn,n+4,rfl,hb3,by omega,by omega,by omega,fun far G4 far0 far1 hb4 kp4=>⟨by omega,fun p hp=> ?_⟩⟩
  have kp14:=(kp2.trans kp3).trans kp4
  have kpG4:=kp1.trans kp14
  have hD4:=kp4 _ _ hDb hD3
  have hu4:=kpG4 _ _ hub hu
  obtain⟨bo4,hbo4⟩:=hb4.some
  have hpb:p≠b:=(jJe hbo4 hp).symm
  have hpD:D≠p:=jJe hD4 hp
  have hpu:u≠p:=jJe hu4 hp
  have hpG:=kpG4.none hpb hp
  wp_walk using 1,iSeq
  refine⟨jJq [n1,n2],jJm (by rw[jJs hpD];exact hD4),?_⟩
  let J2:Nat->St3->Gp->Prop:=fun k τ G'=>∃(v9:Option T) (L:List (Web×Nat)),τ=[some (.ref b),some (.ref u),some v2,some v3,some (.ref D),some (.int f),some (.int al),some (.int far),some (.ref p),v9,none,none]/\L.length=k/\(∀x,x∈L->WR x)/\G' p=some (.lst (L.flatMap fun x=>[encW x.1,.int x.2]))/\BoxAt G' b (n+5+k)/\Keep b G G'/\G' u=some (.lst (jJq ts))/\G' D=some (.lst (jJq [n1,n2]))
  refine⟨J2,?_,?_,?_,?_⟩
  ·exact xi2 none [] rfl ⟨rfl,by simp,jJh,hb4.gup hpb.symm,kpG4.over hpG,by rw[jJs hpu];exact hu4,by rw[jJs hpD];exact hD4⟩
  ·intro k τ G' hk h_;apply xe2 h_;clear h_;intro v9 L h_;apply ae7 h_;clear h_;intro j1 j2 j3 j4 j5 j6 j7
   exact jJm j7
  ·intro k y τ G5 hy h_;apply xe2 h_;clear h_;intro v9 L h_;apply ae7 h_;clear h_;intro j1 j2 j3 j4 j5 j6 j7
   obtain⟨m,hm,rfl⟩:=jKz hy
   have hk:k<2:=(lJg.mp hm).1
   have hmm:(2<=m/\m<=24)/\mn<=m:=by
    have:=lJt hm
    simp at this
    rcases this with rfl | rfl
    ·exact⟨hn1,hmn2⟩
    ·exact⟨hn2,hmn3⟩
   have hfl:(L.flatMap fun x=>[encW x.1,T.int x.2]).length<=10:=by
    have:∀L:List (Web×Nat),(L.flatMap fun x=>[encW x.1,T.int x.2]).length=2*L.length:=by
     intro L;induction L with
     | nil=>rfl
     | cons a L ih=>rw[List.flatMap_cons,lJv,ih,lKc];simp;omega
    rw[this];omega
   wp_walk using 1,tSl,rSlF,slR,jJ5,jQd,j6
   refine⟨by rw[jK1 j3];trivial,fun c1 hc1=> ?_⟩
   have hc1u:u≠c1:=jJe j6 hc1
   refine⟨.newL (cutT (jJq ts) none (some (m:Int))),by rw[jJs hc1u,j6],fun c2 hc2=>⟨by omega,fun c3 hc3=> ?_⟩⟩
   have k1:=Sub.new (o:= .lst (cutT (jJq ts) (some (24-(m:Int))) none)) hc1
   have k2:=Sub.new (o:= .lst (cutT (jJq ts) none (some (m:Int)))) hc2
   have k3:=Sub.new (o:= .lst [T.ref c1,T.ref c2]) hc3
   have sA:=(k1.trans k2).trans k3
   have g1:=(k2.trans k3) _ _ (jJh (G:=G5) (a:=c1) (o:= .lst (cutT (jJq ts) (some (24-(m:Int))) none)))
   have g2:=k3 _ _ (jJh (G:=gup G5 c1 (.lst (cutT (jJq ts) (some (24-(m:Int))) none))) (a:=c2) (o:= .lst (cutT (jJq ts) none (some (m:Int)))))
   generalize gup (gup (gup G5 c1 (.lst (cutT (jJq ts) (some (24-(m:Int))) none))) c2 (.lst (cutT (jJq ts) none (some (m:Int))))) c3 (.lst [T.ref c1,T.ref c2])=G6 at *
   rw[qXs (by omega) (by omega)] at g1
   rw[qXr] at g2
   obtain⟨at',tl,hat,hatG,htl,hbits⟩:∃(at':Addr) (tl:List Nat),L2.atI [T.ref c1,T.ref c2] f=some (.ref at')/\G6 at'=some (.lst (jJq tl))/\m<=tl.length/\∀x,x∈tl->x<=1:=by
    have:f=0\/f=1:=by omega
    rcases this with rfl | rfl
    ·exact⟨c1,_,rfl,g1,by simp;omega,fun x hx=>h01 x (lVa hx)⟩
    ·exact⟨c2,_,rfl,g2,by simp;omega,fun x hx=>h01 x (lQz hx)⟩
   refine⟨.ref at',hat,m,at',tl,rfl,hatG,by omega,by omega,htl,hbits,fun G7 s7=> ?_⟩
   have s57:=sA.trans s7
   have j3':=s57 _ _ j3
   refine⟨_,j3',by omega,b,m,n+5+k,rfl,(j4.sub s57).gup hpb.symm,by omega,by omega,by omega,fun tk G8 tk0 tk1 hb8 kp8=>⟨by omega,fun c4 hc4=> ?_⟩⟩
   obtain⟨tv,htv,htvm⟩:∃tv:Nat,L2.atI [T.int ((m:Int)-1-far),T.int far] f=some (.int tv)/\tv<m:=by
    have:f=0\/f=1:=by omega
    rcases this with rfl | rfl
    ·exact⟨((m:Int)-1-far).toNat,by rw[show ((((m:Int)-1-far).toNat:Nat):Int)=(m:Int)-1-far by omega];rfl,by omega⟩
    ·exact⟨far.toNat,by rw[show ((far.toNat:Nat):Int)=far by omega];rfl,by omega⟩
   refine⟨.int tv,htv,by omega,fun c5 hc5=> ?_⟩
   obtain⟨rm,hrm,hrmm⟩:∃rm:Nat,L2.atI [T.int tk,T.int tv] al=some (.int rm)/\rm<m:=by
    have:al=0\/al=1:=by omega
    rcases this with rfl | rfl
    ·exact⟨tk.toNat,by rw[show ((tk.toNat:Nat):Int)=tk by omega];rfl,by omega⟩
    ·exact⟨tv,rfl,htvm⟩
   have s8:=(Sub.new (o:= .lst [T.int ((m:Int)-1-far),T.int far]) hc4).trans (Sub.new (o:= .lst [T.int tk,T.int tv]) hc5)
   have p8:=s8 _ _ (kp8 _ _ hpb jJh)
   have u8:=s8 _ _ (kp8 _ _ hub (by rw[jJs hpu];exact s57 _ _ j6))
   have D8:=s8 _ _ (kp8 _ _ hDb (by rw[jJs hpD];exact s57 _ _ j7))
   refine⟨.int rm,hrm,_,p8,by rw[lJv];simp only[lKc,lQh];omega,xi2 _ (L++[(jQ0 m tl,rm)]) rfl ⟨by simp[j1],?_,?_,?_,?_,?_,?_⟩⟩
   ·intro x hx
    rcases (lJm.mp hx) with hx | hx
    ·exact j2 x hx
    ·rw[lJn.mp hx]
     have:(jQ0 m tl).length=m:=by simp[jQ0]
     exact⟨qJl (by omega) (by omega),by show 1<=(jQ0 m tl).length;omega,by show (jQ0 m tl).length<=24;omega,by show rm<(jQ0 m tl).length;omega⟩
   ·rw[jJh,lXt];simp
   ·exact ((hb8.sub s8).gup hpb.symm).mono (by omega)
   ·exact ((((j5.trans (.sub s57)).over hpG).trans kp8).trans (.sub s8)).over hpG
   ·rw[jJs hpu];exact u8
   ·rw[jJs hpD];exact D8
  ·intro τ G5 h_;apply xe2 h_;clear h_;intro v9 L h_;apply ae7 h_;clear h_;intro j1 j2 j3 j4 j5 j6 j7
   have hll:(jJq [n1,n2]).length=2:=rfl
   rw[hll] at j1 j4
   obtain⟨p1,p2,rfl⟩:∃p1 p2,L=[p1,p2]:=by
    match L,j1 with
    | [x0,x1],_=>exact⟨x0,x1,rfl⟩
   wp_walk using 1,tSeq
   exact⟨_,jJm j3,kk p1 p2 G5 (j2 _ (by simp)) (j2 _ (by simp)) (j4.mono (by omega)) j5⟩
theorem kUu:RdOk jV9 jYx qUz:=by
 intro xs G Q h_;apply xe2 h_;clear h_;intro b n h_;apply ae3 h_;clear h_;intro hb hn kk
 show jYx _ [some (.ref b),none,none,none,none,none,none,none,none,none,none,none] G
 have hs:=sz
 rw[show jYx=(tSeq (tAsg (jKp [false,false,false,false,false,false,false,false,false,false,true,false] (jKc (jJa (tC (.int 24)) tNil)) (jJg 10) jK2 (tCB jYd (jJa (tOp rEqA (jJo jJi (jJa (tVar 0) (jJa (tC (.int 6)) tNil))) (tC (.int 0))) tNil))) (jJg 1)) (tSeq (tAsg (tTup (jJa (jJo jJi (jJa (tVar 0) (jJa (tC (.int 2)) tNil))) (jJa (jJo jJi (jJa (tVar 0) (jJa (tC (.int 24)) tNil))) tNil))) (gTup 2 (jJx (jJg 2) (jJx (jJg 3) gNil)))) (tSeq (tIfS (jJ1 (tOp rEqA (jJo jJi (jJa (tVar 0) (jJa (tC (.int 2)) tNil))) (tC (.int 0)))) (tAsg (jKp [false,false,false,false,false,false,false,false,false,false,true,false] (jKc (jJa (tC (.int 24)) tNil)) (jJg 10) jK2 (tOp rMod (tOp jJt (tOp jJt (tVar 10) (tVar 2)) (tCB jYd (jJa (tOp rGe (tVar 10) (tVar 3)) tNil))) (tC (.int 2)))) (jJg 1)) jKl) kJc))) from rfl]
 wp_walk using 1,jKc,rEqA
 refine⟨by decide,by decide,?_⟩
 obtain⟨bo,hbo⟩:=hb.some
 refine kJ5 (b:=b) (n:=n) 1 (fun _ t=>∃x:Nat,x<=1/\t= .int x) (by rw[jJ9];rw[hs];decide) hb (fun _ _=>trivial) ?_ ?_
 ·intro i x hx G' K K0 hb1 kp hk
  obtain⟨hi,rfl⟩:=jQ9 hx
  have hi:i<24:=hi
  wp_walk using 1,rEqA
  refine⟨b,6,n+i*1,rfl,hb1,by omega,by decide,by decide,fun r G2 r0 r1 hb2 kp2=>⟨_,eqG_z,?_⟩⟩
  by_cases z:r=0
  ·rw[lJb (lJq z)]
   exact hk _ G2 ⟨1,by omega,rfl⟩ (hb2.mono (by omega)) kp2
  ·rw[lJa (by simpa using z)]
   exact hk _ G2 ⟨0,by omega,rfl⟩ (hb2.mono (by omega)) kp2
 ·intro D us G1 hD hD1 hlen hus hb1 kp1
  obtain⟨ts,rfl,h01⟩:=kQ2 us hus
  have hlt:ts.length=24:=by rw[jJ9] at hlen;simpa[jJq] using hlen
  rw[jJ9,show n+Int.toNat 24*1=n+24 from rfl] at hb1
  have hDb:D≠b:=(jJe hbo hD).symm
  refine⟨b,2,n+24,rfl,hb1,by omega,by decide,by decide,fun st G2 st0 st1 hb2 kp2=> ?_⟩
  refine⟨b,24,n+25,rfl,hb2,by omega,by decide,by decide,fun at' G3 at0 at1 hb3 kp3=>⟨by omega,?_⟩⟩
  refine⟨b,2,n+26,rfl,hb3,by omega,by decide,by decide,fun c G4 c0 c1 hb4 kp4=>⟨_,eqG_z,?_⟩⟩
  have kp14:=((kp1.trans kp2).trans kp3).trans kp4
  have hD4:=((kp2.trans kp3).trans kp4) _ _ hDb hD1
  split
  ·refine⟨by decide,by decide,?_⟩
   obtain⟨bo4,hbo4⟩:=hb4.some
   refine kJ5 (b:=b) (n:=n+27) 0 (fun _ t=>∃x:Nat,x<=1/\t= .int x) (by rw[jJ9];rw[hs];decide) hb4 (fun _ _=>trivial) ?_ ?_
   ·intro i x hx G' K K0 hb5 kp hk
    obtain⟨hi,rfl⟩:=jQ9 hx
    wp_walk using 1,tSeq
    refine⟨by decide,hk _ G' ⟨(((i:Int)+st+if at'<=(i:Int) then 1 else 0)%2).toNat,by omega,by congr 1;omega⟩ hb5 (.refl _ _)⟩
   ·intro D2 us2 G5 hD2 hD5 hlen2 hus2 hb5 kp5
    obtain⟨ts2,rfl,h012⟩:=kQ2 us2 hus2
    have hlt2:ts2.length=24:=by rw[jJ9] at hlen2;simpa[jJq] using hlen2
    have hD2b:D2≠b:=(jJe hbo4 hD2).symm
    exact kKv (n:=n+27) (hb5.mono (by omega)) (by omega) hD5 hD2b hlt2 h012 fun p q G' wp wq bx kp=>kk p q G' wp wq (bx.mono (by omega)) ((kp14.trans kp5).trans kp)
  ·exact kKv hb4 (by omega) hD4 hDb hlt h01 fun p q G' wp wq bx kp=>kk p q G' wp wq (bx.mono (by omega)) (kp14.trans kp)
def W1 (U:Web):Prop:=Fine U/\1<=U.length/\U.length<=24
theorem AnyWeb.w1 {W:Web}(h:AnyWeb W):W1 W:=⟨h.fine,h.pos,h.len⟩
def Two (b:Addr)(n k:Nat)(G:Gp)(Q:VK3):Prop:=∀p q G',WR p->WR q->BoxAt G' b (n+k)->Keep b G G'->Q (.tup [encW p.1,.int p.2,encW q.1,.int q.2]) G'
variable {n':Nat}
theorem Two.more {k:Nat}(h:Two b n k G Q)(kp:Keep b G G')(hn:n'+k'<=n+k):Two b n' k' G' Q:=fun p q G2 wp wq bx k2=>h p q G2 wp wq (bx.mono (by omega)) (kp.trans k2)
noncomputable def jZr:Sp3:=fun xs G Q=>∃(b:Addr) (n:Nat),xs=[.ref b]/\BoxAt G b n/\n+5000<2^40/\∀p q G',WR p->WR q->BoxAt G' b (n+3000)->Keep b G G'->Q (.tup [encW p.1,.int p.2,encW q.1,.int q.2]) G'
noncomputable def uJ5:List Str:=["_law_box_here","_law_way","_law_one","_law_other","_law_found"]
noncomputable def kQq:TS3:=
 (tSeq (tAsg (jJo jJi (jJa (tVar 0) (jJa (tC (.int 6)) tNil))) (jJg 1))
 (tSeq (tAsg (jJo jQj (jJa (tVar 0) tNil)) (jJg 2))
 (tSeq (tAsg (tVar 2) (jJg 3))
 (tSeq (tIfS (jJ1 (tOp rEqA (tVar 1) (tC (.int 0)))) (tAsg (jJo jQj (jJa (tVar 0) tNil)) (jJg 3)) jKl)
 (tSeq (tIfS (jJ1 (tOp rEqA (tVar 1) (tC (.int 1)))) (tAsg (tOp rIxF (jJo jUk (jJa (tVar 0) (jJa (tVar 2) tNil))) (tC (.int 0))) (jJg 3)) jKl)
 (tSeq (tIfS (tAnd (jJ1 (tOp rEqA (tVar 1) (tC (.int 2)))) (jJ1 (tOp rLt (tCB rLen (jJa (tVar 2) tNil)) (tC (.int 7))))) (tAsg (jJo jQv (jJa (tVar 0) (jJa (tVar 2) (jJa (tOp jJt (tC (.int 2)) (jJo jJi (jJa (tVar 0) (jJa (tC (.int 2)) tNil)))) tNil)))) (jJg 3)) jKl)
 (tSeq (tIfS (jJ1 (tOp rEqA (tVar 1) (tC (.int 4)))) (tSeq (tAsg (jJo jV9 (jJa (tVar 0) tNil)) (jJg 4))
 (tSeq (tIfS (jJ1 (tOp rGt (jJo jJi (jJa (tVar 0) (jJa (tC (.int 4)) tNil))) (tC (.int 0)))) (tRet (tVar 4)) jKl)
 (tPar 2 3 (jJa (tOp rIxF (tVar 4) (tC (.int 0))) (jJa (tOp rIxF (tVar 4) (tC (.int 0))) tNil))))) jKl)
 (tRet (tTup (jJa (tVar 2) (jJa (jJo jJi (jJa (tVar 0) (jJa (tCB rLen (jJa (tVar 2) tNil)) tNil))) (jJa (tVar 3) (jJa (jJo jJi (jJa (tVar 0) (jJa (tCB rLen (jJa (tVar 3) tNil)) tNil))) tNil)))))))))))))
noncomputable def kXf:TS3:=(tRet (tTup (jJa (tVar 2) (jJa (jJo jJi (jJa (tVar 0) (jJa (tCB rLen (jJa (tVar 2) tNil)) tNil))) (jJa (tVar 3) (jJa (jJo jJi (jJa (tVar 0) (jJa (tCB rLen (jJa (tVar 3) tNil)) tNil))) tNil))))))
noncomputable def kXg:TS3:=tSeq (tIfS (jJ1 (tOp rEqA (tVar 1) (tC (.int 4)))) (tSeq (tAsg (jJo jV9 (jJa (tVar 0) tNil)) (jJg 4))
 (tSeq (tIfS (jJ1 (tOp rGt (jJo jJi (jJa (tVar 0) (jJa (tC (.int 4)) tNil))) (tC (.int 0)))) (tRet (tVar 4)) jKl)
 (tPar 2 3 (jJa (tOp rIxF (tVar 4) (tC (.int 0))) (jJa (tOp rIxF (tVar 4) (tC (.int 0))) tNil))))) jKl) kXf
noncomputable def kXh:TS3:=tSeq (tIfS (tAnd (jJ1 (tOp rEqA (tVar 1) (tC (.int 2)))) (jJ1 (tOp rLt (tCB rLen (jJa (tVar 2) tNil)) (tC (.int 7))))) (tAsg (jJo jQv (jJa (tVar 0) (jJa (tVar 2) (jJa (tOp jJt (tC (.int 2)) (jJo jJi (jJa (tVar 0) (jJa (tC (.int 2)) tNil)))) tNil)))) (jJg 3)) jKl) kXg
noncomputable def kXi:TS3:=tSeq (tIfS (jJ1 (tOp rEqA (tVar 1) (tC (.int 1)))) (tAsg (tOp rIxF (jJo jUk (jJa (tVar 0) (jJa (tVar 2) tNil))) (tC (.int 0))) (jJg 3)) jKl) kXh
noncomputable def kXj:TS3:=tSeq (tIfS (jJ1 (tOp rEqA (tVar 1) (tC (.int 0)))) (tAsg (jJo jQj (jJa (tVar 0) tNil)) (jJg 3)) jKl) kXi
theorem two7 {V:Web}{v1 v4:Option T}(hb:BoxAt G b n)(hn:n+5<2^40)(wU:W1 U)(wV:W1 V)(kk:Two b n 2 G Q):
  kXf {nx:=fun _ G'=>Q .non G',rt:=Q} [some (.ref b),v1,some (encW U),some (encW V),v4] G:=by
 have hs:=sz
 obtain⟨fU,u1,u2⟩:=wU
 obtain⟨fV,v1',v2⟩:=wV
 wp_walk using 1,kXf
 refine⟨U.map encR,rfl,b,U.length,n,by simp,hb,by omega,by omega,by omega,fun r G1 r0 r1 b1 k1=> ?_⟩
 refine⟨V.map encR,rfl,b,V.length,n+1,by simp,b1,by omega,by omega,by omega,fun q G2 q0 q1 b2 k2=>⟨by omega,?_⟩⟩
 obtain⟨r,rfl⟩:=lKj r0
 obtain⟨q,rfl⟩:=lKj q0
 exact kk (U,r) (V,q) G2 ⟨fU,u1,u2,by show r<U.length;omega⟩ ⟨fV,v1',v2,by show q<V.length;omega⟩ b2 (k1.trans k2)
theorem two6 {w:Nat}{V:Web}(hb:BoxAt G b n)(hn:n+500<2^40)(wU:W1 U)(wV:W1 V)(kk:Two b n 50 G Q):
  kXg {nx:=fun _ G'=>Q .non G',rt:=Q} [some (.ref b),some (.int w),some (encW U),some (encW V),none] G:=by
 have hs:=sz
 wp_walk using 1,kXg,rEqA
 refine⟨_,jQ4 (c:=4),?_⟩
 split
 ·refine⟨b,n,rfl,hb,by omega,fun p q G1 wp wq b1 k1=> ?_⟩
  refine⟨b,4,n+40,rfl,b1,by omega,by decide,by decide,fun c G2 c0 c1 b2 k2=> ?_⟩
  wp_walk using 1,tSeq
  split
  ·exact kk p q G2 wp wq (b2.mono (by omega)) (k1.trans k2)
  ·exact two7 b2 (by omega) ⟨wp.1,wp.2.1,wp.2.2.1⟩ ⟨wp.1,wp.2.1,wp.2.2.1⟩ (kk.more (k1.trans k2) (by omega))
 ·exact two7 hb (by omega) wU wV (kk.more (.refl _ _) (by omega))
theorem two5 {w:Nat}{V:Web}(hb:BoxAt G b n)(hn:n+1500<2^40)(aU:AnyWeb U)(wV:W1 V)(kk:Two b n 500 G Q):
  kXh {nx:=fun _ G'=>Q .non G',rt:=Q} [some (.ref b),some (.int w),some (encW U),some (encW V),none] G:=by
 have hs:=sz
 have hp:=aU.pos
 wp_walk using 1,kXh,rEqA
 refine⟨_,jQ4 (c:=2),?_⟩
 split
 ·refine⟨U.map encR,rfl,?_⟩
  split
  ·rename_i h7
   have h7:U.length<7:=by rw[lJe] at h7;omega
   refine⟨b,2,n,rfl,hb,by omega,by decide,by decide,fun r G1 r0 r1 b1 k1=>⟨_,rfl,?_⟩⟩
   obtain⟨r,rfl⟩:=lKj r0
   have hends:=kZj aU.deg
   have h1:(jK8 U).length*(2+r)<=36*3:=lVx (by omega) (by omega)
   have h2:(2+r)*U.length<=3*7:=lVx (by omega) (by omega)
   have h3:1*1<=(2+r)*U.length:=lVx (by omega) (by omega)
   refine⟨b,U,2+r,n+1,by simp,b1,by omega,aU.fine,aU.sym,hp,by omega,by omega,fun V' G2 cv b2 k2=> ?_⟩
   have wV':W1 V':=by
    rcases cv with rfl | ⟨sh,_⟩
    ·exact aU.w1
    ·exact⟨sh.fine aU.fine (by omega),by rw[sh.len];omega,by rw[sh.len];omega⟩
   exact two6 b2 (by omega) aU.w1 wV' (kk.more (k1.trans k2) (by omega))
  ·exact two6 hb (by omega) aU.w1 wV (kk.more (.refl _ _) (by omega))
 ·exact two6 hb (by omega) aU.w1 wV (kk.more (.refl _ _) (by omega))
theorem two4 {w:Nat}{V:Web}(hb:BoxAt G b n)(hn:n+2000<2^40)(aU:AnyWeb U)(wV:W1 V)(kk:Two b n 600 G Q):
  kXi {nx:=fun _ G'=>Q .non G',rt:=Q} [some (.ref b),some (.int w),some (encW U),some (encW V),none] G:=by
 have hs:=sz
 wp_walk using 1,kXi,rEqA
 refine⟨_,jQ4 (c:=1),?_⟩
 split
 ·refine⟨b,U,n,rfl,hb,by omega,aU,fun nu V' G1 tn rn b1 k1=>⟨_,rfl,?_⟩⟩
  have:=aU.len
  exact two5 b1 (by omega) aU (qZe tn rn aU).w1 (kk.more k1 (by omega))
 ·exact two5 hb (by omega) aU wV (kk.more (.refl _ _) (by omega))
theorem two3 {w:Nat}{V:Web}(hb:BoxAt G b n)(hn:n+3500<2^40)(aU:AnyWeb U)(wV:W1 V)(kk:Two b n 1700 G Q):
  kXj {nx:=fun _ G'=>Q .non G',rt:=Q} [some (.ref b),some (.int w),some (encW U),some (encW V),none] G:=by
 have hs:=sz
 wp_walk using 1,kXj,rEqA
 refine⟨_,jQ4 (c:=0),?_⟩
 split
 ·refine⟨b,n,rfl,hb,by omega,fun V' G1 aV b1 k1=> ?_⟩
  exact two4 b1 (by omega) aU aV.w1 (kk.more k1 (by omega))
 ·exact two4 hb (by omega) aU wV (kk.more (.refl _ _) (by omega))
theorem kZ3:RdOk jZr kQq uJ5:=by
 intro xs G Q h_;apply xe2 h_;clear h_;intro b n h_;apply ae3 h_;clear h_;intro hb hn kk
 replace kk:Two b n 3000 G Q:=kk
 show kQq _ [some (.ref b),none,none,none,none] G
 rw[show kQq=(tSeq (tAsg (jJo jJi (jJa (tVar 0) (jJa (tC (.int 6)) tNil))) (jJg 1)) (tSeq (tAsg (jJo jQj (jJa (tVar 0) tNil)) (jJg 2)) (tSeq (tAsg (tVar 2) (jJg 3)) kXj))) from rfl]
 wp_walk using 1,tSeq
 refine⟨b,6,n,rfl,hb,by omega,by decide,by decide,fun w G1 w0 w1 b1 k1=> ?_⟩
 obtain⟨w,rfl⟩:=lKj w0
 refine⟨b,n+1,rfl,b1,by omega,fun U G2 aU b2 k2=> ?_⟩
 exact two3 b2 (by omega) aU aU.w1 (kk.more (k1.trans k2) (by omega))
noncomputable def er (B:List Addr)(G:Gp):Gp:=fun a=>if a∈B then none else G a
variable {B:List Addr}
theorem er_ne {a:Addr}(h:a∉B):er B G a=G a:=lJa h
theorem qYp:Sub (er B G) G:=fun a o h=>by
 unfold er at h
 split at h
 ·cases h
 ·exact h
theorem qQ3 (hb:b∈B)(k:Keep b G G'):Sub (er B G) (er B G'):=fun a o h=>by
 unfold er at h ⊢
 split at h
 ·cases h
 ·rename_i hn
  rw[lJa hn];exact k a o (fun e=>hn (e▸hb)) h
variable {C:List Addr}
theorem qQ2 (h:∀c,c∈C->c∈B):Sub (er B G) (er C G):=fun a o e=>by
 unfold er at e ⊢
 split at e
 ·cases e
 ·rename_i hn
  rw[lJa fun z=>hn (h a z)];exact e
theorem qYq {d:Addr}(hd:d∈B):Sub (er B G) (er B (gup G d o)):=fun a x e=>by
 unfold er at e ⊢
 split at e
 ·cases e
 ·rename_i hn
  rw[lJa hn,jJs (show a≠d from fun z=>hn (by rw[z];exact hd))];exact e
structure Lv (B:List Addr) (b:Addr) (n:Nat) (G:Gp):Prop where
 box:BoxAt G b n
 mem:b∈B
 live:∀c,c∈B->∃o,G c=some o
theorem Lv.keep (L:Lv B b n G)(x:BoxAt G' b n')(k:Keep b G G'):Lv B b n' G':=⟨x,L.mem,fun c hc=>by
 by_cases e:c=b
 ·rw[e];exact x.some
 ·obtain⟨o,h⟩:=L.live c hc
  exact⟨o,k c o e h⟩⟩
theorem Lv.nin (L:Lv B b n G)(h:G p=none):p∉B:=fun hm=>by
 obtain⟨o,e⟩:=L.live p hm
 rw[h] at e;cases e
theorem Lv.mono (L:Lv B b n G)(h:n<=n'):Lv B b n' G:=⟨L.box.mono h,L.mem,L.live⟩
mutual
theorem jKs {G G':Gp} (s:Sub G G'):∀ {x:T} {d:PyData},RdG G x d->RdG G' x d
 | _,_,.non=> .non
 | _,_,.bl b=> .bl b
 | _,_,.int i=> .int i
 | _,_,.str x=> .str x
 | _,_,.tup h=> .tup (jZv s h)
 | _,_,.lst hp h=> .lst (s _ _ hp) (jZv s h)
theorem jZv {G G':Gp} (s:Sub G G'):∀ {xs:List T} {ds:List PyData},RdGs G xs ds->RdGs G' xs ds
 | _,_,.nil=> .nil
 | _,_,.cons h hs=> .cons (jKs s h) (jZv s hs)
end
noncomputable def numD:PyData->Bool
 | .int _=>true
 | _=>false
noncomputable def seqD:PyData->Option (List PyData)
 | .tuple ds=>some ds
 | .list ds=>some ds
 | _=>none
variable {d:PyData}
theorem qQr (h:RdG G x d):∃p q,isiT G x (.ty "int")=some p/\isiT G x (.ty "bool")=some q/\(p&& !q)=numD d:=by
 cases h with
 | non=>exact⟨_,_,rfl,rfl,rfl⟩
 | bl b=>exact⟨_,_,rfl,rfl,rfl⟩
 | int i=>exact⟨_,_,rfl,rfl,rfl⟩
 | str x=>exact⟨_,_,rfl,rfl,rfl⟩
 | tup h=>exact⟨_,_,rfl,rfl,rfl⟩
 | lst hp h=>exact⟨false,false,by simp only[isiT,jZf,hp];rfl,by simp only[isiT,jZf,hp];rfl,rfl⟩
theorem jY5 (h:RdG G x d):isiT G x (.tup [.ty "tuple",.ty "list"])=some (seqD d).isSome/\isiT G x (.tup [.ty "list",.ty "tuple"])=some (seqD d).isSome/\(∀ds,seqD d=some ds->∃xs,seqT G x=some xs/\RdGs G xs ds):=by
 cases h with
 | non=>exact⟨rfl,rfl,fun ds h=>(nomatch h)⟩
 | bl b=>exact⟨rfl,rfl,fun ds h=>(nomatch h)⟩
 | int i=>exact⟨rfl,rfl,fun ds h=>(nomatch h)⟩
 | str x=>exact⟨rfl,rfl,fun ds h=>(nomatch h)⟩
 | tup h=>exact⟨rfl,rfl,fun ds e=>by cases e;exact⟨_,rfl,h⟩⟩
 | lst hp h=>exact⟨by simp only[isiT,jZf,hp];rfl,by simp only[isiT,jZf,hp];rfl,fun ds e=>by cases e;exact⟨_,jJm hp,h⟩⟩
theorem kQt {G:Gp}:∀ {xs:List T} {ds:List PyData},RdGs G xs ds->∃ps:List (T×PyData),xs=ps.map (·.1)/\ds=ps.map (·.2)/\∀p,p∈ps->RdG G p.1 p.2
 | _,_,.nil=>⟨[],rfl,rfl,fun p h=>(nomatch h)⟩
 | _,_,.cons (x:=x) (d:=d) h hs=>by
  obtain⟨ps,h1,h2,h3⟩:=kQt hs
  refine⟨(x,d)::ps,by rw[h1];rfl,by rw[h2];rfl,fun p hp=> ?_⟩
  rcases (lJy.mp hp) with rfl | hp
  ·exact h
  ·exact h3 p hp
theorem jQn (h:seqT G x=some xs)(s:Sub G G'):seqT G' x=some xs:=by
 cases x with
 | ref p=>
  simp only[seqT] at h ⊢
  cases e:G p with
  | none=>rw[e] at h;cases h
  | some o=>rw[e] at h;rw[s _ _ e];exact h
 | _=>exact h
theorem qQb (h:RdG G x d)(e:numD d=true):∃i,x= .int i/\d= .int i:=by
 cases h with
 | int i=>exact⟨i,rfl,rfl⟩
 | _=>exact absurd (show false=true from e) lJp
def jUm:Sp3:=fun xs G Q=>∃(x:T) (d:PyData),xs=[x]/\RdG G x d/\∀G',Sub G G'->Q (.bl (numD d)) G'
noncomputable def kYa:List Str:=["thing"]
noncomputable def jVw:TS3:=
 (tRet (kUp (tCB rIsi (jJa (tVar 0) (jJa (tC (.ty "int")) tNil))) (qU6 (tCB rIsi (jJa (tVar 0) (jJa (tC (.ty "bool")) tNil))))))
theorem kKj:RdOk jUm jVw kYa:=by
 intro xs G Q h_;apply xe2 h_;clear h_;intro x d h_;apply ae2 h_;clear h_;intro h kk
 show jVw _ [some x] G
 obtain⟨p,q,h1,h2,h3⟩:=qQr h
 have:=kk G (.refl _)
 rw[<-h3] at this
 wp_walk using 1,jVw,rIsi,h1,h2
 cases p<;>exact this
theorem jZw {G:Gp}:∀ {xs:List T} {ds:List PyData},RdGs G xs ds->ds.length=xs.length
 | _,_,.nil=>rfl
 | _,_,.cons _ hs=>by rw[lKc,lKc,jZw hs]
noncomputable def jX7 (n:Nat):PyData->Bool
 | .int i=>decide (0<=i)&&decide (i<(n:Nat))
 | _=>false
noncomputable def jUa (n m:Nat)(d:PyData):Bool:=match seqD d with
 | some [x,y]=>jX7 n x&&jX7 m y
 | _=>false
noncomputable def qVw:PyData->Nat
 | .int i=>i.toNat
 | _=>0
noncomputable def toP (d:PyData):Nat×Nat:=match seqD d with
 | some [x,y]=>(qVw x,qVw y)
 | _=>(0,0)
theorem kYl (h:RdG G x d)(e:jX7 n d=true):qVw d<n/\x= .int (qVw d:Nat):=by
 cases h with
 | int i=>
  unfold jX7 at e
  rw[lKu,lKs,lKs] at e
  exact⟨by show i.toNat<n;omega,by show T.int i=T.int ((i.toNat:Nat):Int);rw[Int.toNat_of_nonneg e.1]⟩
 | _=>exact absurd (show false=true from e) lJp
variable {ds:List PyData}
theorem qY9 (h:RdG G x d)(e:seqD d=some ds):∃xs,seqT G x=some xs/\RdGs G xs ds:=(jY5 h).2.2 ds e
theorem kQy (h:RdG G x d)(e:jUa n m d=true):(toP d).1<n/\(toP d).2<m/\seqT G x=some [.int ((toP d).1:Nat),.int ((toP d).2:Nat)]:=by
 unfold jUa at e
 unfold toP
 split at e
 ·rename_i u v hs
  rw[lKu] at e
  obtain⟨xs,h1,h2⟩:=qY9 h hs
  cases h2 with
  | cons a t=>
   cases t with
   | cons b t=>
    cases t
    obtain⟨l1,rfl⟩:=kYl a e.1
    obtain⟨l2,rfl⟩:=kYl b e.2
    exact⟨l1,l2,h1⟩
 ·cases e
theorem kYi {y:T}(h:RdG G x d)(hx:seqT G x=some xs)(hi:xs[i]? =some y):ixR G x (.int (i:Nat))=some y:=by
 cases h with
 | tup _=>
  cases hx
  show L2.atI _ _=_
  rw[atN];exact hi
 | lst hp _=>
  rw[jJm hp] at hx;cases hx
  rw[jJ6 hp,atN];exact hi
 | _=>cases hx
def jKq:Sp3:=fun xs G Q=>∃(W:Web) (x:T) (d:PyData),xs=[encW W,x]/\RdG G x d/\∀G',Sub G G'->Q (.bl (jX7 W.length d)) G'
noncomputable def jXy:List Str:=["web","thing"]
noncomputable def jQc:TS3:=
 (tRet (kUp (jJo jUm (jJa (tVar 1) tNil)) (jXz rLeF rLt (tC (.int 0)) (tVar 1) (tCB rLen (jJa (tVar 0) tNil)))))
theorem jVg:RdOk jKq jQc jXy:=by
 intro xs G Q h_;apply xe3 h_;clear h_;intro W x d h_;apply ae2 h_;clear h_;intro h kk
 show jQc _ [some (.tup (W.map encR)),some x] G
 wp_walk using 1,jQc,jXz,rLeF
 refine⟨x,d,rfl,h,fun G1 s1=> ?_⟩
 have:=kk G1 s1
 cases h with
 | int i=>
  have this:Q (.bl (decide (0<=i)&&decide (i<(W.length:Nat)))) G1:=this
  refine⟨true,rfl,?_⟩
  rw[lJb rfl]
  refine⟨decide (0<=i),rfl,?_⟩
  by_cases c:0<=i
  ·rw[lJq c,lJb rfl]
   rw[lJq c,lQo] at this
   exact⟨i,rfl,by rw[lJe];exact this⟩
  ·rw[lJk c,lJa (by decide)]
   rw[lJk c] at this
   exact this
 | _=>exact⟨false,rfl,this⟩
def jYs:Sp3:=fun xs G Q=>∃(U V:Web) (x:T) (d:PyData),xs=[encW U,encW V,x]/\RdG G x d/\∀G',Sub G G'->Q (.bl (jUa U.length V.length d)) G'
noncomputable def qU0:List Str:=["one","other","thing"]
noncomputable def jYy:TS3:=
 (tSeq (tIfS (tOr (tNot (jJ1 (tCB rIsi (jJa (tVar 2) (jJa (tTup (jJa (tC (.ty "tuple")) (jJa (tC (.ty "list")) tNil))) tNil))))) (jJ1 (tOp rNeA (tCB rLen (jJa (tVar 2) tNil)) (tC (.int 2))))) (tRet (tC (.bl false))) jKl)
 (tRet (kUp (jJo jKq (jJa (tVar 0) (jJa (tOp rIxF (tVar 2) (tC (.int 0))) tNil))) (jJo jKq (jJa (tVar 1) (jJa (tOp rIxF (tVar 2) (tC (.int 1))) tNil))))))
theorem kUz (h:seqD d=none):jUa n m d=false:=by unfold jUa;rw[h]
theorem kYt {x y:PyData}(h:seqD d=some [x,y]):jUa n m d=(jX7 n x&&jX7 m y):=by unfold jUa;rw[h]
theorem kYu (h:seqD d=some ds)(hl:ds.length≠2):jUa n m d=false:=by
 unfold jUa
 rw[h]
 match ds,hl with
 | [],_=>rfl
 | [_],_=>rfl
 | [_,_],hl=>exact absurd rfl hl
 | _::_::_::_,_=>rfl
theorem kUv:RdOk jYs jYy qU0:=by
 intro xs G Q h_;apply xe4 h_;clear h_;intro U V x d h_;apply ae2 h_;clear h_;intro h kk
 show jYy _ [some (encW U),some (encW V),some x] G
 have hs:=sz
 obtain⟨i1,_,i2⟩:=jY5 h
 wp_walk using 1,jYy,rIsi,i1
 refine⟨by omega,?_⟩
 cases e:seqD d with
 | none=>
  rw[lJb (by simp)]
  have:=kk G (.refl _)
  rw[kUz e] at this
  exact this
 | some ds=>
  rw[lJa (by simp)]
  obtain⟨xs,hx,hr⟩:=i2 ds e
  have hlen:=jZw hr
  wp_walk using 1,rNeA,hx
  refine⟨decide (xs.length=2),jQ4 (c:=2),?_⟩
  by_cases c:xs.length=2
  ·rw[lJq c,lJa (by decide)]
   match xs,c,hr with
   | [u,v],_,.cons a (.cons b .nil)=>
    rename_i du dv
    have:=kk
    rw[kYt e] at this
    refine⟨u,kYi h hx (i:=0) rfl,U,u,du,rfl,a,fun G1 s1=>⟨_,rfl,?_⟩⟩
    cases c2:jX7 U.length du with
    | true=>
     rw[c2,lQo] at this
     rw[lJb rfl]
     exact⟨v,kYi (jKs s1 h) (jQn hx s1) (i:=1) rfl,V,v,dv,rfl,jKs s1 b,fun G2 s2=>this G2 (s1.trans s2)⟩
    | false=>
     rw[c2] at this
     rw[lJa (by decide)]
     exact this G1 s1
  ·rw[lJk c,lJb rfl]
   have:=kk G (.refl _)
   rw[kYu e (by omega)] at this
   exact this
noncomputable def jXi (U V:Web)(S:List (Nat×Nat))(p:Nat×Nat):Bool:=decide ((row U p.1).length=(row V p.2).length)&&((row U p.1).zip (row V p.2)).all fun eg=>decide (eg.1.2=eg.2.2)&&S.contains (eg.1.1,eg.2.1)
def KnD (kvs:List (L2.TKey×T))(S:List (Nat×Nat)):Prop:=∀p,valT kvs (keyE p)=if p∈S then some (.bl true) else none
theorem qV5 {d:Addr}{x:Nat}(h:G d=some (.dct kvs)\/G d=some (.fdc kvs))(k:KnD kvs S):inR G (.tup [.int (x:Nat),.int (y:Nat)]) (.ref d)=some (S.contains (x,y)):=by
 have hk:jQw [T.int (x:Nat),T.int (y:Nat)]=some (keyE (x,y)):=jQk
 have hv:=k (x,y)
 have e:S.contains (x,y)=(valT kvs (keyE (x,y))).isSome:=by
  rw[hv]
  by_cases c:(x,y)∈S
  ·rw[lJb c,List.contains_iff_mem.mpr c];rfl
  ·rw[lJa c,Bool.eq_false_iff.mpr fun z=>c (List.contains_iff_mem.mp z)];rfl
 rw[e]
 unfold inR
 rcases h with h | h
 ·simp only[seqT,dAt,h,hk];rfl
 ·simp only[seqT,dAt,h,hk];rfl
noncomputable def jYt:Sp3:=fun xs G Q=>∃(U V:Web) (x y:Nat) (es fs:List (Nat×Nat)) (d:Addr) (kvs:List (L2.TKey×T)) (S:List (Nat×Nat)),xs=[encR es,encR fs,.ref d]/\es=row U x/\fs=row V y/\(G d=some (.dct kvs)\/G d=some (.fdc kvs))/\KnD kvs S/\∀G',Sub G G'->Q (.bl (jXi U V S (x,y))) G'
noncomputable def qU1:List Str:=["left_ends","right_ends","known","left","right"]
noncomputable def jYz:TS3:=
 (tSeq (tIfS (jJ1 (tOp rNeA (tCB rLen (jJa (tVar 0) tNil)) (tCB rLen (jJa (tVar 1) tNil)))) (tRet (tC (.bl false))) jKl)
 (tSeq (tFor (iZip (jJa (tVar 0) (jJa (tVar 1) tNil))) (gTup 2 (jJx (jJg 3) (jJx (jJg 4) gNil))) (tIfS (tOr (jJ1 (tOp rNeA (tOp rIxF (tVar 3) (tC (.int 1))) (tOp rIxF (tVar 4) (tC (.int 1))))) (jJ1 (tOp jQo (tTup (jJa (tOp rIxF (tVar 3) (tC (.int 0))) (jJa (tOp rIxF (tVar 4) (tC (.int 0))) tNil))) (tVar 2)))) (tRet (tC (.bl false))) jKl))
 (tRet (tC (.bl true)))))
theorem kUj {α:Type}{f:α->Bool}{l:List α}{k:Nat}{x:α}(h:l[k]? =some x):(l.take (k+1)).all f=((l.take k).all f&&f x):=by
 rw[lKz,h,List.all_append];simp
theorem kZr {α:Type}{f:α->Bool}{l:List α}{k:Nat}(h:(l.take k).all f=false):l.all f=false:=by
 rw[<-lQf k l,List.all_append,h];rfl
theorem zipE {fs:List (Nat×Nat)}:zipT (es.map encE) (fs.map encE)=(es.zip fs).map fun eg=>T.tup [encE eg.1,encE eg.2]:=by
 unfold zipT;rw[List.zip_map,lJw];rfl
theorem kUw:RdOk jYt jYz qU1:=by
 intro xs G Q h_;apply xe9 h_;clear h_;intro U V x y es fs d kvs S h_;apply ae5 h_;clear h_;intro he hf hd kn kk
 show jYz _ [some (.tup (es.map encE)),some (.tup (fs.map encE)),some (.ref d),none,none] G
 have hs:=sz
 have fin:=kk G (.refl _)
 unfold jXi at fin
 rw[<-he,<-hf] at fin
 wp_walk using 1,jYz,rNeA,List.length_map,jQ4,jJ2,iZip
 by_cases c0:es.length=fs.length
 rotate_left
 ·rw[lJk c0,lJb rfl]
  rw[lJk c0] at fin
  exact fin
 rw[lJq c0,lJa (by decide)]
 rw[lJq c0,lQo] at fin
 rw[zipE]
 let J1:Nat->St3->Gp->Prop:=fun k τ G'=>∃(v3 v4:Option T),τ=[some (.tup (es.map encE)),some (.tup (fs.map encE)),some (.ref d),v3,v4]/\((es.zip fs).take k).all (fun eg=>decide (eg.1.2=eg.2.2)&&S.contains (eg.1.1,eg.2.1))=true/\G'=G
 refine⟨J1,?_,?_,?_,?_⟩
 ·exact⟨none,none,rfl,rfl,rfl⟩
 ·intros;trivial
 ·intro k z τ G1 hz h_;apply xe2 h_;clear h_;intro v3 v4 h_;apply ae2 h_;clear h_;intro i1 e1_
  subst e1_
  obtain⟨eg,heg,rfl⟩:=jKz hz
  have hst:=kUj (f:=fun eg:(Nat×Nat)×(Nat×Nat)=>decide (eg.1.2=eg.2.2)&&S.contains (eg.1.1,eg.2.1)) heg
  rw[i1,lQo] at hst
  have bad:(decide (eg.1.2=eg.2.2)&&S.contains (eg.1.1,eg.2.1))=false->Q (.bl false) G1:=fun e=>by
   rw[kZr (hst.trans e)] at fin
   exact fin
  wp_walk using 1,encE,rNeA,jQo,jQ4,qV5 hd kn
  by_cases c1:eg.1.2=eg.2.2
  ·rw[lJq c1] at hst bad
   rw[lJq c1,lJa (by decide)]
   refine⟨by omega,?_⟩
   cases c2:S.contains (eg.1.1,eg.2.1) with
   | true=>rw[lJa (by decide)];exact⟨_,_,rfl,by rw[hst,c2];rfl,rfl⟩
   | false=>rw[lJb rfl];exact bad (by rw[c2];rfl)
  ·rw[lJk c1,lJb rfl]
   exact bad (by rw[lJk c1];rfl)
 ·intro τ G1 h_;apply xe2 h_;clear h_;intro v3 v4 h_;apply ae2 h_;clear h_;intro i1 e1_
  subst e1_
  rw[lJe,lQl] at i1
  wp_walk using 1,tSeq
  rw[i1] at fin
  exact fin
noncomputable def prsD (n m:Nat)(d:PyData):Option (List (Nat×Nat)):=match seqD d with
 | some ds=>if ds.all (jUa n m)=true then some (ds.map toP) else none
 | none=>none
def shB (U V:Web)(a b:Nat)(d:PyData):Bool:=match prsD U.length V.length d with
 | some S=>S.contains (a,b)&&S.all (jXi U V S)
 | none=>false
noncomputable def jKw:Sp3:=fun xs G Q=>∃(U V:Web) (a b:Nat) (x:T) (d:PyData),xs=[encW U,.int (a:Nat),encW V,.int (b:Nat),x]/\RdG G x d/\(∀ds,seqD d=some ds->ds.length<=5000)/\∀G',Sub G G'->Q (.bl (shB U V a b d)) G'
noncomputable def kJ9:List Str:=["one","a","other","b","pairs","known","pair","part"]
noncomputable def jQ2:TS3:=
 (tSeq (tIfS (tOr (tNot (jJ1 (tCB rIsi (jJa (tVar 4) (jJa (tTup (jJa (tC (.ty "tuple")) (jJa (tC (.ty "list")) tNil))) tNil))))) (tNot (jJ1 (tCB rAll (jJa (jKp [false,false,false,false,false,false,false,true] (iSeq (tVar 4)) (jJg 7) jK2 (jJo jYs (jJa (tVar 0) (jJa (tVar 2) (jJa (tVar 7) tNil))))) tNil))))) (tRet (tC (.bl false))) jKl)
 (tSeq (tAsg jQ1 (jJg 5))
 (tSeq (tFor (iSeq (tVar 4)) (jJg 6) (tAsg (tC (.bl true)) (gSub (tVar 5) (tCB jKa (jJa (tVar 6) tNil)) jUu)))
 (tRet (kUp (tOp kQu (tTup (jJa (tVar 1) (jJa (tVar 3) tNil))) (tVar 5)) (tCB rAll (jJa (jKp [false,false,false,false,false,false,true,false] (iFd (tVar 5)) (jJg 6) jK2 (jJo jYt (jJa (tOp rIxF (tVar 0) (tOp rIxF (tVar 6) (tC (.int 0)))) (jJa (tOp rIxF (tVar 2) (tOp rIxF (tVar 6) (tC (.int 1)))) (jJa (tVar 5) tNil))))) tNil)))))))
theorem kYr (h:seqD d=none):prsD n m d=none:=by unfold prsD;rw[h]
theorem qKx (h:seqD d=some ds)(h2:ds.all (jUa n m)=false):prsD n m d=none:=by unfold prsD;rw[h];simp only;rw[lJa (by rw[h2];decide)]
theorem kYs (h:seqD d=some ds)(h2:ds.all (jUa n m)=true):prsD n m d=some (ds.map toP):=by unfold prsD;rw[h];simp only;rw[lJb h2]
theorem kQh {V:Web}{b:Nat}(h:prsD U.length V.length d=none):shB U V a b d=false:=by unfold shB;rw[h]
theorem qJ8 {V:Web}{b:Nat}(h:prsD U.length V.length d=some S):shB U V a b d=(S.contains (a,b)&&S.all (jXi U V S)):=by unfold shB;rw[h]
theorem qYm {p:Nat×Nat}(h:KnD kvs S):KnD (putT kvs (keyE p) (.bl true)) (S++[p]):=fun q=>by
 rw[kYe]
 by_cases c:q=p
 ·subst c;rw[lJb rfl,lJb (by simp)]
 ·have hk:¬ keyE p=keyE q:=fun z=>c (jXe z).symm
  rw[lJa hk,h q]
  by_cases c2:q∈S
  ·rw[lJb c2,lJb (by simp[c2])]
  ·rw[lJa c2,lJa (by simp[c2,c])]
theorem kYq {k:L2.TKey}:(k∈kvs.map Prod.fst/\(putT kvs k v).map Prod.fst=kvs.map Prod.fst)\/(k∉kvs.map Prod.fst/\(putT kvs k v).map Prod.fst=kvs.map Prod.fst++[k]):=by
 unfold putT
 by_cases c:k∈kvs.map Prod.fst
 ·refine .inl ⟨c,?_⟩
  have:(kvs.any fun kv=>decide (kv.1=k))=true:=by
   obtain⟨kv,h1,h2⟩:=lJ2.mp c
   exact lXs.mpr ⟨kv,h1,lJq h2⟩
  rw[lJb this,lJw]
  apply lVv
  intro kv _
  show (if kv.1=k then (kv.1,v) else kv).1=kv.1
  split<;>rfl
 ·refine .inr ⟨c,?_⟩
  have:¬ (kvs.any fun kv=>decide (kv.1=k))=true:=fun z=>by
   obtain⟨kv,h1,h2⟩:=lXs.mp z
   exact c (lJ2.mpr ⟨kv,h1,of_decide_eq_true h2⟩)
  rw[lJa this,lKw];rfl
theorem jX9:RdOk jKw jQ2 kJ9:=by
 intro xs G Q h_;apply xe6 h_;clear h_;intro U V a b x d h_;apply ae3 h_;clear h_;intro h hl kk
 show jQ2 _ [some (encW U),some (.int (a:Nat)),some (encW V),some (.int (b:Nat)),some x,none,none,none] G
 have hs:=sz
 obtain⟨i1,_,i2⟩:=jY5 h
 wp_walk using 1,jQ2,rIsi,i1,iSeq,jJ2,jQ1
 refine⟨by omega,?_⟩
 cases e:seqD d with
 | none=>
  rw[lJb (by simp)]
  have:=kk G (.refl _)
  rw[kQh (kYr e)] at this
  exact this
 | some ds=>
  rw[lJa (by simp)]
  have hdl:=hl ds e
  obtain⟨xs,hx,hr⟩:=i2 ds e
  obtain⟨ps,h1,h2,h3⟩:=kQt hr
  have hpl:ps.length<=5000:=by rw[h2,lJe] at hdl;exact hdl
  rw[h1] at hx
  refine⟨_,hx,?_⟩
  refine jKm (es:=ps) (enc:=(·.1)) (fun p=>T.bl (jUa U.length V.length p.2)) (by omega) (fun G' s=>jQn hx s) ?_ ?_
  ·intro i p hpi G' K K0 s hK
   wp_walk using 1,tSeq
   exact⟨U,V,p.1,p.2,rfl,jKs s (h3 p (lJt hpi)),fun G2 s2=>hK G2 s2⟩
  intro D G1 hD d1 s1
  refine⟨D,_,_,rfl,d1,jV5 (f:=fun p:T×PyData=>jUa U.length V.length p.2),_,rfl,?_⟩
  have hall:(ps.all fun p=>jUa U.length V.length p.2)=ds.all (jUa U.length V.length):=by rw[h2,List.all_map];rfl
  rw[hall]
  cases c1:ds.all (jUa U.length V.length) with
  | false=>
   rw[lJb rfl]
   have:=kk G1 s1
   rw[kQh (qKx e c1)] at this
   exact this
  | true=>
   rw[lJa (by decide)]
   rw[qJ8 (kYs e c1)] at kk
   refine .inl fun k hk=> ?_
   refine⟨_,jQn (jQn hx s1) (.new hk),?_⟩
   have hS:ds.map toP=ps.map fun p=>toP p.2:=by rw[h2,lJw];rfl
   rw[hS] at kk
   have hpp:∀p,p∈ps->jUa U.length V.length p.2=true:=fun p hp=>lQc.mp (hall.trans c1) p hp
   let J1:Nat->St3->Gp->Prop:=fun i τ G'=>∃(v6:Option T) (kvs:List (L2.TKey×T)),τ=[some (encW U),some (.int (a:Nat)),some (encW V),some (.int (b:Nat)),some x,some (.ref k),v6,none]/\G' k=some (.dct kvs)/\KnD kvs ((ps.take i).map fun p=>toP p.2)/\kvs.length<=i/\(∃Ps:List (Nat×Nat),kvs.map Prod.fst=Ps.map keyE/\∀q,q∈Ps↔q∈(ps.take i).map fun p=>toP p.2)/\Sub G G'
   refine⟨J1,?_,?_,?_,?_⟩
   ·exact⟨none,[],rfl,jJh,fun q=>by simp[valT],lJj _,⟨[],rfl,fun q=>by simp⟩,s1.trans (.new hk)⟩
   ·intro i τ G' hi h_;apply xe2 h_;clear h_;intro v6 kvs h_;apply ae5 h_;clear h_;intro j1 j2 j3 j4 j5
    exact jQn hx j5
   ·intro i z τ G2 hz h_;apply xe2 h_;clear h_;intro v6 kvs h_;apply ae5 h_;clear h_;intro j1 j2 j3 j4 j5
    obtain⟨p,hp,rfl⟩:=jKz hz
    obtain⟨r1,r2,r3⟩:=kQy (jKs j5 (h3 p (lJt hp))) (hpp p (lJt hp))
    wp_walk using 1,r3,jZt j1 jQk (show kvs.length<sizeLine by have:=(List.getElem?_eq_some_iff.mp hp).1;omega)
    have hkG:G k=none:=jQ8 s1 hk
    have htk:(ps.take (i+1)).map (fun p=>toP p.2)=((ps.take i).map fun p=>toP p.2)++[toP p.2]:=by rw[lKz,hp,lKw];rfl
    refine⟨_,putT kvs (keyE (toP p.2)) (.bl true),rfl,jJh,by rw[htk];exact qYm j2,lKb (kQx _ _ _) (by omega),?_,j5.over hkG⟩
    obtain⟨Ps,q1,q2⟩:=j4
    have hin:keyE (toP p.2)∈kvs.map Prod.fst↔toP p.2∈Ps:=by
     rw[q1,lJ2]
     exact⟨fun ⟨z,z1,z2⟩=>by rw[<-jXe z2];exact z1,fun z=>⟨_,z,rfl⟩⟩
    rw[htk]
    rcases kYq (kvs:=kvs) (k:=keyE (toP p.2)) (v:= .bl true) with ⟨c,e⟩ | ⟨c,e⟩
    ·refine⟨Ps,by rw[e,q1],fun q=> ?_⟩
     rw[lJm,lJn,<-q2 q]
     exact⟨.inl,fun z=>z.elim id fun z=>by rw[z];exact hin.mp c⟩
    ·refine⟨Ps++[toP p.2],by rw[e,q1,lKw];rfl,fun q=> ?_⟩
     rw[lJm,lJm,lJn,q2 q]
   ·intro τ G2 h_;apply xe2 h_;clear h_;intro v6 kvs h_;apply ae5 h_;clear h_;intro j1 j2 j3 q3_ j5
    obtain⟨Ps,q1,q2⟩:=q3_
    rw[lJe,lQl] at j2 q2
    rw[lJe] at j3
    have hkG:G k=none:=jQ8 s1 hk
    generalize hSS:(ps.map fun p=>toP p.2)=S at kk j2 q2
    have hlt:∀q,q∈S->q.1<U.length/\q.2<V.length:=fun q hq=>by
     rw[<-hSS] at hq
     (obtain⟨p,hp,rfl⟩:=lJ2.mp hq)
     obtain⟨r1,r2,_⟩:=kQy (h3 p hp) (hpp p hp)
     exact⟨r1,r2⟩
    have hPl:Ps.length<=5000:=by have:=lKa List.length q1;simp at this;omega
    wp_walk using 1,kQu,qV5 (.inl j1) j2,iFd
    refine⟨by omega,?_⟩
    cases c2:S.contains (a,b) with
    | false=>
     have:=kk G2 j5
     rw[c2] at this
     exact this
    | true=>
     rw[c2,lQo] at kk
     rw[lJb rfl]
     refine⟨kvs,j1,Ps.map fun q=>[T.int (q.1:Nat),T.int (q.2:Nat)],?_,?_⟩
     ·rw[lJw,show kvs.map (fun kv=>some kv.1)=(kvs.map Prod.fst).map some by rw[lJw];rfl,q1,lJw]
      apply lVv
      intro q _
      exact jQk
     have hk3:gup G2 k (.fdc kvs) k=some (.fdc kvs):=jJh
     have s3:Sub G (gup G2 k (.fdc kvs)):=j5.over hkG
     generalize gup G2 k (.fdc kvs)=G3 at hk3 s3 ⊢
     rw[lJw]
     refine jKm (es:=Ps) (enc:=encE) (fun q=>T.bl (jXi U V S q)) (by omega) (fun _ _=>trivial) ?_ ?_
     ·intro i q hq G' K K0 s hK
      obtain⟨l1,l2⟩:=hlt q ((q2 q).mp (lJt hq))
      have w1:U[q.1]? =some (row U q.1):=by unfold row;rw[lJi l1];rfl
      have w2:V[q.2]? =some (row V q.2):=by unfold row;rw[lJi l2];rfl
      wp_walk using 1,encE,encW,jUh w1,jUh w2
      exact⟨U,V,q.1,q.2,_,_,k,kvs,S,rfl,rfl,rfl,.inr (s _ _ hk3),j2,fun G4 s4=>hK G4 s4⟩
     ·intro D2 G4 hD2 d4 s4
      refine⟨D2,_,_,rfl,d4,jV5 (f:=jXi U V S),?_⟩
      have hPS:Ps.all (jXi U V S)=S.all (jXi U V S):=by
       (rw[Bool.eq_iff_iff,lQc,lQc])
       exact⟨fun z q hq=>z q ((q2 q).mpr hq),fun z q hq=>z q ((q2 q).mp hq)⟩
      rw[hPS]
      exact kk G4 (s3.trans s4)
structure OkP (k:Nat) (d:PyData):Prop where
 lay:d.canLay0=true
 dep:d.depth<=k
def RdT (B:List Addr)(G:Gp)(k:Nat)(x:T):Prop:=∃d,RdG (er B G) x d/\OkP k d
theorem RdT.keep {k:Nat}(hb:b∈B)(h:RdT B G k x)(q:Keep b G G'):RdT B G' k x:=by
 obtain⟨d,h1,h2⟩:=h
 exact⟨d,jKs (qQ3 hb q) h1,h2⟩
theorem RdT.mono {k:Nat}(h:RdT B G k x)(l:k<=k'):RdT B G k' x:=by
 obtain⟨d,h1,h2⟩:=h
 exact⟨d,h1,h2.lay,lKb h2.dep l⟩
theorem rdts {B:List Addr} {G:Gp} {k:Nat}:∀xs:List T,(∀x,x∈xs->RdT B G k x)->∃ds,RdGs (er B G) xs ds/\PyData.canLayAll0 ds=true/\PyData.depthAll ds<=k
 | [],_=>⟨[],.nil,by simp[PyData.canLayAll0],by simp[PyData.depthAll]⟩
 | x::xs,h=>by
  obtain⟨ds,h1,h2,h3⟩:=rdts xs fun y hy=>h y (lKp _ hy)
  obtain⟨d,g1,g2⟩:=h x (lKn ..)
  exact⟨d::ds,.cons g1 h1,by rw[PyData.canLayAll0,g2.lay,h2];rfl,by rw[PyData.depthAll];have:=g2.dep;omega⟩
theorem jKv {k:Nat}(h:∀x,x∈xs->RdT B G k x):RdT B G (k+1) (.tup xs):=by
 obtain⟨ds,h1,h2,h3⟩:=rdts xs h
 exact⟨_,.tup h1,by rw[PyData.canLay0];exact h2,by rw[PyData.depth];omega⟩
theorem jYu {k:Nat}(hp:G p=some (.lst xs))(hb:p∉B)(h:∀x,x∈xs->RdT B G k x):RdT B G (k+1) (.ref p):=by
 obtain⟨ds,h1,h2,h3⟩:=rdts xs h
 exact⟨_,.lst (by rw[er_ne hb];exact hp) h1,by rw[PyData.canLay0];exact h2,by rw[PyData.depth];omega⟩
theorem jQb {k:Nat}{i:Int}:RdT B G k (.int i):=⟨_,.int i,rfl,by simp[PyData.depth]⟩
theorem kUt {k:Nat}{i:Bool}:RdT B G k (.bl i):=⟨_,.bl i,rfl,by simp[PyData.depth]⟩
theorem kQk {k:Nat}:RdT B G k .non:=⟨_,.non,rfl,by simp[PyData.depth]⟩
theorem kV7 {k:Nat}{x:Str}(h:PyData.strOk x=true):RdT B G k (.str x):=⟨_,.str x,by rw[PyData.canLay0];exact h,by simp[PyData.depth]⟩
mutual
theorem kZe {G:Gp}:∀ {x:T} {d:PyData},RdG G x d->PyData.eqv d d=true
 | _,_,.non=>rfl
 | _,_,.bl b=>by simp[PyData.eqv]
 | _,_,.int i=>by simp[PyData.eqv]
 | _,_,.str x=>by simp[PyData.eqv]
 | _,_,.tup h=>kJy h
 | _,_,.lst _ h=>kJy h
theorem kJy {G:Gp}:∀ {xs:List T} {ds:List PyData},RdGs G xs ds->PyData.eqvAll ds ds=true
 | _,_,.nil=>rfl
 | _,_,.cons h hs=>by
  show (PyData.eqv _ _&&PyData.eqvAll _ _)=true
  rw[kZe h,kJy hs];rfl
end
def Tg (B:List Addr)(G:Gp)(x:T):Prop:=∃d,RdG (er B G) x d/\OkP 20 d/\∀ds,seqD d=some ds->ds.length<=5000
theorem Tg.keep (hb:b∈B)(h:Tg B G x)(q:Keep b G G'):Tg B G' x:=by
 obtain⟨d,h1,h2⟩:=h
 exact⟨d,jKs (qQ3 hb q) h1,h2⟩
theorem qY3 {k:Nat}(h:RdT B G k x)(hk:k<=20)(hl:∀xs,seqT G x=some xs->xs.length<=5000):Tg B G x:=by
 obtain⟨d,h1,h2⟩:=h
 refine⟨d,h1,⟨h2.lay,lKb h2.dep hk⟩,fun ds e=> ?_⟩
 obtain⟨xs,hx,hr⟩:=(jY5 h1).2.2 ds e
 rw[jZw hr]
 exact hl xs (jQn hx qYp)
structure Od (B:List Addr) (G:Gp) (t:T):Prop where
 rd:RdT B G 3 t
 tg:Tg B G t
theorem Od.keep (hb:b∈B)(h:Od B G x)(q:Keep b G G'):Od B G' x:=⟨RdT.keep hb h.rd q,Tg.keep hb h.tg q⟩
theorem qJa (h:RdT B G 3 x)(hl:∀xs,seqT G x=some xs->xs.length<=5000):Od B G x:=⟨h,qY3 h (by decide) hl⟩
theorem kJn (h:∀x,x∈xs->RdT B G 2 x)(hl:xs.length<=5000):Od B G (.tup xs):=qJa (jKv h) fun ys e=>by cases e;exact hl
theorem kYv (hp:G p=some (.lst xs))(hb:p∉B)(h:∀x,x∈xs->RdT B G 2 x)(hl:xs.length<=5000):Od B G (.ref p):=qJa (jYu hp hb h) fun ys e=>by rw[jJm hp] at e;cases e;exact hl
theorem od_non:Od B G .non:=qJa kQk fun ys e=>by simp[seqT] at e
theorem od_bl {i:Bool}:Od B G (.bl i):=qJa kUt fun ys e=>by simp[seqT] at e
theorem kYw {i:Int}:Od B G (.int i):=qJa jQb fun ys e=>by simp[seqT] at e
theorem qK7 {x:Str}(h:PyData.strOk x=true):Od B G (.str x):=qJa (kV7 h) fun ys e=>by simp[seqT] at e
theorem mem1 {P:T->Prop}(h:P x):∀y,y∈[x]->P y:=fun y hy=>by cases lJn.mp hy;exact h
theorem mem2 {P:T->Prop}(h:P x)(hs:∀y,y∈xs->P y):∀y,y∈x::xs->P y:=fun y hy=>by
 rcases (lJy.mp hy) with rfl | hy
 ·exact h
 ·exact hs y hy
theorem mem0 {P:T->Prop}:∀y:T,y∈[]->P y:=fun y hy=>nomatch hy
def jUl:Sp3:=fun xs G Q=>∃(B:List Addr) (b:Addr) (n:Nat),xs=[.ref b]/\Lv B b n G/\n+10<2^40/\∀t G',Od B G' t->BoxAt G' b (n+1)->Keep b G G'->Q t G'
noncomputable def uJ6:List Str:=["_law_box_here","_law_some"]
noncomputable def kQr:TS3:=
 (tSeq (tAsg (tLst (jJa (tC .non) (jJa (tC (.bl true)) (jJa (tC (.bl false)) (jJa (tC (.int 0)) (jJa (tC (.int 3)) (jJa (tUn rNeg (tC (.int 1))) (jJa (tC (.str (PySem.Str.ofString ""))) (jJa (tC (.str (PySem.Str.ofString "0"))) (jJa (tC (.str (PySem.Str.ofString "way"))) (jJa (tTup tNil) (jJa (tLst tNil) (jJa (tTup (jJa (tC (.bl true)) tNil)) (jJa (tLst (jJa (tC (.bl false)) tNil)) (jJa (tTup (jJa (tUn rNeg (tC (.int 1))) tNil)) (jJa (tTup (jJa (tC .non) tNil)) (jJa (tTup (jJa (tC (.str (PySem.Str.ofString "0"))) tNil)) (jJa (tTup (jJa (tTup (jJa (tC (.int 0)) tNil)) tNil)) tNil)))))))))))))))))) (jJg 1))
 (tRet (tOp rIxF (tOp jJt (tVar 1) (tLst (jJa (tLst (jJa (tLst tNil) tNil)) (jJa (tTup (jJa (tC (.int 0)) (jJa (tC (.bl true)) tNil))) (jJa (tLst (jJa (tC (.int 0)) (jJa (tC .non) tNil))) (jJa (tOp rPow (tC (.int 10)) (tC (.int 12))) tNil)))))) (jJo jJi (jJa (tVar 0) (jJa (tC (.int 21)) tNil))))))
theorem kZ4:RdOk jUl kQr uJ6:=by
 intro xs G Q h_;apply xe3 h_;clear h_;intro B b n h_;apply ae3 h_;clear h_;intro LL hn kk
 have hb:=LL.box
 show kQr _ [some (.ref b),none] G
 have hs:=sz
 obtain⟨bo,hbo⟩:=hb.some
 wp_walk using 1,kQr,tUn,rNeg
 refine⟨by omega,by omega,fun p0 h0=> ?_⟩
 have b0:=jJe hbo h0
 have m0:=LL.nin h0
 have g0:(gup G p0 (GO.lst [])) p0=some (.lst []):=jJh
 have k0:Keep b G (gup G p0 (GO.lst [])):= .new h0
 have x0:=hb.gup (o:=GO.lst []) b0
 have L0:=LL.keep x0 k0
 generalize gup G p0 (GO.lst [])=G0 at g0 k0 x0 L0 ⊢
 refine⟨by omega,by omega,fun p1 h1=> ?_⟩
 obtain⟨bo0,hbo0⟩:=x0.some
 have b1:=jJe hbo0 h1
 have m1:=L0.nin h1
 have g1:(gup G0 p1 (GO.lst [T.bl false])) p1=some (.lst [T.bl false]):=jJh
 have k1:Keep b G0 (gup G0 p1 (GO.lst [T.bl false])):= .new h1
 have x1:=x0.gup (o:=GO.lst [T.bl false]) b1
 have L1:=L0.keep x1 k1
 generalize gup G0 p1 (GO.lst [T.bl false])=G1 at g1 k1 x1 L1 ⊢
 refine⟨by omega,by omega,by omega,by omega,by omega,by omega,fun p2 h2=> ?_⟩
 obtain⟨bo1,hbo1⟩:=x1.some
 have b2:=jJe hbo1 h2
 have m2:=L1.nin h2
 obtain⟨L,hL⟩:∃L,L=[T.non,T.bl true,T.bl false,T.int 0,T.int 3,T.int (-1),T.str (Str.ofString ""),T.str (Str.ofString "0"),T.str (Str.ofString "way"),T.tup [],T.ref p0,T.tup [T.bl true],T.ref p1,T.tup [T.int (-1)],T.tup [T.non],T.tup [T.str (Str.ofString "0")],T.tup [T.tup [T.int 0]]]:=⟨_,rfl⟩
 rw[<-hL]
 have g2:(gup G1 p2 (GO.lst L)) p2=some (.lst L):=jJh
 have k2:Keep b G1 (gup G1 p2 (GO.lst L)):= .new h2
 have x2:=x1.gup (o:=GO.lst L) b2
 have L2:=L1.keep x2 k2
 generalize gup G1 p2 (GO.lst L)=G2 at g2 k2 x2 L2 ⊢
 refine⟨by omega,fun p3 h3=> ?_⟩
 obtain⟨bo2,hbo2⟩:=x2.some
 have b3:=jJe hbo2 h3
 have m3:=L2.nin h3
 have g3:(gup G2 p3 (GO.lst [])) p3=some (.lst []):=jJh
 have k3:Keep b G2 (gup G2 p3 (GO.lst [])):= .new h3
 have x3:=x2.gup (o:=GO.lst []) b3
 have L3:=L2.keep x3 k3
 generalize gup G2 p3 (GO.lst [])=G3 at g3 k3 x3 L3 ⊢
 refine⟨by omega,fun p4 h4=> ?_⟩
 obtain⟨bo3,hbo3⟩:=x3.some
 have b4:=jJe hbo3 h4
 have m4:=L3.nin h4
 have g4:(gup G3 p4 (GO.lst [T.ref p3])) p4=some (.lst [T.ref p3]):=jJh
 have k4:Keep b G3 (gup G3 p4 (GO.lst [T.ref p3])):= .new h4
 have x4:=x3.gup (o:=GO.lst [T.ref p3]) b4
 have L4:=L3.keep x4 k4
 generalize gup G3 p4 (GO.lst [T.ref p3])=G4 at g4 k4 x4 L4 ⊢
 refine⟨by omega,by omega,fun p5 h5=> ?_⟩
 obtain⟨bo4,hbo4⟩:=x4.some
 have b5:=jJe hbo4 h5
 have m5:=L4.nin h5
 have g5:(gup G4 p5 (GO.lst [T.int 0,T.non])) p5=some (.lst [T.int 0,T.non]):=jJh
 have k5:Keep b G4 (gup G4 p5 (GO.lst [T.int 0,T.non])):= .new h5
 have x5:=x4.gup (o:=GO.lst [T.int 0,T.non]) b5
 have L5:=L4.keep x5 k5
 generalize gup G4 p5 (GO.lst [T.int 0,T.non])=G5 at g5 k5 x5 L5 ⊢
 refine⟨⟨by decide,by decide,by decide⟩,by omega,fun p6 h6=> ?_⟩
 obtain⟨bo5,hbo5⟩:=x5.some
 have b6:=jJe hbo5 h6
 have m6:=L5.nin h6
 obtain⟨M,hM⟩:∃M,M=[T.ref p4,T.tup [T.int 0,T.bl true],T.ref p5,T.int (10^Int.toNat 12)]:=⟨_,rfl⟩
 rw[<-hM]
 have g6:(gup G5 p6 (GO.lst M)) p6=some (.lst M):=jJh
 have k6:Keep b G5 (gup G5 p6 (GO.lst M)):= .new h6
 have x6:=x5.gup (o:=GO.lst M) b6
 have L6:=L5.keep x6 k6
 generalize gup G5 p6 (GO.lst M)=G6 at g6 k6 x6 L6 ⊢
 clear hb
 have k36:=(k3.trans k4).trans (k5.trans k6)
 have k46:=k4.trans (k5.trans k6)
 refine⟨_,jXh (k36 _ _ b2.symm g2) g6 (by rw[hL,hM];simp;omega),?_⟩
 rw[jU9]
 intro u hu
 obtain⟨bo6,hbo6⟩:=x6.some
 have bu:=jJe hbo6 hu
 have mu:=L6.nin hu
 have gu:(gup G6 u (GO.lst (L++M))) u=some (.lst (L++M)):=jJh
 have ku:Keep b G6 (gup G6 u (GO.lst (L++M))):= .new hu
 have xu:=x6.gup (o:=GO.lst (L++M)) bu
 have Lu:=L6.keep xu ku
 generalize gup G6 u (GO.lst (L++M))=G7 at gu ku xu Lu ⊢
 refine⟨b,21,n,rfl,xu,by omega,by omega,by omega,fun c G8 c0 c1 b8 k8=> ?_⟩
 obtain⟨c,rfl⟩:=lKj c0
 have hl:(L++M).length=21:=by rw[hL,hM];rfl
 have hc:c<(L++M).length:=by omega
 refine⟨(L++M)[c],by rw[jJ6 (k8 _ _ bu.symm gu),atN];exact lJi hc,?_⟩
 have k68:=ku.trans k8
 refine kk _ G8 ?_ b8 ((((k0.trans k1).trans k2).trans k36).trans k68)
 have hm:=lVk hc
 generalize (L++M)[c]=t at hm
 have q0:=k68 _ _ b0.symm (k36 _ _ b0.symm (k2 _ _ b0.symm (k1 _ _ b0.symm g0)))
 have q1:=k68 _ _ b1.symm (k36 _ _ b1.symm (k2 _ _ b1.symm g1))
 have q3:=k68 _ _ b3.symm (k46 _ _ b3.symm g3)
 have q4:=k68 _ _ b4.symm (k6 _ _ b4.symm (k5 _ _ b4.symm g4))
 have q5:=k68 _ _ b5.symm (k6 _ _ b5.symm g5)
 revert t
 rw[hL,hM]
 refine mem2 od_non (mem2 od_bl (mem2 od_bl (mem2 kYw (mem2 kYw (mem2 kYw (mem2 (qK7 ?_) (mem2 (qK7 ?_) (mem2 (qK7 ?_) (mem2 (kJn mem0 ?_) (mem2 (kYv q0 m0 mem0 ?_) (mem2 (kJn (mem1 kUt) ?_) (mem2 (kYv q1 m1 (mem1 kUt) ?_) (mem2 (kJn (mem1 jQb) ?_) (mem2 (kJn (mem1 kQk) ?_) (mem2 (kJn (mem1 (kV7 ?_)) ?_) (mem2 (kJn (mem1 (jKv (mem1 jQb))) ?_) (mem2 (kYv q4 m4 (mem1 (jYu q3 m3 mem0)) ?_) (mem2 (kJn (mem2 jQb (mem1 kUt)) ?_) (mem2 (kYv q5 m5 (mem2 jQb (mem1 kQk)) ?_) (mem1 kYw))))))))))))))))))))<;>first | decide +kernel | simp
noncomputable def isL:PyData->Bool
 | .list _=>true
 | _=>false
theorem uJc (h:RdG G x d):isiT G x (.ty "list")=some (isL d)/\(isL d=true->∃xs ds,seqT G x=some xs/\d= .list ds/\RdGs G xs ds):=by
 cases h with
 | non=>exact⟨rfl,fun z=>(nomatch z)⟩
 | bl b=>exact⟨rfl,fun z=>(nomatch z)⟩
 | int i=>exact⟨rfl,fun z=>(nomatch z)⟩
 | str x=>exact⟨rfl,fun z=>(nomatch z)⟩
 | tup h=>exact⟨rfl,fun z=>(nomatch z)⟩
 | lst hp h=>exact⟨by simp only[isiT,jZf,hp];rfl,fun _=>⟨_,_,jJm hp,rfl,h⟩⟩
def jU3:Sp3:=jUm
noncomputable def qJt:List Str:=["_law_thing"]
noncomputable def jXr:TS3:=
 (tRet (kUp (tCB rIsi (jJa (tVar 0) (jJa (tC (.ty "int")) tNil))) (qU6 (tCB rIsi (jJa (tVar 0) (jJa (tC (.ty "bool")) tNil))))))
theorem kQn:RdOk jU3 jXr qJt:=by
 intro xs G Q h_;apply xe2 h_;clear h_;intro x d h_;apply ae2 h_;clear h_;intro h kk
 show jXr _ [some x] G
 obtain⟨p,q,h1,h2,h3⟩:=qQr h
 have:=kk G (.refl _)
 rw[<-h3] at this
 wp_walk using 1,jXr,rIsi,h1,h2
 cases p<;>exact this
def jVn:Sp3:=fun xs G Q=>∃(x:Bool),xs=[.bl x,.bl x]/\∀G',Sub G G'->Q (.bl true) G'
noncomputable def qX0:List Str:=["_law_found","_law_due"]
noncomputable def kJf:TS3:=
 (tRet (kUp (tCB rIsi (jJa (tVar 0) (jJa (tC (.ty "bool")) tNil))) (tOp rEqA (tVar 0) (tVar 1))))
theorem kXa:RdOk jVn kJf qX0:=by
 intro xs G Q h_;apply xe1 h_;clear h_;intro x kk
 show kJf _ [some (.bl x),some (.bl x)] G
 have e1:isiT G (.bl x) (.ty "bool")=some true:=rfl
 have e2:eqG G (.bl x) (.bl x)=some true:=by cases x<;>rfl
 wp_walk using 1,kJf,rIsi,rEqA,e1,e2
 exact kk G (.refl _)
theorem kZt {K:Type}[DecidableEq K]{kvs:List (K×T)}{k:K}:(valT kvs k).isSome=true↔k∈kvs.map Prod.fst:=by
 unfold valT
 rw[lX4,List.find?_isSome,lJ2]
 exact⟨fun ⟨a,h1,h2⟩=>⟨a,h1,by simpa using h2⟩,fun ⟨a,h1,h2⟩=>⟨a,h1,by simpa using h2⟩⟩
theorem qQ8 {W:Web}{d:Nat}:en W r d=(row W r)[d]? :=by
 unfold en row
 cases W[r]? with
 | none=>rfl
 | some es=>rfl
theorem dicE:Dic (fun kvs=> .dct kvs) keyE (fun e:Nat×Nat=>T.tup [.int e.1,.int e.2]):=dicT (fun _ _ h=>jXe h) (fun _=>jQk)
theorem dm {e g:Nat}(h:g<n):(e*n+g) / n=e/\(e*n+g)%n=g:=by
 rw[Nat.mul_comm]
 exact⟨by rw[Nat.mul_add_div (by omega),Nat.div_eq_of_lt h];omega,by rw[Nat.mul_add_mod,lQn h]⟩
inductive Rch (U V:Web) (a b:Nat):Nat->Nat->Prop
 | nil:Rch U V a b a b
 | step {r s d:Nat} {e g:Nat×Nat} (h:Rch U V a b r s) (he:en U r d=some e) (hg:en V s d=some g):Rch U V a b e.1 g.1
theorem qKp {V:Web}(fU:Fine U)(fV:Fine V){b:Nat}(ha:a<U.length)(hb:b<V.length)(h:Rch U V a b r s):r<U.length/\s<V.length:=by
 induction h with
 | nil=>exact⟨ha,hb⟩
 | step h he hg ih=>exact⟨fU.rng _ _ _ _ he,fV.rng _ _ _ _ hg⟩
def ltP (a b:Nat×Nat):Prop:=a.1<b.1\/(a.1=b.1/\a.2<b.2)
structure RP (U V:Web) (a b:Nat) (L:List (Nat×Nat)):Prop where
 up:L.Pairwise ltP
 mem:∀r s,(r,s)∈L↔Rch U V a b r s
noncomputable def pkk (e:Nat×Nat):List T×L2.TKey:=([.int e.1,.int e.2],keyE e)
theorem qQf (x y:Nat×Nat):L3.ltK (keyE x) (keyE y)=some (decide (x.1<y.1\/(x.1=y.1/\x.2<y.2))):=by
 unfold ltK keyE L3.lexLt
 by_cases h:x.1=y.1
 ·rw[lJb (by rw[h])]
  unfold L3.lexLt
  by_cases h2:x.2=y.2
  ·rw[lJb (by rw[h2])]
   unfold L3.lexLt
   simp[h,h2]
  ·rw[lJa (by simp only[Sum.inl.injEq];omega)]
   simp[ltS,ltI,h]
 ·rw[lJa (by simp only[Sum.inl.injEq];omega)]
  simp only[ltS,ltI,lQw,decide_eq_decide]
  omega
theorem qJ7 (e:Nat×Nat):SKey true (pkk e).1 (pkk e).2:=⟨rfl,rfl,rfl⟩
variable {L:List (Nat×Nat)}{kys:List (List T×L2.TKey)}
theorem kZz (hn:L.Nodup)(hp:kys.Perm (L.map pkk))(hs:kys.Pairwise fun x y=>L3.ltK y.2 x.2≠some true):∃M:List (Nat×Nat),kys=M.map pkk/\M.Perm L/\M.Pairwise ltP:=by
 obtain⟨M,h1,h2⟩:=jXu hp L rfl
 refine⟨M,h2,h1,?_⟩
 rw[h2,lYa] at hs
 have nd:M.Pairwise (· ≠ ·):=(h1.nodup_iff.mpr hn)
 refine (hs.and nd).imp fun {x y} h=> ?_
 obtain⟨z1,z2⟩:=h
 rw[show L3.ltK (pkk y).2 (pkk x).2=_ from qQf y x] at z1
 have z1:¬ (y.1<x.1\/(y.1=x.1/\y.2<x.2)):=fun q=>z1 (by rw[lJq q])
 unfold ltP
 have:¬ (x.1=y.1/\x.2=y.2):=fun q=>z2 (Prod.ext q.1 q.2)
 omega
theorem qKc {V:Web}{b:Nat}(hn:P.Nodup)(hm:∀r s,(r,s)∈P↔Rch U V a b r s)(hp:kys.Perm (P.map pkk))(hs:kys.Pairwise fun x y=>L3.ltK y.2 x.2≠some true):∃L,RP U V a b L/\kys.map (fun e=>T.tup e.1)=L.map encE:=by
 obtain⟨L,h1,h2,h3⟩:=kZz hn hp hs
 refine⟨L,⟨h3,fun r s=>(h2.mem_iff).trans (hm r s)⟩,?_⟩
 rw[h1,lJw];rfl
noncomputable def prk (P:List (Nat×Nat)):List (L2.TKey×T):=P.map fun e=>(keyE e,T.bl true)
theorem kV4 {V:Web}{b:Nat}{d:Addr}(hG:G d=some (.dct (prk P)))(hn:P.Nodup)(hm:∀r s,(r,s)∈P↔Rch U V a b r s)(hl:P.length<=1000000)(k:∀q L,G q=none->RP U V a b L->Q (.ref q) (gup G q (.lst (L.map encE)))):qKr [.ref d] G Q:=by
 refine⟨d,_,true,P.map pkk,rfl,hG,by rw[prk,lJw,lJw];rfl,by rw[lJe];exact hl,fun e he=> ?_,fun e he e' he'=> ?_,fun q kys hq hp hs=> ?_⟩
 ·obtain⟨x,_,rfl⟩:=lJ2.mp he
  exact qJ7 x
 ·obtain⟨x,_,rfl⟩:=lJ2.mp he
  obtain⟨y,_,rfl⟩:=lJ2.mp he'
  rw[show L3.ltK (pkk x).2 (pkk y).2=_ from qQf x y];rfl
 ·obtain⟨L,h1,h2⟩:=qKc hn hm hp hs
  rw[h2]
  exact k q L hq h1
theorem okE:OkD 40 (encE e):=(qZo (d:=0) fun x hx=>by
 (simp only[lJy,lKi,lK9] at hx)
 rcases hx with rfl | rfl<;>exact okD_int).mono (by decide)
variable {q:Addr}
theorem qXk {F:List (Nat×Nat)}(h1:G p=some (.lst (F.map encE)))(h2:G q=some (.lst [])):eqG G (.ref p) (.ref q)=some F.isEmpty:=by
 have:eqG G (.ref p) (.ref q)=if jZl (F.map encE)=true/\jZl []=true then some (eqTs (F.map encE) []) else none:=by simp only[eqG,h1,h2]
 rw[this,lJb ⟨qK5 fun x hx=>by obtain⟨e,_,rfl⟩:=lJ2.mp hx;exact okE,rfl⟩]
 cases F<;>rfl
theorem qY7 {α:Type}:∀ {l:List α},l.isEmpty=false->∃m x,l=m++[x]:=fun {l} h=>by
 rcases List.eq_nil_or_concat l with rfl | ⟨m,x,rfl⟩
 ·cases h
 ·exact⟨m,x,List.concat_eq_append ..⟩
structure FoL (U V:Web) (a b:Nat) (F S:List (Nat×Nat)):Prop where
 nd:F.Nodup
 rch:∀r s,(r,s)∈F\/(r,s)∈S->Rch U V a b r s
 st:(a,b)∈F\/(a,b)∈S
 cl:∀r s d e g,(r,s)∈F->en U r d=some e->en V s d=some g->(e.1,g.1)∈F\/(e.1,g.1)∈S
theorem uJj {V:Web}{b:Nat}{F:List (Nat×Nat)}(h:FoL U V a b F [])(r s:Nat):(r,s)∈F↔Rch U V a b r s:=by
 refine⟨fun z=>h.rch r s (.inl z),fun z=> ?_⟩
 induction z with
 | nil=>exact h.st.resolve_right lKi
 | step z he hg ih=>exact (h.cl _ _ _ _ _ ih he hg).resolve_right lKi
noncomputable def nxt (U V:Web)(x:Nat×Nat):List (Nat×Nat):=((row U x.1).zip (row V x.2)).map fun p=>(p.1.1,p.2.1)
theorem nxt_mem {V:Web}{y:Nat×Nat}:y∈nxt U V (r,s)↔∃d e g,en U r d=some e/\en V s d=some g/\y=(e.1,g.1):=by
 unfold nxt
 rw[lJ2]
 constructor
 ·rintro⟨p,hp,rfl⟩
  obtain⟨d,hd⟩:=lJ7 hp
  obtain⟨h1,h2⟩:=lX5.mp hd
  exact⟨d,p.1,p.2,by rw[qQ8];exact h1,by rw[qQ8];exact h2,rfl⟩
 ·rintro⟨d,e,g,he,hg,rfl⟩
  rw[qQ8] at he hg
  exact⟨(e,g),lJt (lX5.mpr ⟨he,hg⟩),rfl⟩
theorem FoL.skip {V:Web}{b:Nat}{F:List (Nat×Nat)}{x:Nat×Nat}(h:FoL U V a b F (S++[x]))(hx:x∈F):FoL U V a b F S:=by
 have mv:∀y,y∈F\/y∈S++[x]->y∈F\/y∈S:=fun y hy=>by
  rcases hy with z | z
  ·exact .inl z
  ·rcases (lJm.mp z) with z | z
   ·exact .inr z
   ·rw[lJn.mp z];exact .inl hx
 exact⟨h.nd,fun r s z=>h.rch r s (z.imp id fun q=>lKh _ q),mv _ h.st,fun r s d e g h1 h2 h3=>mv _ (h.cl r s d e g h1 h2 h3)⟩
theorem FoL.add {V:Web}{b:Nat}{F:List (Nat×Nat)}{x:Nat×Nat}(h:FoL U V a b F (S++[x]))(hx:x∉F):FoL U V a b (F++[x]) (S++nxt U V x):=by
 have mv:∀y,y∈F\/y∈S++[x]->y∈F++[x]\/y∈S++nxt U V x:=fun y hy=>by
  rcases hy with z | z
  ·exact .inl (lKh _ z)
  ·rcases (lJm.mp z) with z | z
   ·exact .inr (lKh _ z)
   ·exact .inl (lJ5 _ z)
 have hr:Rch U V a b x.1 x.2:=h.rch x.1 x.2 (.inr (lJ5 _ (lJn.mpr rfl)))
 refine⟨lVp.mpr ⟨h.nd,by simp,fun y hy z hz e=> ?_⟩,fun r s z=> ?_,mv _ h.st,fun r s d e g h1 h2 h3=> ?_⟩
 ·rw[lJn.mp hz] at e;rw[<-e] at hx;exact hx hy
 ·rcases z with z | z
  ·rcases (lJm.mp z) with z | z
   ·exact h.rch r s (.inl z)
   ·have:=lJn.mp z
    rw[<-this] at hr;exact hr
  ·rcases (lJm.mp z) with z | z
   ·exact h.rch r s (.inr (lKh _ z))
   ·obtain⟨d,e,g,h1,h2,h3⟩:=nxt_mem.mp z
    cases h3
    exact .step hr h1 h2
 ·rcases (lJm.mp h1) with z | z
  ·exact mv _ (h.cl r s d e g z h2 h3)
  ·have:=lJn.mp z
   subst this
   exact .inr (lJ5 _ (nxt_mem.mpr ⟨d,e,g,h2,h3,rfl⟩))
theorem FoL.few {V:Web}{b:Nat}{F:List (Nat×Nat)}(fU:Fine U)(fV:Fine V)(ha:a<U.length)(hb:b<V.length)(h:FoL U V a b F S):F.length<=U.length*V.length:=by
 have hlt:∀x,x∈F->x.1<U.length/\x.2<V.length:=fun x hx=>qKp fU fV ha hb (h.rch x.1 x.2 (.inl hx))
 have n1:(F.map fun x=>x.1*V.length+x.2).Nodup:=by
  refine List.Pairwise.map _ (S:=(· ≠ ·)) (R:=fun x y=>x≠y/\x.2<V.length/\y.2<V.length) (fun x y q e=>q.1 ?_) ?_
  ·obtain⟨d1,d2⟩:=dm (e:=x.1) q.2.1
   obtain⟨d3,d4⟩:=dm (e:=y.1) q.2.2
   rw[e] at d1 d2
   exact Prod.ext (d1.symm.trans d3) (d2.symm.trans d4)
  ·exact h.nd.imp_of_mem fun hx hy z=>⟨z,(hlt _ hx).2,(hlt _ hy).2⟩
 have:=jYg n1 (n:=U.length*V.length) fun y hy=>by
  obtain⟨x,hx,rfl⟩:=lJ2.mp hy
  obtain⟨l1,l2⟩:=hlt x hx
  calc x.1*V.length+x.2<x.1*V.length+V.length:=by omega
   _=(x.1+1)*V.length:=by rw[Nat.add_mul,Nat.one_mul]
   _<=U.length*V.length:=lXu _ l1
 simpa using this
noncomputable def jQl:Sp3:=fun xs G Q=>∃(U V:Web) (a b:Nat),xs=[encW U,.int a,encW V,.int b]/\Fine U/\Fine V/\a<U.length/\b<V.length/\U.length*V.length<=5000/\∀q L G',G q=none->G' q=some (.lst (L.map encE))->RP U V a b L->Sub G G'->Q (.ref q) G'
noncomputable def kKq:List Str:=["_law_one","_law_a","_law_other","_law_b","_law_found","_law_left","_law_pair","_law_end","_law_beside"]
noncomputable def jUf:TS3:=
 (tSeq (tAsg jQ1 (jJg 4))
 (tSeq (tAsg (tLst (jJa (tTup (jJa (tVar 1) (jJa (tVar 3) tNil))) tNil)) (jJg 5))
 (tSeq (kUo (jJ1 (tOp rNeA (tVar 5) (tLst tNil))) (tSeq (tAsg (tBM0 "list" qZj (tVar 5)) (jJg 6))
 (tIfS (jJ1 (tOp jQo (tVar 6) (tVar 4))) (tSeq (tAsg (tC (.bl true)) (gSub (tVar 4) (tVar 6) jUu))
 (jUi (tBM "list" kQv (tVar 5) (jJa (jKp [false,false,false,false,false,false,false,true,true] (iZip (jJa (tOp rIxF (tVar 0) (tOp rIxF (tVar 6) (tC (.int 0)))) (jJa (tOp rIxF (tVar 2) (tOp rIxF (tVar 6) (tC (.int 1)))) tNil))) (gTup 2 (jJx (jJg 7) (jJx (jJg 8) gNil))) jK2 (tTup (jJa (tOp rIxF (tVar 7) (tC (.int 0))) (jJa (tOp rIxF (tVar 8) (tC (.int 0))) tNil)))) tNil)))) jKl)))
 (tRet (tCB qKr (jJa (tVar 4) tNil))))))
theorem jYv:RdOk jQl jUf kKq:=by
 intro xs G Q h_;apply xe4 h_;clear h_;intro U V a b h_;apply ae6 h_;clear h_;intro fU fV ha hb huv kk
 show jUf _ [some (encW U),some (.int a),some (encW V),some (.int b),none,none,none,none,none] G
 have hs:=sz
 wp_walk using 1,jUf,kUo,jQ1,rNeA
 refine .inl fun d hd=>⟨by omega,by omega,fun p hp=> ?_⟩
 have hdp:d≠p:=jJe jJh hp
 have hp0:G p=none:=by rw[jJs hdp.symm] at hp;exact hp
 let J1:Nat->St3->Gp->Prop:=fun m τ G'=>∃(v6 v7 v8:Option T) (F S:List (Nat×Nat)),τ=[some (encW U),some (.int a),some (encW V),some (.int b),some (.ref d),some (.ref p),v6,v7,v8]/\G' d=some (.dct (prk F))/\G' p=some (.lst (S.map encE))/\FoL U V a b F S/\S.length<=1+1000*F.length/\Sub G G'/\m=(U.length*V.length-F.length)*1001+S.length
 refine⟨J1,?_,?_⟩
 ·refine⟨_,xi5 none none none [] [(a,b)] rfl ⟨by rw[jJs hdp,jJh];rfl,jJh,⟨.nil,fun r s z=> ?_,.inr (by simp),fun r s d e g h=>absurd h lKi⟩,by simp,(Sub.new hd).trans (.new hp),rfl⟩⟩
  rcases z with z | z
  ·exact absurd z lKi
  ·cases lJn.mp z;exact .nil
 intro m τ G1 h_;apply xe5 h_;clear h_;intro v6 v7 v8 F S h_;apply ae6 h_;clear h_;intro h1 h2 hF hS s1 e5_
 subst e5_
 have hfew:=hF.few fU fV ha hb
 wp_walk using 1,tSeq
 refine⟨by omega,fun pe hpe=> ?_⟩
 have hpp:p≠pe:=jJe h2 hpe
 have hdpe:d≠pe:=jJe h1 hpe
 have h2':gup G1 pe (.lst []) p=some (.lst (S.map encE)):=by rw[jJs hpp];exact h2
 have h1':gup G1 pe (.lst []) d=some (.dct (prk F)):=by rw[jJs hdpe];exact h1
 refine⟨_,qXk h2' jJh,?_⟩
 have s1':Sub G (gup G1 pe (.lst [])):=s1.trans (.new hpe)
 generalize gup G1 pe (.lst [])=G2 at h1' h2' s1' ⊢
 split
 ·rename_i hne
  obtain⟨S,x,rfl⟩:=qY7 hne
  rw[lKw] at h2'
  have hxR:=hF.rch x.1 x.2 (.inr (lJ5 _ (lJn.mpr rfl)))
  obtain⟨hx1,hx2⟩:=qKp fU fV ha hb hxR
  obtain⟨es,hU⟩:∃es,U[x.1]? =some es:=⟨_,lJi hx1⟩
  obtain⟨fs,hV⟩:∃fs,V[x.2]? =some fs:=⟨_,lJi hx2⟩
  have hul:=fU.row _ _ hU
  rw[lJv] at hS
  refine⟨fun τ' G'=>∃m',m'<(U.length*V.length-F.length)*1001+(S++[x]).length/\J1 m' τ' G',fun _ _ h=>h,?_⟩
  wp_walk using 1,tBM0,qZj,jQo,iZip,encW
  refine⟨by rw[jK1 h2'];trivial,S.map encE,encE x,h2',?_⟩
  have h1p:gup G2 p (.lst (S.map encE)) d=some (.dct (prk F)):=by rw[jJs hdp];exact h1'
  have hin:=dicE.has (gup G2 p (.lst (S.map encE))) d _ x h1p
  have hmem:(valT (prk F) (keyE x)).isSome=true↔x∈F:=by
   rw[kZt,prk,lJw,lJ2]
   exact⟨fun ⟨y,hy,e⟩=>by rw[<-jXe e];exact hy,fun h=>⟨x,h,rfl⟩⟩
  refine⟨_,hin,?_⟩
  by_cases hm:x∈F
  ·rw[lJa (by rw[hmem.mpr hm];decide)]
   refine⟨_,?_,xi5 _ _ _ F S rfl ⟨h1p,jJh,hF.skip hm,by omega,s1'.over hp0,rfl⟩⟩
   rw[lJv];simp
  ·have hnn:valT (prk F) (keyE x)=none:=by
    cases hv:valT (prk F) (keyE x) with
    | none=>rfl
    | some t=>exact absurd (hmem.mp (by rw[hv];rfl)) hm
   have hkl:(prk F).length=F.length:=lJe _
   rw[lJb (by rw[hnn];rfl)]
   refine⟨_,dicE.put _ d _ x _ h1p (by omega),?_⟩
   have g1:gup (gup G2 p (.lst (S.map encE))) d (.dct (putT (prk F) (keyE x) (.bl true))) d=some (.dct (prk (F++[x]))):=by
    rw[jJh,kUx hnn,prk,prk,lKw];rfl
   have g2:gup (gup G2 p (.lst (S.map encE))) d (.dct (putT (prk F) (keyE x) (.bl true))) p=some (.lst (S.map encE)):=by
    rw[jJs hdp.symm,jJh]
   have s2:Sub G (gup (gup G2 p (.lst (S.map encE))) d (.dct (putT (prk F) (keyE x) (.bl true)))):=(s1'.over hp0).over hd
   generalize gup (gup G2 p (.lst (S.map encE))) d (.dct (putT (prk F) (keyE x) (.bl true)))=G3 at g1 g2 s2 ⊢
   refine⟨by rw[jK1 g2];trivial,_,rfl,_,jUh hU,_,rfl,_,jUh hV,es.map encE,rfl,fs.map encE,rfl,?_⟩
   rw[show zipT (es.map encE) (fs.map encE)=(es.zip fs).map fun q=>T.tup [encE q.1,encE q.2] by
    unfold zipT;rw[List.zip_map,lJw];rfl]
   refine jKm (fun q=>encE (q.1.1,q.2.1)) (by simp;omega) (fun _ _=>trivial) ?_ ?_
   ·intro i e he G' K K0 s hk
    wp_walk using 1,encE
    exact⟨by omega,hk G' (.refl _)⟩
   ·intro D G4 hD h4 s4
    have hDp:p≠D:=jJe g2 hD
    have hDd:d≠D:=jJe g1 hD
    have hzl:(es.zip fs).length<=1000:=by rw[List.length_zip];omega
    have nx:(es.zip fs).map (fun q=>encE (q.1.1,q.2.1))=(nxt U V x).map encE:=by
     unfold nxt;rw[jX6 hU,jX6 hV,lJw];rfl
    rw[nx] at h4
    have nl:(nxt U V x).length<=1000:=by unfold nxt;rw[jX6 hU,jX6 hV,lJe];exact hzl
    have hlt:F.length<U.length*V.length:=by
     have:=(hF.add hm).few fU fV ha hb
     rw[lJv] at this
     exact this
    have hS1:S.length+1<=1+1000*F.length:=hS
    refine⟨p,D,_,_,rfl,rfl,s4 _ _ g2,h4,by rw[lJe,lJe,hs];omega,?_⟩
    refine⟨_,?_,xi5 _ _ _ (F++[x]) (S++nxt U V x) rfl ⟨by rw[jJs hdp];exact s4 _ _ g1,by rw[jJh,lKw],hF.add hm,?_,(s2.trans s4).over hp0,rfl⟩⟩
    ·rw[lJv,lJv,lJv]
     simp only[lX3]
     omega
    ·rw[lJv,lJv]
     simp only[lX3]
     omega
 ·rename_i hne
  have:S=[]:=by cases S with | nil=>rfl | cons _ _=>exact absurd rfl hne
  subst this
  refine kV4 h1' hF.nd (uJj hF) (by omega) fun q L hq hL=> ?_
  exact kk q L _ (jQ8 s1' hq) jJh hL (s1'.trans (.new hq))
theorem qZz {x:Nat×Nat}:¬ ltP x x:=fun h=>by unfold ltP at h;omega
theorem rp_fol {V:Web}{b:Nat}(h:RP U V a b L):FoL U V a b L [] where
 nd:=List.Pairwise.imp (fun {x y} (q:ltP x y)=>show x≠y from fun e=>by subst e;exact qZz q) h.up
 rch:=fun r s z=>(h.mem r s).mp (z.resolve_right lKi)
 st:= .inl ((h.mem a b).mpr .nil)
 cl:=fun r s d e g hr he hg=> .inl ((h.mem _ _).mpr (.step ((h.mem r s).mp hr) he hg))
theorem rp_few {V:Web}{b:Nat}(h:RP U V a b L)(wU:W1 U)(wV:W1 V)(ha:a<U.length)(hb:b<V.length):1<=L.length/\L.length<=576/\∀p,p∈L->p.1<U.length/\p.2<V.length:=by
 refine⟨List.length_pos_of_mem ((h.mem a b).mpr .nil),lKb ((rp_fol h).few wU.1 wV.1 ha hb) (lVx wU.2.2 wV.2.2),fun p hp=>qKp wU.1 wV.1 ha hb ((h.mem p.1 p.2).mp hp)⟩
theorem kYk (h:numD d=false):jX7 n d=false:=by
 cases d<;>first | rfl | cases h
theorem qUw {α:Type}{f:α->Bool}:∀ {l:List α} {x:α},x∈l->f x=false->l.all f=false
 | l,x,h,e=>by
  rw[List.all_eq_false];exact⟨x,h,by rw[e];decide⟩
theorem qYw {fs:List (Nat×Nat)}(h:es.length=fs.length):(es.zip fs).all (fun eg=>decide (eg.1.2=eg.2.2))=decide (es.map Prod.snd=fs.map Prod.snd):=by
 induction es generalizing fs with
 | nil=>cases fs with
  | nil=>rfl
  | cons g fs=>cases h
 | cons e es ih=>cases fs with
  | nil=>cases h
  | cons g fs=>
   rw[lV8,lKv,ih (by simpa using h),lJ6,lJ6]
   by_cases h1:e.2=g.2
   ·rw[lJq h1,lQo]
    by_cases h2:es.map Prod.snd=fs.map Prod.snd
    ·rw[lJq h2,lJq (by rw[h1,h2])]
    ·rw[lJk h2,lJk (by intro z;exact h2 (List.cons.inj z).2)]
   ·rw[lJk h1,lV3,lJk (by intro z;exact h1 (List.cons.inj z).1)]
theorem qUx {α:Type} {f g:α->Bool}:∀l:List α,(l.all fun x=>f x&&g x)=(l.all f&&l.all g)
 | []=>rfl
 | a::l=>by rw[lKv,lKv,lKv,qUx l];cases f a<;>cases g a<;>simp
theorem kY7 {V:Web}{p:Nat×Nat}:jXi U V S p=(decide ((row U p.1).map Prod.snd=(row V p.2).map Prod.snd)&&((row U p.1).zip (row V p.2)).all fun eg=>S.contains (eg.1.1,eg.2.1)):=by
 unfold jXi
 by_cases h:(row U p.1).length=(row V p.2).length
 ·rw[lJq h,lQo,qUx,qYw h]
 ·rw[lJk h,lV3,lJk,lV3]
  intro z
  have:=lKa List.length z
  simp at this
  exact h this
theorem numsD (h:seqD d=some ds)(e:ds.all numD=false):jUa n m d=false:=by
 unfold jUa
 rw[h]
 match ds,e with
 | [],_=>rfl
 | [_],_=>rfl
 | [x,y],e=>
  show (jX7 n x&&jX7 m y)=false
  cases hx:numD x with
  | false=>rw[kYk hx];rfl
  | true=>
   cases hy:numD y with
   | false=>rw[kYk hy,Bool.and_false]
   | true=>rw[lKv,lKv,hx,hy] at e;cases e
 | _::_::_::_,_=>rfl
noncomputable def jKx:Sp3:=fun xs G Q=>∃(U V:Web) (a b:Nat) (x:T) (d:PyData),xs=[encW U,.int (a:Nat),encW V,.int (b:Nat),x]/\Fine U/\Fine V/\RdG G x d/\(∀ds,seqD d=some ds->ds.length<=5000)/\∀G',Sub G G'->Q (.bl (shB U V a b d)) G'
noncomputable def jV6:List Str:=["_law_one","_law_a","_law_other","_law_b","_law_thing","_law_some","_law_pair","_law_left","_law_right","_law_end","_law_beside","_law_room","_law_door"]
noncomputable def jVd:TS3:=
 (tSeq (tIfS (tNot (jJ1 (tCB rIsi (jJa (tVar 4) (jJa (tTup (jJa (tC (.ty "list")) (jJa (tC (.ty "tuple")) tNil))) tNil))))) (tRet (tC (.bl false))) jKl)
 (tSeq (tAsg jQ1 (jJg 5))
 (tSeq (tFor (iSeq (tVar 4)) (jJg 6) (tSeq (tIfS (tOr (tNot (jJ1 (tCB rIsi (jJa (tVar 6) (jJa (tTup (jJa (tC (.ty "list")) (jJa (tC (.ty "tuple")) tNil))) tNil))))) (tOr (jJ1 (tOp rNeA (tCB rLen (jJa (tVar 6) tNil)) (tC (.int 2)))) (tNot (jJ1 (tCB rAll (jJa (jKp [false,false,false,false,false,false,false,false,false,false,false,true,false] (iSeq (tVar 6)) (jJg 11) jK2 (jJo jU3 (jJa (tVar 11) tNil))) tNil)))))) (tRet (tC (.bl false))) jKl)
 (tSeq (tIfS (tOr (tNot (jJ1 (jXz rLeF rLt (tC (.int 0)) (tOp rIxF (tVar 6) (tC (.int 0))) (tCB rLen (jJa (tVar 0) tNil))))) (tNot (jJ1 (jXz rLeF rLt (tC (.int 0)) (tOp rIxF (tVar 6) (tC (.int 1))) (tCB rLen (jJa (tVar 2) tNil)))))) (tRet (tC (.bl false))) jKl)
 (tAsg (tC (.bl true)) (gSub (tVar 5) (tTup (jJa (tOp rIxF (tVar 6) (tC (.int 0))) (jJa (tOp rIxF (tVar 6) (tC (.int 1))) tNil))) jUu)))))
 (tSeq (tFor (iSeq (tCB kYo (jJa (tVar 5) tNil))) (gTup 2 (jJx (jJg 7) (jJx (jJg 8) gNil))) (tSeq (tIfS (jJ1 (tOp rNeA (jKp [false,false,false,false,false,false,false,false,false,false,false,true,true] (iSeq (tOp rIxF (tVar 0) (tVar 7))) (gTup 2 (jJx (jJg 11) (jJx (jJg 12) gNil))) jK2 (tVar 12)) (jKp [false,false,false,false,false,false,false,false,false,false,false,true,true] (iSeq (tOp rIxF (tVar 2) (tVar 8))) (gTup 2 (jJx (jJg 11) (jJx (jJg 12) gNil))) jK2 (tVar 12)))) (tRet (tC (.bl false))) jKl)
 (tFor (iZip (jJa (tOp rIxF (tVar 0) (tVar 7)) (jJa (tOp rIxF (tVar 2) (tVar 8)) tNil))) (gTup 2 (jJx (jJg 9) (jJx (jJg 10) gNil))) (tIfS (jJ1 (tOp jQo (tTup (jJa (tOp rIxF (tVar 9) (tC (.int 0))) (jJa (tOp rIxF (tVar 10) (tC (.int 0))) tNil))) (tVar 5))) (tRet (tC (.bl false))) jKl))))
 (tRet (tOp kQu (tTup (jJa (tVar 1) (jJa (tVar 3) tNil))) (tVar 5)))))))
noncomputable def qKi:TS3:=(tSeq (tFor (iSeq (tCB kYo (jJa (tVar 5) tNil))) (gTup 2 (jJx (jJg 7) (jJx (jJg 8) gNil))) (tSeq (tIfS (jJ1 (tOp rNeA (jKp [false,false,false,false,false,false,false,false,false,false,false,true,true] (iSeq (tOp rIxF (tVar 0) (tVar 7))) (gTup 2 (jJx (jJg 11) (jJx (jJg 12) gNil))) jK2 (tVar 12)) (jKp [false,false,false,false,false,false,false,false,false,false,false,true,true] (iSeq (tOp rIxF (tVar 2) (tVar 8))) (gTup 2 (jJx (jJg 11) (jJx (jJg 12) gNil))) jK2 (tVar 12)))) (tRet (tC (.bl false))) jKl)
 (tFor (iZip (jJa (tOp rIxF (tVar 0) (tVar 7)) (jJa (tOp rIxF (tVar 2) (tVar 8)) tNil))) (gTup 2 (jJx (jJg 9) (jJx (jJg 10) gNil))) (tIfS (jJ1 (tOp jQo (tTup (jJa (tOp rIxF (tVar 9) (tC (.int 0))) (jJa (tOp rIxF (tVar 10) (tC (.int 0))) tNil))) (tVar 5))) (tRet (tC (.bl false))) jKl))))
 (tRet (tOp kQu (tTup (jJa (tVar 1) (jJa (tVar 3) tNil))) (tVar 5))))
theorem qVi:jVd=tSeq (tIfS (tNot (jJ1 (tCB rIsi (jJa (tVar 4) (jJa (tTup (jJa (tC (.ty "list")) (jJa (tC (.ty "tuple")) tNil))) tNil))))) (tRet (tC (.bl false))) jKl) (tSeq (tAsg jQ1 (jJg 5)) (tSeq (tFor (iSeq (tVar 4)) (jJg 6) (tSeq (tIfS (tOr (tNot (jJ1 (tCB rIsi (jJa (tVar 6) (jJa (tTup (jJa (tC (.ty "list")) (jJa (tC (.ty "tuple")) tNil))) tNil))))) (tOr (jJ1 (tOp rNeA (tCB rLen (jJa (tVar 6) tNil)) (tC (.int 2)))) (tNot (jJ1 (tCB rAll (jJa (jKp [false,false,false,false,false,false,false,false,false,false,false,true,false] (iSeq (tVar 6)) (jJg 11) jK2 (jJo jU3 (jJa (tVar 11) tNil))) tNil)))))) (tRet (tC (.bl false))) jKl)
 (tSeq (tIfS (tOr (tNot (jJ1 (jXz rLeF rLt (tC (.int 0)) (tOp rIxF (tVar 6) (tC (.int 0))) (tCB rLen (jJa (tVar 0) tNil))))) (tNot (jJ1 (jXz rLeF rLt (tC (.int 0)) (tOp rIxF (tVar 6) (tC (.int 1))) (tCB rLen (jJa (tVar 2) tNil)))))) (tRet (tC (.bl false))) jKl)
 (tAsg (tC (.bl true)) (gSub (tVar 5) (tTup (jJa (tOp rIxF (tVar 6) (tC (.int 0))) (jJa (tOp rIxF (tVar 6) (tC (.int 1))) tNil))) jUu))))) qKi)):=rfl
theorem kZg:∀ {a b:List Nat},eqTs (jJq a) (jJq b)=decide (a=b)
 | [],[]=>rfl
 | [],_::_=>by simp[jJq,eqTs]
 | _::_,[]=>by simp[jJq,eqTs]
 | x::a,y::b=>by
  show (eqT (.int x) (.int y)&&eqTs (jJq a) (jJq b))=_
  rw[kZg]
  have:eqT (.int (x:Nat)) (.int (y:Nat))=decide (x=y):=by
   by_cases h:x=y
   ·subst h;simp[eqT]
   ·have h2:¬ (x:Int)=y:=by omega
    rw[lJk h];simpa[eqT] using h2
  rw[this];simp
theorem eqG_ns {a c:List Nat}(h1:G p=some (.lst (jJq a)))(h2:G q=some (.lst (jJq c))):eqG G (.ref p) (.ref q)=some (decide (a=c)):=by
 have ok:∀F:List Nat,jZl (jJq F)=true:=fun F=>qK5 fun x hx=>by
  obtain⟨e,_,rfl⟩:=lJ2.mp hx;exact okD_int.mono (by decide)
 have:eqG G (.ref p) (.ref q)=if jZl (jJq a)=true/\jZl (jJq c)=true then some (eqTs (jJq a) (jJq c)) else none:=by simp only[eqG,h1,h2]
 rw[this,lJb ⟨ok a,ok c⟩]
 congr 1
 exact kZg
theorem sp3_ok {V:Web}{b:Nat}{x:T}{k:Addr}{Ps:List (Nat×Nat)}{v6 v7 v8 v9 v10 v11 v12:Option T}(fU:Fine U)(fV:Fine V)(hk:G k=some (.dct kvs))(kn:KnD kvs S)(q1:kvs.map Prod.fst=Ps.map keyE)(q2:∀q,q∈Ps↔q∈S)(hlt:∀q,q∈S->q.1<U.length/\q.2<V.length)(hl:kvs.length<=5000)(kk:∀G',Sub G G'->Q (.bl (S.all (jXi U V S)&&S.contains (a,b))) G'):
  qKi {nx:=fun _ G'=>Q .non G',rt:=Q} [some (.tup (U.map encR)),some (.int (a:Nat)),some (.tup (V.map encR)),some (.int (b:Nat)),some x,some (.ref k),v6,v7,v8,v9,v10,v11,v12] G:=by
 have hs:=sz
 wp_walk using 1,qKi,jJ2,iSeq,kYo
 have hPk:Ps.length=kvs.length:=by have:=lKa List.length q1;simpa using this.symm
 refine⟨kvs,hk,Ps.map pkk,by rw[lJw,show (fun x:L2.TKey×T=>x.fst)=Prod.fst from rfl,q1];rfl,by rw[lJe];omega,fun e he=> ?_,fun q hq=> ?_⟩
 ·obtain⟨p,_,rfl⟩:=lJ2.mp he
  exact jQk
 have hPS:Ps.all (jXi U V S)=S.all (jXi U V S):=by
  (rw[Bool.eq_iff_iff,lQc,lQc])
  exact⟨fun z q hq=>z q ((q2 q).mpr hq),fun z q hq=>z q ((q2 q).mp hq)⟩
 have hkq:k≠q:=jJe hk hq
 have e1:(Ps.map pkk).map (fun e=>T.tup e.1)=Ps.map encE:=by rw[lJw];rfl
 rw[e1]
 have gq:gup G q (.lst (Ps.map encE)) q=some (.lst (Ps.map encE)):=jJh
 have gk:gup G q (.lst (Ps.map encE)) k=some (.dct kvs):=by rw[jJs hkq];exact hk
 have s1:Sub G (gup G q (.lst (Ps.map encE))):= .new hq
 generalize gup G q (.lst (Ps.map encE))=G1 at gq gk s1 ⊢
 let J:Nat->St3->Gp->Prop:=fun i τ G'=>∃(v7 v8 v9 v10 v11 v12:Option T),τ=[some (.tup (U.map encR)),some (.int (a:Nat)),some (.tup (V.map encR)),some (.int (b:Nat)),some x,some (.ref k),v6,v7,v8,v9,v10,v11,v12]/\(Ps.take i).all (jXi U V S)=true/\Sub G1 G'
 refine⟨J,⟨_,_,_,_,_,_,rfl,rfl,.refl _⟩,?_,?_,?_⟩
 ·intro i τ G' hi h_;apply xe6 h_;clear h_;intro v7 v8 v9 v10 v11 v12 h_;apply ae2 h_;clear h_;intro j1 j2
  exact jJm (j2 _ _ gq)
 ·intro i y τ G2 hy h_;apply xe6 h_;clear h_;intro v7 v8 v9 v10 v11 v12 h_;apply ae2 h_;clear h_;intro j1 j2
  obtain⟨p,hp,rfl⟩:=jKz hy
  have hpm:=lJt hp
  obtain⟨l1,l2⟩:=hlt p ((q2 p).mp hpm)
  have w1:U[p.1]? =some (row U p.1):=by unfold row;rw[lJi l1];rfl
  have w2:V[p.2]? =some (row V p.2):=by unfold row;rw[lJi l2];rfl
  have rl1:=fU.row _ _ w1
  have rl2:=fV.row _ _ w2
  have hst:=kUj (f:=jXi U V S) hp
  rw[j1,lQo,kY7] at hst
  have bad:jXi U V S p=false->∀G',Sub G2 G'->Q (.bl false) G':=fun e G' s=>by
   have:=kk G' ((s1.trans j2).trans s)
   rw[<-hPS,qUw hpm e,lV3] at this
   exact this
  rw[kY7] at bad
  wp_walk using 1,encE,rNeA,jUh w1,jUh w2,encR,iZip,iSeq,jJ2
  generalize row U p.1=es at w1 rl1 hst bad ⊢
  generalize row V p.2=fs at w2 rl2 hst bad ⊢
  refine jKm (es:=es) (enc:=encE) (fun e=>T.int (e.2:Nat)) (by omega) (fun _ _=>trivial) ?_ ?_
  ·intro j e he G3 K K0 s3 hK
   wp_walk using 1,encE
   exact hK G3 (.refl _)
  intro D1 G3 hD1 d1 s3
  wp_walk using 1,tSeq
  refine jKm (es:=fs) (enc:=encE) (fun e=>T.int (e.2:Nat)) (by omega) (fun _ _=>trivial) ?_ ?_
  ·intro j e he G4 K K0 s4 hK
   wp_walk using 1,encE
   exact hK G4 (.refl _)
  intro D2 G4 hD2 d2 s4
  have d1':G4 D1=some (.lst (jJq (es.map Prod.snd))):=by rw[s4 _ _ d1,jJq,lJw];rfl
  have d2':G4 D2=some (.lst (jJq (fs.map Prod.snd))):=by rw[d2,jJq,lJw];rfl
  refine⟨_,eqG_ns d1' d2',?_⟩
  by_cases c1:es.map Prod.snd=fs.map Prod.snd
  rotate_left
  ·rw[lJb (by simpa using c1)]
   exact bad (by rw[lJk c1,lV3]) G4 (s3.trans s4)
  rw[lJa (by simpa using c1)]
  rw[lJq c1,lQo] at hst bad
  rw[zipE]
  let J2:Nat->St3->Gp->Prop:=fun j τ G'=>∃(v9 v10:Option T),τ=[some (.tup (U.map encR)),some (.int (a:Nat)),some (.tup (V.map encR)),some (.int (b:Nat)),some x,some (.ref k),v6,some (.int (p.1:Nat)),some (.int (p.2:Nat)),v9,v10,v11,v12]/\((es.zip fs).take j).all (fun eg=>S.contains (eg.1.1,eg.2.1))=true/\G'=G4
  refine⟨J2,⟨_,_,rfl,rfl,rfl⟩,?_,?_,?_⟩
  ·intros;trivial
  ·intro j y τ G5 hy h_;apply xe2 h_;clear h_;intro v9 v10 h_;apply ae2 h_;clear h_;intro i1 e1_
   subst e1_
   obtain⟨eg,heg,rfl⟩:=jKz hy
   have hst2:=kUj (f:=fun eg:(Nat×Nat)×(Nat×Nat)=>S.contains (eg.1.1,eg.2.1)) heg
   rw[i1,lQo] at hst2
   wp_walk using 1,encE,jQo,qV5 (.inl ((j2.trans (s3.trans s4)) _ _ gk)) kn
   refine⟨by omega,?_⟩
   cases c2:S.contains (eg.1.1,eg.2.1) with
   | true=>rw[lJa (by decide)];exact⟨_,_,rfl,by rw[hst2,c2],rfl⟩
   | false=>
    rw[lJb rfl]
    exact bad (kZr (hst2.trans c2)) G5 (s3.trans s4)
  ·intro τ G5 h_;apply xe2 h_;clear h_;intro v9 v10 h_;apply ae2 h_;clear h_;intro i1 e1_
   subst e1_
   rw[lJe,lQl] at i1
   exact⟨_,_,_,_,_,_,rfl,by rw[hst,i1],j2.trans (s3.trans s4)⟩
 ·intro τ G2 h_;apply xe6 h_;clear h_;intro v7 v8 v9 v10 v11 v12 h_;apply ae2 h_;clear h_;intro j1 j2
  rw[lJe,lQl,hPS] at j1
  wp_walk using 1,kQu,qV5 (.inl (j2 _ _ gk)) kn
  have:=kk G2 (s1.trans j2)
  rw[j1,lQo] at this
  exact⟨by omega,this⟩
theorem jYb:RdOk jKx jVd jV6:=by
 intro xs G Q h_;apply xe6 h_;clear h_;intro U V a b x d h_;apply ae5 h_;clear h_;intro fU fV h hl kk
 rw[show jVl jV6 [encW U,.int (a:Nat),encW V,.int (b:Nat),x]=[some (.tup (U.map encR)),some (.int (a:Nat)),some (.tup (V.map encR)),some (.int (b:Nat)),some x,none,none,none,none,none,none,none,none] from rfl,qVi]
 have hs:=sz
 obtain⟨_,i1,i2⟩:=jY5 h
 wp_walk using 1,rIsi,i1,iSeq,jJ2,jQ1
 refine⟨by omega,?_⟩
 cases e:seqD d with
 | none=>
  rw[lJb (by simp)]
  have:=kk G (.refl _)
  rw[kQh (kYr e)] at this
  exact this
 | some ds=>
  rw[lJa (by simp)]
  have hdl:=hl ds e
  obtain⟨xs,hx,hr⟩:=i2 ds e
  obtain⟨ps,h1,h2,h3⟩:=kQt hr
  have hpl:ps.length<=5000:=by rw[h2,lJe] at hdl;exact hdl
  rw[h1] at hx
  refine .inl fun k hk=> ?_
  refine⟨_,jQn hx (.new hk),?_⟩
  let J1:Nat->St3->Gp->Prop:=fun i τ G'=>∃(v6 v11:Option T) (kvs:List (L2.TKey×T)),τ=[some (.tup (U.map encR)),some (.int (a:Nat)),some (.tup (V.map encR)),some (.int (b:Nat)),some x,some (.ref k),v6,none,none,none,none,v11,none]/\G' k=some (.dct kvs)/\(∀p,p∈ps.take i->jUa U.length V.length p.2=true)/\KnD kvs ((ps.take i).map fun p=>toP p.2)/\kvs.length<=i/\(∃Ps:List (Nat×Nat),kvs.map Prod.fst=Ps.map keyE/\∀q,q∈Ps↔q∈(ps.take i).map fun p=>toP p.2)/\Sub G G'
  refine⟨J1,?_,?_,?_,?_⟩
  ·exact⟨none,none,[],rfl,jJh,(fun p hp=>nomatch hp),fun q=>by simp[valT],lJj _,⟨[],rfl,fun q=>by simp⟩,.new hk⟩
  ·intro i τ G' hi h_;apply xe3 h_;clear h_;intro v6 v11 kvs h_;apply ae6 h_;clear h_;intro j1 j0 j2 j3 j4 j5
   exact jQn hx j5
  ·intro i z τ G2 hz h_;apply xe3 h_;clear h_;intro v6 v11 kvs h_;apply ae6 h_;clear h_;intro j1 j0 j2 j3 j4 j5
   obtain⟨p,hp,rfl⟩:=jKz hz
   have hpm:=lJt hp
   have rd:=jKs j5 (h3 p hpm)
   have bad:jUa U.length V.length p.2=false->∀G',Sub G2 G'->Q (.bl false) G':=fun eb G' s=>by
    have:=kk G' (j5.trans s)
    rw[kQh (qKx e (by rw[h2,List.all_map];exact qUw hpm eb))] at this
    exact this
   obtain⟨_,p1,p2⟩:=jY5 rd
   wp_walk using 1,rIsi,p1
   refine⟨by omega,?_⟩
   cases ep:seqD p.2 with
   | none=>
    rw[lJb (by simp)]
    exact bad (kUz ep) G2 (.refl _)
   | some zs=>
    rw[lJa (by simp)]
    obtain⟨ys,hy,hry⟩:=p2 zs ep
    have hlen:=jZw hry
    refine⟨ys,hy,?_⟩
    wp_walk using 1,rNeA
    refine⟨decide (ys.length=2),jQ4 (c:=2),?_⟩
    by_cases c:ys.length=2
    rotate_left
    ·rw[lJk c,lJb rfl]
     exact bad (kYu ep (by omega)) G2 (.refl _)
    rw[lJq c,lJa (by decide)]
    obtain⟨u,v,rfl⟩:∃u v,ys=[u,v]:=by
     match ys,c with
     | [u,v],_=>exact⟨u,v,rfl⟩
    cases hry with
    | @cons _ du _ _ hu t=>
    cases t with
    | @cons _ dv _ _ hv t=>
    cases t
    wp_walk using 1,iSeq
    refine⟨_,hy,?_⟩
    refine jKm (es:=[(u,du),(v,dv)]) (enc:=(·.1)) (fun q=>T.bl (numD q.2)) (by simp;omega) (fun G' s=>jQn hy s) ?_ ?_
    ·intro j q hq G3 K K0 s3 hK
     wp_walk using 1,tSeq
     refine⟨q.1,q.2,rfl,jKs s3 ?_,fun G4 s4=>hK G4 s4⟩
     rcases lJy.mp (lJt hq) with rfl | hq
     ·exact hu
     ·rw[lJn.mp hq];exact hv
    intro D G3 hD d3 s3
    wp_walk using 1,tSeq
    refine⟨D,_,_,rfl,d3,jV5 (f:=fun q:T×PyData=>numD q.2),_,rfl,?_⟩
    have hnum:([(u,du),(v,dv)].all fun q:T×PyData=>numD q.2)=[du,dv].all numD:=rfl
    rw[hnum]
    cases cn:[du,dv].all numD with
    | false=>
     rw[lJb rfl]
     exact bad (numsD ep cn) G3 s3
    | true=>
     rw[lJa (by decide)]
     rw[lKv,lKv,lKu,lKu] at cn
     obtain⟨i',rfl,rfl⟩:=qQb hu cn.1
     obtain⟨j',rfl,rfl⟩:=qQb hv cn.2.1
     have pe:jUa U.length V.length p.2=(jX7 U.length (.int i')&&jX7 V.length (.int j')):=kYt ep
     have x0:∀ {G':Gp},Sub G2 G'->ixR G' p.1 (.int 0)=some (.int i'):=fun {G'} s=>kYi (jKs s rd) (jQn hy s) (i:=0) rfl
     have x1:∀ {G':Gp},Sub G2 G'->ixR G' p.1 (.int 1)=some (.int j'):=fun {G'} s=>kYi (jKs s rd) (jQn hy s) (i:=1) rfl
     wp_walk using 1,jXz,rLeF,x0 s3,x1 s3
     have rD:∀(n:Nat) (z:Int),jX7 n (.int z)=(decide (0<=z)&&decide (z<(n:Nat))):=fun _ _=>rfl
     rw[rD,rD] at pe
     by_cases c0:0<=i'
     rotate_left
     ·rw[lJa c0];exact bad (by rw[pe,lJk c0];rfl) G3 s3
     rw[lJb c0,lJe]
     by_cases c1:i'<(U.length:Nat)
     rotate_left
     ·rw[lJb (by simpa using c1)];exact bad (by rw[pe,lJk c1,Bool.and_false];rfl) G3 s3
     rw[lJa (by simpa using c1)]
     by_cases c2:0<=j'
     rotate_left
     ·rw[lJa c2];exact bad (by rw[pe,lJk c2];simp) G3 s3
     rw[lJb c2,lJe]
     by_cases c3:j'<(V.length:Nat)
     rotate_left
     ·rw[lJb (by simpa using c3)];exact bad (by rw[pe,lJk c3];simp) G3 s3
     rw[lJa (by simpa using c3)]
     rw[lJq c0,lJq c1,lJq c2,lJq c3] at pe
     have tp:toP p.2=(i'.toNat,j'.toNat):=by unfold toP;rw[ep];rfl
     have ei:T.int i'=T.int ((i'.toNat:Nat):Int):=by rw[Int.toNat_of_nonneg c0]
     have ej:T.int j'=T.int ((j'.toNat:Nat):Int):=by rw[Int.toNat_of_nonneg c2]
     have k3:G3 k=some (.dct kvs):=s3 _ _ j1
     rw[ei,ej]
     have il:=(lJg.mp hp).1
     refine⟨by omega,_,jZt k3 (ks:=keyE (i'.toNat,j'.toNat)) jQk (show kvs.length<sizeLine by omega),?_⟩
     rw[show (i'.toNat,j'.toNat)=toP p.2 from tp.symm]
     have htk:(ps.take (i+1)).map (fun p=>toP p.2)=((ps.take i).map fun p=>toP p.2)++[toP p.2]:=by rw[lKz,hp,lKw];rfl
     refine⟨_,_,putT kvs (keyE (toP p.2)) (.bl true),rfl,jJh,fun r hr=> ?_,by rw[htk];exact qYm j2,lKb (kQx _ _ _) (by omega),?_,(j5.trans s3).over hk⟩
     ·rw[lKz,hp] at hr
      rcases (lJm.mp hr) with z | z
      ·exact j0 r z
      ·obtain rfl:r=p:=by simpa using z
       exact pe
     obtain⟨Ps,q1,q2⟩:=j4
     have hin:keyE (toP p.2)∈kvs.map Prod.fst↔toP p.2∈Ps:=by
      rw[q1,lJ2]
      exact⟨fun ⟨z,z1,z2⟩=>by rw[<-jXe z2];exact z1,fun z=>⟨_,z,rfl⟩⟩
     rw[htk]
     rcases kYq (kvs:=kvs) (k:=keyE (toP p.2)) (v:= .bl true) with ⟨c,e⟩ | ⟨c,e⟩
     ·refine⟨Ps,by rw[e,q1],fun q=> ?_⟩
      rw[lJm,lJn,<-q2 q]
      exact⟨.inl,fun z=>z.elim id fun z=>by rw[z];exact hin.mp c⟩
     ·refine⟨Ps++[toP p.2],by rw[e,q1,lKw];rfl,fun q=> ?_⟩
      rw[lJm,lJm,lJn,q2 q]
  ·intro τ G2 h_;apply xe3 h_;clear h_;intro v6 v11 kvs h_;apply ae6 h_;clear h_;intro j1 j0 j2 j3 q4_ j5
   obtain⟨Ps,q1,q2⟩:=q4_
   rw[lJe,lQl] at j2 q2 j0
   rw[lJe] at j3
   have hall:ds.all (jUa U.length V.length)=true:=by
    rw[h2,List.all_map,lQc];exact j0
   have hS:ds.map toP=ps.map fun p=>toP p.2:=by rw[h2,lJw];rfl
   rw[qJ8 (kYs e hall),hS] at kk
   generalize hSS:(ps.map fun p=>toP p.2)=S at kk j2 q2
   have hlt:∀q,q∈S->q.1<U.length/\q.2<V.length:=fun q hq=>by
    rw[<-hSS] at hq
    (obtain⟨p,hp,rfl⟩:=lJ2.mp hq)
    obtain⟨r1,r2,_⟩:=kQy (h3 p hp) (j0 p hp)
    exact⟨r1,r2⟩
   refine sp3_ok fU fV j1 j2 q1 q2 hlt (by omega) fun G' s=> ?_
   rw[Bool.and_comm]
   exact kk G' (j5.trans s)
theorem kKo {v:Addr}{k:Nat}(hb:Lv B b n G)(h1:G u=some (.lst xs))(h2:G v=some (.lst ys))(hz:xs.length+ys.length<=5000)(r1:∀x,x∈xs->RdT B G k x)(r2:∀x,x∈ys->RdT B G k x)(kk:∀w G',G w=none->w≠b->w∉B->G' w=some (.lst (xs++ys))->(∀x,x∈xs++ys->RdT B G' k x)->Lv B b n G'->Keep b G G'->Q (.ref w) G'):jJt (.ref u) (.ref v) G Q:=by
 have hs:=sz
 obtain⟨o,ho⟩:=hb.box.some
 refine⟨_,jXh h1 h2 (by omega),?_⟩
 rw[jU9]
 intro w hw
 have hwb:=jJe ho hw
 refine kk w _ hw hwb.symm (hb.nin hw) jJh (fun x hx=> ?_) (hb.keep (hb.box.gup hwb) (.new hw)) (.new hw)
 rcases (lJm.mp hx) with z | z
 ·exact (r1 x z).keep hb.mem (.new hw)
 ·exact (r2 x z).keep hb.mem (.new hw)
variable {lo hi:Option Int}
theorem kVm (hb:Lv B b n G)(hq:G q=some (.lst xs))(kk:∀w G',G w=none->w≠b->w∉B->G' w=some (.lst (cutT xs lo hi))->Lv B b n G'->Keep b G G'->Q (.ref w) G'):∃r,slR G (.ref q) lo hi=some r/\fin3 r G Q:=by
 obtain⟨o,ho⟩:=hb.box.some
 refine⟨.newL (cutT xs lo hi),by simp only[slR,hq],?_⟩
 rw[jU9]
 intro w hw
 have hwb:=jJe ho hw
 exact kk w _ hw hwb.symm (hb.nin hw) jJh (hb.keep (hb.box.gup hwb) (.new hw)) (.new hw)
theorem jV1 (hb:Lv B b n G)(hp:G p=none):p≠b/\p∉B/\gup G p (.lst xs) p=some (.lst xs)/\Lv B b n (gup G p (.lst xs))/\Keep b G (gup G p (.lst xs)):=by
 obtain⟨o,ho⟩:=hb.box.some
 have h:=jJe ho hp
 exact⟨h.symm,hb.nin hp,jJh,hb.keep (hb.box.gup h) (.new hp),.new hp⟩
theorem qZt {P:Addr->Gp->Prop}(hb:Lv B b n G)(kk:∀w G',G w=none->w≠b->w∉B->G' w=some (.lst xs)->Lv B b n G'->Keep b G G'->P w G'):∀w,G w=none->P w (gup G w (.lst xs)):=fun w hw=>by
 obtain⟨a1,a2,a3,a4,a5⟩:=jV1 (xs:=xs) hb hw
 exact kk w _ hw a1 a2 a3 a4 a5
theorem jY9:(cutT xs lo hi).length<=xs.length:=by
 unfold cutT;rw[lQ5,lV5];omega
theorem kJ3 (h:x∈cutT xs lo hi):x∈xs:=lVa (lQz h)
theorem rdt_e:RdT B G 1 (encE e):=jKv (mem2 jQb (mem2 jQb mem0))
theorem jVp:∀x,x∈L.map encE->RdT B G 1 x:=fun x hx=>by
 obtain⟨e,_,rfl⟩:=lJ2.mp hx;exact rdt_e
theorem jUs {k:Nat}(hp:G p=some (.lst xs))(hb:p∉B)(h:∀x,x∈xs->RdT B G k x)(hk:k<=10)(hl:xs.length<=5000):Tg B G (.ref p):=qY3 (jYu hp hb h) (by omega) fun ys e=>by rw[jJm hp] at e;cases e;exact hl
theorem qYa {k:Nat}(h:∀x,x∈xs->RdT B G k x)(hk:k<=10)(hl:xs.length<=5000):Tg B G (.tup xs):=qY3 (jKv h) (by omega) fun ys e=>by cases e;exact hl
theorem str_ok:∀k,k<24->PyData.strOk (Str.ofString (toString ((k:Nat):Int)))=true:=by decide +kernel
noncomputable def jQm:Sp3:=fun xs G Q=>∃(B:List Addr) (b:Addr) (U V:Web) (q:Addr) (L:List (Nat×Nat)) (n:Nat),xs=[.ref b,encW U,encW V,.ref q]/\Lv B b n G/\n+40<2^40/\W1 U/\W1 V/\q≠b/\G q=some (.lst (L.map encE))/\1<=L.length/\L.length<=576/\(∀p,p∈L->p.1<U.length/\p.2<V.length)/\∀t G',Tg B G' t->Lv B b (n+10) G'->Keep b G G'->Q t G'
noncomputable def jXn:List Str:=["_law_box_here","_law_one","_law_other","_law_pairs","_law_at","_law_left","_law_right","_law_odd_here","_law_some"]
noncomputable def jVu:TS3:=
 (tSeq (tAsg (jJo jJi (jJa (tVar 0) (jJa (tCB rLen (jJa (tVar 3) tNil)) tNil))) (jJg 4))
 (tSeq (tAsg (tOp rIxF (tVar 3) (tVar 4)) (gTup 2 (jJx (jJg 5) (jJx (jJg 6) gNil))))
 (tSeq (tAsg (jJo jUl (jJa (tVar 0) tNil)) (jJg 7))
 (tSeq (tAsg (tLst (jJa (tTup (jJa (tVar 5) (jJa (tVar 6) (jJa (tC (.int 0)) tNil)))) (jJa (tTup (jJa (tVar 5) tNil)) (jJa (tLst (jJa (tVar 5) (jJa (tVar 6) tNil))) (jJa (tTup (jJa (tVar 6) (jJa (tVar 5) tNil))) (jJa (tTup (jJa (tVar 5) (jJa (tOp rMod (tOp jJt (tVar 6) (tC (.int 1))) (tCB rLen (jJa (tVar 2) tNil))) tNil))) tNil)))))) (jJg 8))
 (tSeq (tAsg (tOp jJt (tVar 8) (tLst (jJa (tTup (jJa (tVar 5) (jJa (tCB rLen (jJa (tVar 2) tNil)) tNil))) (jJa (tTup (jJa (tUn rNeg (tC (.int 1))) (jJa (tVar 6) tNil))) (jJa (tTup (jJa (tVar 5) (jJa (tUn rNeg (tC (.int 1))) tNil))) (jJa (tTup (jJa (tCB rLen (jJa (tVar 1) tNil)) (jJa (tVar 6) tNil))) tNil)))))) (jJg 8))
 (tSeq (tAsg (tOp jJt (tVar 8) (tLst (jJa (tTup (jJa (tCB qZi (jJa (tVar 5) tNil)) (jJa (tVar 6) tNil))) (jJa (tTup (jJa (tVar 5) (jJa (tC .non) tNil))) (jJa (tVar 7) (jJa (tLst (jJa (tVar 7) (jJa (tVar 6) tNil))) tNil)))))) (jJg 8))
 (tSeq (tAsg (tOp jJt (tVar 8) (tLst (jJa (tTup (jJa (tOp rMod (tOp jJt (tVar 5) (tC (.int 1))) (tCB rLen (jJa (tVar 1) tNil))) (jJa (tVar 6) tNil))) (jJa (tTup (jJa (tCB kYp (jJa (tOp rMod (tVar 5) (tC (.int 2))) tNil)) (jJa (tVar 6) tNil))) tNil)))) (jJg 8))
 (tRet (tOp jJt (tOp jJt (tSl rSlF (tVar 3) jJ5 (jQd (tVar 4))) (tLst (jJa (tOp rIxF (tVar 8) (jJo jJi (jJa (tVar 0) (jJa (tC (.int 15)) tNil)))) tNil))) (tSl rSlF (tVar 3) (jQd (tOp jJt (tVar 4) (tC (.int 1)))) jJ5))))))))))
noncomputable def qKo:TS3:=(tRet (tOp jJt (tOp jJt (tSl rSlF (tVar 3) jJ5 (jQd (tVar 4))) (tLst (jJa (tOp rIxF (tVar 8) (jJo jJi (jJa (tVar 0) (jJa (tC (.int 15)) tNil)))) tNil))) (tSl rSlF (tVar 3) (jQd (tOp jJt (tVar 4) (tC (.int 1)))) jJ5)))
noncomputable def qYc:TS3:=tSeq (tAsg (tOp jJt (tVar 8) (tLst (jJa (tTup (jJa (tOp rMod (tOp jJt (tVar 5) (tC (.int 1))) (tCB rLen (jJa (tVar 1) tNil))) (jJa (tVar 6) tNil))) (jJa (tTup (jJa (tCB kYp (jJa (tOp rMod (tVar 5) (tC (.int 2))) tNil)) (jJa (tVar 6) tNil))) tNil)))) (jJg 8)) qKo
noncomputable def qYd:TS3:=tSeq (tAsg (tOp jJt (tVar 8) (tLst (jJa (tTup (jJa (tCB qZi (jJa (tVar 5) tNil)) (jJa (tVar 6) tNil))) (jJa (tTup (jJa (tVar 5) (jJa (tC .non) tNil))) (jJa (tVar 7) (jJa (tLst (jJa (tVar 7) (jJa (tVar 6) tNil))) tNil)))))) (jJg 8)) qYc
noncomputable def qYe:TS3:=tSeq (tAsg (tOp jJt (tVar 8) (tLst (jJa (tTup (jJa (tVar 5) (jJa (tCB rLen (jJa (tVar 2) tNil)) tNil))) (jJa (tTup (jJa (tUn rNeg (tC (.int 1))) (jJa (tVar 6) tNil))) (jJa (tTup (jJa (tVar 5) (jJa (tUn rNeg (tC (.int 1))) tNil))) (jJa (tTup (jJa (tCB rLen (jJa (tVar 1) tNil)) (jJa (tVar 6) tNil))) tNil)))))) (jJg 8)) qYd
noncomputable def qYf:TS3:=tSeq (tAsg (tLst (jJa (tTup (jJa (tVar 5) (jJa (tVar 6) (jJa (tC (.int 0)) tNil)))) (jJa (tTup (jJa (tVar 5) tNil)) (jJa (tLst (jJa (tVar 5) (jJa (tVar 6) tNil))) (jJa (tTup (jJa (tVar 6) (jJa (tVar 5) tNil))) (jJa (tTup (jJa (tVar 5) (jJa (tOp rMod (tOp jJt (tVar 6) (tC (.int 1))) (tCB rLen (jJa (tVar 2) tNil))) tNil))) tNil)))))) (jJg 8)) qYe
theorem qVk:jVu=tSeq (tAsg (jJo jJi (jJa (tVar 0) (jJa (tCB rLen (jJa (tVar 3) tNil)) tNil))) (jJg 4)) (tSeq (tAsg (tOp rIxF (tVar 3) (tVar 4)) (gTup 2 (jJx (jJg 5) (jJx (jJg 6) gNil)))) (tSeq (tAsg (jJo jUl (jJa (tVar 0) tNil)) (jJg 7)) qYf)):=rfl
theorem bp7_ok {s:Addr}{c:Nat}{v1 v2 v5 v6 v7:Option T}(hb:Lv B b n G)(hn:n+20<2^40)(hqb:q≠b)(hq:G q=some (.lst (L.map encE)))(hL:L.length<=576)(hs':G s=some (.lst xs))(hsb:s≠b)(hx:xs.length=15)(rx:∀x,x∈xs->RdT B G 4 x)(kk:∀t G',Tg B G' t->Lv B b (n+1) G'->Keep b G G'->Q t G'):
  qKo {nx:=fun _ G'=>Q .non G',rt:=Q} [some (.ref b),v1,v2,some (.ref q),some (.int (c:Nat)),v5,v6,v7,some (.ref s)] G:=by
 have hs:=sz
 have mB:=hb.mem
 wp_walk using 1,qKo,tSl,rSlF,jJ5,jQd
 refine kVm hb hq fun u G1 hu hub hum gu b1 k1=> ?_
 refine⟨b,_,n,rfl,b1.box,by omega,by omega,by omega,fun y G2 y0 y1 b2 k2=> ?_⟩
 have b2:=b1.keep b2 k2
 obtain⟨y,rfl⟩:=lKj y0
 have s2:=k2 _ _ hsb (k1 _ _ hsb hs')
 have hy:y<xs.length:=by omega
 have cl1:=jY9 (xs:=L.map encE) (lo:=none) (hi:=some (c:Int))
 have cl2:=jY9 (xs:=L.map encE) (lo:=some ((c:Int)+1)) (hi:=none)
 rw[lJe] at cl1 cl2
 refine⟨xs[y],by rw[jJ6 s2,atN];exact lJi hy,by omega,qZt (P:=fun p G'=>jJt (T.ref u) (T.ref p) G' fun x G1=>∃r,slR G1 (.ref q) (some ((c:Int)+1)) none=some r/\fin3 r G1 fun y G2=>jJt x y G2 Q) b2 fun p G3 hp hpb hpm gp b3 k3=> ?_⟩
 have rx3:RdT B G3 4 xs[y]:=(rx _ (lVk hy)).keep mB ((k1.trans k2).trans k3)
 refine kKo b3 (k3 _ _ hub (k2 _ _ hub gu)) gp (by simp;omega) (fun x hx=>(jVp x (kJ3 hx)).mono (show 1<=4 by decide)) (mem2 rx3 mem0) fun w G4 hw hwb hwm gw rw4 b4 k4=> ?_
 refine kVm b4 (k4 _ _ hqb (k3 _ _ hqb (k2 _ _ hqb (k1 _ _ hqb hq)))) fun v G5 hv hvb hvm gv b5 k5=> ?_
 refine kKo b5 (k5 _ _ hwb gw) gv (by simp;omega) (fun x hx=>(rw4 x hx).keep mB k5) (fun x hx=>(jVp x (kJ3 hx)).mono (show 1<=4 by decide)) fun t G6 ht htb htm gt rt6 b6 k6=> ?_
 exact kk _ G6 (jUs gt htm rt6 (by decide) (by simp;omega)) b6 (((((k1.trans k2).trans k3).trans k4).trans k5).trans k6)
theorem jYw:RdOk jQm jVu jXn:=by
 intro xs G Q h_;apply xe7 h_;clear h_;intro B b U V q L n h_;apply ae10 h_;clear h_;intro hb hn wU wV hqb hq hL1 hL hlt kk
 rw[show jVl jXn [.ref b,encW U,encW V,.ref q]=[some (.ref b),some (.tup (U.map encR)),some (.tup (V.map encR)),some (.ref q),none,none,none,none,none] from rfl,qVk]
 have hs:=sz
 have hU1:=wU.2.1
 have hU2:=wU.2.2
 have hV1:=wV.2.1
 have hV2:=wV.2.2
 wp_walk using 1,jJm hq,List.length_map
 refine⟨b,_,n,rfl,hb.box,by omega,by omega,by omega,fun c G1 c0 c1 b1 k1=> ?_⟩
 have b1:=hb.keep b1 k1
 have mB:=hb.mem
 obtain⟨c,rfl⟩:=lKj c0
 have hq1:=k1 _ _ hqb hq
 have hc:c<L.length:=by omega
 obtain⟨p,hp⟩:∃p,L[c]? =some p:=⟨_,lJi hc⟩
 obtain⟨l1,l2⟩:=hlt p (lJt hp)
 refine⟨encE p,by rw[jJ6 hq1,atN,lJr,hp];rfl,?_⟩
 wp_walk using 1,encE
 refine⟨B,b,n+1,rfl,b1,by omega,fun t G2 ot b2 k2=> ?_⟩
 have b2:=b1.keep b2 k2
 have hq2:=k2 _ _ hqb hq1
 wp_walk using 1,qYf
 refine⟨by omega,by omega,by omega,fun p1 h1=>⟨by omega,by rw[lJe];omega,by omega,by omega,fun p2 h2=> ?_⟩⟩
 obtain⟨pb1,pm1,g1,b3,k3⟩:=jV1 (xs:=[T.int (p.1:Nat),T.int (p.2:Nat)]) b2 h1
 generalize gup G2 p1 (.lst [T.int (p.1:Nat),T.int (p.2:Nat)])=G3 at g1 b3 k3 h2 ⊢
 have ri:∀ {G':Gp} {z:Int},RdT B G' 3 (.int z):=fun {_ _}=>jQb
 obtain⟨x5,hx5⟩:∃x5,x5=[T.tup [T.int (p.1:Nat),T.int (p.2:Nat),T.int 0],T.tup [T.int (p.1:Nat)],T.ref p1,T.tup [T.int (p.2:Nat),T.int (p.1:Nat)],T.tup [T.int (p.1:Nat),T.int (((p.2:Nat)+1)%((V.map encR).length:Nat))]]:=⟨_,rfl⟩
 rw[<-hx5]
 have r5:∀x,x∈x5->RdT B G3 4 x:=by
  rw[hx5]
  exact mem2 (jKv (mem2 ri (mem2 ri (mem2 ri mem0)))) (mem2 (jKv (mem2 ri mem0)) (mem2 (jYu g1 pm1 (mem2 ri (mem2 ri mem0))) (mem2 (jKv (mem2 ri (mem2 ri mem0))) (mem2 (jKv (mem2 ri (mem2 ri mem0))) mem0))))
 have l5:x5.length=5:=by rw[hx5];rfl
 obtain⟨pb2,pm2,g2,b4,k4⟩:=jV1 (xs:=x5) b3 h2
 generalize gup G3 p2 (.lst x5)=G4 at g2 b4 k4 ⊢
 have r5:∀x,x∈x5->RdT B G4 4 x:=fun x hx=>(r5 x hx).keep mB k4
 clear hx5 g1 h1 h2
 have ot4:=(ot.keep mB k3).keep mB k4
 have hq4:=k4 _ _ hqb (k3 _ _ hqb hq2)
 have k04:=((k1.trans k2).trans k3).trans k4
 wp_walk using 1,qYe,tUn,rNeg
 refine⟨by omega,by omega,by omega,by omega,by omega,fun p3 h3=> ?_⟩
 obtain⟨x4,hx4⟩:∃x4,x4=[T.tup [T.int (p.1:Nat),T.int ((V.map encR).length:Nat)],T.tup [T.int (-1),T.int (p.2:Nat)],T.tup [T.int (p.1:Nat),T.int (-1)],T.tup [T.int ((U.map encR).length:Nat),T.int (p.2:Nat)]]:=⟨_,rfl⟩
 rw[<-hx4]
 have l4:x4.length=4:=by rw[hx4];rfl
 obtain⟨pb3,pm3,g3,b5,k5⟩:=jV1 (xs:=x4) b4 h3
 have r4:∀x,x∈x4->RdT B (gup G4 p3 (.lst x4)) 4 x:=by
  rw[hx4]
  exact mem2 (jKv (mem2 ri (mem2 ri mem0))) (mem2 (jKv (mem2 ri (mem2 ri mem0))) (mem2 (jKv (mem2 ri (mem2 ri mem0))) (mem2 (jKv (mem2 ri (mem2 ri mem0))) mem0)))
 generalize gup G4 p3 (.lst x4)=G5 at g3 b5 k5 r4 ⊢
 refine kKo b5 (k5 _ _ pb2 g2) g3 (by omega) (fun x hx=>(r5 x hx).keep mB k5) r4 fun p4 G6 h4 pb4 pm4 g4 r6 b6 k6=> ?_
 have l9:(x5++x4).length=9:=by rw[lJv];omega
 generalize x5++x4=x9 at g4 r6 l9
 have ot6:=(ot4.keep mB k5).keep mB k6
 have hq6:=k6 _ _ hqb (k5 _ _ hqb hq4)
 have k06:=(k04.trans k5).trans k6
 wp_walk using 1,qYd
 have lg:((p.1:Nat):Int).natAbs.log2<1920:=by
  have:=Nat.log2_le_self ((p.1:Nat):Int).natAbs
  omega
 refine⟨(p.1:Nat),rfl,lg,by omega,by omega,by omega,fun p5 h5=>⟨by omega,fun p6 h6=> ?_⟩⟩
 have hst:=str_ok p.1 (by omega)
 generalize Str.ofString (toString ((p.1:Nat):Int))=sx at hst h6 ⊢
 obtain⟨pb5,pm5,g5,b7,k7⟩:=jV1 (xs:=[t,T.int (p.2:Nat)]) b6 h5
 generalize gup G6 p5 (.lst [t,T.int (p.2:Nat)])=G7 at g5 b7 k7 h6 ⊢
 have ot7:=ot6.keep mB k7
 obtain⟨y4,hy4⟩:∃y4,y4=[T.tup [T.str sx,T.int (p.2:Nat)],T.tup [T.int (p.1:Nat),T.non],t,T.ref p5]:=⟨_,rfl⟩
 rw[<-hy4]
 have ly4:y4.length=4:=by rw[hy4];rfl
 obtain⟨pb6,pm6,g6,b8,k8⟩:=jV1 (xs:=y4) b7 h6
 have ry4:∀x,x∈y4->RdT B (gup G7 p6 (.lst y4)) 4 x:=by
  rw[hy4]
  exact mem2 (jKv (mem2 (kV7 hst) (mem2 ri mem0))) (mem2 (jKv (mem2 ri (mem2 kQk mem0))) (mem2 ((ot7.rd.mono (by decide)).keep mB (hy4▸k8)) (mem2 ((jYu (k:=3) g5 pm5 (mem2 ot7.rd (mem2 ri mem0))).keep mB (hy4▸k8)) mem0)))
 generalize gup G7 p6 (.lst y4)=G8 at g6 b8 k8 ry4 ⊢
 have k68:=k7.trans k8
 refine kKo b8 (k68 _ _ pb4 g4) g6 (by omega) (fun x hx=>(r6 x hx).keep mB k68) ry4 fun p7 G9 h7 pb7 pm7 g7 r9 b9 k9=> ?_
 have l13:(x9++y4).length=13:=by rw[lJv];omega
 generalize x9++y4=x13 at g7 r9 l13
 have hq9:=k9 _ _ hqb (k68 _ _ hqb hq6)
 have k09:=(k06.trans k68).trans k9
 wp_walk using 1,qYc,kYp
 refine⟨by rw[lJe];omega,by omega,by decide,by omega,by omega,fun p8 h8=> ?_⟩
 obtain⟨y2,hy2⟩:∃y2,y2=[T.tup [T.int (((p.1:Nat)+1)%((U.map encR).length:Nat)),T.int (p.2:Nat)],T.tup [T.bl (((p.1:Nat):Int)%2 != 0),T.int (p.2:Nat)]]:=⟨_,rfl⟩
 rw[<-hy2]
 have ly2:y2.length=2:=by rw[hy2];rfl
 obtain⟨pb8,pm8,g8,b10,k10⟩:=jV1 (xs:=y2) b9 h8
 have ry2:∀x,x∈y2->RdT B (gup G9 p8 (.lst y2)) 4 x:=by
  rw[hy2]
  exact mem2 (jKv (mem2 ri (mem2 ri mem0))) (mem2 (jKv (mem2 kUt (mem2 ri mem0))) mem0)
 generalize gup G9 p8 (.lst y2)=G10 at g8 b10 k10 ry2 ⊢
 refine kKo b10 (k10 _ _ pb7 g7) g8 (by omega) (fun x hx=>(r9 x hx).keep mB k10) ry2 fun p9 G11 h9 pb9 pm9 g9 r11 b11 k11=> ?_
 refine bp7_ok b11 (by omega) hqb (k11 _ _ hqb (k10 _ _ hqb hq9)) hL g9 pb9 (by rw[lJv];omega) r11 fun t' G12 ht b12 k12=> ?_
 exact kk t' G12 ht (b12.mono (by omega)) (((k09.trans k10).trans k11).trans k12)
theorem Tg.up {d:Addr}{t:T}(hd:d∈B)(h:Tg B G t):Tg B (gup G d o) t:=by
 obtain⟨x,h1,h2⟩:=h
 exact⟨x,jKs (qYq hd) h1,h2⟩
theorem Tg.less {t:T}(hc:∀c,c∈C->c∈B)(h:Tg B G t):Tg C G t:=by
 obtain⟨x,h1,h2⟩:=h
 exact⟨x,jKs (qQ2 hc) h1,h2⟩
theorem lv1 (h:BoxAt G b n):Lv [b] b n G:=⟨h,lJn.mpr rfl,fun c hc=>by rw[lJn.mp hc];exact h.some⟩
theorem RdT.up {k:Nat}{d:Addr}{t:T}(hd:d∈B)(h:RdT B G k t):RdT B (gup G d o) k t:=by
 obtain⟨x,h1,h2⟩:=h
 exact⟨x,jKs (qYq hd) h1,h2⟩
theorem RdT.less {k:Nat}{t:T}(hc:∀c,c∈C->c∈B)(h:RdT B G k t):RdT C G k t:=by
 obtain⟨x,h1,h2⟩:=h
 exact⟨x,jKs (qQ2 hc) h1,h2⟩
theorem bm2:b∈[D,b]:=lKp _ (lJn.mpr rfl)
theorem sub2:∀c,c∈[b]->c∈[D,b]:=fun c hc=>lKp _ hc
theorem cat_t {v:Addr}(hb:BoxAt G b n)(h1:G u=some (.lst xs))(h2:G v=some (.lst ys))(hz:xs.length+ys.length<=5000)(r1:∀x,x∈xs->Tg [b] G x)(r2:∀x,x∈ys->Tg [b] G x)(kk:∀w G',w≠b->G' w=some (.lst (xs++ys))->(∀x,x∈xs++ys->Tg [b] G' x)->BoxAt G' b n->Keep b G G'->Q (.ref w) G'):jJt (.ref u) (.ref v) G Q:=by
 have hs:=sz
 refine⟨_,jXh h1 h2 (by omega),?_⟩
 rw[jU9]
 intro w hw
 obtain⟨a1,_,a3,a4,a5⟩:=jV1 (xs:=xs++ys) (lv1 hb) hw
 refine kk w _ a1 a3 (fun x hx=> ?_) a4.box a5
 rcases (lJm.mp hx) with z | z
 ·exact (r1 x z).keep (lJn.mpr rfl) a5
 ·exact (r2 x z).keep (lJn.mpr rfl) a5
theorem qUj {Pr:List Addr->Gp->T->Prop}{stay:Gp->Prop}(c:Nat)(hz:xs.length<=sizeLine)(hb:BoxAt G b n)(hst:∀G',Keep b G G'->stay G')(pk:∀D G G' t,Pr [D,b] G t->Keep b G G'->Pr [D,b] G' t)(pu:∀D G o t,Pr [D,b] G t->Pr [D,b] (gup G D o) t)(pl:∀D G t,Pr [D,b] G t->Pr [b] G t)(h:∀(i:Nat) x,xs[i]? =some x->∀D G' (K:T->Gp->Prop) (K0:Gp->Prop),Lv [D,b] b (n+i*c) G'->Keep b G G'->(∀t G4,Pr [D,b] G4 t->Lv [D,b] b (n+(i+1)*c) G4->Keep b G' G4->K t G4)->g x (msk mask τ) G' fun τ2 G2=>tif τ2 G2 fun b G3=>if b=true then te τ2 G3 K else K0 G3)(hq:∀D ts G',G D=none->D≠b->G' D=some (.lst ts)->ts.length=xs.length->(∀t,t∈ts->Pr [b] G' t)->BoxAt G' b (n+xs.length*c)->Keep b G G'->Q (.ref D) G'):kK7 mask g tif te τ xs stay G Q:=by
 intro D hD
 obtain⟨bo,hbo⟩:=hb.some
 have hDb:b≠D:=jJe hbo hD
 have dm:D∈[D,b]:=lKn ..
 have bm:b∈[D,b]:=lKp _ (lJn.mpr rfl)
 have lv2:∀ {m:Nat} {G':Gp} {acc:List T},BoxAt G' b m->G' D=some (.lst acc)->Lv [D,b] b m G':=fun {m G' acc} h1 h2=>⟨h1,bm,fun c hc=>by
  rcases (lJy.mp hc) with rfl | hc
  ·exact⟨_,h2⟩
  ·rw[lJn.mp hc];exact h1.some⟩
 refine⟨fun i acc G'=>acc.length=i/\(∀t,t∈acc->Pr [D,b] G' t)/\BoxAt G' b (n+i*c)/\Keep b G G'/\G' D=some (.lst acc),?_,?_,?_,?_⟩
 ·exact⟨rfl,fun t z=>by simp at z,by simpa using hb.gup hDb,.new hD,jJh⟩
 ·rintro i acc G' hi ⟨j1,j2,j3,j4,j5⟩
  exact⟨hst G' j4,j5⟩
 ·rintro i x acc G3 hx ⟨j1,j2,j3,j4,j5⟩
  have hi:i<xs.length:=(lJg.mp hx).1
  refine h i x hx D G3 _ _ (lv2 j3 j5) j4 fun t G4 hp hb4 kp=> ?_
  refine⟨kp _ _ hDb.symm j5,by omega,by simp[j1],?_,hb4.box.gup hDb,(j4.trans kp).over hD,jJh⟩
  intro u hu
  rcases (lJm.mp hu) with hu | hu
  ·exact pu D _ _ u (pk D _ _ u (j2 u hu) kp)
  ·rw[lJn.mp hu];exact pu D _ _ t hp
 ·rintro acc G3 ⟨j1,j2,j3,j4,j5⟩
  exact hq D acc G3 hD hDb.symm j5 j1 (fun t ht=>pl D _ t (j2 t ht)) j3 j4
noncomputable def jQg:Sp3:=fun xs G Q=>∃(b:Addr) (U V:Web) (a c:Nat) (ro:Addr) (M:List Nat) (n:Nat),xs=[.ref b,encW U,.int (a:Nat),encW V,.int (c:Nat),.ref ro]/\BoxAt G b n/\n+200<2^40/\W1 U/\W1 V/\a<U.length/\c<V.length/\ro≠b/\G ro=some (.lst (jJq M))/\U.length+V.length<=M.length/\∀q ts G',q≠b->G' q=some (.lst ts)->(∀t,t∈ts->Tg [b] G' t)->BoxAt G' b (n+100)->Keep b G G'->Q (.ref q) G'
noncomputable def jV7:List Str:=["_law_box_here","_law_one","_law_a","_law_other","_law_b","_law_row","_law_pairs","_law_full","_law_left","_law_at","_law_more","_law_some","_law_right","_law_pair","_law_turn_here"]
noncomputable def jVe:TS3:=
 (tSeq (tAsg (jJo jQl (jJa (tVar 1) (jJa (tVar 2) (jJa (tVar 3) (jJa (tVar 4) tNil))))) (jJg 6))
 (tSeq (tAsg (tLst tNil) (jJg 7))
 (tSeq (tFor (jKc (jJa (tCB rLen (jJa (tVar 1) tNil)) tNil)) (jJg 8) (jUi (tBM "list" kQv (tVar 7) (jJa (jKp [false,false,false,false,false,false,false,false,false,false,false,false,true,false,false] (jKc (jJa (tCB rLen (jJa (tVar 3) tNil)) tNil)) (jJg 12) (jJ1 (tOp rEqA (tOp rIxF (tVar 5) (tVar 8)) (tOp rIxF (tVar 5) (tOp jJt (tCB rLen (jJa (tVar 1) tNil)) (tVar 12))))) (tTup (jJa (tVar 8) (jJa (tVar 12) tNil)))) tNil))))
 (tSeq (tAsg (jJo jJi (jJa (tVar 0) (jJa (tCB rLen (jJa (tVar 6) tNil)) tNil))) (jJg 9))
 (tSeq (tAsg (tTup (jJa (jJo jJi (jJa (tVar 0) (jJa (tCB rLen (jJa (tVar 1) tNil)) tNil))) (jJa (jJo jJi (jJa (tVar 0) (jJa (tCB rLen (jJa (tVar 3) tNil)) tNil))) tNil))) (jJg 10))
 (tSeq (tAsg (tLst (jJa (tVar 6) (jJa (tCB jKa (jJa (tVar 6) tNil)) (jJa (jKp [false,false,false,false,false,false,false,false,false,false,false,false,false,true,false] (iSeq (tVar 6)) (jJg 13) jK2 (tCB jVx (jJa (tVar 13) tNil))) (jJa (tVar 7) (jJa (tOp jJt (tSl rSlF (tVar 6) jJ5 (jQd (tVar 9))) (tSl rSlF (tVar 6) (jQd (tOp jJt (tVar 9) (tC (.int 1)))) jJ5)) (jJa (tOp jJt (tVar 6) (tLst (jJa (tVar 10) tNil))) tNil))))))) (jJg 11))
 (tSeq (tAsg (tOp jJt (tVar 11) (tLst (jJa (tOp jJt (tSl rSlF (tVar 6) (jQd (tVar 9)) jJ5) (tSl rSlF (tVar 6) jJ5 (jQd (tVar 9)))) (jJa (tOp jJt (tVar 6) (tSl rSlF (tVar 6) jJ5 (jQd (tOp jJt (tVar 9) (tC (.int 1)))))) (jJa (tLst (jJa (tTup (jJa (tVar 2) (jJa (tVar 4) tNil))) tNil)) (jJa (tLst tNil) (jJa (tTup tNil) (jJa (jJo jUl (jJa (tVar 0) tNil)) (jJa (tLst (jJa (jJo jUl (jJa (tVar 0) tNil)) tNil)) tNil))))))))) (jJg 11))
 (tSeq (tAsg (tOp jJt (tVar 11) (tLst (jJa (tOp jJt (tLst (jJa (tVar 10) tNil)) (tVar 7)) (jJa (tSl rSlF (tVar 7) jJ5 (jQd (tUn rNeg (tC (.int 1))))) tNil)))) (jJg 11))
 (tRet (tOp jJt (tVar 11) (jKp [false,false,false,false,false,false,false,false,false,false,false,false,false,false,true] (jKc (jJa (tC (.int 4)) tNil)) (jJg 14) jK2 (jJo jQm (jJa (tVar 0) (jJa (tVar 1) (jJa (tVar 3) (jJa (tVar 6) tNil))))))))))))))))
noncomputable def qKj:TS3:=(tRet (tOp jJt (tVar 11) (jKp [false,false,false,false,false,false,false,false,false,false,false,false,false,false,true] (jKc (jJa (tC (.int 4)) tNil)) (jJg 14) jK2 (jJo jQm (jJa (tVar 0) (jJa (tVar 1) (jJa (tVar 3) (jJa (tVar 6) tNil))))))))
noncomputable def qYb:TS3:=tSeq (tAsg (tOp jJt (tVar 11) (tLst (jJa (tOp jJt (tLst (jJa (tVar 10) tNil)) (tVar 7)) (jJa (tSl rSlF (tVar 7) jJ5 (jQd (tUn rNeg (tC (.int 1))))) tNil)))) (jJg 11)) qKj
noncomputable def qKk:TS3:=tSeq (tAsg (tOp jJt (tVar 11) (tLst (jJa (tOp jJt (tSl rSlF (tVar 6) (jQd (tVar 9)) jJ5) (tSl rSlF (tVar 6) jJ5 (jQd (tVar 9)))) (jJa (tOp jJt (tVar 6) (tSl rSlF (tVar 6) jJ5 (jQd (tOp jJt (tVar 9) (tC (.int 1)))))) (jJa (tLst (jJa (tTup (jJa (tVar 2) (jJa (tVar 4) tNil))) tNil)) (jJa (tLst tNil) (jJa (tTup tNil) (jJa (jJo jUl (jJa (tVar 0) tNil)) (jJa (tLst (jJa (jJo jUl (jJa (tVar 0) tNil)) tNil)) tNil))))))))) (jJg 11)) qYb
noncomputable def qKl:TS3:=tSeq (tAsg (tLst (jJa (tVar 6) (jJa (tCB jKa (jJa (tVar 6) tNil)) (jJa (jKp [false,false,false,false,false,false,false,false,false,false,false,false,false,true,false] (iSeq (tVar 6)) (jJg 13) jK2 (tCB jVx (jJa (tVar 13) tNil))) (jJa (tVar 7) (jJa (tOp jJt (tSl rSlF (tVar 6) jJ5 (jQd (tVar 9))) (tSl rSlF (tVar 6) (jQd (tOp jJt (tVar 9) (tC (.int 1)))) jJ5)) (jJa (tOp jJt (tVar 6) (tLst (jJa (tVar 10) tNil))) tNil))))))) (jJg 11)) qKk
noncomputable def qKm:TS3:=tSeq (tAsg (jJo jJi (jJa (tVar 0) (jJa (tCB rLen (jJa (tVar 6) tNil)) tNil))) (jJg 9)) (tSeq (tAsg (tTup (jJa (jJo jJi (jJa (tVar 0) (jJa (tCB rLen (jJa (tVar 1) tNil)) tNil))) (jJa (jJo jJi (jJa (tVar 0) (jJa (tCB rLen (jJa (tVar 3) tNil)) tNil))) tNil))) (jJg 10)) qKl)
theorem qVj:jVe=tSeq (tAsg (jJo jQl (jJa (tVar 1) (jJa (tVar 2) (jJa (tVar 3) (jJa (tVar 4) tNil))))) (jJg 6)) (tSeq (tAsg (tLst tNil) (jJg 7)) (tSeq (tFor (jKc (jJa (tCB rLen (jJa (tVar 1) tNil)) tNil)) (jJg 8) (jUi (tBM "list" kQv (tVar 7) (jJa (jKp [false,false,false,false,false,false,false,false,false,false,false,false,true,false,false] (jKc (jJa (tCB rLen (jJa (tVar 3) tNil)) tNil)) (jJg 12) (jJ1 (tOp rEqA (tOp rIxF (tVar 5) (tVar 8)) (tOp rIxF (tVar 5) (tOp jJt (tCB rLen (jJa (tVar 1) tNil)) (tVar 12))))) (tTup (jJa (tVar 8) (jJa (tVar 12) tNil)))) tNil)))) qKm)):=rfl
theorem pt8_ok {s:Addr}{V:Web}{v2 v4 v5 v7 v8 v9 v10 v12 v13 v14:Option T}(hb:BoxAt G b n)(hn:n+100<2^40)(wU:W1 U)(wV:W1 V)(hqb:q≠b)(hq:G q=some (.lst (L.map encE)))(hL1:1<=L.length)(hL:L.length<=576)(hlt:∀p,p∈L->p.1<U.length/\p.2<V.length)(hs':G s=some (.lst ts))(hsb:s≠b)(hl:ts.length<=100)(ht:∀t,t∈ts->Tg [b] G t)(kk:∀w ts G',w≠b->G' w=some (.lst ts)->(∀t,t∈ts->Tg [b] G' t)->BoxAt G' b (n+40)->Keep b G G'->Q (.ref w) G'):
  qKj {nx:=fun _ G'=>Q .non G',rt:=Q} [some (.ref b),some (.tup (U.map encR)),v2,some (.tup (V.map encR)),v4,v5,some (.ref q),v7,v8,v9,v10,some (.ref s),v12,v13,v14] G:=by
 have hs:=sz
 wp_walk using 1,qKj,jKc
 refine⟨by decide,by decide,?_⟩
 refine qUj (Pr:=Tg) (n:=n) 10 (by rw[jJ9];omega) hb (fun _ _=>trivial) (fun D _ _ t h k=>h.keep bm2 k) (fun D _ _ t h=>h.up (lKn ..)) (fun D _ t h=>h.less sub2) ?_ ?_
 ·intro i x hx D G1 K K0 L1 k1 hK
  have hi:i<4:=by have:=(lJg.mp hx).1;rw[jJ9] at this;exact this
  wp_walk using 1,tSeq
  refine⟨[D,b],b,U,V,q,L,n+i*10,rfl,L1,by omega,wU,wV,hqb,k1 _ _ hqb hq,hL1,hL,hlt,fun t G2 ht b2 k2=> ?_⟩
  exact hK t G2 ht ((L1.keep b2.box k2).mono (by omega)) k2
 ·intro D ys G1 hD hDb d1 yl hy b1 k1
  rw[jJ9] at b1 yl
  have yl:ys.length=4:=yl
  refine⟨_,jXh (k1 _ _ hsb hs') d1 (by omega),?_⟩
  rw[jU9]
  intro w hw
  obtain⟨a1,_,a3,a4,a5⟩:=jV1 (xs:=ts++ys) (lv1 b1) hw
  refine kk w _ _ a1 a3 (fun t h=> ?_) (a4.box.mono (by show n+4*10<=n+40;omega)) (k1.trans a5)
  have bm:b∈[b]:=lJn.mpr rfl
  rcases (lJm.mp h) with z | z
  ·exact ((ht t z).keep bm k1).keep bm a5
  ·exact (hy t z).keep bm a5
theorem pt6_ok {f s:Addr}{V:Web}{F:List (Nat×Nat)}{d:Nat}{a c x y:Int}{v5 v8 v12 v13 v14:Option T}(hb:BoxAt G b n)(hn:n+120<2^40)(wU:W1 U)(wV:W1 V)(hqb:q≠b)(hq:G q=some (.lst (L.map encE)))(hL1:1<=L.length)(hL:L.length<=576)(hlt:∀p,p∈L->p.1<U.length/\p.2<V.length)(hfb:f≠b)(hf:G f=some (.lst (F.map encE)))(hF:F.length<=576)(hsb:s≠b)(hs':G s=some (.lst ts))(hl:ts.length<=6)(ht:∀t,t∈ts->Tg [b] G t)(kk:∀w ts G',w≠b->G' w=some (.lst ts)->(∀t,t∈ts->Tg [b] G' t)->BoxAt G' b (n+60)->Keep b G G'->Q (.ref w) G'):
  qKk {nx:=fun _ G'=>Q .non G',rt:=Q} [some (.ref b),some (.tup (U.map encR)),some (.int a),some (.tup (V.map encR)),some (.int c),v5,some (.ref q),some (.ref f),v8,some (.int (d:Nat)),some (.tup [.int x,.int y]),some (.ref s),v12,v13,v14] G:=by
 have hs:=sz
 have bm:b∈[b]:=lJn.mpr rfl
 wp_walk using 1,qKk,tSl,rSlF,jJ5,jQd
 have nm:∀ {z:Addr},z≠b->z∉[b]:=fun h hm=>h (lJn.mp hm)
 have cl:∀ {lo hi:Option Int},(cutT (L.map encE) lo hi).length<=576:=fun {lo hi}=>by
  have:=jY9 (xs:=L.map encE) (lo:=lo) (hi:=hi);rw[lJe] at this;omega
 have re:∀ {G':Gp} {lo hi:Option Int},∀z,z∈cutT (L.map encE) lo hi->RdT [b] G' 1 z:=fun z hz=>jVp z (kJ3 hz)
 refine kVm (lv1 hb) hq fun u1 G1 _ u1b _ gu1 b1 k1=> ?_
 have hq1:=k1 _ _ hqb hq
 refine kVm b1 hq1 fun u2 G2 _ u2b _ gu2 b2 k2=> ?_
 have hq2:=k2 _ _ hqb hq1
 have c1:=cl (lo:=some (d:Int)) (hi:=none)
 have c2:=cl (lo:=none) (hi:=some (d:Int))
 have c3:=cl (lo:=none) (hi:=some ((d:Int)+1))
 refine kKo b2 (k2 _ _ u1b gu1) gu2 (by omega) re re fun w1 G3 _ w1b w1m gw1 rw1 b3 k3=> ?_
 have hq3:=k3 _ _ hqb hq2
 refine kVm b3 hq3 fun u3 G4 _ u3b _ gu3 b4 k4=> ?_
 have hq4:=k4 _ _ hqb hq3
 refine kKo b4 hq4 gu3 (by rw[lJe];omega) jVp re fun w2 G5 _ w2b w2m gw2 rw2 b5 k5=>⟨by omega,by omega,fun p1 h1=> ?_⟩
 obtain⟨p1b,p1m,g1,b6,k6⟩:=jV1 (xs:=[T.tup [T.int a,T.int c]]) b5 h1
 generalize gup G5 p1 (.lst [T.tup [T.int a,T.int c]])=G6 at g1 b6 k6 ⊢
 refine⟨by omega,fun p2 h2=>⟨by omega,?_⟩⟩
 obtain⟨p2b,p2m,g2,b7,k7⟩:=jV1 (xs:=[]) b6 h2
 generalize gup G6 p2 (.lst [])=G7 at g2 b7 k7 ⊢
 refine⟨[b],b,n,rfl,b7,by omega,fun o1 G8 ho1 b8 k8=> ?_⟩
 refine⟨[b],b,n+1,rfl,b7.keep b8 k8,by omega,fun o2 G9 ho2 b9 k9=>⟨by omega,fun p3 h3=> ?_⟩⟩
 have b9:=(b7.keep b8 k8).keep b9 k9
 obtain⟨p3b,p3m,g3,b10,k10⟩:=jV1 (xs:=[o2]) b9 h3
 generalize gup G9 p3 (.lst [o2])=G10 at g3 b10 k10 ⊢
 refine⟨by omega,fun p4 h4=> ?_⟩
 have k48:=k8.trans (k9.trans k10)
 have k45:=k6.trans k7
 obtain⟨x7,hx7⟩:∃x7,x7=[T.ref w1,T.ref w2,T.ref p1,T.ref p2,T.tup [],o1,T.ref p3]:=⟨_,rfl⟩
 rw[<-hx7]
 have l7:x7.length=7:=by rw[hx7];rfl
 have kA:=(((k1.trans k2).trans k3).trans k4).trans k5
 have kB:=kA.trans (k45.trans k48)
 have t7:∀t,t∈x7->Tg [b] G10 t:=by
  rw[hx7]
  have e1:Keep b G3 G10:=(k4.trans k5).trans (k45.trans k48)
  have e2:Keep b G5 G10:=k45.trans k48
  have e3:Keep b G6 G10:=k7.trans k48
  exact mem2 (jUs (e1 _ _ w1b gw1) w1m (fun z hz=>(rw1 z hz).keep bm e1) (by decide) (by rw[lJv];omega)) (mem2 (jUs (e2 _ _ w2b gw2) w2m (fun z hz=>(rw2 z hz).keep bm e2) (by decide) (by rw[lJv,lJe];omega)) (mem2 (jUs (k:=1) (e3 _ _ p1b g1) p1m (mem2 (jKv (mem2 jQb (mem2 jQb mem0))) mem0) (by decide) (by simp)) (mem2 (jUs (k:=1) (k48 _ _ p2b g2) p2m mem0 (by decide) (by simp)) (mem2 (qYa (k:=1) mem0 (by decide) (by simp)) (mem2 (ho1.keep bm (k9.trans k10)).tg (mem2 (jUs (k:=3) g3 p3m (mem2 (ho2.keep bm k10).rd mem0) (by decide) (by simp)) mem0))))))
 obtain⟨p4b,_,g4,b11,k11⟩:=jV1 (xs:=x7) b10 h4
 generalize gup G10 p4 (.lst x7)=G11 at g4 b11 k11 ⊢
 have kC:=kB.trans k11
 refine cat_t b11.box (kC _ _ hsb hs') g4 (by omega) (fun t z=>(ht t z).keep bm kC) (fun t z=>(t7 t z).keep bm k11) fun s2 G12 s2b gs2 ts2 b12 k12=> ?_
 have l13:(ts++x7).length<=13:=by rw[lJv];omega
 generalize ts++x7=t13 at gs2 ts2 l13
 have kD:=kC.trans k12
 have hq12:=kD _ _ hqb hq
 have hf12:=kD _ _ hfb hf
 wp_walk using 1,qYb,tSl,rSlF,jJ5,jQd,tUn,rNeg
 have cf:(cutT (F.map encE) none (some (-1))).length<=576:=by
  have:=jY9 (xs:=F.map encE) (lo:=none) (hi:=some (-1));rw[lJe] at this;omega
 refine⟨by omega,fun p5 h5=> ?_⟩
 obtain⟨p5b,p5m,g5,b13,k13⟩:=jV1 (xs:=[T.tup [T.int x,T.int y]]) (lv1 b12) h5
 generalize gup G12 p5 (.lst [T.tup [T.int x,T.int y]])=G13 at g5 b13 k13 ⊢
 have hf13:=k13 _ _ hfb hf12
 refine kKo (k:=1) b13 g5 hf13 (by rw[lJe];simp;omega) (mem2 (jKv (mem2 jQb (mem2 jQb mem0))) mem0) jVp fun w3 G14 _ w3b w3m gw3 rw3 b14 k14=> ?_
 have hf14:=k14 _ _ hfb hf13
 refine kVm b14 hf14 fun w4 G15 _ w4b w4m gw4 b15 k15=>⟨by omega,fun p6 h6=> ?_⟩
 obtain⟨x2,hx2⟩:∃x2,x2=[T.ref w3,T.ref w4]:=⟨_,rfl⟩
 rw[<-hx2]
 have l2:x2.length=2:=by rw[hx2];rfl
 have t2:∀t,t∈x2->Tg [b] G15 t:=by
  rw[hx2]
  exact mem2 (jUs (k15 _ _ w3b gw3) w3m (fun z hz=>(rw3 z hz).keep bm k15) (by decide) (by rw[lJv,lJe];simp;omega)) (mem2 (jUs (k:=1) gw4 w4m (fun z hz=>jVp z (kJ3 hz)) (by decide) (by omega)) mem0)
 obtain⟨p6b,_,g6,b16,k16⟩:=jV1 (xs:=x2) b15 h6
 generalize gup G15 p6 (.lst x2)=G16 at g6 b16 k16 ⊢
 have kE:=((k13.trans k14).trans k15).trans k16
 refine cat_t b16.box (kE _ _ s2b gs2) g6 (by omega) (fun t z=>(ts2 t z).keep bm kE) (fun t z=>(t2 t z).keep bm k16) fun s3 G17 s3b gs3 ts3 b17 k17=> ?_
 have kF:=(kD.trans kE).trans k17
 refine pt8_ok (n:=n+1+1) (by simpa using b17) (by omega) wU wV hqb (kF _ _ hqb hq) hL1 hL hlt gs3 s3b (by rw[lJv];omega) ts3 fun w us G18 hw gw hu b18 k18=> ?_
 exact kk w us G18 hw gw hu (b18.mono (by omega)) (kF.trans k18)
theorem pt5_ok {f:Addr}{V:Web}{F:List (Nat×Nat)}{d:Nat}{a c x y:Int}{v5 v8 v11 v12 v13 v14:Option T}(hb:BoxAt G b n)(hn:n+120<2^40)(wU:W1 U)(wV:W1 V)(hqb:q≠b)(hq:G q=some (.lst (L.map encE)))(hL1:1<=L.length)(hL:L.length<=576)(hlt:∀p,p∈L->p.1<U.length/\p.2<V.length)(hfb:f≠b)(hf:G f=some (.lst (F.map encE)))(hF:F.length<=576)(kk:∀w ts G',w≠b->G' w=some (.lst ts)->(∀t,t∈ts->Tg [b] G' t)->BoxAt G' b (n+60)->Keep b G G'->Q (.ref w) G'):
  qKl {nx:=fun _ G'=>Q .non G',rt:=Q} [some (.ref b),some (.tup (U.map encR)),some (.int a),some (.tup (V.map encR)),some (.int c),v5,some (.ref q),some (.ref f),v8,some (.int (d:Nat)),some (.tup [.int x,.int y]),v11,v12,v13,v14] G:=by
 have hs:=sz
 have bm:b∈[b]:=lJn.mpr rfl
 wp_walk using 1,qKl,iSeq,jJm hq,tSl,rSlF,jJ5,jQd,jVx,jXt
 have cl1:=jY9 (xs:=L.map encE) (lo:=none) (hi:=some (d:Int))
 have cl2:=jY9 (xs:=L.map encE) (lo:=some ((d:Int)+1)) (hi:=none)
 rw[lJe] at cl1 cl2
 have re:∀ {G':Gp} {lo hi:Option Int},∀z,z∈cutT (L.map encE) lo hi->RdT [b] G' 1 z:=fun z hz=>jVp z (kJ3 hz)
 refine qUj (Pr:=fun B G t=>RdT B G 2 t) (n:=n) 0 (by rw[lJe];omega) hb (fun G' k=>jJm (k _ _ hqb hq)) (fun D _ _ t h k=>h.keep bm2 k) (fun D _ _ t h=>h.up (lKn ..)) (fun D _ t h=>h.less sub2) ?_ ?_
 ·intro i z hz D G1 K K0 L1 k1 hK
  obtain⟨e,he,rfl⟩:=jKz hz
  wp_walk using 1,encE
  refine⟨_,_,rfl,rfl,qZt (xs:=[T.int (e.1:Nat),T.int (e.2:Nat)]) (P:=fun p G'=>K (.ref p) G') L1 fun p G2 hp hpb hpm gp L2 k2=> ?_⟩
  exact hK _ G2 (jYu gp hpm (mem2 jQb (mem2 jQb mem0))) (by simpa using L2) k2
 intro D ds G1 hD hDb gD hdl rD b1 k1
 rw[Nat.mul_zero,lVq] at b1
 have hq1:=k1 _ _ hqb hq
 have hf1:=k1 _ _ hfb hf
 refine kVm (lv1 b1) hq1 fun u G2 hu hub hum gu b2 k2=> ?_
 refine kVm b2 (k2 _ _ hqb hq1) fun v G3 hv hvb hvm gv b3 k3=> ?_
 refine kKo b3 (k3 _ _ hub gu) gv (by omega) re re fun w3 G4 h3 w3b w3m g3 r3 b4 k4=>⟨by omega,?_⟩
 refine qZt (P:=fun p G'=>jJt (T.ref q) (T.ref p) G' _) b4 fun p G5 hp hpb hpm gp b5 k5=> ?_
 have k25:=((k2.trans k3).trans k4).trans k5
 refine kKo b5 (k25 _ _ hqb hq1) gp (by simp;omega) jVp (mem2 (jKv (k:=0) (mem2 jQb (mem2 jQb mem0))) mem0) fun w4 G6 h4 w4b w4m g4 r4 b6 k6=>⟨by omega,fun s hs'=> ?_⟩
 have k26:=k25.trans k6
 have nm:∀ {z:Addr},z≠b->z∉[b]:=fun h hm=>h (lJn.mp hm)
 obtain⟨x6,hx6⟩:∃x6,x6=[T.ref q,T.tup (L.map encE),T.ref D,T.ref f,T.ref w3,T.ref w4]:=⟨_,rfl⟩
 rw[<-hx6]
 have l6:x6.length=6:=by rw[hx6];rfl
 have k56:=k5.trans k6
 have t6:∀t,t∈x6->Tg [b] G6 t:=by
  rw[hx6]
  exact mem2 (jUs (k26 _ _ hqb hq1) (nm hqb) jVp (by decide) (by rw[lJe];omega)) (mem2 (qYa jVp (by decide) (by rw[lJe];omega)) (mem2 (jUs (k26 _ _ hDb gD) (nm hDb) (fun z hz=>(rD z hz).keep bm k26) (by decide) (by rw[hdl,lJe];omega)) (mem2 (jUs (k26 _ _ hfb hf1) (nm hfb) jVp (by decide) (by rw[lJe];omega)) (mem2 (jUs (k56 _ _ w3b g3) w3m (fun z hz=>(r3 z hz).keep bm k56) (by decide) (by rw[lJv];omega)) (mem2 (jUs g4 w4m r4 (by decide) (by simp;omega)) mem0)))))
 obtain⟨sb,_,gs,Ls,ks⟩:=jV1 (xs:=x6) b6 hs'
 generalize gup G6 s (.lst x6)=G7 at gs Ls ks ⊢
 have kall:=(k1.trans k26).trans ks
 refine pt6_ok Ls.box (by omega) wU wV hqb (kall _ _ hqb hq) hL1 hL hlt hfb (kall _ _ hfb hf) hF sb gs (by omega) (fun t ht=>(t6 t ht).keep bm ks) fun w ts G8 hw gw ht b8 k8=> ?_
 exact kk w ts G8 hw gw ht b8 (kall.trans k8)
theorem jYk {α β:Type} {p:α->Bool} {f:α->β}:∀l:List α,l.filterMap (fun r=>if p r=true then some (f r) else none)=(l.filter p).map f
 | []=>rfl
 | a::l=>by
  rw[lXi,lXe]
  by_cases h:p a=true
  ·rw[lJb h,lJb h,lJ6,jYk l]
  ·rw[lJa h,lJa h,jYk l]
theorem jYc:RdOk jQg jVe jV7:=by
 intro xs G Q h_;apply xe8 h_;clear h_;intro b U V a c ro M n h_;apply ae10 h_;clear h_;intro hb hn wU wV ha hc rob hro hM kk
 rw[show jVl jV7 [.ref b,encW U,.int (a:Nat),encW V,.int (c:Nat),.ref ro]=[some (.ref b),some (.tup (U.map encR)),some (.int (a:Nat)),some (.tup (V.map encR)),some (.int (c:Nat)),some (.ref ro),none,none,none,none,none,none,none,none,none] from rfl,qVj]
 have hs:=sz
 have hU1:=wU.2.1
 have hU2:=wU.2.2
 have hV1:=wV.2.1
 have hV2:=wV.2.2
 have huv:U.length*V.length<=5000:=lKb (lVx hU2 hV2) (by decide)
 have bm:b∈[b]:=lJn.mpr rfl
 wp_walk using 1,jJ2,jKc,List.length_map
 refine⟨U,V,a,c,rfl,wU.1,wV.1,ha,hc,huv,fun q L G1 hq hq1 rp s1=>⟨by omega,fun f hf=>⟨by omega,by omega,?_⟩⟩⟩
 obtain⟨hL1,hL,hlt⟩:=rp_few rp wU wV ha hc
 obtain⟨bo,hbo⟩:=hb.some
 have hqb:q≠b:=(jJe hbo hq).symm
 have b1:=hb.sub s1
 obtain⟨fb,_,gf,Lf,kf⟩:=jV1 (xs:=[]) (lv1 b1) hf
 have f0:G f=none:=s1.none hf
 have hqf:q≠f:=jJe hq1 hf
 have s2:Sub G (gup G1 f (.lst [])):=s1.trans (.new hf)
 have hq2:gup G1 f (.lst []) q=some (.lst (L.map encE)):=by rw[jJs hqf];exact hq1
 generalize gup G1 f (.lst [])=G2 at gf s2 hq2 ⊢
 rw[show ((U.length:Nat):Int).toNat=U.length by omega,jUn]
 let J:Nat->St3->Gp->Prop:=fun k τ G'=>∃(v8 v12:Option T) (F:List (Nat×Nat)),τ=[some (.ref b),some (.tup (U.map encR)),some (.int (a:Nat)),some (.tup (V.map encR)),some (.int (c:Nat)),some (.ref ro),some (.ref q),some (.ref f),v8,none,none,none,v12,none,none]/\G' f=some (.lst (F.map encE))/\F.length<=24*k/\G' q=some (.lst (L.map encE))/\Sub G G'
 refine⟨J,⟨none,none,[],rfl,gf,by simp,hq2,s2⟩,?_,?_,?_⟩
 ·intros;trivial
 ·intro k x τ G3 hx0 h_;apply xe3 h_;clear h_;intro v8 v12 F h_;apply ae4 h_;clear h_;intro i1 i2 i3 i4
  obtain⟨e,hx,rfl⟩:=jKz hx0
  obtain⟨hk,rfl⟩:k<U.length/\k=e:=by
   rw[lJg] at hx;obtain⟨q1,q2⟩:=hx;simp at q1 q2;exact⟨q1,q2⟩
  have hro3:=i4 _ _ hro
  have hk1:k<M.length:=by omega
  wp_walk using 1,jK1 i1,jKc,List.length_map
  refine⟨by omega,by omega,?_⟩
  rw[show ((V.length:Nat):Int).toNat=V.length by omega,jUn]
  refine jYm (fun r=>if decide (M[k]? =M[U.length+r]?)=true then some (encE (k,r)) else none) (by simp;omega) (fun _ _=>trivial) ?_ ?_
  ·intro j r hr G4 K K0 s4 hK hK0
   obtain⟨hj,rfl⟩:j<V.length/\j=r:=by
    rw[lJg] at hr;obtain⟨q1,q2⟩:=hr;simp at q1 q2;exact⟨q1,q2⟩
   have hj1:U.length+j<M.length:=by omega
   have g4:=s4 _ _ hro3
   wp_walk using 1,jJ6 g4,rEqA
   refine⟨_,by rw[atN,jJq,lJr,lJi hk1];rfl,?_⟩
   rw[lJe,show ((U.length:Nat):Int)+(j:Nat)=((U.length+j:Nat):Int) by omega]
   refine⟨_,by rw[atN,jJq,lJr,lJi hj1];rfl,_,jQ4 (a:=M[k]) (c:=M[U.length+j]),?_⟩
   have e:(M[k]? =M[U.length+j]?)↔M[k]=M[U.length+j]:=by rw[lJi hk1,lJi hj1,lQw]
   by_cases h:M[k]=M[U.length+j]
   ·rw[lJb (by simpa using h)]
    exact⟨by omega,hK _ _ (by rw[lJb (lJq (e.mpr h))];rfl) (.refl _)⟩
   ·rw[lJa (by simpa using h)]
    exact hK0 (by rw[lJa (by rw[lKs];exact fun z=>h (e.mp z))]) _ (.refl _)
  ·intro D G4 hD d4 s4
   rw[jYk (List.range V.length)] at d4
   have d4:G4 D=some (.lst (((List.range V.length).filter fun r=>decide (M[k]? =M[U.length+r]?)).map fun r=>encE (k,r))):=d4
   have hfl:=lXd (fun r=>decide (M[k]? =M[U.length+r]?)) (List.range V.length)
   rw[lK6] at hfl
   refine⟨f,D,_,_,rfl,rfl,s4 _ _ i1,d4,by rw[lJe,lJe];omega,?_⟩
   have hfD:f≠D:=jJe i1 hD
   refine⟨_,_,F++((List.range V.length).filter fun r=>decide (M[k]? =M[U.length+r]?)).map fun r=>(k,r),rfl,?_,?_,?_,(i4.trans s4).over f0⟩
   ·rw[jJh,lKw,lJw];rfl
   ·rw[lJv,lJe];omega
   ·rw[jJs hqf];exact s4 _ _ i3
 ·intro τ G3 h_;apply xe3 h_;clear h_;intro v8 v12 F h_;apply ae4 h_;clear h_;intro i1 i2 i3 i4
  rw[lJe,lK6] at i2
  have hF:F.length<=576:=by omega
  have b3:=lv1 (hb.sub i4)
  have k3:Keep b G G3:= .sub i4
  clear hq2 gf s2 hq1 hf hq
  show qKm _ _ _
  wp_walk using 1,qKm,jJm i3,List.length_map
  refine⟨b,_,n,rfl,b3.box,by omega,by omega,by omega,fun d G4 d0 d1 b4 k4=> ?_⟩
  obtain⟨d,rfl⟩:=lKj d0
  refine⟨b,_,_,rfl,b4,by omega,by omega,by omega,fun x G5 x0 x1 b5 k5=> ?_⟩
  refine⟨b,_,_,rfl,b5,by omega,by omega,by omega,fun y G6 y0 y1 b6 k6=>⟨by omega,?_⟩⟩
  have k36:=(k4.trans k5).trans k6
  refine pt5_ok b6 (by omega) wU wV hqb (k36 _ _ hqb i3) hL1 hL hlt fb (k36 _ _ fb i1) hF fun w ts G7 hw g7 ht b7 k7=> ?_
  exact kk w ts G7 hw g7 ht (b7.mono (by omega)) ((k3.trans k36).trans k7)
def qJ6:Sp3:=fun xs G Q=>∃ns:List Int,xs=[.scr (jQq ns)]/\ns.length<=63/\∀G',Q (.bl true) G'
noncomputable def uJ3:List Str:=["_law_script","_law_cells","_law_k","_law_box_here","_law_one","_law_a","_law_other","_law_b","_law_both_here","_law_row","_law_some","_law_thing","_law_handed","_law_place"]
noncomputable def qKn:TS3:=
 (tSeq (tAsg (jJo jU4 (jJa (tVar 0) (jJa (tC (.int 16)) tNil))) (jJg 1))
 (tSeq (tFor (jKc (jJa (tCB rMax (jJa (tC (.int 1)) (jJa (tCB rLen (jJa (tVar 1) tNil)) tNil))) tNil)) (jJg 2) (tSeq (tAsg (jJo jZs (jJa (tVar 1) (jJa (tVar 2) tNil))) (jJg 3))
 (tSeq (tAsg (jJo jZr (jJa (tVar 3) tNil)) (gTup 4 (jJx (jJg 4) (jJx (jJg 5) (jJx (jJg 6) (jJx (jJg 7) gNil))))))
 (tSeq (tAsg (jJo jX4 (jJa (tVar 4) (jJa (tVar 6) tNil))) (jJg 8))
 (tSeq (tAsg (tOp rIxF (jJo jU2 (jJa (tVar 8) (jJa (tLst tNil) (jJa (tCB rLen (jJa (tVar 8) tNil)) tNil)))) (tCB rLen (jJa (tVar 8) tNil))) (jJg 9))
 (tSeq (tAsg (jKp [false,false,false,false,false,false,false,false,false,false,false,false,false,true] (jKc (jJa (tCB rLen (jJa (tVar 6) tNil)) tNil)) (jJg 13) (jJ1 (tOp rEqD (tOp rIxF (tVar 9) (tOp jJt (tCB rLen (jJa (tVar 4) tNil)) (tVar 13))) (tOp rIxF (tVar 9) (tVar 5)))) (tVar 13)) (jJg 10))
 (tSeq (tIfS (tAnd (jJ1 (tOp rNeD (tVar 10) (tLst tNil))) (jJ1 (tOp rGt (jJo jJi (jJa (tVar 3) (jJa (tC (.int 4)) tNil))) (tC (.int 0))))) (tAsg (tOp rIxF (tVar 10) (jJo jJi (jJa (tVar 3) (jJa (tCB rLen (jJa (tVar 10) tNil)) tNil)))) (jJg 7)) jKl)
 (tFor (iSeq (jJo jQg (jJa (tVar 3) (jJa (tVar 4) (jJa (tVar 5) (jJa (tVar 6) (jJa (tVar 7) (jJa (tVar 9) tNil)))))))) (jJg 11) (tSeq (tAsg (tIf (jJ1 (tCB rIsi (jJa (tVar 11) (jJa (tC (.ty "list")) tNil)))) (tCB jVx (jJa (tVar 11) tNil)) (tVar 11)) (jJg 12))
 (tSeq (tIfS (tNot (jJ1 (jJo jVn (jJa (jJo jKw (jJa (tVar 4) (jJa (tVar 5) (jJa (tVar 6) (jJa (tVar 7) (jJa (tVar 12) tNil)))))) (jJa (jJo jKx (jJa (tVar 4) (jJa (tVar 5) (jJa (tVar 6) (jJa (tVar 7) (jJa (tVar 11) tNil)))))) tNil))))) (tRet (tC (.bl false))) jKl)
 (tIfS (jJ1 (tOp rNeD (tVar 12) (tVar 11))) (tRet (tC (.bl false))) jKl)))))))))))
 (tRet (tC (.bl true)))))
noncomputable def qZg:TS3:=(tFor (iSeq (jJo jQg (jJa (tVar 3) (jJa (tVar 4) (jJa (tVar 5) (jJa (tVar 6) (jJa (tVar 7) (jJa (tVar 9) tNil)))))))) (jJg 11) (tSeq (tAsg (tIf (jJ1 (tCB rIsi (jJa (tVar 11) (jJa (tC (.ty "list")) tNil)))) (tCB jVx (jJa (tVar 11) tNil)) (tVar 11)) (jJg 12))
 (tSeq (tIfS (tNot (jJ1 (jJo jVn (jJa (jJo jKw (jJa (tVar 4) (jJa (tVar 5) (jJa (tVar 6) (jJa (tVar 7) (jJa (tVar 12) tNil)))))) (jJa (jJo jKx (jJa (tVar 4) (jJa (tVar 5) (jJa (tVar 6) (jJa (tVar 7) (jJa (tVar 11) tNil)))))) tNil))))) (tRet (tC (.bl false))) jKl)
 (tIfS (jJ1 (tOp rNeD (tVar 12) (tVar 11))) (tRet (tC (.bl false))) jKl))))
noncomputable def qZh:TS3:=tSeq (tAsg (jKp [false,false,false,false,false,false,false,false,false,false,false,false,false,true] (jKc (jJa (tCB rLen (jJa (tVar 6) tNil)) tNil)) (jJg 13) (jJ1 (tOp rEqD (tOp rIxF (tVar 9) (tOp jJt (tCB rLen (jJa (tVar 4) tNil)) (tVar 13))) (tOp rIxF (tVar 9) (tVar 5)))) (tVar 13)) (jJg 10)) (tSeq (tIfS (tAnd (jJ1 (tOp rNeD (tVar 10) (tLst tNil))) (jJ1 (tOp rGt (jJo jJi (jJa (tVar 3) (jJa (tC (.int 4)) tNil))) (tC (.int 0))))) (tAsg (tOp rIxF (tVar 10) (jJo jJi (jJa (tVar 3) (jJa (tCB rLen (jJa (tVar 10) tNil)) tNil)))) (jJg 7)) jKl) qZg)
theorem qZf:qKn=tSeq (tAsg (jJo jU4 (jJa (tVar 0) (jJa (tC (.int 16)) tNil))) (jJg 1)) (tSeq (tFor (jKc (jJa (tCB rMax (jJa (tC (.int 1)) (jJa (tCB rLen (jJa (tVar 1) tNil)) tNil))) tNil)) (jJg 2) (tSeq (tAsg (jJo jZs (jJa (tVar 1) (jJa (tVar 2) tNil))) (jJg 3)) (tSeq (tAsg (jJo jZr (jJa (tVar 3) tNil)) (gTup 4 (jJx (jJg 4) (jJx (jJg 5) (jJx (jJg 6) (jJx (jJg 7) gNil)))))) (tSeq (tAsg (jJo jX4 (jJa (tVar 4) (jJa (tVar 6) tNil))) (jJg 8)) (tSeq (tAsg (tOp rIxF (jJo jU2 (jJa (tVar 8) (jJa (tLst tNil) (jJa (tCB rLen (jJa (tVar 8) tNil)) tNil)))) (tCB rLen (jJa (tVar 8) tNil))) (jJg 9)) qZh))))) (tRet (tC (.bl true)))):=rfl
variable {D':Ends3}{pc ro:Addr}{ms:List Int}{v0 v2 v8 v10 v11 v12 v13:Option T}
theorem qYz {V:Web}{M:List Nat}(hp:G pc=some (.lst (jQq ms)))(pb:pc≠b)(rob:ro≠b)(hb:BoxAt G b n)(hn:n+300<2^40)(hro:G ro=some (.lst (jJq M)))(hM:U.length+V.length<=M.length)(wU:W1 U)(wV:W1 V)(ha:a<U.length)(hc:c<V.length)(kk:∀v11 v12 G',G' pc=some (.lst (jQq ms))->D'.nx [v0,some (.ref pc),v2,some (.ref b),some (encW U),some (.int (a:Nat)),some (encW V),some (.int (c:Nat)),v8,some (.ref ro),v10,v11,v12,v13] G'):
  qZg D' [v0,some (.ref pc),v2,some (.ref b),some (encW U),some (.int (a:Nat)),some (encW V),some (.int (c:Nat)),v8,some (.ref ro),v10,v11,v12,v13] G:=by
 have hs:=sz
 wp_walk using 1,qZg,jJ2,iSeq,jVx,jXt,rIsi,rNeD
 refine⟨b,U,V,a,c,ro,M,n,rfl,hb,by omega,wU,wV,ha,hc,rob,hro,hM,fun q2 ts G5 q2b hq2 ht b5 k5=>⟨ts,jJm hq2,?_⟩⟩
 let J3:Nat->St3->Gp->Prop:=fun m τ G'=>∃v11 v12:Option T,τ=[v0,some (.ref pc),v2,some (.ref b),some (encW U),some (.int (a:Nat)),some (encW V),some (.int (c:Nat)),v8,some (.ref ro),v10,v11,v12,v13]/\Sub G5 G'
 refine⟨J3,⟨_,_,rfl,.refl _⟩,?_,?_,?_⟩
 ·intro m τ G' hm h_;apply xe2 h_;clear h_;intro v11 v12 h
  exact jJm (h _ _ hq2)
 ·intro m z τ G6 hz h_;apply xe2 h_;clear h_;intro v11 v12 h6
  obtain⟨d,hd,okd,hdl⟩:=ht z (lJt hz)
  have hd6:=jKs h6 (jKs qYp hd)
  have fin:∀(hx:T) (G7:Gp),RdG G7 hx d->Sub G6 G7->jKw [encW U,.int (a:Nat),encW V,.int (c:Nat),hx] G7 fun x G1=>jKx [encW U,.int (a:Nat),encW V,.int (c:Nat),z] G1 fun y G2=>jVn [x,y] G2 fun w G3=>∃bb,w= .bl bb/\if bb=false then D'.rt (.bl false) G3 else ∃dx,RdG G3 hx dx/\∃dy,RdG G3 z dy/\dx.canLay0=true/\dy.canLay0=true/\dx.depth<=50/\if PyData.eqv dx dy=false then D'.rt (.bl false) G3 else J3 (m+1) [v0,some (.ref pc),v2,some (.ref b),some (encW U),some (.int (a:Nat)),some (encW V),some (.int (c:Nat)),v8,some (.ref ro),v10,some z,some hx,v13] G3:=by
   intro hx G7 h7 s7
   refine⟨U,V,a,c,hx,d,rfl,h7,hdl,fun G8 s8=> ?_⟩
   refine⟨U,V,a,c,z,d,rfl,wU.1,wV.1,jKs (s7.trans s8) hd6,hdl,fun G9 s9=>⟨_,rfl,fun G10 s10=>⟨true,rfl,?_⟩⟩⟩
   rw[lJa (by decide)]
   have s710:=(s8.trans s9).trans s10
   refine⟨d,jKs s710 h7,d,jKs (s7.trans s710) hd6,okd.lay,okd.lay,lKb okd.dep (by decide),?_⟩
   rw[kZe hd,lJa (by decide)]
   exact⟨_,_,rfl,h6.trans (s7.trans s710)⟩
  obtain⟨i1,i2⟩:=uJc hd6
  wp_walk using 1,jXt,rIsi,rNeD,i1
  by_cases e:isL d=true
  ·obtain⟨xs,ds,h1,rfl,h2⟩:=i2 e
   rw[lJb e]
   exact⟨xs,h1,fun p hp=>fin (.ref p) _ (.lst jJh (jZv (.new hp) h2)) (.new hp)⟩
  ·rw[lJa e]
   exact fin z G6 hd6 (.refl _)
 ·intro τ G6 h_;apply xe2 h_;clear h_;intro v11 v12 h6
  exact kk _ _ G6 (h6 _ _ (k5 _ _ pb hp))
theorem uJm (q:Q (.bl (decide (a=c))) G):rEqD (.int (a:Nat)) (.int (c:Nat)) G Q:=by
 refine⟨_,_,.int _,.int _,rfl,rfl,by simp[PyData.depth],?_⟩
 have:PyData.eqv (.int ((a:Nat):Int)) (.int ((c:Nat):Int))=decide (a=c):=by
  simp only[PyData.eqv]
  by_cases h:a=c
  ·subst h;simp
  ·rw[lJk h]
   simp;omega
 rw[this];exact q
theorem rd_ns {G:Gp}:∀F:List Nat,RdGs G (jJq F) (F.map fun n:Nat=>PyData.int (n:Int))
 | []=> .nil
 | x::F=> .cons (.int _) (rd_ns F)
theorem kY2:∀F:List Nat,PyData.canLayAll0 (F.map fun n:Nat=>PyData.int (n:Int))=true/\PyData.depthAll (F.map fun n:Nat=>PyData.int (n:Int))<=0
 | []=>⟨by simp[PyData.canLayAll0],by simp[PyData.depthAll]⟩
 | x::F=>⟨by rw[lJ6,PyData.canLayAll0,(kY2 F).1];rfl,by rw[lJ6,PyData.depthAll];have:=(kY2 F).2;simp[PyData.depth];omega⟩
theorem qZv {F:List Nat}(h1:G p=some (.lst (jJq F)))(h2:G q=some (.lst []))(k:Q (.bl (!F.isEmpty)) G):rNeD (.ref p) (.ref q) G Q:=by
 refine⟨_,_,.lst h1 (rd_ns F),.lst h2 .nil,by rw[PyData.canLay0];exact (kY2 F).1,rfl,by rw[PyData.depth];have:=(kY2 F).2;omega,?_⟩
 have:PyData.eqv (.list (F.map fun n:Nat=>PyData.int (n:Int))) (.list [])=F.isEmpty:=by cases F<;>rfl
 rw[this];exact k
theorem w4_ok {V:Web}{M:List Nat}(hp:G pc=some (.lst (jQq ms)))(pb:pc≠b)(rob:ro≠b)(hb:BoxAt G b n)(hn:n+310<2^40)(hro:G ro=some (.lst (jJq M)))(hM:U.length+V.length<=M.length)(wU:W1 U)(wV:W1 V)(ha:a<U.length)(hc:c<V.length)(kk:∀v7 v10 v11 v12 G',G' pc=some (.lst (jQq ms))->D'.nx [v0,some (.ref pc),v2,some (.ref b),some (encW U),some (.int (a:Nat)),some (encW V),v7,v8,some (.ref ro),v10,v11,v12,v13] G'):
  qZh D' [v0,some (.ref pc),v2,some (.ref b),some (encW U),some (.int (a:Nat)),some (encW V),some (.int (c:Nat)),v8,some (.ref ro),v10,v11,v12,v13] G:=by
 have hs:=sz
 have hV2:=wV.2.2
 have hU2:=wU.2.2
 have ha1:a<M.length:=by omega
 have eU:encW U= .tup (U.map encR):=rfl
 have eV:encW V= .tup (V.map encR):=rfl
 rw[eU,eV]
 wp_walk using 1,qZh,jKc,List.length_map
 refine⟨by omega,by omega,?_⟩
 rw[show ((V.length:Nat):Int).toNat=V.length by omega,jUn]
 refine jYm (fun r=>if decide (M[U.length+r]? =M[a]?)=true then some (T.int (r:Nat)) else none) (by simp;omega) (fun _ _=>trivial) ?_ ?_
 ·intro j r hr G4 K K0 s4 hK hK0
  obtain⟨hj,rfl⟩:j<V.length/\j=r:=by
   rw[lJg] at hr;obtain⟨q1,q2⟩:=hr;simp at q1 q2;exact⟨q1,q2⟩
  have hj1:U.length+j<M.length:=by omega
  have g4:=s4 _ _ hro
  wp_walk using 1,jJ6 g4,List.length_map
  rw[show ((U.length:Nat):Int)+(j:Nat)=((U.length+j:Nat):Int) by omega]
  refine⟨_,by rw[atN,jJq,lJr,lJi hj1];rfl,_,by rw[atN,jJq,lJr,lJi ha1];rfl,?_⟩
  refine uJm (a:=M[U.length+j]) (c:=M[a]) ⟨_,rfl,?_⟩
  have e:(M[U.length+j]? =M[a]?)↔M[U.length+j]=M[a]:=by rw[lJi ha1,lJi hj1,lQw]
  by_cases h:M[U.length+j]=M[a]
  ·rw[lJb (by simpa using h)]
   exact hK _ _ (by rw[lJb (lJq (e.mpr h))]) (.refl _)
  ·rw[lJa (by simpa using h)]
   exact hK0 (by rw[lJa (by rw[lKs];exact fun z=>h (e.mp z))]) _ (.refl _)
 ·intro D G1 hD d1 s1
  rw[jYk (List.range V.length)] at d1
  obtain⟨F,hF,hFl⟩:∃F:List Nat,((List.range V.length).filter fun r=>decide (M[U.length+r]? =M[a]?))=F/\(∀x,x∈F->x<V.length):=⟨_,rfl,fun x hx=>lQs.mp (lVn.mp hx).1⟩
  have hfl:=lXd (fun r=>decide (M[U.length+r]? =M[a]?)) (List.range V.length)
  rw[hF,lK6] at hfl
  rw[hF] at d1
  have d1:G1 D=some (.lst (jJq F)):=d1
  wp_walk using 1,tSeq
  refine⟨by omega,fun p hp1=> ?_⟩
  have hDp:=jJe d1 hp1
  have gp:gup G1 p (.lst []) p=some (.lst []):=jJh
  have d2:gup G1 p (.lst []) D=some (.lst (jJq F)):=by rw[jJs hDp];exact d1
  have s2:Sub G (gup G1 p (.lst [])):=s1.trans (.new hp1)
  generalize gup G1 p (.lst [])=G2 at gp d2 s2 ⊢
  have b2:=hb.sub s2
  obtain⟨bo,hbo⟩:=hb.some
  have hDb:D≠b:=(jJe hbo hD).symm
  refine qZv d2 gp ⟨_,rfl,?_⟩
  cases hF0:F.isEmpty with
  | true=>
   rw[lJa (by decide)]
   rw[<-eU,<-eV]
   exact qYz (n:=n) (s2 _ _ hp) pb rob b2 (by omega) (s2 _ _ hro) hM wU wV ha hc fun _ _ G' h=>kk _ _ _ _ G' h
  | false=>
   have hF1:1<=F.length:=by cases F with
    | nil=>cases hF0
    | cons _ _=>simp
   rw[lJb (by decide)]
   refine⟨b,_,n,rfl,b2,by omega,by omega,by omega,fun t G3 t0 t1 b3 k3=>⟨t,rfl,?_⟩⟩
   have d3:=k3 _ _ hDb d2
   by_cases ht:0<t
   rotate_left
   ·rw[lJa ht,<-eU,<-eV]
    exact qYz (n:=n+1) (k3 _ _ pb (s2 _ _ hp)) pb rob b3 (by omega) (k3 _ _ rob (s2 _ _ hro)) hM wU wV ha hc fun _ _ G' h=>kk _ _ _ _ G' h
   rw[lJb ht]
   refine⟨_,jJm d3,?_⟩
   have hil:(jJq F).length=F.length:=by simp[jJq]
   rw[hil]
   refine⟨b,_,_,rfl,b3,by omega,by omega,by omega,fun u G4 u0 u1 b4 k4=> ?_⟩
   obtain⟨u,rfl⟩:=lKj u0
   have hu:u<F.length:=by omega
   have hc2:=hFl _ (lVk hu)
   refine⟨T.int (F[u]:Nat),by rw[jJ6 (k4 _ _ hDb d3),atN,jJq,lJr,lJi hu];rfl,?_⟩
   rw[<-eU,<-eV]
   exact qYz (n:=n+1+1) (k4 _ _ pb (k3 _ _ pb (s2 _ _ hp))) pb rob b4 (by omega) (k4 _ _ rob (k3 _ _ rob (s2 _ _ hro))) hM wU wV ha hc2 fun _ _ G' h=>kk _ _ _ _ G' h
theorem qVh:RdOk qJ6 qKn uJ3:=by
 intro xs G Q h_;apply xe1 h_;clear h_;intro ns h_;apply ae2 h_;clear h_;intro hns kk
 rw[show jVl uJ3 [.scr (jQq ns)]=[some (.scr (jQq ns)),none,none,none,none,none,none,none,none,none,none,none,none,none] from rfl,qZf]
 have hs:=sz
 wp_walk using 1,jJ2,jKc,iSeq,rMax
 refine⟨ns,16,rfl,hns,by decide,by decide,fun pc G1 ms hpc hpc1 hm1 hm2 s1=> ?_⟩
 refine⟨_,jJm hpc1,by split<;>omega,by simp only[lJe];split<;>omega,?_⟩
 let J1:Nat->St3->Gp->Prop:=fun k τ G'=>∃(v2 v3 v4 v5 v6 v7 v8 v9 v10 v11 v12 v13:Option T),τ=[some (.scr (jQq ns)),some (.ref pc),v2,v3,v4,v5,v6,v7,v8,v9,v10,v11,v12,v13]/\G' pc=some (.lst (jQq ms))
 refine⟨J1,?_,?_,?_,?_⟩
 ·exact⟨_,_,_,_,_,_,_,_,_,_,_,_,rfl,hpc1⟩
 ·intros;trivial
 ·intro k x τ G2 hx h_;apply xe12 h_;clear h_;intro v2 v3 v4 v5 v6 v7 v8 v9 v10 v11 v12 v13 hp2
  have hk:k<63/\x= .int (k:Nat):=by
   obtain⟨z1,z2⟩:=jQ9 hx
   refine⟨?_,z2⟩
   rw[lJe] at z1
   split at z1<;>omega
  obtain⟨hk,rfl⟩:=hk
  wp_walk using 1,tSeq
  refine⟨pc,ms,k,rfl,hp2,hm2,by omega,by omega,fun b G3 hb3 bx3 s3=> ?_⟩
  have hpb:=jJe hp2 hb3
  refine⟨b,0,rfl,bx3,by decide,fun p q G4 wp wq bx4 k4=> ?_⟩
  obtain⟨U,a⟩:=p
  obtain⟨V,c⟩:=q
  have wU:W1 U:=⟨wp.1,wp.2.1,wp.2.2.1⟩
  have wV:W1 V:=⟨wq.1,wq.2.1,wq.2.2.1⟩
  have ha:a<U.length:=wp.2.2.2
  have hc:c<V.length:=wq.2.2.2
  have hU2:=wU.2.2
  have hV2:=wV.2.2
  have hp4:=k4 _ _ hpb (s3 _ _ hp2)
  have hBl:(both U V).length=U.length+V.length:=kUg
  wp_walk using 1,tSeq
  refine⟨U,V,rfl,wU.1.len,wV.1.len,wV.1.row,fun lb G5 hlb5 hlb s5=>⟨by omega,fun le hle=> ?_⟩⟩
  have hlbe:lb≠le:=jJe hlb hle
  have lbG:(gup G5 le (GO.lst [])) lb=some (.lst ((both U V).map encR)):=by rw[jJs hlbe];exact hlb
  have leG:(gup G5 le (GO.lst [])) le=some (.lst []):=jJh
  have s6:Sub G4 (gup G5 le (GO.lst [])):=s5.trans (.new hle)
  generalize gup G5 le (GO.lst [])=G6 at lbG leG s6 ⊢
  refine⟨_,jJm lbG,both U V,lb,le,(both U V).length,by rw[lJe],lbG,leG,qQ1 wU.1 wV.1 (by omega),by omega,fun q rs G7 hq hrs R s7=>⟨_,jJm (s7 _ _ lbG),?_⟩⟩
  have hrl:rs.length=(both U V).length+1:=by rw[R.2.1,lJe,lK6]
  have hn:(both U V).length<rs.length:=by omega
  obtain⟨row,e1,e2⟩:=R.2.2 _ _ (lJi hn)
  rw[lJr,lQv (by omega)] at e1
  cases e1
  have s47:=s6.trans s7
  have b7:=bx4.sub s47
  obtain⟨bo4,hbo4⟩:=bx4.some
  have hrG:G4 rs[(both U V).length]=none:=s6.none (hrs _ (lVk hn))
  have hrb:rs[(both U V).length]≠b:=(jJe hbo4 hrG).symm
  refine⟨.ref rs[(both U V).length],by rw[jJ6 R.1,lJe,atN,lJr,lJi hn];rfl,?_⟩
  exact w4_ok (n:=0+3000) (s47 _ _ hp4) hpb hrb b7 (by omega) e2 (by rw[jYh];omega) wU wV ha hc fun _ _ _ _ G' h=>⟨_,_,_,_,_,_,_,_,_,_,_,_,rfl,h⟩
 ·intro τ G2 h_;apply xe12 h_;clear h_;intro v2 v3 v4 v5 v6 v7 v8 v9 v10 v11 v12 v13 h2
  wp_walk using 1,tSeq
  exact kk _
end W
namespace W
open PySem PySem.Spec PyProof.Rows L2 L3
theorem ln1 {α:Type}{us:List α}{C:List α->Prop}(h:us.length=1)(k:∀a0,C [a0]):C us:=by
 obtain⟨a0,us,rfl⟩:=lKk h
 replace h:=lKe h
 cases lQk.mp h
 exact k a0
theorem ln2 {α:Type}{us:List α}{C:List α->Prop}(h:us.length=2)(k:∀a0 a1,C [a0,a1]):C us:=by
 obtain⟨a0,us,rfl⟩:=lKk h
 replace h:=lKe h
 obtain⟨a1,us,rfl⟩:=lKk h
 replace h:=lKe h
 cases lQk.mp h
 exact k a0 a1
theorem ln3 {α:Type}{us:List α}{C:List α->Prop}(h:us.length=3)(k:∀a0 a1 a2,C [a0,a1,a2]):C us:=by
 obtain⟨a0,us,rfl⟩:=lKk h
 replace h:=lKe h
 obtain⟨a1,us,rfl⟩:=lKk h
 replace h:=lKe h
 obtain⟨a2,us,rfl⟩:=lKk h
 replace h:=lKe h
 cases lQk.mp h
 exact k a0 a1 a2
theorem ln4 {α:Type}{us:List α}{C:List α->Prop}(h:us.length=4)(k:∀a0 a1 a2 a3,C [a0,a1,a2,a3]):C us:=by
 obtain⟨a0,us,rfl⟩:=lKk h
 replace h:=lKe h
 obtain⟨a1,us,rfl⟩:=lKk h
 replace h:=lKe h
 obtain⟨a2,us,rfl⟩:=lKk h
 replace h:=lKe h
 obtain⟨a3,us,rfl⟩:=lKk h
 replace h:=lKe h
 cases lQk.mp h
 exact k a0 a1 a2 a3
theorem ln5 {α:Type}{us:List α}{C:List α->Prop}(h:us.length=5)(k:∀a0 a1 a2 a3 a4,C [a0,a1,a2,a3,a4]):C us:=by
 obtain⟨a0,us,rfl⟩:=lKk h
 replace h:=lKe h
 obtain⟨a1,us,rfl⟩:=lKk h
 replace h:=lKe h
 obtain⟨a2,us,rfl⟩:=lKk h
 replace h:=lKe h
 obtain⟨a3,us,rfl⟩:=lKk h
 replace h:=lKe h
 obtain⟨a4,us,rfl⟩:=lKk h
 replace h:=lKe h
 cases lQk.mp h
 exact k a0 a1 a2 a3 a4
theorem ln6 {α:Type}{us:List α}{C:List α->Prop}(h:us.length=6)(k:∀a0 a1 a2 a3 a4 a5,C [a0,a1,a2,a3,a4,a5]):C us:=by
 obtain⟨a0,us,rfl⟩:=lKk h
 replace h:=lKe h
 obtain⟨a1,us,rfl⟩:=lKk h
 replace h:=lKe h
 obtain⟨a2,us,rfl⟩:=lKk h
 replace h:=lKe h
 obtain⟨a3,us,rfl⟩:=lKk h
 replace h:=lKe h
 obtain⟨a4,us,rfl⟩:=lKk h
 replace h:=lKe h
 obtain⟨a5,us,rfl⟩:=lKk h
 replace h:=lKe h
 cases lQk.mp h
 exact k a0 a1 a2 a3 a4 a5
noncomputable def top (i:Nat):Stmt:=PySem.Challenge.pw_stonewalker_k14_pairings_shown.main.body.getD i (.Pass ⟨0,0,0,0⟩)
def FnAt (K:PySem.W.Frag)(mg:Str->Option Value)(x:Str)(i:Nat):Prop:=∃f fd,mg x=some (.ref f)/\Fun K x x (top i) f fd
structure Txt (K:PySem.W.Frag) (mg:Str->Option Value):Prop where
 n_abs:mg "abs"=none
 n_all:mg "all"=none
 n_bool:mg "bool"=none
 n_divmod:mg "divmod"=none
 n_enumerate:mg "enumerate"=none
 n_int:mg "int"=none
 n_isinstance:mg "isinstance"=none
 n_len:mg "len"=none
 n_list:mg "list"=none
 n_max:mg "max"=none
 n_min:mg "min"=none
 n_range:mg "range"=none
 n_sorted:mg "sorted"=none
 n_str:mg "str"=none
 n_tuple:mg "tuple"=none
 n_zip:mg "zip"=none
 f_is_number:FnAt K mg "is_number" 1
 f_is_number_of_room:FnAt K mg "is_number_of_room" 2
 f_is_pair:FnAt K mg "is_pair" 4
 f_is_kept:FnAt K mg "is_kept" 5
 f_shows_pairing:FnAt K mg "shows_pairing" 6
 f_l_box:FnAt K mg "_law_box" 8
 f_l_take:FnAt K mg "_law_take" 9
 f_l_folded:FnAt K mg "_law_folded" 10
 f_l_joined:FnAt K mg "_law_joined" 11
 f_l_doors_put:FnAt K mg "_law_doors_put" 12
 f_l_web:FnAt K mg "_law_web" 13
 f_l_ring:FnAt K mg "_law_ring" 14
 f_l_ends:FnAt K mg "_law_ends" 15
 f_l_reached:FnAt K mg "_law_reached" 16
 f_l_sheeted:FnAt K mg "_law_sheeted" 17
 f_l_turn:FnAt K mg "_law_turn" 18
 f_l_covered:FnAt K mg "_law_covered" 19
 f_l_any_web:FnAt K mg "_law_any_web" 20
 f_l_renamed:FnAt K mg "_law_renamed" 21
 f_l_line:FnAt K mg "_law_line" 22
 f_l_turned_line:FnAt K mg "_law_turned_line" 23
 f_l_lines:FnAt K mg "_law_lines" 24
 f_l_two:FnAt K mg "_law_two" 25
 f_l_both:FnAt K mg "_law_both" 26
 f_l_rounds:FnAt K mg "_law_rounds" 27
 f_l_says:FnAt K mg "_law_says" 28
 f_l_odd:FnAt K mg "_law_odd" 29
 f_l_pairs_from:FnAt K mg "_law_pairs_from" 30
 f_l_is_int:FnAt K mg "_law_is_int" 32
 f_l_shown_pairs:FnAt K mg "_law_shown_pairs" 31
 f_l_bent_pairs:FnAt K mg "_law_bent_pairs" 33
 f_l_pair_things:FnAt K mg "_law_pair_things" 34
 f_law:FnAt K mg "law" 35
variable {w:World}{K:PySem.W.Frag}{mg:Str->Option Value}
variable {P:Program}{base:Heap}
variable {x:Str}{i:Nat}
theorem cal3 {k:Nat}{N ps:List Str}{sp:Sp3}{t:TS3}(F:FnAt K mg x i)(h:∀xs G Q,sp xs G Q->t {nx:=fun _ G'=>Q .non G',rt:=Q} (jVl N xs) G)(d:∀(f:Addr) (cdv:Value) (A:Around) (outer:List Env) (s:Shared) (H:Hp) (E:XK),Room k (A.deeper (envOfC x (jKj (top i)) s.heap.objs.size f cdv))->(A.deeper (envOfC x (jKj (top i)) s.heap.objs.size f cdv)).units+20<cLine->N.Nodup->PSs3 (cxOf CX0 P w K mg base N x (jKj (top i)) f cdv A outer s H E).nox (jVb (top i)) t)(S:FnScope N ps (jKj (top i)):=by exact⟨rfl,rfl,rfl,by decide +kernel,rfl,by decide +kernel,by decide +kernel⟩)(b:∀(kV doc pm:Value) (an:Option Addr) (cdv ct:Value) (us:List Value),us.length=ps.length->bindArgs (PySem.W.fnOf x x (jY8 (top i)) (jVb (top i)) (jKj (top i)) .none kV doc pm an cdv ct) ⟨us,[]⟩=pure (ps.zip us):=by (intro _ _ _ _ _ _ us hl;first | (apply ln1 hl;intros;rfl) | (apply ln2 hl;intros;rfl) | (apply ln3 hl;intros;rfl) | (apply ln4 hl;intros;rfl) | (apply ln5 hl;intros;rfl) | (apply ln6 hl;intros;rfl)))(m:Mono sp:=by (intro xs G Q Q' hq;(repeat' (first | (refine Exists.imp fun _=> ?_) | (refine And.imp_right ?_)));intro k;intros;apply hq;apply k<;>assumption))(n:∀xs G Q,sp xs G Q->xs.length=ps.length:=by (intro xs G Q h;repeat (first | exact (lKa List.length h.1).trans rfl | obtain⟨_,h⟩:=h))):Cal P w K mg base (k+1) x ps sp:=by
 obtain⟨f,fd,a,F⟩:=F
 exact⟨⟨f,fd,fn3 F S fun cdv A outer s H E hr=>⟨t,d f cdv A outer s H E hr (hu_of hr) S.nd,h⟩,a,F.kp,F.binds b⟩,m,n⟩
theorem kU6 (T:Txt K mg):Cal P w K mg base 1 "is_number" ["thing"] jUm:=
 cal3 T.f_is_number kKj fun _ _ _ _ _ _ _ hr hu nd=>
  (jJk (jKd (qJo (jJn kKp (by rfl) T.n_isinstance rfl (jJb (jJc 0) (jJb (e_ty rfl T.n_int rfl) jJd))) (qJn (e_not (jJn kKp (by rfl) T.n_isinstance rfl (jJb (jJc 0) (jJb (e_ty rfl T.n_bool rfl) jJd))))))))
theorem jQ7 (T:Txt K mg):Cal P w K mg base 2 "is_number_of_room" ["web","thing"] jKq:=
 cal3 T.f_is_number_of_room jVg fun _ _ _ _ _ _ _ hr hu nd=>
  (jJk (jKd (qJo (jJy (kU6 T) (hr.mono (by decide)) (jJb (jJc 1) jJd)) (qJn (uJp (qK8 hu) o_lt jJj (jJc 1) (jJn jKk (by rfl) T.n_len lJo (jJb (jJc 0) jJd)))))))
theorem kZ8 (T:Txt K mg):Cal P w K mg base 3 "is_pair" ["one","other","thing"] jYs:=
 cal3 T.f_is_pair kUv fun _ _ _ _ _ _ _ hr hu nd=>
  (jJf (s_if (PW3.pt (w_or (kKc (kQd (jJn kKp (by rfl) T.n_isinstance rfl (jJb (jJc 2) (jJb (jJ4 (jJb (e_ty rfl T.n_tuple rfl) (jJb (e_ty rfl T.n_list rfl) jJd))) jJd))))) (qJw (jK6 (qJb hr.units) (jJn jKk (by rfl) T.n_len lJo (jJb (jJc 2) jJd)) jJj (jJv _))))) (jJk (jKd e_bl)) jKn)
   (jJk (jKd (qJo (jJy (jQ7 T) (hr.mono (by decide)) (jJb (jJc 0) (jJb (e_ix (ix_F hu) (jJc 2) jJj (fun _ _=>rfl)) jJd))) (qJn (jJy (jQ7 T) (hr.mono (by decide)) (jJb (jJc 1) (jJb (e_ix (ix_F hu) (jJc 2) jJj (fun _ _=>rfl)) jJd))))))))
theorem kZ9 (T:Txt K mg):Cal P w K mg base 1 "is_kept" ["left_ends","right_ends","known"] jYt:=
 cal3 T.f_is_kept kUw fun _ _ _ _ _ _ _ hr hu nd=>
  (jJf (s_if (jK6 (qJb hr.units) (jJn jKk (by rfl) T.n_len lJo (jJb (jJc 0) jJd)) (jJn jKk (by rfl) T.n_len lJo (jJb (jJc 1) jJd)) (jJv _)) (jJk (jKd e_bl)) jKn)
   (jJf (jQa lJz rfl (uJg rfl T.n_zip rfl (jJb (jJc 0) (jJb (jJc 1) jJd))) (jQx rfl (jJr (jJl (i:=3) nd) (jJr (jJl (i:=4) nd) jKu))) (jJk (s_if (PW3.pt (w_or (jK6 (qJb hr.units) (e_ix (ix_F hu) (jJc 3) jJj (fun _ _=>rfl)) (e_ix (ix_F hu) (jJc 4) jJj (fun _ _=>rfl)) (jJv _)) (qJw (jK6 (jYe hu) (jJ4 (jJb (e_ix (ix_F hu) (jJc 3) jJj (fun _ _=>rfl)) (jJb (e_ix (ix_F hu) (jJc 4) jJj (fun _ _=>rfl)) jJd))) (jJc 2) (jJv _))))) (jJk (jKd e_bl)) jKn)))
   (jJk (jKd e_bl))))
theorem jZh (T:Txt K mg):Cal P w K mg base 4 "shows_pairing" ["one","a","other","b","pairs"] jKw:=
 cal3 T.f_shows_pairing jX9 fun _ _ _ _ _ _ _ hr hu nd=>
  (jJf (s_if (PW3.pt (w_or (kKc (kQd (jJn kKp (by rfl) T.n_isinstance rfl (jJb (jJc 4) (jJb (jJ4 (jJb (e_ty rfl T.n_tuple rfl) (jJb (e_ty rfl T.n_list rfl) jJd))) jJd))))) (qJw (kKc (kQd (jJn (qXw rfl) (by rfl) T.n_all rfl (jJb (jQr (mask:=[false,false,false,false,false,false,false,true]) rfl ⟨rfl,rfl,rfl,rfl,rfl,rfl,rfl⟩ (jQu (jJc 4)) jJw (fun C fp s H=>(jJl (i:=7) nd)) (fun C fp s H=>jKy) (fun C fp s H=>(jJy (kZ8 T) (hr.mono (by decide)) (jJb (jJc 0) (jJb (jJc 2) (jJb (jJc 7) jJd)))))) jJd))))))) (jJk (jKd e_bl)) jKn)
   (jJf (jJ3 (i:=5) nd qUb)
   (jJf (jQa lJz rfl (jQu (jJc 4)) (jJl (i:=6) nd) (jJk (jVf e_bl (jXx (jJc 5) (jJ0 jK5 (by rfl) T.n_tuple rfl (jJb (jJc 6) jJd)) (s_F hu)))))
   (jJk (jKd (qJo (kUa (qK9 hu) (jJ4 (jJb (jJc 1) (jJb (jJc 3) jJd))) (jJc 5) (jJv _)) (qJn (jJn (qXw rfl) (by rfl) T.n_all rfl (jJb (jQr (mask:=[false,false,false,false,false,false,true,false]) rfl ⟨rfl,rfl,rfl,rfl,rfl,rfl,rfl⟩ (i_fd (jJc 5)) jJw (fun C fp s H=>(jJl (i:=6) nd)) (fun C fp s H=>jKy) (fun C fp s H=>(jJy (kZ9 T) (hr.mono (by decide)) (jJb (e_ix (ix_F hu) (jJc 0) (e_ix (ix_F hu) (jJc 6) jJj (fun _ _=>rfl)) (fun _ _=>rfl)) (jJb (e_ix (ix_F hu) (jJc 2) (e_ix (ix_F hu) (jJc 6) jJj (fun _ _=>rfl)) (fun _ _=>rfl)) (jJb (jJc 5) jJd)))))) jJd)))))))))
theorem qVs (T:Txt K mg):Cal P w K mg base 1 "_law_box" ["_law_script","_law_k"] jZs:=
 cal3 T.f_l_box kZ5 fun _ _ _ _ _ _ _ hr hu nd=>
  (jJf (jJ3 (i:=2) nd (e_ix (ix_F hu) (e_op jJu (jJc 0) (e_op jUg (jKe (jJb jJj jJd)) (e_op jJu (jJc 1) jJj))) (jJc 1) (fun _ _=>rfl)))
   (jJk (jKd (jKe (jJb (e_op jUg (jJn c_abs (by rfl) T.n_abs rfl (jJb (jJc 2) jJd)) (jJ0 qXu (by rfl) T.n_int rfl (jJb (kUa o_ge (jJn c_abs (by rfl) T.n_abs rfl (jJb (jJc 2) jJd)) (e_op o_pow jJj jJj) (jJv _)) jJd))) (jJb (e_op jV0 (e_op jUg (e_op jJu (e_op jJu (e_op jV0 (jJc 2) jJj) (e_op jUg jJj (jJc 1))) jJj) jJj) jJj) (jJb jJj jJd)))))))
theorem jJp (T:Txt K mg):Cal P w K mg base 1 "_law_take" ["_law_box_here","_law_many"] jJi:=
 cal3 T.f_l_take kV9 fun _ _ _ _ _ _ _ hr hu nd=>
  (jJf (s_if (jK6 o_gt (e_ix (ix_F hu) (jJc 0) jJj (fun _ _=>rfl)) jJj (jJv _)) (jJf (jVf (jJn qXv (by rfl) T.n_divmod rfl (jJb (e_ix (ix_F hu) (jJc 0) jJj (fun _ _=>rfl)) (jJb (jJc 1) jJd))) (jQx rfl (jJr (jXx (jJc 0) jJj (s_F hu)) (jJr (jJl (i:=2) nd) jKu))))
   (jJk (jKd (jJc 2)))) jKn)
   (jJf (jVf (e_op jJu (e_ix (ix_F hu) (jJc 0) jJj (fun _ _=>rfl)) jJj) (jXx (jJc 0) jJj (s_F hu)))
   (jJf (jJ3 (i:=3) nd (e_op jV0 (e_op jUg (e_op jJu (e_ix (ix_F hu) (jJc 0) jJj (fun _ _=>rfl)) (e_op jUg jJj (e_ix (ix_F hu) (jJc 0) jJj (fun _ _=>rfl)))) (e_op jJu jJj (e_ix (ix_F hu) (jJc 0) jJj (fun _ _=>rfl)))) jJj))
   (jJf (jVf (e_op jV0 (e_op jJu (e_op jUg (jJc 3) (e_op jJu (e_op jV0 (jJc 3) jJj) jJj)) (e_ix (ix_F hu) (jJc 0) jJj (fun _ _=>rfl))) jJj) (jXx (jJc 0) jJj (s_F hu)))
   (jJk (jKd (e_op jV0 (e_op o_fdiv (e_op jV0 (e_op jUg (e_ix (ix_F hu) (jJc 0) jJj (fun _ _=>rfl)) (e_op jJu (e_op jV0 (e_ix (ix_F hu) (jJc 0) jJj (fun _ _=>rfl)) jJj) jJj)) jJj) jJj) (jJc 1))))))))
theorem kXo (T:Txt K mg):Cal P w K mg base 1 "_law_folded" ["_law_script","_law_many"] jU4:=
 cal3 T.f_l_folded kQo fun _ _ _ _ _ _ _ hr hu nd=>
  (jJf (jJ3 (i:=2) nd (jJ0 kUf (by rfl) T.n_list rfl (jJb (jQ5 sl_F (jJc 0) jVy (jUp (jJc 1))) jJd)))
   (jJf (jQa lJz rfl (kK0 rfl T.n_enumerate rfl (jJb (jQ5 sl_F (jJc 0) (jUp (jJc 1)) (jUp jJj)) jJd)) (jQx rfl (jJr (jJl (i:=3) nd) (jJr (jJl (i:=4) nd) jKu))) (jJk (jVf (e_op jJu (e_ix (ix_F hu) (jJc 2) (e_op jV0 (jJc 3) (jJc 1)) (fun _ _=>rfl)) (e_op jUg (jJc 4) (e_op jJu (jJc 3) jJj))) (jXx (jJc 2) (e_op jV0 (jJc 3) (jJc 1)) (s_F hu)))))
   (jJk (jKd (jJc 2)))))
theorem kXm (T:Txt K mg):Cal P w K mg base 1 "_law_joined" ["_law_halves"] jXo:=
 cal3 T.f_l_joined kQm fun _ _ _ _ _ _ _ hr hu nd=>
  (jJf (jJ3 (i:=1) nd qUb)
   (jJf (jQa lJz rfl (jJ7 rfl T.n_range (jJb (jJn jKk (by rfl) T.n_len lJo (jJb (jJc 0) jJd)) jJd)) (jJl (i:=2) nd) (jJk (jQa lJz rfl (kK0 rfl T.n_enumerate rfl (jJb (e_ix (ix_F hu) (jJc 0) (jJc 2) (fun _ _=>rfl)) jJd)) (jQx rfl (jJr (jJl (i:=3) nd) (jJr (jJl (i:=4) nd) jKu))) (jJk (jVf (jJ4 (jJb (jJc 2) (jJb (jJc 3) jJd))) (jXx (jJc 1) (jJc 4) (s_F hu)))))))
   (jJf (jJ3 (i:=5) nd (jKe jJd))
   (jJf (jQa lJz rfl (jQu (jJc 0)) (jJl (i:=6) nd) (jJk (jQ6 (e_bm lKr lQp lQq jQh (jJc 5) (jJb (jJ0 jK5 (by rfl) T.n_tuple rfl (jJb (jQr (mask:=[false,false,false,false,false,false,false,true,true]) rfl ⟨rfl,rfl,rfl,rfl,rfl,rfl,rfl⟩ (jQu (jJc 6)) (jYi (jK0 jJw jJ8 (jK0 jJw jJ8 jYj jQs) (jU8 jJ8 jQs))) (fun C fp s H=>(jQx rfl (jJr (jJl (i:=7) nd) (jJr (jJl (i:=8) nd) jKu)))) (fun C fp s H=>jKy) (fun C fp s H=>(e_ix (ix_F hu) (jJc 1) (jJ4 (jJb (jJc 7) (jJb (e_ix (ix_F hu) (jKe (jJb jJj (jJb jJj (jJb jJj jJd)))) (jJc 8) (fun _ _=>rfl)) jJd))) (fun _ _=>rfl)))) jJd)) jJd)))))
   (jJk (jKd (jJ0 jK5 (by rfl) T.n_tuple rfl (jJb (jJc 5) jJd))))))))
theorem kKk (T:Txt K mg):Cal P w K mg base 2 "_law_doors_put" ["_law_box_here","_law_pairs","_law_many"] jUq:=
 cal3 T.f_l_doors_put jZg fun _ _ _ _ _ _ _ hr hu nd=>
  (jJf (jXj (i:=3) (mask:=[false,false,false,false,false,false,false,false,true,false]) rfl nd ⟨rfl,rfl,rfl,rfl,rfl,rfl,rfl⟩ (jJ7 rfl T.n_range (jJb (jJc 2) jJd)) jJw (fun C fp s H=>(jJl (i:=8) nd)) (fun C fp s H=>jKy) (fun C fp s H=>(jKe jJd)))
   (jJf (jQa lJz rfl (kK0 rfl T.n_enumerate rfl (jJb (jJc 1) jJd)) (jQx rfl (jJr (jJl (i:=4) nd) (jJr (jQx rfl (jJr (jJl (i:=5) nd) (jJr (jJl (i:=6) nd) jKu))) jKu))) (jJf (jJ3 (i:=7) nd (kQ9 (jK6 (jY0 hr.units) (jJc 6) (jJc 2) (jJv _)) (jKe (jJb (jJ4 (jJb (jJc 5) (jJb jJj jJd))) jJd)) (jKe (jJb (jJ4 (jJb (jJc 5) (jJb jJj jJd))) (jJb (jJ4 (jJb (jJc 6) (jJb jJj jJd))) jJd)))))
   (jJk (jQa lJz rfl (jQu (jJc 7)) (jQx rfl (jJr (jJl (i:=8) nd) (jJr (jJl (i:=9) nd) jKu))) (jJk (jQ6 (e_bm lKr PySem.F.slot_list_insert PySem.F.type_list_insert kYy (e_ix (ix_F hu) (jJc 3) (jJc 8) (fun _ _=>rfl)) (jJb (jJy (jJp T) (hr.mono (by decide)) (jJb (jJc 0) (jJb (e_op jJu (jJn jKk (by rfl) T.n_len lJo (jJb (e_ix (ix_F hu) (jJc 3) (jJc 8) (fun _ _=>rfl)) jJd)) jJj) jJd))) (jJb (jJ4 (jJb (jJc 4) (jJb (jJc 9) jJd))) jJd)))))))))
   (jJk (jKd (jJy (kXm T) (hr.mono (by decide)) (jJb (jJc 3) jJd))))))
theorem kQz (T:Txt K mg):Cal P w K mg base 3 "_law_web" ["_law_box_here","_law_many","_law_most"] jX0:=
 cal3 T.f_l_web kZ2 fun _ _ _ _ _ _ _ hr hu nd=>
  (jJf (jJ3 (i:=3) nd (e_op jUg (jKe (jJb jJj jJd)) (jJc 1)))
   (jJf (jJ3 (i:=4) nd (jKe jJd))
   (jJf (jQa lJz rfl (qXd rfl T.n_range (jJb jJj (jJb (jJc 1) jJd))) (jJl (i:=5) nd) (jJf (jXj (i:=6) (mask:=[false,false,false,false,false,false,false,false,false,false,false,true]) rfl nd ⟨rfl,rfl,rfl,rfl,rfl,rfl,rfl⟩ (jJ7 rfl T.n_range (jJb (jJc 5) jJd)) jJw (fun C fp s H=>(jJl (i:=11) nd)) (fun C fp s H=>(kZa (jK6 o_lt (e_ix (ix_F hu) (jJc 3) (jJc 11) (fun _ _=>rfl)) (jJc 2) (jJv _)))) (fun C fp s H=>(jJc 11)))
   (jJf (jQ6 (e_bm lKr lQp lQq jQh (jJc 4) (jJb (jJ4 (jJb (e_ix (ix_F hu) (jJc 6) (jJy (jJp T) (hr.mono (by decide)) (jJb (jJc 0) (jJb (jJn jKk (by rfl) T.n_len lJo (jJb (jJc 6) jJd)) jJd))) (fun _ _=>rfl)) (jJb (jJc 5) jJd))) jJd)))
   (jJk (jQa lJz rfl (jQu (e_ix (ix_F hu) (jJc 4) (e_un kZu jJj) (fun _ _=>rfl))) (jJl (i:=7) nd) (jJk (jVf (e_op jJu (e_ix (ix_F hu) (jJc 3) (jJc 7) (fun _ _=>rfl)) jJj) (jXx (jJc 3) (jJc 7) (s_F hu)))))))))
   (jJf (jQa lJz rfl (jJ7 rfl T.n_range (jJb (jJy (jJp T) (hr.mono (by decide)) (jJb (jJc 0) (jJb (e_op jJu (jJc 1) jJj) jJd))) jJd)) (jJl (i:=8) nd) (jJf (jJ3 (i:=9) nd (jJ4 (jJb (jJy (jJp T) (hr.mono (by decide)) (jJb (jJc 0) (jJb (jJc 1) jJd))) (jJb (jJy (jJp T) (hr.mono (by decide)) (jJb (jJc 0) (jJb (e_op jJu (jJc 1) jJj) jJd))) jJd))))
   (jJf (jJ3 (i:=10) nd (jQr (mask:=[false,false,false,false,false,false,false,true,false,false,false,false]) rfl ⟨rfl,rfl,rfl,rfl,rfl,rfl,rfl⟩ (jQu (jJc 9)) jJw (fun C fp s H=>(jJl (i:=7) nd)) (fun C fp s H=>(kZa (jK6 o_lt (jJc 7) (jJc 1) (jJv _)))) (fun C fp s H=>(jJc 7))))
   (jJk (s_if (kQd (jJn (qXw rfl) (by rfl) T.n_all rfl (jJb (jQr (mask:=[false,false,false,false,false,false,false,true,false,false,false,false]) rfl ⟨rfl,rfl,rfl,rfl,rfl,rfl,rfl⟩ (jQu (jJc 10)) jJw (fun C fp s H=>(jJl (i:=7) nd)) (fun C fp s H=>jKy) (fun C fp s H=>(kUa (qK8 hu) (e_op jJu (e_ix (ix_F hu) (jJc 3) (jJc 7) (fun _ _=>rfl)) (e_bm lKr PySem.F.slot_list_count PySem.F.type_list_count qZy (jJc 10) (jJb (jJc 7) jJd))) (jJc 2) (jJv _)))) jJd))) (jJf (jQ6 (e_bm lKr lQp lQq jQh (jJc 4) (jJb (jJc 9) jJd)))
   (jJk (jQa lJz rfl (jQu (jJc 10)) (jJl (i:=7) nd) (jJk (jVf (e_op jJu (e_ix (ix_F hu) (jJc 3) (jJc 7) (fun _ _=>rfl)) jJj) (jXx (jJc 3) (jJc 7) (s_F hu))))))) jKn)))))
   (jJk (jKd (jJy (kKk T) (hr.mono (by decide)) (jJb (jJc 0) (jJb (jJc 4) (jJb (jJc 1) jJd))))))))))
theorem qK2 (T:Txt K mg):Cal P w K mg base 1 "_law_ring" ["_law_many"] jZ8:=
 cal3 T.f_l_ring kXb fun _ _ _ _ _ _ _ hr hu nd=>
  (jJk (jKd (jJ0 jK5 (by rfl) T.n_tuple rfl (jJb (jQr (mask:=[false,true]) rfl ⟨rfl,rfl,rfl,rfl,rfl,rfl,rfl⟩ (jJ7 rfl T.n_range (jJb (jJc 0) jJd)) jJw (fun C fp s H=>(jJl (i:=1) nd)) (fun C fp s H=>jKy) (fun C fp s H=>(jJ4 (jJb (jJ4 (jJb (e_op jV0 (e_op jJu (jJc 1) jJj) (jJc 0)) (jJb jJj jJd))) (jJb (jJ4 (jJb (e_op jV0 (e_op kQ1 (jJc 1) jJj) (jJc 0)) (jJb jJj jJd))) jJd))))) jJd))))
theorem kU5 (T:Txt K mg):Cal P w K mg base 1 "_law_ends" ["_law_web_here"] jX3:=
 cal3 T.f_l_ends kXd fun _ _ _ _ _ _ _ hr hu nd=>
  (jJf (jJ3 (i:=1) nd (jKe jJd))
   (jJf (jQa lJz rfl (jJ7 rfl T.n_range (jJb (jJn jKk (by rfl) T.n_len lJo (jJb (jJc 0) jJd)) jJd)) (jJl (i:=2) nd) (jJk (jQa lJz rfl (jJ7 rfl T.n_range (jJb (jJn jKk (by rfl) T.n_len lJo (jJb (e_ix (ix_F hu) (jJc 0) (jJc 2) (fun _ _=>rfl)) jJd)) jJd)) (jJl (i:=3) nd) (jJk (s_if (jK6 (qK8 hu) (jJ4 (jJb (jJc 2) (jJb (jJc 3) jJd))) (e_ix (ix_F hu) (e_ix (ix_F hu) (jJc 0) (jJc 2) (fun _ _=>rfl)) (jJc 3) (fun _ _=>rfl)) (jJv _)) (jJk (jQ6 (e_bm lKr lQp lQq jQh (jJc 1) (jJb (jJ4 (jJb (jJ4 (jJb (jJc 2) (jJb (jJc 3) jJd))) (jJb (e_ix (ix_F hu) (e_ix (ix_F hu) (jJc 0) (jJc 2) (fun _ _=>rfl)) (jJc 3) (fun _ _=>rfl)) jJd))) jJd)))) jKn)))))
   (jJk (jKd (jJc 1)))))
theorem kU4 (T:Txt K mg):Cal P w K mg base 1 "_law_reached" ["_law_web_here","_law_room"] jVo:=
 cal3 T.f_l_reached kKg fun _ _ _ _ _ _ _ hr hu nd=>
  (jJf (jJ3 (i:=2) nd (jKe (jJb (jJc 1) jJd)))
   (jJf (jJ3 (i:=3) nd jJj)
   (jJf (qKb lJz (jK6 o_lt (jJc 3) (jJn jKk (by rfl) T.n_len lJo (jJb (jJc 2) jJd)) (jJv _)) (jJf (jQa lJz rfl (jQu (e_ix (ix_F hu) (jJc 0) (e_ix (ix_F hu) (jJc 2) (jJc 3) (fun _ _=>rfl)) (fun _ _=>rfl))) (jQx rfl (jJr (jJl (i:=4) nd) (jJr (jJl (i:=5) nd) jKu))) (jJk (s_if (jK6 (jYe hu) (jJc 4) (jJc 2) (jJv _)) (jJk (jQ6 (e_bm lKr lQp lQq jQh (jJc 2) (jJb (jJc 4) jJd)))) jKn)))
   (jJk (jJ3 (i:=3) nd (e_op jJu (jJc 3) jJj)))))
   (jJk (jKd (jJc 2))))))
theorem kU2 (T:Txt K mg):Cal P w K mg base 2 "_law_sheeted" ["_law_web_here","_law_turns","_law_many"] jVm:=
 cal3 T.f_l_sheeted kKe fun _ _ _ _ _ _ _ hr hu nd=>
  (jJf (jXj (i:=3) (mask:=[false,false,false,false,false,false,false,false,false,false,true,false]) rfl nd ⟨rfl,rfl,rfl,rfl,rfl,rfl,rfl⟩ (jJ7 rfl T.n_range (jJb (e_op jUg (jJc 2) (jJn jKk (by rfl) T.n_len lJo (jJb (jJc 0) jJd))) jJd)) jJw (fun C fp s H=>(jJl (i:=10) nd)) (fun C fp s H=>jKy) (fun C fp s H=>(e_op jUg (jKe (jJb qUa jJd)) (jJn jKk (by rfl) T.n_len lJo (jJb (e_ix (ix_F hu) (jJc 0) (e_op jV0 (jJc 10) (jJn jKk (by rfl) T.n_len lJo (jJb (jJc 0) jJd))) (fun _ _=>rfl)) jJd)))))
   (jJf (jQa lJz rfl (kK0 rfl T.n_enumerate rfl (jJb (jJy (kU5 T) (hr.mono (by decide)) (jJb (jJc 0) jJd)) jJd)) (jQx rfl (jJr (jJl (i:=4) nd) (jJr (jQx rfl (jJr (jJl (i:=5) nd) (jJr (jJl (i:=6) nd) jKu))) jKu))) (jJk (jQa lJz rfl (jJ7 rfl T.n_range (jJb (jJc 2) jJd)) (jJl (i:=7) nd) (jJf (jJ3 (i:=8) nd (e_op jJu (e_ix (ix_F hu) (jJc 5) jJj (fun _ _=>rfl)) (e_op jUg (jJc 7) (jJn jKk (by rfl) T.n_len lJo (jJb (jJc 0) jJd)))))
   (jJf (jJ3 (i:=9) nd (e_op jJu (e_ix (ix_F hu) (jJc 6) jJj (fun _ _=>rfl)) (e_op jUg (e_ix (ix_F hu) (e_ix (ix_F hu) (jJc 1) (jJc 4) (fun _ _=>rfl)) (jJc 7) (fun _ _=>rfl)) (jJn jKk (by rfl) T.n_len lJo (jJb (jJc 0) jJd)))))
   (jJf (jVf (jJ4 (jJb (jJc 9) (jJb (e_ix (ix_F hu) (jJc 6) jJj (fun _ _=>rfl)) jJd))) (jXx (e_ix (ix_F hu) (jJc 3) (jJc 8) (fun _ _=>rfl)) (e_ix (ix_F hu) (jJc 5) jJj (fun _ _=>rfl)) (s_F hu)))
   (jJk (jVf (jJ4 (jJb (jJc 8) (jJb (e_ix (ix_F hu) (jJc 5) jJj (fun _ _=>rfl)) jJd))) (jXx (e_ix (ix_F hu) (jJc 3) (jJc 9) (fun _ _=>rfl)) (e_ix (ix_F hu) (jJc 6) jJj (fun _ _=>rfl)) (s_F hu))))))))))
   (jJk (jKd (jJ0 jK5 (by rfl) T.n_tuple rfl (jJb (jQr (mask:=[false,false,false,false,false,false,false,false,false,false,false,true]) rfl ⟨rfl,rfl,rfl,rfl,rfl,rfl,rfl⟩ (jQu (jJc 3)) jJw (fun C fp s H=>(jJl (i:=11) nd)) (fun C fp s H=>jKy) (fun C fp s H=>(jJ0 jK5 (by rfl) T.n_tuple rfl (jJb (jJc 11) jJd)))) jJd))))))
theorem kU1 (T:Txt K mg):Cal P w K mg base 2 "_law_turn" ["_law_box_here","_law_many","_law_own"] jX1:=
 cal3 T.f_l_turn kV8 fun _ _ _ _ _ _ _ hr hu nd=>
  (jJf (jJ3 (i:=3) nd (jKe jJd))
   (jJf (jQa lJz rfl (jJ7 rfl T.n_range (jJb (jJc 1) jJd)) (jJl (i:=4) nd) (jJk (jQ6 (e_bm lKr PySem.F.slot_list_insert PySem.F.type_list_insert kYy (jJc 3) (jJb (jJy (jJp T) (hr.mono (by decide)) (jJb (jJc 0) (jJb (e_op jJu (jJc 4) jJj) jJd))) (jJb (jJc 4) jJd))))))
   (jJf (s_if (kKc (t_tru qY2 (jJc 2))) (jJk (jKd (jJ0 jK5 (by rfl) T.n_tuple rfl (jJb (jJc 3) jJd)))) jKn)
   (jJf (jJ3 (i:=5) nd (kXx rfl T.n_list rfl T.n_range rfl (jJb (jJc 1) jJd)))
   (jJf (jQa lJz rfl (qXc rfl T.n_range (jJb jJj (jJb (e_op kQ1 (jJc 1) jJj) (jJb jJj jJd)))) (jJl (i:=4) nd) (jJf (s_par (i:=6) (j:=7) rfl nd (by decide) (jJb (e_ix (ix_F hu) (jJc 3) (jJc 4) (fun _ _=>rfl)) (jJb (e_ix (ix_F hu) (jJc 3) (e_op jJu (jJc 4) jJj) (fun _ _=>rfl)) jJd)))
   (jJf (jVf (jJc 7) (jXx (jJc 5) (jJc 6) (s_F hu)))
   (jJk (jVf (jJc 6) (jXx (jJc 5) (jJc 7) (s_F hu)))))))
   (jJk (jKd (jJ0 jK5 (by rfl) T.n_tuple rfl (jJb (jJc 5) jJd)))))))))
theorem jZa (T:Txt K mg):Cal P w K mg base 3 "_law_covered" ["_law_box_here","_law_web_here","_law_many"] jQv:=
 cal3 T.f_l_covered kKh fun _ _ _ _ _ _ _ hr hu nd=>
  (jJf (jQa lJz rfl (jJ7 rfl T.n_range (jJb jJj jJd)) (jJl (i:=3) nd) (jJf (jXj (i:=4) (mask:=[false,false,false,false,false,false,true]) rfl nd ⟨rfl,rfl,rfl,rfl,rfl,rfl,rfl⟩ (jQu (jJy (kU5 T) (hr.mono (by decide)) (jJb (jJc 1) jJd))) jJw (fun C fp s H=>(jJl (i:=6) nd)) (fun C fp s H=>jKy) (fun C fp s H=>(jJy (kU1 T) (hr.mono (by decide)) (jJb (jJc 0) (jJb (jJc 2) (jJb (kUa (jY0 hr.units) (e_ix (ix_F hu) (jJc 6) jJj (fun _ _=>rfl)) (e_ix (ix_F hu) (jJc 6) jJj (fun _ _=>rfl)) (jJv _)) jJd))))))
   (jJf (jJ3 (i:=5) nd (jJy (kU2 T) (hr.mono (by decide)) (jJb (jJc 1) (jJb (jJc 4) (jJb (jJc 2) jJd)))))
   (jJk (s_if (jK6 (jY0 hr.units) (jJn jKk (by rfl) T.n_len lJo (jJb (jJy (kU4 T) (hr.mono (by decide)) (jJb (jJc 5) (jJb jJj jJd))) jJd)) (jJn jKk (by rfl) T.n_len lJo (jJb (jJc 5) jJd)) (jJv _)) (jJk (jKd (jJc 5))) jKn)))))
   (jJk (jKd (jJc 1))))
theorem jZb (T:Txt K mg):Cal P w K mg base 4 "_law_any_web" ["_law_box_here"] jQj:=
 cal3 T.f_l_any_web kKi fun _ _ _ _ _ _ _ hr hu nd=>
  (jJf (jJ3 (i:=1) nd (jJy (jJp T) (hr.mono (by decide)) (jJb (jJc 0) (jJb jJj jJd))))
   (jJf (s_if (jK6 (jY0 hr.units) (jJc 1) jJj (jJv _)) (jJk (jKd (jJy (kQz T) (hr.mono (by decide)) (jJb (jJc 0) (jJb (e_op jJu jJj (jJy (jJp T) (hr.mono (by decide)) (jJb (jJc 0) (jJb jJj jJd)))) (jJb (e_op jJu jJj (jJy (jJp T) (hr.mono (by decide)) (jJb (jJc 0) (jJb jJj jJd)))) jJd)))))) jKn)
   (jJf (s_if (jK6 o_lt (jJc 1) jJj (jJv _)) (jJk (jKd (jJy (kQz T) (hr.mono (by decide)) (jJb (jJc 0) (jJb (e_op jJu jJj (jJy (jJp T) (hr.mono (by decide)) (jJb (jJc 0) (jJb jJj jJd)))) (jJb (e_op jJu jJj (jJy (jJp T) (hr.mono (by decide)) (jJb (jJc 0) (jJb jJj jJd)))) jJd)))))) jKn)
   (jJf (s_if (jK6 (jY0 hr.units) (jJc 1) jJj (jJv _)) (jJk (jKd (jJy (qK2 T) (hr.mono (by decide)) (jJb (e_op jJu jJj (jJy (jJp T) (hr.mono (by decide)) (jJb (jJc 0) (jJb jJj jJd)))) jJd)))) jKn)
   (jJf (jJ3 (i:=2) nd (jJy (kQz T) (hr.mono (by decide)) (jJb (jJc 0) (jJb (e_op jJu jJj (jJy (jJp T) (hr.mono (by decide)) (jJb (jJc 0) (jJb jJj jJd)))) (jJb (e_op jJu jJj (jJy (jJp T) (hr.mono (by decide)) (jJb (jJc 0) (jJb jJj jJd)))) jJd)))))
   (jJf (jJ3 (i:=3) nd (e_op jJu jJj (jJy (jJp T) (hr.mono (by decide)) (jJb (jJc 0) (jJb (e_ix (ix_F hu) (jKe (jJb jJj (jJb jJj (jJb jJj (jJb jJj jJd))))) (e_op kQ1 (jJn jKk (by rfl) T.n_len lJo (jJb (jJc 2) jJd)) jJj) (fun _ _=>rfl)) jJd)))))
   (jJk (jKd (jJy (jZa T) (hr.mono (by decide)) (jJb (jJc 0) (jJb (jJc 2) (jJb (jJc 3) jJd))))))))))))
theorem kU3 (T:Txt K mg):Cal P w K mg base 3 "_law_renamed" ["_law_box_here","_law_web_here"] jUk:=
 cal3 T.f_l_renamed kKf fun _ _ _ _ _ _ _ hr hu nd=>
  (jJf (jJ3 (i:=2) nd (jJy (kU1 T) (hr.mono (by decide)) (jJb (jJc 0) (jJb (jJn jKk (by rfl) T.n_len lJo (jJb (jJc 1) jJd)) (jJb e_bl jJd)))))
   (jJf (jJ3 (i:=3) nd (e_op jUg (jKe (jJb qUa jJd)) (jJn jKk (by rfl) T.n_len lJo (jJb (jJc 1) jJd))))
   (jJf (jQa lJz rfl (jJ7 rfl T.n_range (jJb (jJn jKk (by rfl) T.n_len lJo (jJb (jJc 1) jJd)) jJd)) (jJl (i:=4) nd) (jJk (jVf (jJ0 jK5 (by rfl) T.n_tuple rfl (jJb (jQr (mask:=[false,false,false,false,false,true,true]) rfl ⟨rfl,rfl,rfl,rfl,rfl,rfl,rfl⟩ (jQu (e_ix (ix_F hu) (jJc 1) (jJc 4) (fun _ _=>rfl))) (jYi (jK0 jJw jJ8 (jK0 jJw jJ8 jYj jQs) (jU8 jJ8 jQs))) (fun C fp s H=>(jQx rfl (jJr (jJl (i:=5) nd) (jJr (jJl (i:=6) nd) jKu)))) (fun C fp s H=>jKy) (fun C fp s H=>(jJ4 (jJb (e_ix (ix_F hu) (jJc 2) (jJc 5) (fun _ _=>rfl)) (jJb (jJc 6) jJd))))) jJd)) (jXx (jJc 3) (e_ix (ix_F hu) (jJc 2) (jJc 4) (fun _ _=>rfl)) (s_F hu)))))
   (jJk (jKd (jJ4 (jJb (jJ0 jK5 (by rfl) T.n_tuple rfl (jJb (jJc 3) jJd)) (jJb (jJc 2) jJd))))))))
theorem qK3 (T:Txt K mg):Cal P w K mg base 1 "_law_line" ["_law_many"] jX2:=
 cal3 T.f_l_line kXc fun _ _ _ _ _ _ _ hr hu nd=>
  (jJf (jJ3 (i:=1) nd (jKe jJd))
   (jJf (jQa lJz rfl (jJ7 rfl T.n_range (jJb (jJc 0) jJd)) (jJl (i:=2) nd) (jJf (jJ3 (i:=3) nd (kQ9 (jK6 o_gt (jJc 2) jJj (jJv _)) (jJ4 (jJb (e_op kQ1 (jJc 2) jJj) (jJb jJj jJd))) (jJ4 (jJb jJj (jJb jJj jJd)))))
   (jJf (jJ3 (i:=4) nd (kQ9 (jK6 o_lt (jJc 2) (e_op kQ1 (jJc 0) jJj) (jJv _)) (jJ4 (jJb (e_op jJu (jJc 2) jJj) (jJb jJj jJd))) (jJ4 (jJb (jJc 2) (jJb jJj jJd)))))
   (jJk (jQ6 (e_bm lKr lQp lQq jQh (jJc 1) (jJb (jJ4 (jJb (jJc 3) (jJb (jJc 4) jJd))) jJd)))))))
   (jJk (jKd (jJ0 jK5 (by rfl) T.n_tuple rfl (jJb (jJc 1) jJd))))))
theorem jZi (T:Txt K mg):Cal P w K mg base 2 "_law_turned_line" ["_law_many","_law_turned"] jQf:=
 cal3 T.f_l_turned_line jYa fun _ _ _ _ _ _ _ hr hu nd=>
  (jJf (jJ3 (i:=2) nd (jKe jJd))
   (jJf (jQa lJz rfl (i_enT rfl T.n_enumerate rfl (jJb (jJy (qK3 T) (hr.mono (by decide)) (jJb (jJc 0) jJd)) jJd)) (jQx rfl (jJr (jJl (i:=3) nd) (jJr (jJl (i:=4) nd) jKu))) (jJf (jXj (i:=5) (mask:=[false,false,false,false,false,false,true,true]) rfl nd ⟨rfl,rfl,rfl,rfl,rfl,rfl,rfl⟩ (jQu (jJc 4)) (jYi (jK0 jJw jJ8 (jK0 jJw jJ8 jYj jQs) (jU8 jJ8 jQs))) (fun C fp s H=>(jQx rfl (jJr (jJl (i:=6) nd) (jJr (jJl (i:=7) nd) jKu)))) (fun C fp s H=>jKy) (fun C fp s H=>(jJ4 (jJb (jJc 6) (jJb (e_ix (ix_F hu) (jKe (jJb (jJc 7) (jJb (e_op kQ1 jJj (jJc 7)) jJd))) (e_ix (ix_F hu) (jJc 1) (jJc 6) (fun _ _=>rfl)) (fun _ _=>rfl)) jJd)))))
   (jJk (jQ6 (e_bm lKr lQp lQq jQh (jJc 2) (jJb (jJ0 jK5 (by rfl) T.n_tuple rfl (jJb (e_ix (ix_F hu) (jKe (jJb (jJc 5) (jJb (e_revL (jJc 5) (jUp (e_un kZu jJj))) jJd))) (e_ix (ix_F hu) (jJc 1) (jJc 3) (fun _ _=>rfl)) (fun _ _=>rfl)) jJd)) jJd))))))
   (jJk (jKd (jJ0 jK5 (by rfl) T.n_tuple rfl (jJb (jJc 2) jJd))))))
theorem kZ7 (T:Txt K mg):Cal P w K mg base 3 "_law_lines" ["_law_box_here"] jV9:=
 cal3 T.f_l_lines kUu fun _ _ _ _ _ _ _ hr hu nd=>
  (jJf (jXj (i:=1) (mask:=[false,false,false,false,false,false,false,false,false,false,true,false]) rfl nd ⟨rfl,rfl,rfl,rfl,rfl,rfl,rfl⟩ (jJ7 rfl T.n_range (jJb jJj jJd)) jJw (fun C fp s H=>(jJl (i:=10) nd)) (fun C fp s H=>jKy) (fun C fp s H=>(jJ0 qXu (by rfl) T.n_int rfl (jJb (kUa (jY0 hr.units) (jJy (jJp T) (hr.mono (by decide)) (jJb (jJc 0) (jJb jJj jJd))) jJj (jJv _)) jJd))))
   (jJf (jVf (jJ4 (jJb (jJy (jJp T) (hr.mono (by decide)) (jJb (jJc 0) (jJb jJj jJd))) (jJb (jJy (jJp T) (hr.mono (by decide)) (jJb (jJc 0) (jJb jJj jJd))) jJd))) (jQx rfl (jJr (jJl (i:=2) nd) (jJr (jJl (i:=3) nd) jKu))))
   (jJf (s_if (jK6 (jY0 hr.units) (jJy (jJp T) (hr.mono (by decide)) (jJb (jJc 0) (jJb jJj jJd))) jJj (jJv _)) (jJk (jXj (i:=1) (mask:=[false,false,false,false,false,false,false,false,false,false,true,false]) rfl nd ⟨rfl,rfl,rfl,rfl,rfl,rfl,rfl⟩ (jJ7 rfl T.n_range (jJb jJj jJd)) jJw (fun C fp s H=>(jJl (i:=10) nd)) (fun C fp s H=>jKy) (fun C fp s H=>(e_op jV0 (e_op jJu (e_op jJu (jJc 10) (jJc 2)) (jJ0 qXu (by rfl) T.n_int rfl (jJb (kUa o_ge (jJc 10) (jJc 3) (jJv _)) jJd))) jJj)))) jKn)
   (jJf (jXj (i:=4) (mask:=[false,false,false,false,false,false,false,false,false,false,false,true]) rfl nd ⟨rfl,rfl,rfl,rfl,rfl,rfl,rfl⟩ (jJ7 rfl T.n_range (jJb jJj jJd)) jJw (fun C fp s H=>(jJl (i:=11) nd)) (fun C fp s H=>jKy) (fun C fp s H=>(e_op jJu jJj (jJy (jJp T) (hr.mono (by decide)) (jJb (jJc 0) (jJb jJj jJd))))))
   (jJf (s_par3 (i:=5) (j:=6) (k:=7) rfl nd (by decide) (by decide) (by decide) (jJb (jJy (jJp T) (hr.mono (by decide)) (jJb (jJc 0) (jJb jJj jJd))) (jJb (jJy (jJp T) (hr.mono (by decide)) (jJb (jJc 0) (jJb jJj jJd))) (jJb (jJy (jJp T) (hr.mono (by decide)) (jJb (jJc 0) (jJb (jJn (c_minL rfl) (by rfl) T.n_min rfl (jJb (jJc 4) jJd)) jJd))) jJd))))
   (jJf (jJ3 (i:=8) nd (jKe jJd))
   (jJf (jQa lJz rfl (jQu (jJc 4)) (jJl (i:=9) nd) (jJf (jQ6 (e_bm lKr lQp lQq jQh (jJc 8) (jJb (jJy (jZi T) (hr.mono (by decide)) (jJb (jJc 9) (jJb (e_ix (ix_F hu) (jKe (jJb (jQ5 sl_F (jJc 1) (jUp (e_op kQ1 jJj (jJc 9))) jVy) (jJb (jQ5 sl_F (jJc 1) jVy (jUp (jJc 9))) jJd))) (jJc 5) (fun _ _=>rfl)) jJd))) jJd)))
   (jJk (jQ6 (e_bm lKr lQp lQq jQh (jJc 8) (jJb (e_ix (ix_F hu) (jKe (jJb (jJy (jJp T) (hr.mono (by decide)) (jJb (jJc 0) (jJb (jJc 9) jJd))) (jJb (e_ix (ix_F hu) (jKe (jJb (e_op kQ1 (e_op kQ1 (jJc 9) jJj) (jJc 7)) (jJb (jJc 7) jJd))) (jJc 5) (fun _ _=>rfl)) jJd))) (jJc 6) (fun _ _=>rfl)) jJd))))))
   (jJk (jKd (jJ0 jK5 (by rfl) T.n_tuple rfl (jJb (jJc 8) jJd)))))))))))
theorem qVr (T:Txt K mg):Cal P w K mg base 5 "_law_two" ["_law_box_here"] jZr:=
 cal3 T.f_l_two kZ3 fun _ _ _ _ _ _ _ hr hu nd=>
  (jJf (jJ3 (i:=1) nd (jJy (jJp T) (hr.mono (by decide)) (jJb (jJc 0) (jJb jJj jJd))))
   (jJf (jJ3 (i:=2) nd (jJy (jZb T) (hr.mono (by decide)) (jJb (jJc 0) jJd)))
   (jJf (jJ3 (i:=3) nd (jJc 2))
   (jJf (s_if (jK6 (jY0 hr.units) (jJc 1) jJj (jJv _)) (jJk (jJ3 (i:=3) nd (jJy (jZb T) (hr.mono (by decide)) (jJb (jJc 0) jJd)))) jKn)
   (jJf (s_if (jK6 (jY0 hr.units) (jJc 1) jJj (jJv _)) (jJk (jJ3 (i:=3) nd (e_ix (ix_F hu) (jJy (kU3 T) (hr.mono (by decide)) (jJb (jJc 0) (jJb (jJc 2) jJd))) jJj (fun _ _=>rfl)))) jKn)
   (jJf (s_if (PW3.pt (w_and (jK6 (jY0 hr.units) (jJc 1) jJj (jJv _)) (qX7 (jK6 o_lt (jJn jKk (by rfl) T.n_len lJo (jJb (jJc 2) jJd)) jJj (jJv _))))) (jJk (jJ3 (i:=3) nd (jJy (jZa T) (hr.mono (by decide)) (jJb (jJc 0) (jJb (jJc 2) (jJb (e_op jJu jJj (jJy (jJp T) (hr.mono (by decide)) (jJb (jJc 0) (jJb jJj jJd)))) jJd)))))) jKn)
   (jJf (s_if (jK6 (jY0 hr.units) (jJc 1) jJj (jJv _)) (jJf (jJ3 (i:=4) nd (jJy (kZ7 T) (hr.mono (by decide)) (jJb (jJc 0) jJd)))
   (jJf (s_if (jK6 o_gt (jJy (jJp T) (hr.mono (by decide)) (jJb (jJc 0) (jJb jJj jJd))) jJj (jJv _)) (jJk (jKd (jJc 4))) jKn)
   (jJk (s_par (i:=2) (j:=3) rfl nd (by decide) (jJb (e_ix (ix_F hu) (jJc 4) jJj (fun _ _=>rfl)) (jJb (e_ix (ix_F hu) (jJc 4) jJj (fun _ _=>rfl)) jJd)))))) jKn)
   (jJk (jKd (jJ4 (jJb (jJc 2) (jJb (jJy (jJp T) (hr.mono (by decide)) (jJb (jJc 0) (jJb (jJn jKk (by rfl) T.n_len lJo (jJb (jJc 2) jJd)) jJd))) (jJb (jJc 3) (jJb (jJy (jJp T) (hr.mono (by decide)) (jJb (jJc 0) (jJb (jJn jKk (by rfl) T.n_len lJo (jJb (jJc 3) jJd)) jJd))) jJd))))))))))))))
theorem qK4 (T:Txt K mg):Cal P w K mg base 1 "_law_both" ["_law_one","_law_other"] jX4:=
 cal3 T.f_l_both kXe fun _ _ _ _ _ _ _ hr hu nd=>
  (jJk (jKd (e_op jJu (jJ0 kUf (by rfl) T.n_list rfl (jJb (jJc 0) jJd)) (jQr (mask:=[false,false,true,false,false]) rfl ⟨rfl,rfl,rfl,rfl,rfl,rfl,rfl⟩ (jQu (jJc 1)) jJw (fun C fp s H=>(jJl (i:=2) nd)) (fun C fp s H=>jKy) (fun C fp s H=>(jJ0 jK5 (by rfl) T.n_tuple rfl (jJb (jQr (mask:=[false,false,false,true,true]) rfl ⟨rfl,rfl,rfl,rfl,rfl,rfl,rfl⟩ (jQu (jJc 2)) (jYi (jK0 jJw jJ8 (jK0 jJw jJ8 jYj jQs) (jU8 jJ8 jQs))) (fun C fp s H=>(jQx rfl (jJr (jJl (i:=3) nd) (jJr (jJl (i:=4) nd) jKu)))) (fun C fp s H=>jKy) (fun C fp s H=>(jJ4 (jJb (e_op jJu (jJc 3) (jJn jKk (by rfl) T.n_len lJo (jJb (jJc 0) jJd))) (jJb (jJc 4) jJd))))) jJd)))))))
theorem kXl (T:Txt K mg):Cal P w K mg base 1 "_law_rounds" ["_law_both_here","_law_marked","_law_many"] jU2:=
 cal3 T.f_l_rounds kQl fun _ _ _ _ _ _ _ hr hu nd=>
  (jJf (jXj (i:=3) (mask:=[false,false,false,false,false,false,false,false,false,true,true,false,false]) rfl nd ⟨rfl,rfl,rfl,rfl,rfl,rfl,rfl⟩ (kK0 rfl T.n_enumerate rfl (jJb (jJc 0) jJd)) (jYi (jK0 jJw jJ8 (jK0 jJw jJ8 jYj jQs) (jU8 jJ8 jQs))) (fun C fp s H=>(jQx rfl (jJr (jJl (i:=9) nd) (jJr (jJl (i:=10) nd) jKu)))) (fun C fp s H=>jKy) (fun C fp s H=>(jJ4 (jJb (jJn qYu (by rfl) T.n_len lJo (jJb (jJc 10) jJd)) (jJb (jJ0 qXu (by rfl) T.n_int rfl (jJb (kUa (qK9 hu) (jJc 9) (jJc 1) (jJv _)) jJd)) jJd)))))
   (jJf (jJ3 (i:=4) nd (jKe jJd))
   (jJf (jQa lJz rfl (jJ7 rfl T.n_range (jJb (e_op jJu (jJc 2) jJj) jJd)) (jJl (i:=5) nd) (jJf (jJ3 (i:=6) nd qUb)
   (jJf (jQa lJz rfl (jQu (jJc 3)) (jJl (i:=7) nd) (jJk (jQ6 (e_bm PySem.F.plainAttrs_dict PySem.F.slot_dict_setdefault PySem.F.type_dict_setdefault (qV3 hu) (jJc 6) (jJb (jJc 7) (jJb (jJn qYu (by rfl) T.n_len lJo (jJb (jJc 6) jJd)) jJd))))))
   (jJf (jJ3 (i:=8) nd (jQr (mask:=[false,false,false,false,false,false,false,true,false,false,false,false,false]) rfl ⟨rfl,rfl,rfl,rfl,rfl,rfl,rfl⟩ (jQu (jJc 3)) jJw (fun C fp s H=>(jJl (i:=7) nd)) (fun C fp s H=>jKy) (fun C fp s H=>(e_ix (ix_F hu) (jJc 6) (jJc 7) (fun _ _=>rfl)))))
   (jJf (jQ6 (e_bm lKr lQp lQq jQh (jJc 4) (jJb (jJc 8) jJd)))
   (jJf (jJ3 (i:=3) nd (jKe jJd))
   (jJk (jQa lJz rfl (kK0 rfl T.n_enumerate rfl (jJb (jJc 0) jJd)) (jQx rfl (jJr (jJl (i:=9) nd) (jJr (jJl (i:=10) nd) jKu))) (jJk (jQ6 (e_bm lKr lQp lQq jQh (jJc 3) (jJb (jJ4 (jJb (e_ix (ix_F hu) (jJc 8) (jJc 9) (fun _ _=>rfl)) (jJb (jJ0 jK5 (by rfl) T.n_tuple rfl (jJb (jQr (mask:=[false,false,false,false,false,false,false,false,false,false,false,true,true]) rfl ⟨rfl,rfl,rfl,rfl,rfl,rfl,rfl⟩ (jQu (jJc 10)) (jYi (jK0 jJw jJ8 (jK0 jJw jJ8 jYj jQs) (jU8 jJ8 jQs))) (fun C fp s H=>(jQx rfl (jJr (jJl (i:=11) nd) (jJr (jJl (i:=12) nd) jKu)))) (fun C fp s H=>jKy) (fun C fp s H=>(jJ4 (jJb (jJc 12) (jJb (e_ix (ix_F hu) (jJc 8) (jJc 11) (fun _ _=>rfl)) jJd))))) jJd)) jJd))) jJd))))))))))))
   (jJk (jKd (jJc 4))))))
theorem qK1 (T:Txt K mg):Cal P w K mg base 1 "_law_says" ["_law_found","_law_due"] jVn:=
 cal3 T.f_l_says kXa fun _ _ _ _ _ _ _ hr hu nd=>
  (jJk (jKd (qJo (jJn kKp (by rfl) T.n_isinstance rfl (jJb (jJc 0) (jJb (e_ty rfl T.n_bool rfl) jJd))) (qJn (kUa (jY0 hr.units) (jJc 0) (jJc 1) (jJv _))))))
theorem kQ0 (T:Txt K mg):Cal P w K mg base 2 "_law_odd" ["_law_box_here"] jUl:=
 cal3 T.f_l_odd kZ4 fun _ _ _ _ _ _ _ hr hu nd=>
  PSsi.out (qU9 (si_set (i:=1) nd (qQ9 (jKf qYr (jKf qXn (jKf qXn (jKf kVk (jKf kVk (jKf (qYs kVk) (jKf kZl (jKf kZl (jKf kZl (jKf (kJ0 jXm) (jKf (qQ9 jXm) (jKf (kJ0 (jKf qXn jXm)) (jKf (qQ9 (jKf qXn jXm)) (jKf (kJ0 (jKf (qYs kVk) jXm)) (jKf (kJ0 (jKf qYr jXm)) (jKf (kJ0 (jKf kZl jXm)) (jKf (kJ0 (jKf (kJ0 (jKf kVk jXm)) jXm)) jXm)))))))))))))))))))
  (qY5 (si_ret ⟨(e_ix (ix_F hu) (e_op jJu (jJc 1) (jKe (jJb (jKe (jJb (jKe jJd) jJd)) (jJb (jJ4 (jJb jJj (jJb e_bl jJd))) (jJb (jKe (jJb jJj (jJb qUa jJd))) (jJb (e_op o_pow jJj jJj) jJd)))))) (jJy (jJp T) (hr.mono (by decide)) (jJb (jJc 0) (jJb jJj jJd))) (fun _ _=>rfl))⟩)))
theorem kJl (T:Txt K mg):Cal P w K mg base 1 "_law_pairs_from" ["_law_one","_law_a","_law_other","_law_b"] jQl:=
 cal3 T.f_l_pairs_from jYv fun _ _ _ _ _ _ _ hr hu nd=>
  (jJf (jJ3 (i:=4) nd qUb)
   (jJf (jJ3 (i:=5) nd (jKe (jJb (jJ4 (jJb (jJc 1) (jJb (jJc 3) jJd))) jJd)))
   (jJf (qKb lJz (jK6 (qJb hr.units) (jJc 5) (jKe jJd) (jJv _)) (jJf (jJ3 (i:=6) nd (e_bm0 lKr PySem.F.slot_list_pop PySem.F.type_list_pop m_pop (jJc 5)))
   (jJk (s_if (jK6 (jYe hu) (jJc 6) (jJc 4) (jJv _)) (jJf (jVf e_bl (jXx (jJc 4) (jJc 6) (s_F hu)))
   (jJk (jQ6 (e_bm lKr PySem.F.slot_list_extend PySem.F.type_list_extend kYz (jJc 5) (jJb (jQr (mask:=[false,false,false,false,false,false,false,true,true]) rfl ⟨rfl,rfl,rfl,rfl,rfl,rfl,rfl⟩ (uJg rfl T.n_zip rfl (jJb (e_ix (ix_F hu) (jJc 0) (e_ix (ix_F hu) (jJc 6) jJj (fun _ _=>rfl)) (fun _ _=>rfl)) (jJb (e_ix (ix_F hu) (jJc 2) (e_ix (ix_F hu) (jJc 6) jJj (fun _ _=>rfl)) (fun _ _=>rfl)) jJd))) (jYi (jK0 jJw jJ8 (jK0 jJw jJ8 jYj jQs) (jU8 jJ8 jQs))) (fun C fp s H=>(jQx rfl (jJr (jJl (i:=7) nd) (jJr (jJl (i:=8) nd) jKu)))) (fun C fp s H=>jKy) (fun C fp s H=>(jJ4 (jJb (e_ix (ix_F hu) (jJc 7) jJj (fun _ _=>rfl)) (jJb (e_ix (ix_F hu) (jJc 8) jJj (fun _ _=>rfl)) jJd))))) jJd))))) jKn))))
   (jJk (jKd (jJn (uJx rfl hu) (by rfl) T.n_sorted rfl (jJb (jJc 4) jJd)))))))
theorem kXn (T:Txt K mg):Cal P w K mg base 1 "_law_is_int" ["_law_thing"] jU3:=
 cal3 T.f_l_is_int kQn fun _ _ _ _ _ _ _ hr hu nd=>
  (jJk (jKd (qJo (jJn kKp (by rfl) T.n_isinstance rfl (jJb (jJc 0) (jJb (e_ty rfl T.n_int rfl) jJd))) (qJn (e_not (jJn kKp (by rfl) T.n_isinstance rfl (jJb (jJc 0) (jJb (e_ty rfl T.n_bool rfl) jJd))))))))
theorem jZj (T:Txt K mg):Cal P w K mg base 2 "_law_shown_pairs" ["_law_one","_law_a","_law_other","_law_b","_law_thing"] jKx:=
 cal3 T.f_l_shown_pairs jYb fun _ _ _ _ _ _ _ hr hu nd=>
  (jJf (s_if (kKc (kQd (jJn kKp (by rfl) T.n_isinstance rfl (jJb (jJc 4) (jJb (jJ4 (jJb (e_ty rfl T.n_list rfl) (jJb (e_ty rfl T.n_tuple rfl) jJd))) jJd))))) (jJk (jKd e_bl)) jKn)
   (jJf (jJ3 (i:=5) nd qUb)
   (jJf (jQa lJz rfl (jQu (jJc 4)) (jJl (i:=6) nd) (jJf (s_if (PW3.pt (w_or (kKc (kQd (jJn kKp (by rfl) T.n_isinstance rfl (jJb (jJc 6) (jJb (jJ4 (jJb (e_ty rfl T.n_list rfl) (jJb (e_ty rfl T.n_tuple rfl) jJd))) jJd))))) (w_or (jK6 (qJb hr.units) (jJn jKk (by rfl) T.n_len lJo (jJb (jJc 6) jJd)) jJj (jJv _)) (qJw (kKc (kQd (jJn (qXw rfl) (by rfl) T.n_all rfl (jJb (jQr (mask:=[false,false,false,false,false,false,false,false,false,false,false,true,false]) rfl ⟨rfl,rfl,rfl,rfl,rfl,rfl,rfl⟩ (jQu (jJc 6)) jJw (fun C fp s H=>(jJl (i:=11) nd)) (fun C fp s H=>jKy) (fun C fp s H=>(jJy (kXn T) (hr.mono (by decide)) (jJb (jJc 11) jJd)))) jJd)))))))) (jJk (jKd e_bl)) jKn)
   (jJf (s_if (PW3.pt (w_or (kKc (qJ2 (qK8 hu) o_lt jJj (e_ix (ix_F hu) (jJc 6) jJj (fun _ _=>rfl)) (jJn jKk (by rfl) T.n_len lJo (jJb (jJc 0) jJd)))) (qJw (kKc (qJ2 (qK8 hu) o_lt jJj (e_ix (ix_F hu) (jJc 6) jJj (fun _ _=>rfl)) (jJn jKk (by rfl) T.n_len lJo (jJb (jJc 2) jJd))))))) (jJk (jKd e_bl)) jKn)
   (jJk (jVf e_bl (jXx (jJc 5) (jJ4 (jJb (e_ix (ix_F hu) (jJc 6) jJj (fun _ _=>rfl)) (jJb (e_ix (ix_F hu) (jJc 6) jJj (fun _ _=>rfl)) jJd))) (s_F hu)))))))
   (jJf (jQa lJz rfl (jQu (jJ0 (uJy rfl) (by rfl) T.n_list rfl (jJb (jJc 5) jJd))) (jQx rfl (jJr (jJl (i:=7) nd) (jJr (jJl (i:=8) nd) jKu))) (jJf (s_if (jK6 (qJb hr.units) (jQr (mask:=[false,false,false,false,false,false,false,false,false,false,false,true,true]) rfl ⟨rfl,rfl,rfl,rfl,rfl,rfl,rfl⟩ (jQu (e_ix (ix_F hu) (jJc 0) (jJc 7) (fun _ _=>rfl))) (jYi (jK0 jJw jJ8 (jK0 jJw jJ8 jYj jQs) (jU8 jJ8 jQs))) (fun C fp s H=>(jQx rfl (jJr (jJl (i:=11) nd) (jJr (jJl (i:=12) nd) jKu)))) (fun C fp s H=>jKy) (fun C fp s H=>(jJc 12))) (jQr (mask:=[false,false,false,false,false,false,false,false,false,false,false,true,true]) rfl ⟨rfl,rfl,rfl,rfl,rfl,rfl,rfl⟩ (jQu (e_ix (ix_F hu) (jJc 2) (jJc 8) (fun _ _=>rfl))) (jYi (jK0 jJw jJ8 (jK0 jJw jJ8 jYj jQs) (jU8 jJ8 jQs))) (fun C fp s H=>(jQx rfl (jJr (jJl (i:=11) nd) (jJr (jJl (i:=12) nd) jKu)))) (fun C fp s H=>jKy) (fun C fp s H=>(jJc 12))) (jJv _)) (jJk (jKd e_bl)) jKn)
   (jJk (jQa lJz rfl (uJg rfl T.n_zip rfl (jJb (e_ix (ix_F hu) (jJc 0) (jJc 7) (fun _ _=>rfl)) (jJb (e_ix (ix_F hu) (jJc 2) (jJc 8) (fun _ _=>rfl)) jJd))) (jQx rfl (jJr (jJl (i:=9) nd) (jJr (jJl (i:=10) nd) jKu))) (jJk (s_if (jK6 (jYe hu) (jJ4 (jJb (e_ix (ix_F hu) (jJc 9) jJj (fun _ _=>rfl)) (jJb (e_ix (ix_F hu) (jJc 10) jJj (fun _ _=>rfl)) jJd))) (jJc 5) (jJv _)) (jJk (jKd e_bl)) jKn))))))
   (jJk (jKd (kUa (qK9 hu) (jJ4 (jJb (jJc 1) (jJb (jJc 3) jJd))) (jJc 5) (jJv _))))))))
theorem kJm (T:Txt K mg):Cal P w K mg base 3 "_law_bent_pairs" ["_law_box_here","_law_one","_law_other","_law_pairs"] jQm:=
 cal3 T.f_l_bent_pairs jYw fun _ _ _ _ _ _ _ hr hu nd=>
  (jJf (jJ3 (i:=4) nd (jJy (jJp T) (hr.mono (by decide)) (jJb (jJc 0) (jJb (jJn jKk (by rfl) T.n_len lJo (jJb (jJc 3) jJd)) jJd))))
   (jJf (jVf (e_ix (ix_F hu) (jJc 3) (jJc 4) (fun _ _=>rfl)) (jQx rfl (jJr (jJl (i:=5) nd) (jJr (jJl (i:=6) nd) jKu))))
   (jJf (jJ3 (i:=7) nd (jJy (kQ0 T) (hr.mono (by decide)) (jJb (jJc 0) jJd)))
   (jJf (jJ3 (i:=8) nd (jKe (jJb (jJ4 (jJb (jJc 5) (jJb (jJc 6) (jJb jJj jJd)))) (jJb (jJ4 (jJb (jJc 5) jJd)) (jJb (jKe (jJb (jJc 5) (jJb (jJc 6) jJd))) (jJb (jJ4 (jJb (jJc 6) (jJb (jJc 5) jJd))) (jJb (jJ4 (jJb (jJc 5) (jJb (e_op jV0 (e_op jJu (jJc 6) jJj) (jJn jKk (by rfl) T.n_len lJo (jJb (jJc 2) jJd))) jJd))) jJd)))))))
   (jJf (jJ3 (i:=8) nd (e_op jJu (jJc 8) (jKe (jJb (jJ4 (jJb (jJc 5) (jJb (jJn jKk (by rfl) T.n_len lJo (jJb (jJc 2) jJd)) jJd))) (jJb (jJ4 (jJb (e_un kZu jJj) (jJb (jJc 6) jJd))) (jJb (jJ4 (jJb (jJc 5) (jJb (e_un kZu jJj) jJd))) (jJb (jJ4 (jJb (jJn jKk (by rfl) T.n_len lJo (jJb (jJc 1) jJd)) (jJb (jJc 6) jJd))) jJd)))))))
   (jJf (jJ3 (i:=8) nd (e_op jJu (jJc 8) (jKe (jJb (jJ4 (jJb (jJ0 c_strI (by rfl) T.n_str rfl (jJb (jJc 5) jJd)) (jJb (jJc 6) jJd))) (jJb (jJ4 (jJb (jJc 5) (jJb qUa jJd))) (jJb (jJc 7) (jJb (jKe (jJb (jJc 7) (jJb (jJc 6) jJd))) jJd)))))))
   (jJf (jJ3 (i:=8) nd (e_op jJu (jJc 8) (jKe (jJb (jJ4 (jJb (e_op jV0 (e_op jJu (jJc 5) jJj) (jJn jKk (by rfl) T.n_len lJo (jJb (jJc 1) jJd))) (jJb (jJc 6) jJd))) (jJb (jJ4 (jJb (jJ0 uJz (by rfl) T.n_bool rfl (jJb (e_op jV0 (jJc 5) jJj) jJd)) (jJb (jJc 6) jJd))) jJd)))))
   (jJk (jKd (e_op jJu (e_op jJu (jQ5 sl_F (jJc 3) jVy (jUp (jJc 4))) (jKe (jJb (e_ix (ix_F hu) (jJc 8) (jJy (jJp T) (hr.mono (by decide)) (jJb (jJc 0) (jJb jJj jJd))) (fun _ _=>rfl)) jJd))) (jQ5 sl_F (jJc 3) (jUp (e_op jJu (jJc 4) jJj)) jVy)))))))))))
theorem jZk (T:Txt K mg):Cal P w K mg base 4 "_law_pair_things" ["_law_box_here","_law_one","_law_a","_law_other","_law_b","_law_row"] jQg:=
 cal3 T.f_l_pair_things jYc fun _ _ _ _ _ _ _ hr hu nd=>
  (jJf (jJ3 (i:=6) nd (jJy (kJl T) (hr.mono (by decide)) (jJb (jJc 1) (jJb (jJc 2) (jJb (jJc 3) (jJb (jJc 4) jJd))))))
   (jJf (jJ3 (i:=7) nd (jKe jJd))
   (jJf (jQa lJz rfl (jJ7 rfl T.n_range (jJb (jJn jKk (by rfl) T.n_len lJo (jJb (jJc 1) jJd)) jJd)) (jJl (i:=8) nd) (jJk (jQ6 (e_bm lKr PySem.F.slot_list_extend PySem.F.type_list_extend kYz (jJc 7) (jJb (jQr (mask:=[false,false,false,false,false,false,false,false,false,false,false,false,true,false,false]) rfl ⟨rfl,rfl,rfl,rfl,rfl,rfl,rfl⟩ (jJ7 rfl T.n_range (jJb (jJn jKk (by rfl) T.n_len lJo (jJb (jJc 3) jJd)) jJd)) jJw (fun C fp s H=>(jJl (i:=12) nd)) (fun C fp s H=>(kZa (jK6 (jY0 hr.units) (e_ix (ix_F hu) (jJc 5) (jJc 8) (fun _ _=>rfl)) (e_ix (ix_F hu) (jJc 5) (e_op jJu (jJn jKk (by rfl) T.n_len lJo (jJb (jJc 1) jJd)) (jJc 12)) (fun _ _=>rfl)) (jJv _)))) (fun C fp s H=>(jJ4 (jJb (jJc 8) (jJb (jJc 12) jJd))))) jJd)))))
   (jJf (jJ3 (i:=9) nd (jJy (jJp T) (hr.mono (by decide)) (jJb (jJc 0) (jJb (jJn jKk (by rfl) T.n_len lJo (jJb (jJc 6) jJd)) jJd))))
   (jJf (jJ3 (i:=10) nd (jJ4 (jJb (jJy (jJp T) (hr.mono (by decide)) (jJb (jJc 0) (jJb (jJn jKk (by rfl) T.n_len lJo (jJb (jJc 1) jJd)) jJd))) (jJb (jJy (jJp T) (hr.mono (by decide)) (jJb (jJc 0) (jJb (jJn jKk (by rfl) T.n_len lJo (jJb (jJc 3) jJd)) jJd))) jJd))))
   (jJf (jJ3 (i:=11) nd (jKe (jJb (jJc 6) (jJb (jJ0 jK5 (by rfl) T.n_tuple rfl (jJb (jJc 6) jJd)) (jJb (jQr (mask:=[false,false,false,false,false,false,false,false,false,false,false,false,false,true,false]) rfl ⟨rfl,rfl,rfl,rfl,rfl,rfl,rfl⟩ (jQu (jJc 6)) jJw (fun C fp s H=>(jJl (i:=13) nd)) (fun C fp s H=>jKy) (fun C fp s H=>(jJ0 kUf (by rfl) T.n_list rfl (jJb (jJc 13) jJd)))) (jJb (jJc 7) (jJb (e_op jJu (jQ5 sl_F (jJc 6) jVy (jUp (jJc 9))) (jQ5 sl_F (jJc 6) (jUp (e_op jJu (jJc 9) jJj)) jVy)) (jJb (e_op jJu (jJc 6) (jKe (jJb (jJc 10) jJd))) jJd))))))))
   (jJf (jJ3 (i:=11) nd (e_op jJu (jJc 11) (jKe (jJb (e_op jJu (jQ5 sl_F (jJc 6) (jUp (jJc 9)) jVy) (jQ5 sl_F (jJc 6) jVy (jUp (jJc 9)))) (jJb (e_op jJu (jJc 6) (jQ5 sl_F (jJc 6) jVy (jUp (e_op jJu (jJc 9) jJj)))) (jJb (jKe (jJb (jJ4 (jJb (jJc 2) (jJb (jJc 4) jJd))) jJd)) (jJb (jKe jJd) (jJb (jJ4 jJd) (jJb (jJy (kQ0 T) (hr.mono (by decide)) (jJb (jJc 0) jJd)) (jJb (jKe (jJb (jJy (kQ0 T) (hr.mono (by decide)) (jJb (jJc 0) jJd)) jJd)) jJd))))))))))
   (jJf (jJ3 (i:=11) nd (e_op jJu (jJc 11) (jKe (jJb (e_op jJu (jKe (jJb (jJc 10) jJd)) (jJc 7)) (jJb (jQ5 sl_F (jJc 7) jVy (jUp (e_un kZu jJj))) jJd)))))
   (jJk (jKd (e_op jJu (jJc 11) (jQr (mask:=[false,false,false,false,false,false,false,false,false,false,false,false,false,false,true]) rfl ⟨rfl,rfl,rfl,rfl,rfl,rfl,rfl⟩ (jJ7 rfl T.n_range (jJb jJj jJd)) jJw (fun C fp s H=>(jJl (i:=14) nd)) (fun C fp s H=>jKy) (fun C fp s H=>(jJy (kJm T) (hr.mono (by decide)) (jJb (jJc 0) (jJb (jJc 1) (jJb (jJc 3) (jJb (jJc 6) jJd))))))))))))))))))
variable {f:Addr}
theorem ok_law (T:Txt K mg){fd:FuncData}(F:Fun K "law" "law" (top 35) f fd):Fn3 P w K mg base 6 f fd ["_law_script"] qJ6:=by
 have S:FnScope uJ3 ["_law_script"] (jKj (top 35)):=⟨rfl,rfl,rfl,by decide +kernel,rfl,by decide +kernel,by decide +kernel⟩
 refine fn3 F S fun cdv A outer s H E hr=>⟨qKn,?_,qVh⟩
 have hu:=hu_of hr
 have nd:=S.nd
 exact (jJf (jJ3 (i:=1) nd (jJy (kXo T) (hr.mono (by decide)) (jJb (jJc 0) (jJb jJj jJd))))
   (jJf (jQa lJz rfl (jJ7 rfl T.n_range (jJb (jJn (c_max rfl) (by rfl) T.n_max rfl (jJb jJj (jJb (jJn jKk (by rfl) T.n_len lJo (jJb (jJc 1) jJd)) jJd))) jJd)) (jJl (i:=2) nd) (jJf (jJ3 (i:=3) nd (jJy (qVs T) (hr.mono (by decide)) (jJb (jJc 1) (jJb (jJc 2) jJd))))
   (jJf (jVf (jJy (qVr T) (hr.mono (by decide)) (jJb (jJc 3) jJd)) (jQx rfl (jJr (jJl (i:=4) nd) (jJr (jJl (i:=5) nd) (jJr (jJl (i:=6) nd) (jJr (jJl (i:=7) nd) jKu))))))
   (jJf (jJ3 (i:=8) nd (jJy (qK4 T) (hr.mono (by decide)) (jJb (jJc 4) (jJb (jJc 6) jJd))))
   (jJf (jJ3 (i:=9) nd (e_ix (ix_F hu) (jJy (kXl T) (hr.mono (by decide)) (jJb (jJc 8) (jJb (jKe jJd) (jJb (jJn jKk (by rfl) T.n_len lJo (jJb (jJc 8) jJd)) jJd)))) (jJn jKk (by rfl) T.n_len lJo (jJb (jJc 8) jJd)) (fun _ _=>rfl)))
   (jJf (jXj (i:=10) (mask:=[false,false,false,false,false,false,false,false,false,false,false,false,false,true]) rfl nd ⟨rfl,rfl,rfl,rfl,rfl,rfl,rfl⟩ (jJ7 rfl T.n_range (jJb (jJn jKk (by rfl) T.n_len lJo (jJb (jJc 6) jJd)) jJd)) jJw (fun C fp s H=>(jJl (i:=13) nd)) (fun C fp s H=>(kZa (jK6 (o_eqD hr.units) (e_ix (ix_F hu) (jJc 9) (e_op jJu (jJn jKk (by rfl) T.n_len lJo (jJb (jJc 4) jJd)) (jJc 13)) (fun _ _=>rfl)) (e_ix (ix_F hu) (jJc 9) (jJc 5) (fun _ _=>rfl)) (jJv _)))) (fun C fp s H=>(jJc 13)))
   (jJf (s_if (PW3.pt (w_and (jK6 (o_neD hr.units) (jJc 10) (jKe jJd) (jJv _)) (qX7 (jK6 o_gt (jJy (jJp T) (hr.mono (by decide)) (jJb (jJc 3) (jJb jJj jJd))) jJj (jJv _))))) (jJk (jJ3 (i:=7) nd (e_ix (ix_F hu) (jJc 10) (jJy (jJp T) (hr.mono (by decide)) (jJb (jJc 3) (jJb (jJn jKk (by rfl) T.n_len lJo (jJb (jJc 10) jJd)) jJd))) (fun _ _=>rfl)))) jKn)
   (jJk (jQa lJz rfl (jQu (jJy (jZk T) (hr.mono (by decide)) (jJb (jJc 3) (jJb (jJc 4) (jJb (jJc 5) (jJb (jJc 6) (jJb (jJc 7) (jJb (jJc 9) jJd)))))))) (jJl (i:=11) nd) (jJf (jJ3 (i:=12) nd (kQ9 (kQd (jJn kKp (by rfl) T.n_isinstance rfl (jJb (jJc 11) (jJb (e_ty rfl T.n_list rfl) jJd)))) (jJ0 kUf (by rfl) T.n_list rfl (jJb (jJc 11) jJd)) (jJc 11)))
   (jJf (s_if (kKc (kQd (jJy (qK1 T) (hr.mono (by decide)) (jJb (jJy (jZh T) (hr.mono (by decide)) (jJb (jJc 4) (jJb (jJc 5) (jJb (jJc 6) (jJb (jJc 7) (jJb (jJc 12) jJd)))))) (jJb (jJy (jZj T) (hr.mono (by decide)) (jJb (jJc 4) (jJb (jJc 5) (jJb (jJc 6) (jJb (jJc 7) (jJb (jJc 11) jJd)))))) jJd))))) (jJk (jKd e_bl)) jKn)
   (jJk (s_if (jK6 (o_neD hr.units) (jJc 12) (jJc 11) (jJv _)) (jJk (jKd e_bl)) jKn)))))))))))))
   (jJk (jKd e_bl))))
def qY6 (K:PySem.W.Frag):Sp:=dn K 1 qJ6
theorem fn_at {h:Heap}{oc:Value}{od an:Option Addr}{osl:Array (Option Value)}{kV doc pm cdv ct:Value}(X:K.In h)(G:h.Ns mainGlobals mg)(a:PySem.W.nsIn K mainGlobals x=some (some (.ref f)))(l:K.lookup f=some ⟨oc,od,.func (PySem.W.fnOf x x (jY8 (top i)) (jVb (top i)) (jKj (top i)) .none kV doc pm an cdv ct),osl⟩)(c:PySem.W.codeIn K cdv x=true)(k:PySem.W.keepIn K (.ref f)=true):FnAt K mg x i:=⟨f,_,PySem.W.mg_of X G a,fun_mk l c k⟩
variable {l:PySem.W.OpenLaw}
theorem all_mk {fa:Addr}(hfa:mg "law"=some (.ref fa))(T:Txt K mg):
  ∃fd:FuncData,(∀(s:Shared) (v:Value),BindsTo s fd ⟨[v],[]⟩ [("_law_script",v)])/\∀base:Heap,K.In base->base.Ns mainGlobals mg->FnOk l.prog w K mg base CX0 6 fa fd ["_law_script"] (qY6 K):=by
 obtain⟨f,fd,a,F⟩:=T.f_law
 cases hfa.symm.trans a
 refine⟨fd,fun s v=> ?_,fun base _ _=>ok_law T F⟩
 obtain⟨_,_,kV,doc,pm,an,cdv,ct,_,e,_⟩:=F.ex
 subst e
 exact .of_eq rfl
theorem fr_of {H:Hp}{a:Addr}{xs:List V}(hO:Only H)(hS:SqL K H a xs):FrL K H a xs:=by
 rcases hS with h | h
 ·rcases h with h | ⟨ob,h⟩
  ·rcases hO a with z | ⟨o,ys,z⟩
   ·rw[z] at h;cases h
   ·rw[z] at h;cases h
  ·exact .inl ⟨ob,h⟩
 ·exact .inr h
theorem jUe {K:PySem.W.Frag} {H:Hp}:∀ns:List Int,Reps K H (jQq ns) (ns.map V.int)
 | []=>rfl
 | n::ns=>⟨_,_,rfl,rfl,jUe ns⟩
theorem walk {q:Program}{loose:List Str}{XP:(Str->Option Value)->Heap->Prop}{YP:World->Heap->Prop}{d:DefRec}{K:Params->PySem.W.Frag}(hn:l.most=some 63)(hdf:d.params.defaults=[])(hY:∀(w:World) (h:Heap),YP w h->(K w.params).In h)(F:∀(w:World) (mg:Str->Option Value) (fa:Addr) (h:Heap),(K w.params).In h->h.Ns mainGlobals mg->mg d.name=some (.ref fa)->
   ∃fd:FuncData,(∀(s:Shared) (u:Value),BindsTo s fd ⟨[u],[]⟩ [("_law_script",u)])/\∀base:Heap,(K w.params).In base->base.Ns mainGlobals mg->FnOk l.prog w (K w.params) mg base CX0 6 fa fd ["_law_script"] (qY6 (K w.params))):
  PySem.W.WalkO q loose XP YP l.row.toRowW d [] (fun f vs=>PySem.call f vs):=
 L2.walk_of (n:=63) (k:=6) (x:="_law_script") (CX:=fun _=>CX0) (sp:=fun w=>qY6 (K w.params)) hn (by decide) hdf ⟨rfl,rfl,by decide,by decide⟩ hY F
  (fun _ _ a ns hl hO hS=>⟨rfl,[.scr (jQq ns)],fun _=>none,⟨_,_,rfl,⟨a,_,rfl,fr_of hO hS,jUe ns⟩,rfl⟩,(fun _ _ h=>nomatch h),ns,rfl,hl,fun G' v H' _ _ r=>r⟩) fun _ _ _ _ _ z=>z
end W
inductive PySem.W.Fast:Prop|tw9683562901100490211|tw6582883522342194984|tw10912962552017925069|tw13059403214276204411|tw6194612455679022904|tw5851261023375451588|tw13660302206761323427|tw13215948183680817158|tw7119383635982970381|tw16733517811277561077|tw11506355740871033216|tw12405368746053508335|tw11982324612326111896|tw2789269718041154870|tw6133192939125588862|tw12656104476586117369|tw7227885223333140072|tw16768843722383553532|tw13775525703166434127|tw9067963251715304940|tw7212864752763890441|tw12288751186495298461|tw4120975157629332749|tw15906479409706315188|tw2186583142323961088|tw1605048018055816119|tw17335166907102168586|tw10968857010649860275|tw2949891260060624105|tw5791870113848911600|tw1153589507562734843|tw840099337448236260|tw12521252422048187757|tw12403074088617937858|tw4658138827293321749|tw8031689909160503401|tw1393102236873246237|tw505687005685076460|tw445494922102933839|tw5828780150723297858|tw1672873088449700368|tw2749079847372537510|tw990874669768674247|tw14798193799069407953|tw6060709553433686562|tw17397035764348071739|tw13747768088095605708|tw18238430837852623381|tw6357845594748392110|tw12073922950064651244|tw6001347906959033079|tw16861056015876382843|tw13590642774351941304|tw16252680455072572361|tw169565022100561052|tw16228838412915876538|tw6718979380769902526|tw7620337998397262695|tw6077750670324807103|tw6628335037732543905|tw4926234386672259345|tw9243627508606486155|tw5036428077938527213|tw14938051006239179093|tw10625961679806506150|tw10194206585383341045|tw8807435501548490824|tw13724181589870631137|tw10368625621742496051|tw3466416753728252661|tw18032865980154154937|tw9329405797210595302|tw8008320328681626701|tw15267033086729550130|tw4733836339093335045|tw16931624784485590436|tw9947724016016495379|tw7313126831732267319|tw5735433228034705628|tw4357033683011109939|tw10681770324665275526|tw8381702030797386399|tw5446025599971565917|tw7679299239559823936|tw1388892546694962463|tw421316572665737959|tw12858760872584581940|tw2390352573015853017|tw3340013412255103594|tw17641325530151531293|tw14204597874200742142|tw11324961477945853758|tw14980864527397034822|tw10621541349758426558
open PySem PySem.W PyProof.Rows
set_option maxRecDepth 100000 in
set_option maxHeartbeats 0 in
theorem PySem.Challenge.cw_stonewalker_k14_pairings_shown_holds : PySem.Challenge.rw_stonewalker_k14_pairings_shown.Holds := by
 w_on;o_law;k_head;(case hw=>w_witness2)
 k_fill
 refine W.walk (l:=PySem.Challenge.rw_stonewalker_k14_pairings_shown) rfl rfl (fun w h Y=>PySem.W.kIn_of Y) ?F
 case F=>
  intro w mg fa h KX G hmg
  refine W.all_mk hmg ?T
  constructor
  iterate 16 (refine PySem.W.mg_none_of KX G ?_;k_is)
  iterate 33 (refine' W.fn_at KX G ?a ?l ?c ?k;(case a=>k_is);(case l=>k_is);(case c=>k_is);(case k=>k_is))
