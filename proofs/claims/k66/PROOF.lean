
import PyProof.Rows.All
import Wide.All
import OpenK.AllK
import Wide.FinOn
import Lean
import PyProof.EqAt
import PyProof.EqKinds
import PyProof.TupleCall
import PySem.Challenge.RW_stonewalker_k66_never_shown
set_option linter.all false
noncomputable section
def lJa:=@PySem.wpAny_bind
def lJb:=@if_neg
def lJc:=@if_pos
def lJd:=@PySem.wpAny_pure
def lJe:=@List.length_map
def lJf:=@List.getElem?_eq_some_iff
def lJg:=@List.getElem?_eq_getElem
def lJh:=@Nat.le_refl
def lJi:=@PySem.Heap.lt_size
def lJj:=@List.mem_map
def lJk:=@PySem.Heap.get?_push_of_some
def lJl:=@List.mem_of_getElem?
def lJm:=@Bool.false_ne_true
def lJn:=@decide_eq_true
def lJo:=@decide_eq_false
def lJp:=@PySem.boot_len
def lJq:=@List.getElem?_map
def lJr:=@List.map_cons
def lJs:=@Nat.ne_of_lt
def lJt:=@PySem.PassesOwn.never
def lJu:=@PySem.Heap.get?_push_size
def lJv:=@List.mem_cons
def lJw:=@List.size_toArray
def lJx:=@List.map_map
def lJy:=@Nat.zero_le
def lJz:=@List.mem_singleton
def lJ0:=@List.mem_range
def lJ1:=@List.mem_cons_self
def lJ2:=@List.mem_cons_of_mem
def lJ3:=@if_false
def lJ4:=@Option.some.inj
def lJ5:=@List.length_cons
def lJ6:=@Bool.and_eq_true
def lJ7:=@Int.eq_ofNat_of_zero_le
def lJ8:=@List.getElem?_of_mem
def lJ9:=@congrArg
def lKa:=@List.getElem?_eq_none
def lKb:=@Nat.lt_of_lt_of_le
def lKc:=@List.mem_append
def lKd:=@List.length_append
def lKe:=@PySem.wpAny_newObj_type
def lKf:=@Nat.le_trans
def lKg:=@Bool.false_eq_true
def lKh:=@List.not_mem_nil
def lKi:=@PySem.sizeLine_eq
def lKj:=@Array.length_toList
def lKk:=@List.all_eq_true
def lKl:=@PySem.wpAny_call_entry
def lKm:=@List.nodup_cons
def lKn:=@List.length_range
def lKo:=@PySem.F.plainAttrs_list
def lKp:=@PySem.wpAny_field
def lKq:=@PySem.wpAny_of_eq
def lKr:=@List.getElem?_set_ne
def lKs:=@List.mem_append_right
def lKt:=@Nat.not_lt_zero
def lKu:=@List.exists_cons_of_length_eq_add_one
def lKv:=@Nat.succ.inj
def lKw:=@if_true
def lKx:=@List.mem_append_left
def lKy:=@PySem.wpAny_holding
def lKz:=@decide_eq_true_eq
def lK0:=@List.getElem?_set_self
def lK1:=@List.any_cons
def lK2:=@Option.map_eq_some_iff
def lK3:=@List.lookup_cons
def lK4:=@List.take_succ
def lK5:=@List.take_length
def lK6:=@List.map_append
def lK7:=@Bool.true_and
def lK8:=@List.ext_getElem?
def lK9:=@List.length_nil
def lQa:=@PyProof.Rows.callWith_type1
def lQb:=@PySem.Around.in1_units
def lQc:=@List.getElem?_append_left
def lQd:=@List.all_cons
def lQe:=@Array.getElem?_eq_getElem
def lQf:=@List.range_succ
def lQg:=@Nat.mod_eq_of_lt
def lQh:=@PySem.F.slot_list_append
def lQi:=@PySem.F.type_list_append
def lQj:=@PySem.wpAny_mono
def lQk:=@or_false
def lQl:=@List.mem_filter
def lQm:=@List.filterMap_cons
def lQn:=@PySem.Heap.get?_update_self
def lQo:=@List.replicate_succ
def lQp:=@Nat.succ_mul
def lQq:=@List.find?_cons
def lQr:=@Nat.mod_lt
def lQs:=@PySem.wpAny_truthy_bool
def lQt:=@PySem.wpAny_callSpecial?_slot
def lQu:=@PySem.codeAny_builtin
def lQv:=@PySem.plainId_quiet
def lQw:=@Classical.byContradiction
def lQx:=@Nat.ne_of_gt
def lQy:=@List.length_take
def lQz:=@Option.map_some
def lQ0:=@List.getElem_mem
def lQ1:=@Array.getElem?_toList
def lQ2:=@PySem.Around.under_plainId
def lQ3:=@PySem.wpAny_specialOf
def lQ4:=@PySem.wpAny_attempt
def lQ5:=@PySem.typeLookup_type
def lQ6:=@PySem.builtinLookup_eq_fast
def lQ7:=@PySem.isSubtype_type
def lQ8:=@Nat.lt_or_ge
def lQ9:=@List.length_set
def lVa:=@List.flatten_cons
def lVb:=@List.length_eq_zero_iff
def lVc:=@PySem.Heap.SameBut.update
def lVd:=@List.getElem_of_mem
def lVe:=@Nat.le_of_lt_succ
def lVf:=@PySem.F.called_set
def lVg:=@PySem.wpAny_isInstance
def lVh:=@PySem.wpAny_seqItems
def lVi:=@PySem.wpAny_typeOf
def lVj:=@PySem.wpAny_rule
def lVk:=@PySem.wpAny_setField_rec
def lVl:=@Nat.lt_irrefl
def lVm:=@Nat.le_of_lt
def lVn:=@List.mem_filterMap
def lVo:=@List.nodup_nil
def lVp:=@List.getElem?_zip_eq_some
def lVq:=@List.nodup_append
def lVr:=@List.contains_iff_mem
def lVs:=@Int.emod_nonneg
def lVt:=@Int.emod_lt_of_pos
def lVu:=@List.getElem?_range
def lVv:=@Array.getElem?_eq_none
def lVw:=@List.cons.injEq
def lVx:=@List.length_filter_le
def lVy:=@List.filter_cons
def lVz:=@PySem.wpAny_forIn_list
def lV0:=@PySem.wpAny_loadPart'
def lV1:=@PySem.call_meets
def lV2:=@PySem.wpAny_passesOwn
def lV3:=@PySem.wpAny_setField
def lV4:=@List.append_nil
def lV5:=@PySem.Paired.length
def lV6:=@PySem.mem_of_lookup
def lV7:=@List.getElem?_append_right
def lV8:=@PyProof.Rows.slot_tuple_getitem
def lV9:=@PySem.Heap.get?_update_other
def lXa:=@List.foldl_cons
def lXb:=@Nat.mul_comm
def lXc:=@List.zip_cons_cons
def lXd:=@Int.toNat_natCast
def lXe:=@Array.getElem?_eq_some_iff
def lXf:=@List.filterMap_append
def lXg:=@List.filterMap_cons_some
def lXh:=@List.map_take
def lXi:=@List.map_congr_left
def lXj:=@List.getElem?_inj
def lXk:=@PySem.wpAny_fieldsOf
def lXl:=@PySem.wpAny_ite_split
def lXm:=@List.length_drop
def lXn:=@List.getElem?_zipWith
def lXo:=@PySem.Heap.size_push
def lXp:=@Nat.div_eq_of_lt
def lXq:=@List.nodup_range
def lXr:=@PySem.F.slot_dict_keyiterator_next
def lXs:=@Option.some.injEq
def lXt:=@Nat.mul_le_mul_right
def lXu:=@PySem.wpAny_askSetting
def lXv:=@Array.forIn_toList
def lXw:=@List.getElem?_replicate
def lXx:=@List.reverse_cons
def lXy:=@List.append_assoc
def lXz:=@List.length_singleton
def lX0:=@List.mem_singleton_self
def lX1:=@List.length_reverse
def lX2:=@Array.getD_eq_getD_getElem?
def lX3:=@List.zip_eq_zipWith
def lX4:=@List.take_append_drop
def lX5:=@PyProof.Rows.F.plain_set_update_loop
def lX6:=@PySem.F.plain_list_iadd
def lX7:=@PySem.Heap.get?_update_ne
def lX8:=@List.flatMap_append
def lX9:=@List.length_pos_of_mem
def lYa:=@List.idxOf_lt_length_of_mem
def lYb:=@List.getElem_idxOf
def lYc:=@PySem.wpAny_Call_Name_kw
def lYd:=@PySem.wpAny_pyIter_list
def lYe:=@PySem.wpAny_pyIter_slot
def lYf:=@PySem.wpAny_typeNameOfWhole_keyiter
def lYg:=@PySem.wpAny_typeNameOf_keyiter
def lYh:=@Option.isSome_iff_exists
def lYi:=@List.filterMap_cons_none
def lYj:=@List.getD_eq_getElem?_getD
def lYk:=@Nat.add_mul_mod_self_right
local macro_rules
 | `(tactic| omega) => `(tactic| lia)
set_option Elab.async false
set_option linter.all false
set_option maxRecDepth 100000
namespace L2
open PySem PySem.Spec PyProof.Rows
abbrev Key:=Sum Int Str
def jXa:Key->Value->Bool
 | .inl k,v=>Value.isInt k v
 | .inr x,v=>Value.isStrOf x v
def keyH (w:World):Key->Int
 | .inl k=>hashInt k
 | .inr x=>hashStr w x
theorem jJu:∀ {k:Key} {v:Value},jXa k v=true->(∃i t,k=Sum.inl i/\v=Value.int i t)\/(∃x t,k=Sum.inr x/\v=Value.str x t)
 | .inl i,v,h=>by
  obtain⟨t,e⟩:=Value.isInt_shape (k:=i) (v:=v) h
  exact .inl ⟨i,t,rfl,e⟩
 | .inr x,v,h=>by
  obtain⟨t,e⟩:=Value.isStrOf_shape (x:=x) (v:=v) h
  exact .inr ⟨x,t,rfl,e⟩
theorem qKm (i:Int) (t:Tok):jXa (.inl i) (.int i t)=true:=by simp[jXa,Value.isInt]
theorem qKl (x:Str) (t:Tok):jXa (.inr x) (.str x t)=true:=by simp[jXa,Value.isStrOf]
theorem key_ll (a b:Int):decide ((Sum.inl a:Key)=Sum.inl b)=(a == b):=by
 by_cases e:a=b
 ·subst e;simp
 ·have h:¬ (Sum.inl a:Key)=Sum.inl b:=fun q=>e (Sum.inl.inj q)
  rw[lJo h]
  exact (beq_eq_false_iff_ne.mpr e).symm
theorem key_rr (a b:Str):decide ((Sum.inr a:Key)=Sum.inr b)=decide (a=b):=by
 by_cases e:a=b
 ·subst e;simp
 ·have h:¬ (Sum.inr a:Key)=Sum.inr b:=fun q=>e (Sum.inr.inj q)
  rw[lJo h,lJo e]
theorem key_lr (a:Int) (b:Str):decide ((Sum.inl a:Key)=Sum.inr b)=false:=lJo (fun q=>nomatch q)
theorem key_rl (a:Str) (b:Int):decide ((Sum.inr a:Key)=Sum.inl b)=false:=lJo (fun q=>nomatch q)
noncomputable def jQd (prog:Program) (w:World):PySem.KeyKind prog w Key where
 is:=jXa
 hash:=keyH w
 inj:=fun v a b ha hb=>by
  rcases jJu ha with ⟨i,t,rfl,rfl⟩ | ⟨x,t,rfl,rfl⟩
  ·rcases jJu hb with ⟨j,u,rfl,e⟩ | ⟨y,u,rfl,e⟩
   ·injection e with e1 _;rw[e1]
   ·exact nomatch e
  ·rcases jJu hb with ⟨j,u,rfl,e⟩ | ⟨y,u,rfl,e⟩
   ·exact nomatch e
   ·injection e with e1 _;rw[e1]
 byValue:=fun k v h=>by
  rcases jJu h with ⟨i,t,rfl,rfl⟩ | ⟨x,t,rfl,rfl⟩<;>rfl
 pyHash:=fun hv h=>by
  rcases jJu hv with ⟨i,t,rfl,rfl⟩ | ⟨x,t,rfl,rfl⟩
  ·exact wpAny_pyHash_int h
  ·exact wpAny_pyHash_str h
 eqBool:=fun hu hv h=>by
  rcases jJu hu with ⟨i,t,rfl,rfl⟩ | ⟨x,t,rfl,rfl⟩
  ·rcases jJu hv with ⟨j,u,rfl,rfl⟩ | ⟨y,u,rfl,rfl⟩
   ·rw[key_ll] at h;exact wpAny_eqBool_int h
   ·rw[key_lr] at h;exact SeqAt.EqAt.int_str i t y u _ _ _ _ h
  ·rcases jJu hv with ⟨j,u,rfl,rfl⟩ | ⟨y,u,rfl,rfl⟩
   ·rw[key_rl] at h;exact SeqAt.EqAt.str_int x t j u _ _ _ _ h
   ·rw[key_rr] at h;exact wpAny_eqBool_str h
 «strs» :=fun k x t v h=>by
  rcases jJu h with ⟨i,u,rfl,e⟩ | ⟨y,u,rfl,e⟩
  ·exact nomatch e
  ·injection e with e1 _
   subst e1
   cases v<;>rfl
theorem kVn (prog:Program) (w:World) (i:Int) (t:Tok):(jQd prog w).is (.inl i) (.int i t)=true:=qKm i t
theorem kVm (prog:Program) (w:World) (x:Str) (t:Tok):(jQd prog w).is (.inr x) (.str x t)=true:=qKl x t
end L2
set_option synthInstance.maxSize 1000
namespace L2
open PySem PySem.Spec PyProof.Rows
structure KeyV (prog:Program) (w:World) (K:Type) [DecidableEq K] (c:Nat) where
 is:Heap->K->Value->Prop
 hash:K->Int
 draws:K->Nat
 inj:∀ {h:Heap} {v:Value} {x y:K},is h x v->is h y v->x=y
 keeps:∀ {h h':Heap} {k:K} {v:Value} {d:Addr} {o:Obj} {es:Array DictEntry} {ep:Nat},is h k v->h.get? d=some o->o.data= .dict es ep->Heap.SameBut d h h'->is h' k v
 hashed:∀ {A:Around} {E:Value->Shared->Prop} {s:Shared} {k:K} {v:Value} {Q:Int->Shared->Prop},A.units+c<cLine->is s.heap k v->Q (hash k) {s with toks:=s.toks+draws k}->wpAny (model prog w) A (PySem.pyHash v) Q E s
 eqAt:∀ {A:Around} {s:Shared} {x y:K} {u v:Value},A.units+c<cLine->is s.heap x u->is s.heap y v->SeqAt.EqAt A s u v (decide (x=y))
 quiet:∀ {A:Around} {E:Value->Shared->Prop} {s:Shared} {k:K} {v:Value} {Q:Bool->Shared->Prop} (n:Nat),c<=n->is s.heap k v->Q true s->wpAny (model prog w) A (eqIsQuiet n v) Q E s
noncomputable def jYo (prog:Program) (w:World):KeyV prog w Key 0 where
 is:=fun _ k v=>jXa k v=true
 hash:=keyH w
 draws:=fun _=>1
 inj:=fun hx hy=>(jQd prog w).inj _ _ _ hx hy
 keeps:=fun x _ _ _=>x
 hashed:=fun _ hv h=>(jQd prog w).pyHash hv h
 eqAt:=fun _ hx hy prog' w' _ _ h=>(jQd prog' w').eqBool hx hy h
 quiet:=fun n _ hv h=>by rw[eqIsQuiet_byValue n ((jQd prog w).byValue _ _ hv)];exact lJd h
section
variable {prog:Program} {w:World} {K:Type} [DecidableEq K] {c:Nat}
inductive ItemsV (V:KeyV prog w K c) (h:Heap):List K->List Value->Prop
 | nil:ItemsV V h [] []
 | cons {k:K} {v:Value} {ks:List K} {vs:List Value}:V.is h k v->ItemsV V h ks vs->ItemsV V h (k::ks) (v::vs)
theorem ItemsV.inj {V:KeyV prog w K c} {h:Heap} {x:List K} {vs:List Value} (hx:ItemsV V h x vs):∀ {y:List K},ItemsV V h y vs->x=y:=by
 induction hx with
 | nil=>intro y hy;cases hy;rfl
 | cons a _ ih=>intro y hy;cases hy with | cons b t=>rw[V.inj a b,ih t]
theorem ItemsV.length {V:KeyV prog w K c} {h:Heap} {x:List K} {vs:List Value} (hx:ItemsV V h x vs):x.length=vs.length:=by
 induction hx with
 | nil=>rfl
 | cons _ _ ih=>simp[ih]
theorem ItemsV.get {V:KeyV prog w K c} {h:Heap} {x:List K} {vs:List Value} (hx:ItemsV V h x vs):∀ {j:Nat} {v:Value},vs[j]? =some v->∃k,x[j]? =some k/\V.is h k v:=by
 induction hx with
 | nil=>intro j v e;simp at e
 | cons a _ ih=>
  intro j v e
  cases j with
  | zero=>simp at e;subst e;exact⟨_,rfl,a⟩
  | succ j=>obtain⟨k,h1,h2⟩:=ih (j:=j) (v:=v) (by simpa using e);exact⟨k,by simpa using h1,h2⟩
theorem ItemsV.keeps {V:KeyV prog w K c} {h h':Heap} {x:List K} {vs:List Value} {d:Addr} {o:Obj} {es:Array DictEntry} {ep:Nat} (hx:ItemsV V h x vs) (ho:h.get? d=some o) (hd:o.data= .dict es ep) (hs:Heap.SameBut d h h'):ItemsV V h' x vs:=by
 induction hx with
 | nil=>exact .nil
 | cons a _ ih=>exact .cons (V.keeps a ho hd hs) ih
def kJp (V:KeyV prog w K c) (h:Heap) (ks:List K) (v:Value):Prop:=∃(a:Addr) (o:Obj) (items:Array Value) (n:Nat),v= .ref a/\h.get? a=some o/\o.cls= .type "tuple"/\o.data= .seq items n/\ItemsV V h ks items.toList
theorem all_eq:∀(x y:List K),((List.range (min x.length y.length)).all (fun j=>decide (x[j]? =y[j]?))&&x.length == y.length)=decide (x=y):=by
 intro x y
 by_cases e:x=y
 ·subst e;simp
 ·rw[lJo e,Bool.and_eq_false_iff]
  by_cases l:x.length=y.length
  ·left
   rw[List.all_eq_false]
   have:∃j:Nat,x[j]? ≠y[j]? :=by
    apply lQw
    intro q
    exact e (lK8 fun j=>lQw fun z=>q ⟨j,z⟩)
   obtain⟨j,hj⟩:=this
   refine⟨j,lJ0.mpr ?_,by simpa using hj⟩
   rcases lQ8 j (min x.length y.length) with z | z
   ·exact z
   ·exact absurd (by rw[lKa (by omega),lKa (by omega)]) hj
  ·right;simpa using l
noncomputable def jUh (V:KeyV prog w K c):KeyV prog w (List K) (c+2) where
 is:=kJp V
 hash:=fun ks=>reduceHash (Builtin.Tuple.tupleHashOf (ks.map V.hash))
 draws:=fun ks=>(ks.map V.draws).sum+1
 inj:=by
  rintro h v x y ⟨a,o,items,n,rfl,ho,_,hd,hi⟩ ⟨a',o',items',n',e,ho',_,hd',hi'⟩
  cases e
  rw[ho] at ho';cases ho'
  rw[hd] at hd';cases hd'
  exact hi.inj hi'
 keeps:=by
  rintro h h' k v d o es ep ⟨a,o',items,n,rfl,ho',hc,hd',hi⟩ ho hd hs
  have ne:a≠d:=by
   rintro rfl
   rw[ho] at ho';cases ho'
   rw[hd] at hd';cases hd'
  exact⟨a,o',items,n,rfl,(hs.2 a ne).trans ho',hc,hd',hi.keeps ho hd hs⟩
 hashed:=by
  rintro A E s ks v Q hu ⟨a,o,items,n,rfl,ho,hc,hd,hi⟩ h
  refine PySem.W.pyHash_slot (T:="tuple") ⟨o,ho,hc⟩ F.slot_tuple_hash F.entry_tuple_hash (F.args_tuple_hash_1 _) (beq_builtin_none _) (.inr (by omega)) ?_
  refine (show wpAny _ _ (Builtin.Tuple.tupleItemsOf (.ref a) >>= _) _ _ s from lJa (wpAny_tupleItemsOf ho hd (lJa ?_)))
  rw[<-lXv]
  refine lVz _ (fun rest (b:Array Int) z=>∃done left,ks=done++left/\ItemsV V s.heap left rest/\b.toList=done.map V.hash/\z={s with toks:=s.toks+(done.map V.draws).sum}) _ ?_ ?_ _ _ ⟨[],ks,rfl,hi,rfl,rfl⟩
  ·rintro x rest b z ⟨done,left,rfl,hl,hb,rfl⟩
   cases hl with
   | @cons k _ ks' _ h1 hl'=>
    refine lJa (V.hashed (by rw[lQb];omega) h1 ?_)
    first
     | exact lJd ⟨done++[k],ks',by simp,hl',by simp[hb],(by simp[Nat.add_assoc])⟩
     | exact lJa (lJd (lJd ⟨done++[k],ks',by simp,hl',by simp[hb],(by simp[Nat.add_assoc])⟩))
  ·rintro b z ⟨done,left,rfl,hl,hb,rfl⟩
   cases hl
   rw[lV4] at h
   refine (show wpAny _ _ (retInt (Builtin.Tuple.tupleHashOf b.toList)) _ _ _ from ?_)
   rw[hb]
   exact lJa (wpAny_mkInt (lJd ⟨_,_,rfl,by simpa[Nat.add_assoc] using h⟩))
 eqAt:=by
  rintro A s x y u v hu ⟨a,o,items,n,rfl,ho,hc,hd,hi⟩ ⟨a',o',items',n',rfl,ho',hc',hd',hi'⟩
  by_cases e:a=a'
  ·subst e
   rw[ho] at ho';cases ho'
   rw[hd] at hd';cases hd'
   rw[hi.inj hi',lJn rfl]
   exact SeqAt.EqAt.same _
  ·have R:=SeqAt.RcAt.tuples (A:=A) (s:=s) (l:=a) (b:=a') (e:=fun j=>decide (x[j]? =y[j]?)) ⟨o,ho,hc,n,hd⟩ ⟨o',ho',hc',n',hd'⟩ (by omega) (fun j j1 j2=> ?_)
   ·have l1:=hi.length
    have l2:=hi'.length
    rw[<-all_eq x y,l1,l2]
    have R':=SeqAt.EqAt.of_refs e R
    simpa using R'
   ·obtain⟨k,h1,h2⟩:=hi.get (j:=j) (v:=items[j]) (by simp[j1])
    obtain⟨k',h1',h2'⟩:=hi'.get (j:=j) (v:=items'[j]) (by simp[j2])
    have:=V.eqAt (A:=A.in1) (s:=s) (by rw[lQb];omega) h2 h2'
    rw[h1,h1']
    simpa using this
 quiet:=by
  rintro A E s ks v Q n hn ⟨a,o,items,m,rfl,ho,hc,hd,hi⟩ h
  obtain⟨n,rfl⟩:∃nn,n=nn+1:=⟨n-1,by omega⟩
  have hT:s.TypeIs (.ref a) "tuple":=⟨o,ho,hc⟩
  unfold eqIsQuiet;refine lJa (lQ3 hT F.slot_tuple_eq.lookup ?_)
  refine (show wpAny _ _ (isInstance (.ref a) (.type "tuple") >>= _) _ _ s from lJa (lVg hT isSubtype_tuple_tuple ?_))
  simp only[lJ3,Bool.not_true,lKg]
  refine lJa (lVh ho hd (lJa ?_))
  refine (show wpAny _ _ (forIn items _ _) _ _ s from ?_)
  rw[<-lXv]
  refine lVz _ (fun rest r z=>r.1=none/\z=s/\∃left,ItemsV V s.heap left rest) _ ?_ ?_ _ _ ⟨rfl,rfl,ks,hi⟩
  ·rintro x rest r z ⟨hr,rfl,left,hl⟩
   cases hl with
   | cons h1 hl'=>
    refine lJa (V.quiet n (by omega) h1 ?_)
    simp only[lJ3,Bool.not_true,lKg]
    exact lJd ⟨rfl,rfl,_,hl'⟩
  ·rintro⟨r1,r2⟩ z ⟨hr,rfl,_⟩
   simp only at hr;subst hr
   exact lJd h
theorem qZ2 {α β:Type} [DecidableEq α] [DecidableEq β] (a b:α):decide ((Sum.inl a:α ⊕ β)=Sum.inl b)=decide (a=b):=by
 by_cases e:a=b
 ·simp[e]
 ·rw[lJo e,lJo fun z=>e (Sum.inl.inj z)]
theorem qZ1 {α β:Type} [DecidableEq α] [DecidableEq β] (a b:β):decide ((Sum.inr a:α ⊕ β)=Sum.inr b)=decide (a=b):=by
 by_cases e:a=b
 ·simp[e]
 ·rw[lJo e,lJo fun z=>e (Sum.inr.inj z)]
noncomputable def kYo (V:KeyV prog w K c):KeyV prog w (Key ⊕ List K) (c+2) where
 is:=fun h k v=>match k with
  | .inl k=>jXa k v=true
  | .inr ks=>kJp V h ks v
 hash:=fun k=>match k with
  | .inl k=>keyH w k
  | .inr ks=>(jUh V).hash ks
 draws:=fun k=>match k with
  | .inl _=>1
  | .inr ks=>(jUh V).draws ks
 inj:=by
  rintro h v (x | x) (y | y) hx hy
  ·rw[(jQd prog w).inj _ _ _ hx hy]
  ·obtain⟨a,_,_,_,rfl,_⟩:=hy
   rcases jJu hx with ⟨i,t,_,e⟩ | ⟨i,t,_,e⟩<;>cases e
  ·obtain⟨a,_,_,_,rfl,_⟩:=hx
   rcases jJu hy with ⟨i,t,_,e⟩ | ⟨i,t,_,e⟩<;>cases e
  ·rw[(jUh V).inj hx hy]
 keeps:=by
  rintro h h' (k | k) v d o es ep hx ho hd hs
  ·exact hx
  ·exact (jUh V).keeps hx ho hd hs
 hashed:=by
  rintro A E s (k | k) v Q hu hx h
  ·exact (jQd prog w).pyHash hx h
  ·exact (jUh V).hashed hu hx h
 eqAt:=by
  rintro A s (x | x) (y | y) u v hu hx hy
  ·rw[qZ2]
   exact (jYo prog w).eqAt (by omega) hx hy
  ·rw[lJo fun z=>nomatch z]
   obtain⟨a,o,items,n,rfl,ho,hc,hd,_⟩:=hy
   rcases jJu hx with ⟨i,t,_,rfl⟩ | ⟨i,t,_,rfl⟩
   ·exact SeqAt.EqAt.int_tuple i t ⟨o,ho,hc,n,hd⟩ (by omega)
   ·exact SeqAt.EqAt.str_tuple i t ⟨o,ho,hc,n,hd⟩ (by omega)
  ·rw[lJo fun z=>nomatch z]
   obtain⟨a,o,items,n,rfl,ho,hc,hd,_⟩:=hx
   rcases jJu hy with ⟨i,t,_,rfl⟩ | ⟨i,t,_,rfl⟩
   ·exact SeqAt.EqAt.tuple_int i t ⟨o,ho,hc,n,hd⟩ (by omega)
   ·exact SeqAt.EqAt.tuple_str i t ⟨o,ho,hc,n,hd⟩ (by omega)
  ·rw[qZ1]
   exact (jUh V).eqAt hu hx hy
 quiet:=by
  rintro A E s (k | k) v Q n hn hx h
  ·exact (jYo prog w).quiet n (lJy _) hx h
  ·exact (jUh V).quiet n hn hx h
end
abbrev K1:=Key ⊕ List Key
abbrev K2:=Key ⊕ List K1
abbrev TKey:=List K2
def vk1 (prog:Program) (w:World):KeyV prog w K1 2:=kYo (jYo prog w)
def vk2 (prog:Program) (w:World):KeyV prog w K2 4:=kYo (vk1 prog w)
noncomputable def jJg (prog:Program) (w:World):HeapKind prog w TKey where
 is:=fun h ks a=>(jUh (vk2 prog w)).is h ks (.ref a)
 hash:=(jUh (vk2 prog w)).hash
 draws:=(jUh (vk2 prog w)).draws
 room:=fun A=>A.units+6<cLine
 inj:=fun hx hy=>(jUh (vk2 prog w)).inj hx hy
 keeps:=fun x ho hd hs=>(jUh (vk2 prog w)).keeps x ho hd hs
 pyHash:=fun hu hk h=>(jUh (vk2 prog w)).hashed hu hk h
 eqBool:=fun hu hx hy h=>(jUh (vk2 prog w)).eqAt hu hx hy _ _ _ _ h
 quiet:=fun hk h=>(jUh (vk2 prog w)).quiet 8 (by decide) hk h
theorem jKy {prog:Program} {w:World} {A:Around} (hu:A.units+20<cLine):(jJg prog w).room A.in1:=by
 show A.in1.units+6<cLine
 rw[lQb];omega
inductive V where
 | non | bl (b:Bool) | int (i:Int) | str (x:Str) | byt (b:Array UInt8) | flt (b:UInt64) | ref (a:Addr) | ty (n:String)
 deriving DecidableEq
noncomputable def RelV:V->Value->Prop
 | .non,u=>u=Value.none
 | .bl b,u=>u=Value.bool b
 | .int i,u=>∃t,u=Value.int i t
 | .str x,u=>∃t,u=Value.str x t
 | .byt b,u=>∃t,u=Value.bytes b t
 | .flt b,u=>∃t,u=Value.float b t
 | .ref a,u=>u=Value.ref a
 | .ty n,u=>u=Value.type n
abbrev Vals:List V->List Value->Prop:=Paired RelV
theorem Vals.length {xs:List V} {us:List Value} (r:Vals xs us):xs.length=us.length:=lV5 r
theorem Vals.get:∀ {xs:List V} {us:List Value} {i:Nat} {x:V},Vals xs us->xs[i]? =some x->∃u,us[i]? =some u/\RelV x u
 | _,_,_,_,.nil,e=>by simp at e
 | _,_,0,_,.cons r _,e=>by simp at e;subst e;exact⟨_,rfl,r⟩
 | _,_,i+1,x,.cons _ t,e=>by
  obtain⟨u,h1,h2⟩:=Vals.get (i:=i) (x:=x) t (by simpa using e)
  exact⟨u,by simpa using h1,h2⟩
theorem Vals.set {x:V} {u:Value} (r:RelV x u):∀ {xs:List V} {us:List Value} (i:Nat),Vals xs us->Vals (xs.set i x) (us.set i u)
 | _,_,_,.nil=> .nil
 | _,_,0,.cons _ t=> .cons r t
 | _,_,i+1,.cons q t=> .cons q (Vals.set r i t)
theorem Vals.append:∀ {xs ys:List V} {us ws:List Value},Vals xs us->Vals ys ws->Vals (xs++ys) (us++ws)
 | _,_,_,_,.nil,s=>s
 | _,_,_,_,.cons r t,s=> .cons r (Vals.append t s)
theorem Vals.take:∀ {xs:List V} {us:List Value} (n:Nat),Vals xs us->Vals (xs.take n) (us.take n)
 | _,_,0,_=> .nil
 | _,_,_+1,.nil=> .nil
 | _,_,n+1,.cons r t=> .cons r (Vals.take n t)
theorem Vals.drop:∀ {xs:List V} {us:List Value} (n:Nat),Vals xs us->Vals (xs.drop n) (us.drop n)
 | _,_,0,r=>r
 | _,_,_+1,.nil=> .nil
 | _,_,n+1,.cons _ t=>Vals.drop n t
def RelO:Option V->Option Value->Prop
 | some v,some u=>RelV v u
 | none,none=>True
 | _,_=>False
def KV {κ:Type}:List (κ×V)->List (κ×Value)->Prop:=Paired fun (p:κ×V) (q:κ×Value)=>p.1=q.1/\RelV p.2 q.2
def kV:Key->V
 | .inl i=> .int i
 | .inr x=> .str x
inductive HO where
  | lst (xs:List V)
  | tup (xs:List V)
  | dK (kvs:List (Key×V)) | dT (kvs:List (TKey×V))
  | set (S:Int->Bool) (n:Nat)
  | ins (C dx:Addr) (fs:List (Str×V))
  | own (x:Addr)
  | xd (fs:List (Str×V))
  | met (f x:Addr)
  | rng (lo hi:Int)
  | frz (o:Obj) (u:HO)
  | tbl (ps:Array Value)
  | ext (φ:Heap->Prop)
abbrev Hp:=Addr->Option HO
def upd (H:Hp) (a:Addr) (o:HO):Hp:=fun b=>if b=a then some o else H b
theorem jQa {H:Hp} {a:Addr} {o:HO}:upd H a o a=some o:=by unfold upd;rw[lJc rfl]
theorem jKg {H:Hp} {a b:Addr} {o:HO} (h:b≠a):upd H a o b=H b:=by unfold upd;rw[lJb h]
theorem ne_of {H:Hp} {a b:Addr} {o u:HO} (h:H a=some o) (h':H b=some u) (d:o≠u):a≠b:=by
 intro e;subst e;rw[h] at h';exact d (lJ4 h')
theorem jUl {H:Hp} {a b:Addr} {o:HO} (h:H a=some o) (h':H b=none):a≠b:=by
 intro e;subst e;rw[h] at h';cases h'
def Rk1 (H:Hp) (k:K1) (v:V):Prop:=match k with
 | .inl k=>v=kV k
 | .inr ks=>∃p vs,v= .ref p/\H p=some (.tup vs)/\Paired (fun k v=>v=kV k) ks vs
def Rk2 (H:Hp) (k:K2) (v:V):Prop:=match k with
 | .inl k=>v=kV k
 | .inr ks=>∃p vs,v= .ref p/\H p=some (.tup vs)/\Paired (Rk1 H) ks vs
def TKeyAt (H:Hp) (ks:TKey) (a:Addr):Prop:=∃vs,H a=some (.tup vs)/\Paired (Rk2 H) ks vs
theorem jV9 {α β:Type} {F G:α->β->Prop} (f:∀a b,F a b->G a b):∀ {l:List α} {m:List β},Paired F l m->Paired G l m
 | _,_,.nil=> .nil
 | _,_,.cons r t=> .cons (f _ _ r) (jV9 f t)
theorem Rk1.mono {H H':Hp} (ht:∀b ys,H b=some (.tup ys)->H' b=some (.tup ys)) (k:K1) (v:V) (r:Rk1 H k v):Rk1 H' k v:=by
 cases k with
 | inl k=>exact r
 | inr ks=>obtain⟨p,vs,e,h,t⟩:=r;exact⟨p,vs,e,ht _ _ h,t⟩
theorem Rk2.mono {H H':Hp} (ht:∀b ys,H b=some (.tup ys)->H' b=some (.tup ys)) (k:K2) (v:V) (r:Rk2 H k v):Rk2 H' k v:=by
 cases k with
 | inl k=>exact r
 | inr ks=>obtain⟨p,vs,e,h,t⟩:=r;exact⟨p,vs,e,ht _ _ h,jV9 (Rk1.mono ht) t⟩
theorem TKeyAt.mono {H H':Hp} {ks:TKey} {a:Addr} (r:TKeyAt H ks a) (ht:∀b ys,H b=some (.tup ys)->H' b=some (.tup ys)):TKeyAt H' ks a:=by
 obtain⟨vs,h,t⟩:=r;exact⟨vs,ht _ _ h,jV9 (Rk2.mono ht) t⟩
section
variable (P:Program) (w:World)
def TupD (h:Heap) (a:Addr) (items:Array Value):Prop:=∃o,h.get? a=some o/\o.cls= .type "tuple"/\∃n,o.data= .seq items n/\o.dict=none
theorem TupD.is {h:Heap} {a:Addr} {items:Array Value} (x:TupD h a items):IsTup h a items:=let ⟨o,e,c,n,d,_⟩:=x;⟨o,e,c,n,d⟩
theorem TupD.new (h:Heap) (items:Array Value):TupD (h.push {cls:= .type "tuple",data:= .seq items}) h.objs.size items:=⟨_,lJu _ rfl,rfl,_,rfl,rfl⟩
noncomputable def ObjOk (H:Hp) (h:Heap) (a:Addr):HO->Prop
 | .lst xs=>xs.length<=sizeLine/\∃(its:List Value) (n:Nat),Vals xs its/\h.get? a=some {cls:= .type "list",data:= .seq its.toArray n}
 | .tup xs=>xs.length<=sizeLine/\∃its:List Value,Vals xs its/\TupD h a its.toArray
 | .dK kvs=>kvs.length<=sizeLine/\(a == sysModules)=false/\∃vs,KV kvs vs/\h.DictOf (jQd P w) a vs
 | .dT kvs=>kvs.length<=sizeLine/\(a == sysModules)=false/\∃xs:List (TKey×Addr×Value),
   Paired (fun (p:TKey×V) (q:TKey×Addr×Value)=>p.1=q.1/\TKeyAt H p.1 q.2.1/\RelV p.2 q.2.2) kvs xs/\
   ∃o es ep,h.get? a=some o/\o.ExactDict/\o.data= .dict es ep/\es.toList=xs.map (entryOfKey (jJg P w))/\(xs.map (·.1)).Nodup
 | .set S n=>h.SetOf (intKind P w) a S n
 | .ins C dx fs=>H dx=some (.own a)/\fs.length<=1000/\dx≠a/\h.get? a=some (PySem.W.instObj C dx)/\
   ∃mA,h.Ns1 dx mA/\(∀f,RelO (fs.lookup f) (mA f))/\PySem.Within mA (fs.map (·.1))
 | .own _=>∃o,h.get? a=some o
 | .xd fs=>∃mA,h.Ns1 a mA/\∀f,RelO (fs.lookup f) (mA f)
 | .rng lo hi=>∃t u v,h.get? a=some {cls:= .type "range",data:= .fields #[.int lo t,.int hi u,.int 1 v]}
 | .frz o u=>h.get? a=some o/\ObjOk H h a u
 | .tbl ps=>h.get? a=some {cls:= .none,data:= .fields ps}
 | .met f x=>h.get? a=some (PySem.W.methodObj (.ref f) (.ref x))
 | .ext φ=>φ h/\(∃o,h.get? a=some o)/\∀h1 h2:Heap,φ h1->(∀o,h1.get? a=some o->h2.get? a=some o)->φ h2
def HOk (H:Hp) (h:Heap):Prop:=∀a o,H a=some o->ObjOk P w H h a o
end
section
variable {P:Program} {w:World} {H H':Hp} {h h':Heap} {a:Addr} {o:HO}
theorem ObjOk.lt (x:ObjOk P w H h a o):a<h.objs.size:=by
 cases o with
 | lst xs=>obtain⟨_,_,_,_,e⟩:=x;exact lJi e
 | tup xs=>obtain⟨_,_,_,p⟩:=x;exact p.is.lt
 | dK kvs=>obtain⟨_,_,_,_,o,_,_,e,_⟩:=x;exact lJi e
 | dT kvs=>obtain⟨_,_,_,_,o,_,_,e,_⟩:=x;exact lJi e
 | set S n=>obtain⟨o,_,_,_,e,_⟩:=x;exact lJi e
 | ins C dx fs=>obtain⟨_,_,_,e,_⟩:=x;exact lJi e
 | own y=>obtain⟨_,e⟩:=x;exact lJi e
 | xd fs=>obtain⟨_,⟨_,_,_,e,_⟩,_⟩:=x;exact lJi e
 | rng lo hi=>obtain⟨_,_,_,e⟩:=x;exact lJi e
 | frz ob u=>obtain⟨e,_⟩:=x;exact lJi e
 | tbl ps=>exact lJi (show h.get? a=some _ from x)
 | met f y=>exact lJi (show h.get? a=some _ from x)
 | ext φ=>obtain⟨_,⟨_,e⟩,_⟩:=x;exact lJi e
theorem Paired.mapP {α β:Type} {F G:α->β->Prop}:∀ {l₁:List α} {l₂:List β},Paired F l₁ l₂->(∀a b,F a b->G a b)->Paired G l₁ l₂
 | _,_,.nil,_=> .nil
 | _,_,.cons r t,f=> .cons (f _ _ r) (Paired.mapP t f)
theorem ObjOk.stay (x:ObjOk P w H h a o) (k:∀b u,(b=a\/H b=some (.own a))->h.get? b=some u->h'.get? b=some u)
  (ho:∀b,H b=some (.own a)->H' b=some (.own a)) (ht:∀b xs,H b=some (.tup xs)->H' b=some (.tup xs)):ObjOk P w H' h' a o:=by
 induction o with
 | lst xs=>obtain⟨z,its,n,r,e⟩:=x;exact⟨z,its,n,r,k _ _ (.inl rfl) e⟩
 | tup xs=>obtain⟨z,its,r,ob,e,c⟩:=x;exact⟨z,its,r,ob,k _ _ (.inl rfl) e,c⟩
 | dK kvs=>obtain⟨z,y,vs,r,ob,es,ep,e,c⟩:=x;exact⟨z,y,vs,r,ob,es,ep,k _ _ (.inl rfl) e,c⟩
 | dT kvs=>
  obtain⟨z,y,xs,r,ob,es,ep,e,c⟩:=x
  exact⟨z,y,xs,Paired.mapP r fun p q z=>⟨z.1,z.2.1.mono ht,z.2.2⟩,ob,es,ep,k _ _ (.inl rfl) e,c⟩
 | set S n=>obtain⟨ob,es,ep,t,e,c⟩:=x;exact⟨ob,es,ep,t,k _ _ (.inl rfl) e,c⟩
 | ins C dx fs=>
  obtain⟨d,z,ne,e,mA,⟨od,es,ep,e2,c⟩,r⟩:=x
  exact⟨ho _ d,z,ne,k _ _ (.inl rfl) e,mA,⟨od,es,ep,k _ _ (.inr d) e2,c⟩,r⟩
 | own y=>obtain⟨ob,e⟩:=x;exact⟨ob,k _ _ (.inl rfl) e⟩
 | xd fs=>obtain⟨mA,⟨od,es,ep,e,c⟩,r⟩:=x;exact⟨mA,⟨od,es,ep,k _ _ (.inl rfl) e,c⟩,r⟩
 | rng lo hi=>obtain⟨t,u,v,e⟩:=x;exact⟨t,u,v,k _ _ (.inl rfl) e⟩
 | frz ob u ih=>obtain⟨e,q⟩:=x;exact⟨k _ _ (.inl rfl) e,ih q⟩
 | tbl ps=>
  have e:h.get? a=some {cls:= .none,data:= .fields ps}:=x
  show h'.get? a=some {cls:= .none,data:= .fields ps}
  exact k a _ (.inl rfl) e
 | met f y=>
  have e:h.get? a=some (PySem.W.methodObj (.ref f) (.ref y)):=x
  show h'.get? a=some (PySem.W.methodObj (.ref f) (.ref y))
  exact k a _ (.inl rfl) e
 | ext φ=>obtain⟨p,⟨o,e⟩,st⟩:=x;exact⟨st _ _ p fun o q=>k _ _ (.inl rfl) q,⟨o,k _ _ (.inl rfl) e⟩,st⟩
theorem HOk.lt (x:HOk P w H h) (e:H a=some o):a<h.objs.size:=(x a o e).lt
theorem HOk.fresh (x:HOk P w H h) (e:h.objs.size<=a):H a=none:=by
 cases q:H a with
 | none=>rfl
 | some u=>exact absurd (lKb (x.lt q) e) (lVl _)
theorem HOk.kept (x:HOk P w H h) (k:∀b u,h.get? b=some u->h'.get? b=some u):HOk P w H h':=fun a o e=>
 (x a o e).stay (fun b u _ q=>k b u q) (fun _ q=>q) fun _ _ q=>q
theorem HOk.laid (x:HOk P w H h) (k:∀b u,h.get? b=some u->h'.get? b=some u) (hp:h.objs.size<=a) (new:ObjOk P w (upd H a o) h' a o):HOk P w (upd H a o) h':=fun b u e=>by
 have hn:=x.fresh hp
 by_cases hb:b=a
 ·subst hb;rw[jQa] at e;cases e;exact new
 ·rw[jKg hb] at e
  exact (x b u e).stay (fun c v _ q=>k c v q) (fun c q=>by rw[jKg (jUl q hn)];exact q) fun c xs q=>by rw[jKg (jUl q hn)];exact q
end
def Rd (H:Hp) (a:Addr) (u:HO):Prop:=H a=some u\/∃o,H a=some (.frz o u)
theorem Rd.ok {P:Program} {w:World} {H:Hp} {h:Heap} {a:Addr} {u:HO} (r:Rd H a u) (x:HOk P w H h):ObjOk P w H h a u:=by
 rcases r with r | ⟨o,r⟩
 ·exact x a u r
 ·obtain⟨_,q⟩:=x a _ r
  exact q
def Mut:Option HO->Prop
 | some (.lst _)=>True
 | some (.dK _)=>True
 | some (.dT _)=>True
 | some (.set _ _)=>True
 | some (.ins _ _ _)=>True
 | some (.ext _)=>True
 | _=>False
section
variable {P:Program} {w:World} {H:Hp} {h h':Heap} {x e:Addr} {o':HO}
theorem HOk.write (ok:HOk P w H h) (mu:Mut (H x)) (he:e=x\/H e=some (.own x)) (k:∀b u,b≠e->h.get? b=some u->h'.get? b=some u) (heo:∃u,h'.get? e=some u)
  (new:ObjOk P w (upd H x o') h' x o'):HOk P w (upd H x o') h':=fun b u q=>by
 have nown:∀c y,H c=some (.own y)->c≠x:=fun c y r z=>by subst z;rw[r] at mu;exact mu
 have ntup:∀c xs,H c=some (.tup xs)->c≠x:=fun c xs r z=>by subst z;rw[r] at mu;exact mu
 by_cases hb:b=x
 ·subst hb;rw[jQa] at q;cases q;exact new
 ·rw[jKg hb] at q
  by_cases hbe:b=e
  ·have q':H b=some (.own x):=by
    rcases he with z | z
    ·exact absurd (hbe.trans z) hb
    ·rw[hbe];exact z
   rw[q] at q';cases q'
   obtain⟨v,hv⟩:=heo
   exact⟨v,by rw[hbe];exact hv⟩
  ·refine (ok b u q).stay (fun c v hc r=>k c v ?_ r) (fun c r=>by rw[jKg (nown c b r)];exact r) fun c xs r=>by rw[jKg (ntup c xs r)];exact r
   rcases hc with rfl | hc
   ·exact hbe
   ·rintro rfl
    rcases he with z | z
    ·exact nown c b hc z
    ·rw[hc] at z;cases z;exact hb rfl
end
structure Un (fs ex:List Addr) (H H':Hp) (h h':Heap):Prop where
 keep:∀b o,h.get? b=some o->H b=none->b∉fs->b∉ex->h'.get? b=some o
 slot:∀b o,h.get? b=some o->H b=none->b∈fs->b∉ex->∃sl,h'.get? b=some {o with slots:=sl}
 free:∀b o,h.get? b=some o->H b=none->b∉ex->H' b=none
 there:∀b o,h.get? b=some o->b∉ex->∃o',h'.get? b=some o'
 tups:∀b xs,H b=some (.tup xs)->H' b=some (.tup xs)
 frzs:∀b o u,H b=some (.frz o u)->H' b=some (.frz o u)
 tbls:∀b ps,H b=some (.tbl ps)->∃more,H' b=some (.tbl (ps++more))
section
variable {fs fs' ex ex':List Addr} {H H1 H2:Hp} {h h1 h2 h':Heap} {a x e:Addr} {o:HO}
theorem Un.any (u:Un fs ex H H1 h h1) {b:Addr} {ob:Obj} (q:h.get? b=some ob) (n:H b=none) (hx:b∉ex):∃sl,h1.get? b=some {ob with slots:=sl}:=by
 by_cases hb:b∈fs
 ·exact u.slot b ob q n hb hx
 ·exact⟨ob.slots,u.keep b ob q n hb hx⟩
theorem Un.kept (k:∀b u,h.get? b=some u->h'.get? b=some u):Un fs ex H H h h':=
 ⟨fun b ob q _ _ _=>k b ob q,fun b ob q _ _ _=>⟨ob.slots,k b ob q⟩,fun _ _ _ n _=>n,fun b ob q _=>⟨ob,k b ob q⟩,fun _ _ q=>q,fun _ _ _ q=>q,fun _ ps q=>⟨#[],by rw[q];simp⟩⟩
theorem Un.refl:Un fs ex H H h h:=Un.kept fun _ _ q=>q
theorem Un.laid (k:∀b u,h.get? b=some u->h'.get? b=some u) (hp:h.objs.size<=a) (hn:H a=none):Un fs ex H (upd H a o) h h' where
 keep:=fun b u q _ _ _=>k b u q
 slot:=fun b u q _ _ _=>⟨u.slots,k b u q⟩
 free:=fun b u q n _=>by rw[jKg (lJs (lKb (lJi q) hp))];exact n
 there:=fun b u q _=>⟨u,k b u q⟩
 tups:=fun b xs q=>by rw[jKg (jUl q hn)];exact q
 frzs:=fun b u xs q=>by rw[jKg (jUl q hn)];exact q
 tbls:=fun b ps q=>⟨#[],by rw[jKg (jUl q hn),q];simp⟩
theorem Un.write (mu:Mut (H x)) (he:e=x\/H e=some (.own x)) (k:∀b u,b≠e->h.get? b=some u->h'.get? b=some u) (heo:∃u,h'.get? e=some u):Un fs ex H (upd H x o) h h':=by
 have hx:∀b,H b=none->b≠x:=fun b n z=>by subst z;rw[n] at mu;exact mu
 have hb:∀b,H b=none->b≠e:=fun b n z=>by
  subst z
  rcases he with r | r
  ·exact hx b n r
  ·rw[n] at r;cases r
 have hm:∀b u,H b=some u->¬ Mut (some u)->b≠x:=fun b u q nm z=>by subst z;rw[q] at mu;exact nm mu
 refine⟨fun b u q n _ _=>k b u (hb b n) q,fun b u q n _ _=>⟨u.slots,k b u (hb b n) q⟩,fun b u q n _=>by rw[jKg (hx b n)];exact n,fun b u q _=> ?_,
  fun b xs q=>by rw[jKg (hm b _ q fun z=>z)];exact q,fun b u xs q=>by rw[jKg (hm b _ q fun z=>z)];exact q,fun b ps q=>⟨#[],by rw[jKg (hm b _ q fun z=>z),q];simp⟩⟩
 by_cases hbe:b=e
 ·subst hbe;exact heo
 ·exact⟨u,k b u hbe q⟩
end
def trk (h:Heap) (H:Hp):List Addr:=(List.range h.objs.size).filter fun a=>(H a).isSome
def hidT (h:Heap) (H:Hp):Heap:=PySem.W.hideAll h (trk h H)
theorem qKv (h:Heap) (H:Hp):(hidT h H).objs.size=h.objs.size:=PySem.W.hideAll_size _ _
theorem qVv {h:Heap} {H:Hp} {b:Addr} {o:Obj} (e:h.get? b=some o) (n:H b=none):(hidT h H).get? b=some o:=
 PySem.W.hideAll_get _ e fun hm=>by
  have q:(H b).isSome=true:=(lQl.mp hm).2
  rw[n] at q;simp at q
theorem qY2 {h:Heap} {H:Hp} {b:Addr} {o:Obj} (e:(hidT h H).get? b=some o):h.get? b=some o/\H b=none:=by
 have e':h.get? b=some o:=PySem.W.of_hideAll (trk h H) e
 refine⟨e',?_⟩
 cases q:H b with
 | none=>rfl
 | some x=>
  have hm:b∈trk h H:=lQl.mpr ⟨lJ0.mpr (lJi e'),by simp[q]⟩
  have z:(hidT h H).get? b=none:=PySem.W.hideAll_none (trk h H) hm
  rw[z] at e;cases e
def qZ9 (g h:Heap) (L:Addr):List (Addr×Obj):=(List.range h.objs.size).filterMap fun a=>if a=L\/(g.get? a).isSome=true then none else (h.get? a).map fun o=>(a,o)
def rest (g h:Heap) (L d:Addr):List (Addr×Obj):=(qZ9 g h L).filter fun p=>decide (p.1≠d)
structure Mod (K:PySem.W.Frag) (mg:Str->Option Value) (base:Heap):Prop where
 kin:K.In base
 glob:base.Ns mainGlobals mg
 blt:∃mb,base.Ns builtinsNs mb/\∀x:Str,x≠"__name__"->mb x=bootBuiltins x
 nolimit:base.NoLimit
structure Cx where
 prog:Program
 w:World
 K:PySem.W.Frag
 mg:Str->Option Value
 base:Heap
 A:Around
 N:List Str
 s₀:Shared
 H₀:Hp
 env:Env
 outer:List Env
 stack:List Env
 ex:List Addr
 fn:Str->Bool
 calm:Bool
 pn:List (Addr×Obj)
 xe:Value->Shared->Prop
def frs (l:List Env):List Addr:=l.filterMap (·.frame)
abbrev Cx.fs (X:Cx):List Addr:=frs X.outer
def Vis (sc:Scope) (x:Str):Prop:=sc.names.lookup x=some .local\/sc.names.lookup x=some .cell\/sc.names.lookup x=some .free
def Loc (sc:Scope) (x:Str):Prop:=sc.names.lookup x=some .local\/sc.names.lookup x=some .cell
def Look (env:Env) (h:Heap) (m:Str->Option Value) (x:Str) (u:Value):Prop:=
 (env.kindOf x=some .local/\m x=some u)\/((env.kindOf x=some .cell\/env.kindOf x=some .free)/\∃c,env.cells.lookup x=some c/\h.IsCell c (some u))
structure Cx.Ok (X:Cx):Prop where
 mod:Mod X.K X.mg X.base
 kind:X.env.scope.kind= .function
 glob:X.env.globals=mainGlobals
 blt:X.env.builtins=builtinsNs
 above:X.s₀.heap.objs.size<=X.env.locals
 inj:∀x y c,X.env.cells.lookup x=some c->X.env.cells.lookup y=some c->x=y
 has:∀x,(X.env.kindOf x=some .cell\/X.env.kindOf x=some .free)->∃c,X.env.cells.lookup x=some c
 cab:∀x c,X.fn x=true->X.env.cells.lookup x=some c->X.s₀.heap.objs.size<=c
 hd:X.calm=true->X.A.handled=none
 gd:X.calm=true->X.A.guards=some []
 frames:X.A.frames=some X.stack
 stk:X.stack=X.outer\/(X.stack=X.env::X.outer/\X.env.frame=some X.env.locals)
 exf:∀b∈X.ex,b≠X.env.locals/\∀x c,X.env.cells.lookup x=some c->c≠b
 bs:∀b o,X.base.get? b=some o->X.s₀.heap.get? b=some o/\X.H₀ b=none
 bsz:X.base.objs.size<=X.s₀.heap.objs.size
 noex:∀b o,X.base.get? b=some o->b∉X.ex
 exfs:∀b∈X.ex,b∉X.fs
 funs:X.s₀.heap.FunFrames X.base X.outer
 frf:∀b∈X.fs,X.H₀ b=none
structure Inv (X:Cx) (pins:List (Addr×Obj)) (σ:List (Option V)) (H:Hp) (s:Shared):Prop where
 ok:X.Ok
 os:s.os=X.s₀.os
 bare:AllBare s.gens
 base:Un X.fs X.ex X.H₀ H X.s₀.heap s.heap
 loc:∃m,s.heap.Ns X.env.locals m/\∀(i:Nat) (x:Str) (v:V),X.N[i]? =some x->σ[i]? =some (some v)->Vis X.env.scope x->∃u,RelV v u/\Look X.env s.heap m x u
 cell:∀x c,X.env.cells.lookup x=some c->∃v,s.heap.IsCell c v
 free:H X.env.locals=none
 freeC:∀x c,X.env.cells.lookup x=some c->H c=none
 pin:∀p∈X.pn++pins,s.heap.get? p.1=some p.2/\H p.1=none/\p.1≠X.env.locals/\p.1∉X.fs/\∀v,p.2.data≠ .cell v
 hok:HOk X.prog X.w H s.heap
 len:σ.length=X.N.length
section
variable {X:Cx} {pins:List (Addr×Obj)} {σ:List (Option V)} {H H':Hp} {s:Shared} {h':Heap}
theorem Cx.Ok.nofr (ok:X.Ok) {b:Addr} {o:Obj} (e:X.base.get? b=some o):b∉X.fs:=fun hb=>by
 have:=(ok.funs.mem hb).1
 rw[e] at this;cases this
theorem Inv.bs (I:Inv X pins σ H s):∀b o,X.base.get? b=some o->s.heap.get? b=some o/\H b=none:=fun b o e=>
 ⟨I.base.keep b o (I.ok.bs b o e).1 (I.ok.bs b o e).2 (I.ok.nofr e) (I.ok.noex b o e),I.base.free b o (I.ok.bs b o e).1 (I.ok.bs b o e).2 (I.ok.noex b o e)⟩
theorem Inv.bk (I:Inv X pins σ H s):∀b o,X.base.get? b=some o->s.heap.get? b=some o:=fun b o e=>(I.bs b o e).1
theorem Inv.mod (I:Inv X pins σ H s):Mod X.K X.mg X.base:=I.ok.mod
theorem Inv.kIn (I:Inv X pins σ H s):X.K.In s.heap:=I.ok.mod.kin.keeps I.bk
theorem Inv.lt (I:Inv X pins σ H s):X.env.locals<s.heap.objs.size:=let ⟨_,hn,_⟩:=I.loc;hn.lt
theorem Inv.sz (I:Inv X pins σ H s):X.s₀.heap.objs.size<=s.heap.objs.size:=lKf I.ok.above (lVm I.lt)
theorem Inv.nofs (I:Inv X pins σ H s) {a:Addr} (h:s.heap.objs.size<=a):a∉X.fs:=fun hb=>by
 obtain⟨_,o,ho,_⟩:=I.ok.funs.mem hb
 exact absurd (lKb (lJi ho) (lKf I.sz h)) (lVl _)
theorem Inv.cne (I:Inv X pins σ H s):∀x c,X.env.cells.lookup x=some c->c≠X.env.locals:=fun x c e z=>by
 obtain⟨v,o,ho,hd⟩:=I.cell x c e
 obtain⟨m,⟨o',es,ep,ho',hd',_⟩,_⟩:=I.loc
 rw[z,ho'] at ho;cases ho;rw[hd'] at hd;cases hd
theorem Inv.funs (I:Inv X pins σ H s):s.heap.FunFrames X.base X.outer:=by
 have all:∀(l:List Env),(∀b∈frs l,b∈X.fs)->X.s₀.heap.FunFrames X.base l->s.heap.FunFrames X.base l:=by
  intro l
  induction l with
  | nil=>intro _ _;trivial
  | cons env r ih=>
   intro hs hl
   obtain⟨hk,⟨L,o,hf,hn,ho,hd⟩,hr⟩:=hl
   have hL:L∈X.fs:=hs L (by unfold frs;rw[lQm,hf];exact lJ1)
   obtain⟨sl,e⟩:=I.base.slot L o ho (I.ok.frf L hL) hL fun z=>I.ok.exfs L z hL
   exact⟨hk,⟨L,_,hf,hn,e,hd⟩,ih (fun b hb=>hs b (by unfold frs;rw[lQm,hf];exact lJ2 _ hb)) hr⟩
 exact all X.outer (fun _ hb=>hb) I.ok.funs
theorem Inv.stack (I:Inv X pins σ H s):s.heap.FunFrames X.base X.stack:=by
 rcases I.ok.stk with e | ⟨e,hf⟩
 ·rw[e];exact I.funs
 ·rw[e]
  obtain⟨m,hn,_⟩:=I.loc
  refine .cons (by rw[I.ok.kind];decide) hf hn ?_ I.funs
  exact Heap.get?_none_of_le (lKf I.ok.bsz I.ok.above)
theorem Inv.stkSub (I:Inv X pins σ H s):∀b∈frs X.stack,b∈X.env.locals::X.fs:=fun b hb=>by
 rcases I.ok.stk with e | ⟨e,hf⟩
 ·rw[e] at hb;exact lJ2 _ hb
 ·rw[e] at hb
  unfold frs at hb
  rw[lQm,hf] at hb
  exact hb
theorem Inv.stkFree (I:Inv X pins σ H s):∀b∈frs X.stack,H b=none:=fun b hb=>by
 rcases lJv.mp (I.stkSub b hb) with e | hb
 ·rw[e];exact I.free
 ·obtain⟨_,o,ho,_⟩:=I.ok.funs.mem hb
  exact I.base.free b o ho (I.ok.frf b hb) fun z=>I.ok.exfs b z hb
theorem Inv.step {g':Array GenState} {t':Nat} {d':Drawn} {ch:List Addr} (I:Inv X pins σ H s)
  (hch:∀b∈ch,(b∈X.ex\/X.s₀.heap.objs.size<=b)/\b≠X.env.locals/\(∀x c,X.env.cells.lookup x=some c->c≠b)/\∀p∈X.pn++pins,p.1≠b)
  (keep:∀b o,b≠X.env.locals->b∉X.fs->b∉ch->s.heap.get? b=some o->H b=none->h'.get? b=some o)
  (slot:∀b o,b≠X.env.locals->b∈X.fs->b∉ch->s.heap.get? b=some o->H b=none->∃sl,h'.get? b=some {o with slots:=sl}) (free:∀b o,b∉ch->s.heap.get? b=some o->H b=none->H' b=none)
  (there:∀b o,b∉ch->s.heap.get? b=some o->∃o',h'.get? b=some o')
  (tups:∀b xs,H b=some (.tup xs)->H' b=some (.tup xs)) (frzs:∀b o u,H b=some (.frz o u)->H' b=some (.frz o u)) (tbls:∀b ps,H b=some (.tbl ps)->∃more,H' b=some (.tbl (ps++more)))
  (ns:∀m,s.heap.Ns X.env.locals m->h'.Ns X.env.locals m) (hok:HOk X.prog X.w H' h') (hg:AllBare g'):
  Inv X pins σ H' {s with heap:=h',gens:=g',drawn:=d',toks:=t'}:=by
 have neL:∀b o,X.s₀.heap.get? b=some o->b≠X.env.locals:=fun b o e=>lJs (lKb (lJi e) I.ok.above)
 have neC:∀b o,X.s₀.heap.get? b=some o->b∉X.ex->b∉ch:=fun b o e hx hb=>by
  rcases (hch b hb).1 with z | z
  ·exact hx z
  ·exact absurd (lKb (lJi e) z) (lVl _)
 have cellK:∀x c,X.env.cells.lookup x=some c->∀v,s.heap.IsCell c v->h'.IsCell c v:=fun x c e v ⟨o,ho,hd⟩=>by
  have nch:c∉ch:=fun z=>(hch c z).2.2.1 x c e rfl
  by_cases hc:c∈X.fs
  ·obtain⟨sl,q⟩:=slot c o (I.cne x c e) hc nch ho (I.freeC x c e)
   exact⟨_,q,hd⟩
  ·exact⟨o,keep c o (I.cne x c e) hc nch ho (I.freeC x c e),hd⟩
 refine⟨I.ok,I.os,hg,⟨fun b o e n hb hx=> ?_,fun b o e n hb hx=> ?_,fun b o e n hx=> ?_,fun b o e hx=> ?_,fun b xs e=>tups b xs (I.base.tups b xs e),fun b o xs e=>frzs b o xs (I.base.frzs b o xs e),fun b ps e=> ?_⟩,?_,fun x c e=> ?_,?_,fun x c e=> ?_,fun p hp=> ?_,hok,I.len⟩
 ·exact keep b o (neL b o e) hb (neC b o e hx) (I.base.keep b o e n hb hx) (I.base.free b o e n hx)
 ·obtain⟨sl,e1⟩:=I.base.slot b o e n hb hx
  obtain⟨sl',e2⟩:=slot b _ (neL b o e) hb (neC b o e hx) e1 (I.base.free b o e n hx)
  exact⟨sl',e2⟩
 ·obtain⟨o',e1⟩:=I.base.there b o e hx
  exact free b o' (neC b o e hx) e1 (I.base.free b o e n hx)
 ·obtain⟨o',e1⟩:=I.base.there b o e hx
  exact there b o' (neC b o e hx) e1
 ·obtain⟨m1,e1⟩:=I.base.tbls b ps e
  obtain⟨m2,e2⟩:=tbls b _ e1
  exact⟨m1++m2,by rw[e2,Array.append_assoc]⟩
 ·obtain⟨m,hn,hl⟩:=I.loc
  refine⟨m,ns m hn,fun i x v e1 e2 e3=> ?_⟩
  obtain⟨u,r,l⟩:=hl i x v e1 e2 e3
  refine⟨u,r,?_⟩
  rcases l with l | ⟨k,c,e,z⟩
  ·exact .inl l
  ·exact .inr ⟨k,c,e,cellK x c e _ z⟩
 ·obtain⟨v,z⟩:=I.cell x c e
  exact⟨v,cellK x c e v z⟩
 ·obtain⟨m,⟨o,_,_,ho,_⟩,_⟩:=I.loc
  exact free _ o (fun z=>(hch _ z).2.1 rfl) ho I.free
 ·obtain⟨v,o,ho,hd⟩:=I.cell x c e
  exact free c o (fun z=>(hch c z).2.2.1 x c e rfl) ho (I.freeC x c e)
 ·obtain⟨e,n,ne,nf,d⟩:=I.pin p hp
  have nch:p.1∉ch:=fun z=>(hch p.1 z).2.2.2 p hp rfl
  exact⟨keep p.1 p.2 ne nf nch e n,free p.1 p.2 nch e n,ne,nf,d⟩
theorem Inv.un {t':Nat} (I:Inv X pins σ H s) (u:Un X.fs [] H H' s.heap h') (hok:HOk X.prog X.w H' h'):Inv X pins σ H' {s with heap:=h',toks:=t'}:=by
 obtain⟨m,⟨o,es,ep,ho,r⟩,_⟩:=id I.loc
 obtain⟨sl,hL⟩:=u.any ho I.free (by simp)
 exact I.step (g':=s.gens) (d':=s.drawn) (ch:=[]) (fun _ z=>nomatch z) (fun b o _ hb _ e n=>u.keep b o e n hb (by simp)) (fun b o _ hb _ e n=>u.slot b o e n hb (by simp)) (fun b o _ e n=>u.free b o e n (by simp)) (fun b o _ e=>u.there b o e (by simp)) u.tups u.frzs u.tbls (fun m' hm=>by
  obtain⟨o',es',ep',ho',r'⟩:=hm
  rw[ho] at ho';cases ho'
  exact⟨_,es',ep',hL,r'⟩) hok I.bare
theorem Inv.call {g':Array GenState} {t':Nat} {d':Drawn} {ch:List Addr} (I:Inv X pins σ H s) (u:Un (frs X.stack) ch H H' s.heap h') (hok:HOk X.prog X.w H' h') (hg:AllBare g')
  (hch:∀b∈ch,(b∈X.ex\/X.s₀.heap.objs.size<=b)/\b≠X.env.locals/\(∀x c,X.env.cells.lookup x=some c->c≠b)/\∀p∈X.pn++pins,p.1≠b):
  Inv X pins σ H' {s with heap:=h',gens:=g',drawn:=d',toks:=t'}:=by
 obtain⟨m,⟨o,es,ep,ho,r⟩,_⟩:=id I.loc
 obtain⟨sl,hL⟩:=u.any ho I.free fun z=>(hch _ z).2.1 rfl
 exact I.step (ch:=ch) hch (fun b o hL hb hc e n=>u.keep b o e n (fun z=>(lJv.mp (I.stkSub b z)).elim hL hb) hc) (fun b o _ _ hc e n=>u.any e n hc) (fun b o hc e n=>u.free b o e n hc) (fun b o hc e=>u.there b o e hc) u.tups u.frzs u.tbls (fun m' hm=>by
  obtain⟨o',es',ep',ho',r'⟩:=hm
  rw[ho] at ho';cases ho'
  exact⟨_,es',ep',hL,r'⟩) hok hg
theorem Inv.turned {t':Nat} {it:Addr} (I:Inv X pins σ H s) (k:∀b o,b≠it->s.heap.get? b=some o->h'.get? b=some o) (hn:H it=none) (hL:it≠X.env.locals)
  (h1:it∈X.ex\/X.s₀.heap.objs.size<=it) (h2:∀x c,X.env.cells.lookup x=some c->c≠it) (h3:∀p∈X.pn++pins,p.1≠it):Inv X pins σ H {s with heap:=h',toks:=t'}:=by
 have nit:∀b u,H b=some u->b≠it:=fun b u e z=>by rw[z,hn] at e;cases e
 refine I.step (g':=s.gens) (d':=s.drawn) (ch:=[it]) (fun b hb=> ?_) (fun b o _ _ hc e _=>k b o (fun z=>hc (by simp[z])) e) (fun b o _ _ hc e _=>⟨o.slots,k b o (fun z=>hc (by simp[z])) e⟩) (fun _ _ _ _ n=>n)
  (fun b o hc e=>⟨o,k b o (fun z=>hc (by simp[z])) e⟩) (fun _ _ e=>e) (fun _ _ _ e=>e) (fun b ps e=>⟨#[],by rw[e];simp⟩) (fun m hm=> ?_) (fun b u e=> ?_) I.bare
 ·have e:b=it:=by simpa using hb
  subst e
  exact⟨h1,hL,h2,h3⟩
 ·obtain⟨o,es,ep,ho,r⟩:=hm
  exact⟨o,es,ep,k _ o (Ne.symm hL) ho,r⟩
 ·refine (I.hok b u e).stay (fun c v hc q=>k c v ?_ q) (fun _ q=>q) fun _ _ q=>q
  rcases hc with z | z
  ·rw[z];exact nit b u e
  ·exact nit c _ z
theorem Inv.tok (I:Inv X pins σ H s) (t:Nat):Inv X pins σ H {s with toks:=t}:=I.un (h':=s.heap) (t':=t) Un.refl I.hok
theorem Inv.kept {t':Nat} (I:Inv X pins σ H s) (k:∀b u,s.heap.get? b=some u->h'.get? b=some u):Inv X pins σ H {s with heap:=h',toks:=t'}:=I.un (Un.kept k) (I.hok.kept k)
theorem Inv.laid {a:Addr} {o:HO} {t':Nat} (I:Inv X pins σ H s) (k:∀b u,s.heap.get? b=some u->h'.get? b=some u) (hp:s.heap.objs.size<=a) (new:ObjOk X.prog X.w (upd H a o) h' a o):
  Inv X pins σ (upd H a o) {s with heap:=h',toks:=t'}:=I.un (Un.laid k hp (I.hok.fresh hp)) (I.hok.laid k hp new)
theorem Inv.write {x e:Addr} {o:HO} {t':Nat} (I:Inv X pins σ H s) (mu:Mut (H x)) (he:e=x\/H e=some (.own x)) (k:∀b u,b≠e->s.heap.get? b=some u->h'.get? b=some u) (heo:∃u,h'.get? e=some u)
  (new:ObjOk X.prog X.w (upd H x o) h' x o):Inv X pins σ (upd H x o) {s with heap:=h',toks:=t'}:=I.un (Un.write mu he k heo) (I.hok.write mu he k heo new)
theorem Inv.weak {σ':List (Option V)} (I:Inv X pins σ H s) (hl:σ'.length=σ.length) (w:∀(i:Nat) v,σ'[i]? =some (some v)->σ[i]? =some (some v)):Inv X pins σ' H s:=
 ⟨I.ok,I.os,I.bare,I.base,let ⟨m,hn,hl'⟩:=I.loc;⟨m,hn,fun i x v e1 e2 e3=>hl' i x v e1 (w i v e2) e3⟩,I.cell,I.free,I.freeC,I.pin,I.hok,hl.trans I.len⟩
theorem Inv.pins_of {pins':List (Addr×Obj)} (I:Inv X pins σ H s) (h:∀p∈pins',s.heap.get? p.1=some p.2/\H p.1=none/\p.1≠X.env.locals/\p.1∉X.fs/\∀v,p.2.data≠ .cell v):Inv X pins' σ H s:=
 ⟨I.ok,I.os,I.bare,I.base,I.loc,I.cell,I.free,I.freeC,fun p hp=>(lKc.mp hp).elim (fun z=>I.pin p (lKx _ z)) (h p),I.hok,I.len⟩
theorem kX1 {N:List Str} (hN:N.Nodup) {i j:Nat} {x:Str} (a:N[i]? =some x) (b:N[j]? =some x):i=j:=by
 obtain⟨h1,e1⟩:=lJf.mp a
 obtain⟨h2,e2⟩:=lJf.mp b
 exact (List.getElem_inj hN).mp (e1.trans e2.symm)
theorem kZy {M:Model} {A:Around} {E:Value->Shared->Prop} {i:Nat} {x:Str} {v:V} {u:Value} {Q:Unit->Shared->Prop} (I:Inv X pins σ H s) (hN:X.N.Nodup) (hi:X.N[i]? =some x) (hx:Loc X.env.scope x) (r:RelV v u)
  (h:∀s',Inv X pins (σ.set i (some v)) H s'->(∃a,Heap.SameBut a s.heap s'.heap/\(a=X.env.locals\/X.env.cells.lookup x=some a))->Q () s') (hf:X.fn x=true\/X.env.scope.names.lookup x=some .local:=by first | exact .inl rfl | exact .inr rfl | assumption):wpAny M A (storeName X.env x u) Q E s:=by
 obtain⟨m,hn,hl⟩:=id I.loc
 have hcls:(X.env.scope.kind == .class||(X.env.scope.kind == .module&&X.env.locals != X.env.globals))=false:=by rw[I.ok.kind];rfl
 have hiσ:i<σ.length:=by rw[I.len];exact (lJf.mp hi).1
 have cne:=I.cne
 have tracked:∀ {a:Addr} {h':Heap},(∃o,s.heap.get? a=some o/\H a=none)->Heap.SameBut a s.heap h'->HOk X.prog X.w H h':=fun {a h'} ha hs b ob e=>by
  obtain⟨_,_,hfree⟩:=ha
  refine (I.hok b ob e).stay (fun c w' hc q=>(hs.2 c ?_).trans q) (fun _ q=>q) fun _ _ q=>q
  rintro rfl
  rcases hc with rfl | hc
  ·rw[hfree] at e;cases e
  ·rw[hfree] at hc;cases hc
 rcases hx with hk | hk
 ·refine wpAny_storeName_local hk hn (fun h' hn' hs=> ?_) hcls
  obtain⟨oL,_,_,hoL,_⟩:=id hn
  refine h _ ⟨I.ok,I.os,I.bare,⟨fun b o e n hb hx=> ?_,fun b o e n hb hx=> ?_,I.base.free,fun b o e hx=> ?_,I.base.tups,I.base.frzs,I.base.tbls⟩,⟨_,hn',fun j y v' e1 e2 e3=> ?_⟩,fun y c e=> ?_,I.free,I.freeC,fun p hp=> ?_,tracked ⟨oL,hoL,I.free⟩ hs,by simpa using I.len⟩ ⟨_,hs,.inl rfl⟩
  ·exact (hs.2 b (lJs (lKb (lJi e) I.ok.above))).trans (I.base.keep b o e n hb hx)
  ·obtain⟨sl,e1⟩:=I.base.slot b o e n hb hx
   exact⟨sl,(hs.2 b (lJs (lKb (lJi e) I.ok.above))).trans e1⟩
  ·obtain⟨o',e1⟩:=I.base.there b o e hx
   exact⟨o',(hs.2 b (lJs (lKb (lJi e) I.ok.above))).trans e1⟩
  ·by_cases hj:j=i
   ·subst hj
    rw[hi] at e1;cases e1
    rw[lK0 hiσ] at e2
    cases e2
    exact⟨u,r,.inl ⟨hk,by simp⟩⟩
   ·rw[lKr (Ne.symm hj)] at e2
    obtain⟨u',r',q⟩:=hl j y v' e1 e2 e3
    refine⟨u',r',?_⟩
    rcases q with ⟨k,e⟩ | ⟨k,c,e,z⟩
    ·refine .inl ⟨k,?_⟩
     have:y≠x:=fun e=>hj (kX1 hN e1 (e▸hi))
     simp[this,e]
    ·exact .inr ⟨k,c,e,z.sameBut hs (cne y c e)⟩
  ·obtain⟨w',z⟩:=I.cell y c e
   exact⟨w',z.sameBut hs (cne y c e)⟩
  ·obtain⟨e,n,ne,nf,d⟩:=I.pin p hp
   exact⟨(hs.2 p.1 ne).trans e,n,ne,nf,d⟩
 ·have hfn:X.fn x=true:=by
   rcases hf with z | z
   ·exact z
   ·rw[z] at hk;cases hk
  obtain⟨c,hc⟩:=I.ok.has x (.inl hk)
  obtain⟨w',z⟩:=I.cell x c hc
  refine wpAny_storeName_cell I.ok.kind hk hc z (fun h' hc' hs=> ?_)
  obtain⟨oc,hoc,hocd⟩:=id z
  refine h {s with heap:=h'} ⟨I.ok,I.os,I.bare,⟨fun b o e n hb hx=> ?_,fun b o e n hb hx=> ?_,I.base.free,fun b o e hx=> ?_,I.base.tups,I.base.frzs,I.base.tbls⟩,⟨m,hn.sameBut hs (Ne.symm (cne x c hc)),fun j y v' e1 e2 e3=> ?_⟩,fun y c' e=> ?_,I.free,I.freeC,fun p hp=> ?_,tracked ⟨oc,hoc,I.freeC x c hc⟩ hs,by simpa using I.len⟩ ⟨c,hs,.inr hc⟩
  ·exact (hs.2 b (lJs (lKb (lJi e) (I.ok.cab x c hfn hc)))).trans (I.base.keep b o e n hb hx)
  ·obtain⟨sl,e1⟩:=I.base.slot b o e n hb hx
   exact⟨sl,(hs.2 b (lJs (lKb (lJi e) (I.ok.cab x c hfn hc)))).trans e1⟩
  ·obtain⟨o',e1⟩:=I.base.there b o e hx
   exact⟨o',(hs.2 b (lJs (lKb (lJi e) (I.ok.cab x c hfn hc)))).trans e1⟩
  ·by_cases hj:j=i
   ·subst hj
    rw[hi] at e1;cases e1
    rw[lK0 hiσ] at e2
    cases e2
    exact⟨u,r,.inr ⟨.inl hk,c,hc,hc'⟩⟩
   ·rw[lKr (Ne.symm hj)] at e2
    obtain⟨u',r',q⟩:=hl j y v' e1 e2 e3
    refine⟨u',r',?_⟩
    rcases q with q | ⟨k,c',e,z'⟩
    ·exact .inl q
    ·refine .inr ⟨k,c',e,z'.sameBut hs ?_⟩
     rintro rfl
     exact hj (kX1 hN e1 (I.ok.inj _ _ _ e hc▸hi))
  ·by_cases hcc:c'=c
   ·subst hcc;exact⟨_,hc'⟩
   ·obtain⟨w2,z2⟩:=I.cell y c' e
    exact⟨w2,z2.sameBut hs hcc⟩
  ·obtain⟨e,n,ne,nf,d⟩:=I.pin p hp
   refine⟨(hs.2 p.1 ?_).trans e,n,ne,nf,d⟩
   intro q
   rw[q,hoc] at e
   have q':oc=p.2:=lJ4 e
   exact d w' (by rw[<-q'];exact hocd)
theorem jXg {M:Model} {A:Around} {E:Value->Shared->Prop} {i:Nat} {x:Str} {v:V} {u:Value} {Q:Unit->Shared->Prop} (I:Inv X pins σ H s) (hN:X.N.Nodup) (hi:X.N[i]? =some x) (hx:Loc X.env.scope x) (r:RelV v u)
  (h:∀s',Inv X pins (σ.set i (some v)) H s'->Q () s') (hf:X.fn x=true\/X.env.scope.names.lookup x=some .local:=by first | exact .inl rfl | exact .inr rfl | assumption):wpAny M A (storeName X.env x u) Q E s:=
 kZy I hN hi hx r (fun s' I' _=>h s' I') hf
theorem Inv.call' {s':Shared} {ch:List Addr} (I:Inv X pins σ H s) (ho:s'.os=s.os) (u:Un (frs X.stack) ch H H' s.heap s'.heap) (hok:HOk X.prog X.w H' s'.heap) (hg:AllBare s'.gens)
  (hch:∀b∈ch,(b∈X.ex\/X.s₀.heap.objs.size<=b)/\b≠X.env.locals/\(∀x c,X.env.cells.lookup x=some c->c≠b)/\∀p∈X.pn++pins,p.1≠b):Inv X pins σ H' s':=by
 obtain⟨h',g',d',t',o'⟩:=s'
 have e:o'=s.os:=ho
 subst e
 exact I.call (g':=g') (t':=t') (d':=d') u hok hg hch
end
abbrev XK:=Value->Option Addr->Hp->Prop
abbrev St:=List (Option V)
abbrev VK:=V->Hp->Prop
abbrev TE:=St->Hp->VK->Prop
abbrev TT:=St->Hp->(Bool->Hp->Prop)->Prop
abbrev TA:=St->Hp->(List V->Hp->Prop)->Prop
structure Ends where
 nx:St->Hp->Prop
 rt:VK
 bk:St->Hp->Prop:=fun _ _=>False
 ct:St->Hp->Prop:=fun _ _=>False
abbrev TS:=Ends->St->Hp->Prop
def EP (X:Cx) (pins:List (Addr×Obj)) (σ:St) (Q:VK) (u:Value) (s':Shared):Prop:=∃v H',Inv X pins σ H' s'/\RelV v u/\Q v H'
def TP (X:Cx) (pins:List (Addr×Obj)) (σ:St) (Q:Bool->Hp->Prop) (b:Bool) (s':Shared):Prop:=∃H',Inv X pins σ H' s'/\Q b H'
def SP (X:Cx) (pins:List (Addr×Obj)) (D:Ends) (f:Flow) (s':Shared):Prop:=
 match f with
 | .next=>∃ σ' H',Inv X pins σ' H' s'/\D.nx σ' H'
 | .brk=>∃ σ' H',Inv X pins σ' H' s'/\D.bk σ' H'
 | .cont=>∃ σ' H',Inv X pins σ' H' s'/\D.ct σ' H'
 | .ret u=>∃v σ' H',Inv X pins σ' H' s'/\RelV v u/\D.rt v H'
def PE (X:Cx) (e:Expr) (t:TE):Prop:=
 ∀(pins:List (Addr×Obj)) (s:Shared) (σ:St) (H:Hp) (Q:VK),Inv X pins σ H s->t σ H Q->wpAny (model X.prog X.w) X.A (eval e X.env) (EP X pins σ Q) X.xe s
def PSs (X:Cx) (st:List Stmt) (t:TS):Prop:=
 ∀(pins:List (Addr×Obj)) (s:Shared) (σ:St) (H:Hp) (D:Ends),Inv X pins σ H s->t D σ H->wpAny (model X.prog X.w) X.A (execs st X.env) (SP X pins D) X.xe s
theorem thn {α:Type} {t:Sem α} {Q Q':α->Shared->Prop} {M:Model} {A:Around} {E:Value->Shared->Prop} {s:Shared} (h:wpAny M A t Q E s) (hQ:∀a s,Q a s->Q' a s):wpAny M A t Q' E s:=lQj h hQ fun _ _ x=>x
section
variable {X:Cx}
def tVar (i:Nat):TE:=fun σ H Q=>∃v,σ[i]? =some (some v)/\Q v H
def tC (v:V):TE:=fun _ H Q=>Q v H
theorem pe_var {i:Nat} {x:Str} {pos:Pos} (hN:X.N[i]? =some x) (hv:Vis X.env.scope x) (hd:(x == ("__debug__":Str))=false:=by decide) (hcd:(x == ("__classdict__":Str))=false:=by decide):PE X (.Name x pos) (tVar i):=by
 intro pins s σ H Q I h
 obtain⟨v,e,h⟩:=h
 obtain⟨m,hn,hl⟩:=I.loc
 obtain⟨u,r,l⟩:=hl i x v hN e hv
 have fin:EP X pins σ Q u s:=⟨v,H,I,r,h⟩
 rcases l with ⟨hk,hm⟩ | ⟨hk,c,hc,hcell⟩
 ·exact wpAny_Name (wpAny_loadName_local I.ok.kind hk hn hm fin) hd
 ·rcases hk with hk | hk
  ·exact wpAny_Name (wpAny_loadName_cell I.ok.kind hk hc hcell fin) hd
  ·exact wpAny_Name (wpAny_loadName_free I.ok.kind hk hc hcell fin hcd) hd
theorem pe_int {i j pos}:PE X (.Constant (.int i) j pos) (tC (.int i)):=fun _ _ _ H _ I h=>wpAny_Constant_int ⟨.int i,H,I.tok _,⟨_,rfl⟩,h⟩
theorem pe_bl {b j pos}:PE X (.Constant (.bool b) j pos) (tC (.bl b)):=fun _ _ _ H _ I h=>Constant_bool ⟨.bl b,H,I,rfl,h⟩
theorem pe_non {j pos}:PE X (.Constant .none j pos) (tC .non):=fun _ _ _ H _ I h=>Constant_none ⟨.non,H,I,rfl,h⟩
theorem pe_str {x j pos}:PE X (.Constant (.str x) j pos) (tC (.str x)):=fun _ _ _ H _ I h=>Calls.Constant_str ⟨.str x,H,I.tok _,⟨_,rfl⟩,h⟩
def Gl (X:Cx) (x:Str):Prop:=X.env.kindOf x=some .globalImplicit
theorem qZe {E:Value->Shared->Prop} {pins:List (Addr×Obj)} {s:Shared} {σ:St} {H:Hp} {x:Str} {u:Value} {pos:Pos} {Q:Value->Shared->Prop} (I:Inv X pins σ H s) (hg:Gl X x) (hm:X.mg x=some u) (h:Q u s)
  (hd:(x == ("__debug__":Str))=false:=by decide):wpAny (model X.prog X.w) X.A (eval (.Name x pos) X.env) Q E s:=
 Calls.Name_function_global I.ok.kind hg (Calls.loadGlobal_global (by rw[I.ok.glob];exact I.mod.glob.keeps I.bk) hm h) hd
theorem jQ6 {E:Value->Shared->Prop} {pins:List (Addr×Obj)} {s:Shared} {σ:St} {H:Hp} {x:Str} {u:Value} {pos:Pos} {Q:Value->Shared->Prop} (I:Inv X pins σ H s) (hg:Gl X x) (hm:X.mg x=none) (hv:bootBuiltins x=some u) (h:Q u s)
  (hn:x≠"__name__":=by decide) (hd:(x == ("__debug__":Str))=false:=by decide):wpAny (model X.prog X.w) X.A (eval (.Name x pos) X.env) Q E s:=by
 obtain⟨mb,h1,h2⟩:=I.mod.blt
 exact Calls.Name_function_global I.ok.kind hg (Calls.loadGlobal_builtin (by rw[I.ok.glob];exact I.mod.glob.keeps I.bk) hm (by rw[I.ok.blt];exact h1.keeps I.bk) ((h2 x hn).trans hv) h) hd
theorem qYw {x:Str} {v:V} {u:Value} {pos:Pos} (hg:Gl X x) (hm:X.mg x=none) (hv:bootBuiltins x=some u) (r:RelV v u) (hn:x≠"__name__":=by decide) (hd:(x == ("__debug__":Str))=false:=by decide):PE X (.Name x pos) (tC v):=
 fun _ _ _ H _ I h=>jQ6 I hg hm hv ⟨v,H,I,r,h⟩ hn hd
variable {a b:Expr} {ta tb:TE} {pos:Pos}
def tB (t:TE):TT:=fun σ H Q=>t σ H fun x H1=>∃c,x= .bl c/\Q c H1
variable {tA tB':TT} {rest:List Expr}
def tAnd (t u:TT):TT:=fun σ H Q=>t σ H fun c H1=>if c=true then u σ H1 Q else Q false H1
def tOr (t u:TT):TT:=fun σ H Q=>t σ H fun c H1=>if c=true then Q true H1 else u σ H1 Q
def tNot (t:TT):TT:=fun σ H Q=>t σ H fun c H1=>Q (!c) H1
def kQn (ta tb:TE):TE:=fun σ H Q=>ta σ H fun x H1=>∃c,x= .bl c/\if c=true then tb σ H1 Q else Q (.bl false) H1
def tOrV (ta tb:TE):TE:=fun σ H Q=>ta σ H fun x H1=>∃c,x= .bl c/\if c=true then Q (.bl true) H1 else tb σ H1 Q
def qQ9 (ta:TE):TE:=fun σ H Q=>ta σ H fun x H1=>∃c,x= .bl c/\Q (.bl (!c)) H1
def tIf (t:TT) (ta tb:TE):TE:=fun σ H Q=>t σ H fun c H1=>if c=true then ta σ H1 Q else tb σ H1 Q
end
def SqL (K:PySem.W.Frag) (H:Hp) (a:Addr) (xs:List V):Prop:=
 Rd H a (.lst xs)\/
  ∃(o:Obj) (its:Array Value) (n:Nat),K.lookup a=some o/\o.cls= .type "list"/\o.dict=none/\o.data= .seq its n/\its.size<=sizeLine/\Vals xs its.toList
def SqT (K:PySem.W.Frag) (H:Hp) (a:Addr) (xs:List V):Prop:=
 Rd H a (.tup xs)\/
  ∃(o:Obj) (its:Array Value) (n:Nat),K.lookup a=some o/\o.cls= .type "tuple"/\o.data= .seq its n/\its.size<=sizeLine/\Vals xs its.toList
noncomputable def absV:Value->Option V
 | .none=>some .non
 | .bool b=>some (.bl b)
 | .int i _=>some (.int i)
 | .str x _=>some (.str x)
 | .bytes b _=>some (.byt b)
 | .float b _=>some (.flt b)
 | .ref a=>some (.ref a)
 | .type n=>some (.ty n)
 | _=>none
theorem RelV.abs {x:V} {u:Value} (r:RelV x u):absV u=some x:=by
 cases x with
 | non=>cases r;rfl
 | bl _=>cases r;rfl
 | int _=>obtain⟨t,rfl⟩:=r;rfl
 | str _=>obtain⟨t,rfl⟩:=r;rfl
 | byt _=>obtain⟨t,rfl⟩:=r;rfl
 | flt _=>obtain⟨t,rfl⟩:=r;rfl
 | ref _=>cases r;rfl
 | ty _=>cases r;rfl
theorem RelV.inj {x y:V} {u:Value} (r:RelV x u) (q:RelV y u):x=y:=lJ4 (r.abs.symm.trans q.abs)
theorem Vals.inj {xs ys:List V} {us:List Value} (h:Vals xs us) (g:Vals ys us):xs=ys:=by
 induction h generalizing ys with
 | nil=>(cases g;rfl)
 | cons r _ ih=>(cases g with | cons r' t'=>rw[r.inj r',ih t'])
section
variable {X:Cx} {pins:List (Addr×Obj)} {σ:St} {H:Hp} {s:Shared} {a:Addr} {xs ys:List V}
theorem SqL.of {K:PySem.W.Frag} (h:H a=some (.lst xs)):SqL K H a xs:= .inl (.inl h)
theorem SqT.of {K:PySem.W.Frag} (h:H a=some (.tup xs)):SqT K H a xs:= .inl (.inl h)
theorem Inv.list (I:Inv X pins σ H s) (h:SqL X.K H a xs):∃its:List Value,Vals xs its/\PlainL s.heap a its.toArray/\xs.length<=sizeLine:=by
 rcases h with h | ⟨o,its,n,hk,hc,hd,hs,hz,r⟩
 ·obtain⟨z,its,n,r,e⟩:=h.ok I.hok
  exact⟨its,r,⟨_,n,e,rfl,rfl,rfl⟩,z⟩
 ·refine⟨its.toList,r,⟨o,n,I.kIn a o hk,hc,hd,by simpa using hs⟩,?_⟩
  have e:=r.length
  simp only[lKj] at e
  omega
theorem Inv.tuple (I:Inv X pins σ H s) (h:SqT X.K H a xs):∃its:List Value,Vals xs its/\IsTup s.heap a its.toArray/\xs.length<=sizeLine:=by
 rcases h with h | ⟨o,its,n,hk,hc,hs,hz,r⟩
 ·obtain⟨z,its,r,p⟩:=h.ok I.hok
  exact⟨its,r,p.is,z⟩
 ·refine⟨its.toList,r,⟨o,I.kIn a o hk,hc,n,by simpa using hs⟩,?_⟩
  have e:=r.length
  simp only[lKj] at e
  omega
theorem Inv.list_inj (I:Inv X pins σ H s) (h:SqL X.K H a xs) (h':SqL X.K H a ys):xs=ys:=by
 obtain⟨its,r,⟨o,n,e,_,_,d⟩,_⟩:=I.list h
 obtain⟨its',r',⟨o',n',e',_,_,d'⟩,_⟩:=I.list h'
 rw[e] at e';cases e'
 rw[d] at d'
 injection d' with d1 _
 have:its=its':=by simpa using lJ9 Array.toList d1
 subst this
 exact r.inj r'
theorem Inv.tuple_inj (I:Inv X pins σ H s) (h:SqT X.K H a xs) (h':SqT X.K H a ys):xs=ys:=by
 obtain⟨its,r,⟨o,e,_,n,d⟩,_⟩:=I.tuple h
 obtain⟨its',r',⟨o',e',_,n',d'⟩,_⟩:=I.tuple h'
 rw[e] at e';cases e'
 rw[d] at d'
 injection d' with d1 _
 have:its=its':=by simpa using lJ9 Array.toList d1
 subst this
 exact r.inj r'
end
abbrev Cx.wish (X:Cx) (E:Value->Shared->Prop):Cx:={X with xe:=E}
abbrev Cx.nox (X:Cx):Cx:=X.wish fun _ _=>False
theorem Cx.Ok.wish {X:Cx} (ok:X.Ok) (E:Value->Shared->Prop):(X.wish E).Ok:=
 ⟨ok.mod,ok.kind,ok.glob,ok.blt,ok.above,ok.inj,ok.has,ok.cab,ok.hd,ok.gd,ok.frames,ok.stk,ok.exf,ok.bs,ok.bsz,ok.noex,ok.exfs,ok.funs,ok.frf⟩
theorem Cx.Ok.unwish {X:Cx} {E:Value->Shared->Prop} (ok:(X.wish E).Ok):X.Ok:=
 ⟨ok.mod,ok.kind,ok.glob,ok.blt,ok.above,ok.inj,ok.has,ok.cab,ok.hd,ok.gd,ok.frames,ok.stk,ok.exf,ok.bs,ok.bsz,ok.noex,ok.exfs,ok.funs,ok.frf⟩
section
variable {X:Cx} {pins:List (Addr×Obj)} {σ:St} {H:Hp} {s:Shared} {E:Value->Shared->Prop}
theorem Inv.wish (I:Inv X pins σ H s) (E:Value->Shared->Prop):Inv (X.wish E) pins σ H s:=⟨I.ok.wish E,I.os,I.bare,I.base,I.loc,I.cell,I.free,I.freeC,I.pin,I.hok,I.len⟩
theorem Inv.unwish (I:Inv (X.wish E) pins σ H s):Inv X pins σ H s:=⟨I.ok.unwish,I.os,I.bare,I.base,I.loc,I.cell,I.free,I.freeC,I.pin,I.hok,I.len⟩
theorem SP.unwish {D:Ends} {f:Flow} {s':Shared} (h:SP (X.wish E) pins D f s'):SP X pins D f s':=by
 cases f with
 | next=>obtain⟨σ',H',I,q⟩:=h;exact⟨σ',H',I.unwish,q⟩
 | brk=>obtain⟨σ',H',I,q⟩:=h;exact⟨σ',H',I.unwish,q⟩
 | cont=>obtain⟨σ',H',I,q⟩:=h;exact⟨σ',H',I.unwish,q⟩
 | ret u=>obtain⟨v,σ',H',I,r,q⟩:=h;exact⟨v,σ',H',I.unwish,r,q⟩
theorem PSs.nox {st:List Stmt} {t:TS} (h:PSs X.nox st t):PSs X st t:=fun pins s σ H D I hw=>
 lQj (h pins s σ H D (I.wish _) hw) (fun _ _ q=>q.unwish) fun _ _ z=>False.elim z
end
section
variable {X:Cx} {st:Stmt} {rest:List Stmt} {t u:TS} {e:Expr} {te:TE} {pos:Pos}
def jJ8:TS:=fun D σ H=>D.nx σ H
def tSeq (t u:TS):TS:=fun D σ H=>t {D with nx:=u D} σ H
theorem Inv.quiet {pins:List (Addr×Obj)} {σ:St} {H:Hp} {s:Shared} (I:Inv X pins σ H s):interactive X.env=false:=by simp[interactive,I.ok.kind]
def jUq (te:TE):TS:=fun D σ H=>te σ H fun _ H1=>D.nx σ H1
def tRet (te:TE):TS:=fun D σ H=>te σ H D.rt
def tRetN:TS:=fun D _ H=>D.rt .non H
def tIfS (c:TT) (t u:TS):TS:=fun D σ H=>c σ H fun b H1=>if b=true then t D σ H1 else u D σ H1
end
abbrev TG:=V->St->Hp->(St->Hp->Prop)->Prop
abbrev TGs:=List V->St->Hp->(St->Hp->Prop)->Prop
abbrev TSet:=V->V->V->Hp->(Hp->Prop)->Prop
def PSet (X:Cx) (t:TSet):Prop:=
 ∀(pins:List (Addr×Obj)) (s:Shared) (σ:St) (H:Hp) (o i v:V) (ov iv u:Value) (Q:Hp->Prop),Inv X pins σ H s->RelV o ov->RelV i iv->RelV v u->t o i v H Q->
  wpAny (model X.prog X.w) X.A (setItem ov iv u) (fun _ s'=>∃H',Inv X pins σ H' s'/\Q H') X.xe s
section
variable {X:Cx} {pos:Pos}
def jJh (i:Nat):TG:=fun v σ H Q=>Q (σ.set i (some v)) H
def gNil:TGs:=fun vs σ H Q=>vs=[]/\Q σ H
def jKd (t:TG) (u:TGs):TGs:=fun vs σ H Q=>∃v r,vs=v::r/\t v σ H fun σ' H'=>u r σ' H' Q
def gTup (K:PySem.W.Frag) (n:Nat) (t:TGs):TG:=fun v σ H Q=>∃a xs,v= .ref a/\SqT K H a xs/\xs.length=n/\t xs σ H Q
def gSub (to ti:TE) (t:TSet):TG:=fun v σ H Q=>to σ H fun o H1=>ti σ H1 fun i H2=>t o i v H2 fun H3=>Q σ H3
def tAsg (te:TE) (g:TG):TS:=fun D σ H=>te σ H fun x H1=>g x σ H1 D.nx
def tPar (i j:Nat) (ta:TA):TS:=fun D σ H=>ta σ H fun vs H1=>∃v w,vs=[v,w]/\D.nx ((σ.set i (some v)).set j (some w)) H1
end
section
variable {X:Cx} {pos:Pos}
noncomputable def jXf (c:TT) (tb:TS):TS:=fun D σ H=>∃W:Nat->St->Hp->Prop,(∃m,W m σ H)/\∀m σ H,W m σ H->
 c σ H fun b H1=>if b=true then ∃N:St->Hp->Prop,(∀ σ' H',N σ' H'->∃m',m'<m/\W m' σ' H')/\tb {D with nx:=N,ct:=N,bk:=D.nx} σ H1 else D.nx σ H1
end
structure It where
 go:Nat->Hp->Prop
 yld:Nat->Hp->V->Hp->Prop
 stop:Nat->Hp->Prop
def FpOk (X:Cx) (pins:List (Addr×Obj)) (H:Hp) (b:Addr):Prop:=
 H b=none/\b≠X.env.locals/\b∉X.fs/\(b∈X.ex\/X.s₀.heap.objs.size<=b)/\(∀x c,X.env.cells.lookup x=some c->c≠b)/\∀p∈X.pn++pins,p.1≠b
theorem Inv.fpOk {X:Cx} {pins:List (Addr×Obj)} {σ:St} {H H':Hp} {s:Shared} {b:Addr} (I:Inv X pins σ H s) (hb:s.heap.objs.size<=b) (hn:H' b=none):FpOk X pins H' b:=by
 refine⟨hn,lQx (lKb I.lt hb),I.nofs hb,.inr (lKf I.sz hb),fun x c e z=> ?_,fun p hp z=> ?_⟩
 ·obtain⟨v,q⟩:=I.cell x c e
  exact absurd (lKb q.lt (by rw[z];exact hb)) (lVl _)
 ·exact absurd (lKb (lJi (I.pin p hp).1) (by rw[z];exact hb)) (lVl _)
structure Turn (P:Program) (w:World) (K:PySem.W.Frag) (tg:Expr) (J:It) (fp:List Addr) (it:Addr) (tn:Nat->Heap->Prop):Prop where
 mem:it∈fp
 obj:∀i h,tn i h->∀b∈fp,∃o,h.get? b=some o/\∀v,o.data≠ .cell v
 keep:∀i h h',tn i h->(∀b∈fp,∀o,h.get? b=some o->h'.get? b=some o)->tn i h'
 item:∀(X:Cx),X.prog=P->X.w=w->X.K=K->X.calm=true->∀(i:Nat) (pins:List (Addr×Obj)) (s:Shared) (σ:St) (H:Hp) (E:Value->Shared->Prop),Inv X pins σ H s->(∀b∈fp,FpOk X pins H b)->tn i s.heap->J.go i H->
  wpAny (model P w) X.A (pyNext (.ref it)) (fun r s1=>∃u,r=some u/\
   wpAny (model P w) X.A (letOwnedTupleGo tg (.ref it) u) (fun _ s2=>∃x H',Inv X pins σ H' s2/\RelV x u/\J.yld i H x H'/\tn (i+1) s2.heap/\∀b∈fp,H' b=none) E s1) E s
 done:∀(X:Cx),X.prog=P->X.w=w->X.K=K->X.calm=true->∀(i:Nat) (pins:List (Addr×Obj)) (s:Shared) (σ:St) (H:Hp) (E:Value->Shared->Prop),Inv X pins σ H s->(∀b∈fp,FpOk X pins H b)->tn i s.heap->J.stop i H->
  wpAny (model P w) X.A (pyNext (.ref it)) (fun r s1=>r=none/\Inv X pins σ H s1) E s
 self:∀(A:Around) (i:Nat) (s:Shared) (Q:Value->Shared->Prop) (E:Value->Shared->Prop),tn i s.heap->Q (.ref it) s->wpAny (model P w) A (pyIter (.ref it)) Q E s
abbrev TI:=St->Hp->(It->Hp->Prop)->Prop
def PIE (X:Cx) (pins:List (Addr×Obj)) (σ:St) (tg:Expr) (R:It->Hp->Prop) (itv:Value) (s2:Shared):Prop:=
 ∃(it:Addr) (fp:List Addr) (tn:Nat->Heap->Prop) (J:It) (H':Hp),itv= .ref it/\Inv X pins σ H' s2/\Turn X.prog X.w X.K tg J fp it tn/\tn 0 s2.heap/\(∀b∈fp,FpOk X pins H' b)/\R J H'
def PI (X:Cx) (tg iter:Expr) (wi:TI):Prop:=
 ∀(pins:List (Addr×Obj)) (s:Shared) (σ:St) (H:Hp) (R:It->Hp->Prop),Inv X pins σ H s->wi σ H R->
  wpAny (model X.prog X.w) X.A (eval iter X.env) (fun v s1=>wpAny (model X.prog X.w) X.A (pyIter v) (PIE X pins σ tg R) X.xe s1) X.xe s
theorem kZh {M:Model} {A:Around} {E:Value->Shared->Prop} {s:Shared} {tg:Expr} {it:Addr} {u:Value} {o:Obj} {n:String} {vs:Array Value} {Q:Unit->Shared->Prop} (ho:s.heap.get? it=some o) (hc:o.cls= .type n) (hd:o.data= .fields vs)
  (hn:["enumerate","zip","dict_itemiterator","dict_reverseitemiterator","odict_iterator","itertools.zip_longest","itertools.pairwise"].contains n=false) (hQ:Q () s):wpAny M A (letOwnedTupleGo tg (.ref it) u) Q E s:=by
 unfold letOwnedTupleGo
 cases tg<;>first
  | exact lJd hQ
  | (cases u<;>first
    | exact lJd hQ
    | (refine lJa (wpAny_load ho ?_)
       rw[hc,hd]
       show wpAny M A (if (["enumerate","zip","dict_itemiterator","dict_reverseitemiterator","odict_iterator","itertools.zip_longest","itertools.pairwise"].contains n&&vs[0]? == some (rawInt _))=true then _ else _) Q E s
       rw[lJb (by intro h;rw[hn,Bool.false_and] at h;cases h)]
       exact lJd hQ))
noncomputable def Itl (K:PySem.W.Frag) (a:Addr):It:=
 ⟨fun i H=>∃xs x,SqL K H a xs/\xs[i]? =some x,fun i H x H'=>H'=H/\∀xs,SqL K H a xs->xs[i]? =some x,fun i H=>∃xs,SqL K H a xs/\xs.length<=i⟩
noncomputable def Itt (K:PySem.W.Frag) (a:Addr):It:=
 ⟨fun i H=>∃xs x,SqT K H a xs/\xs[i]? =some x,fun i H x H'=>H'=H/\∀xs,SqT K H a xs->xs[i]? =some x,fun i H=>∃xs,SqT K H a xs/\xs.length<=i⟩
def Itr (lo:Int) (n:Nat):It:=⟨fun i _=>i<n,fun i H x H'=>H'=H/\x= .int (lo+i),fun i _=>n<=i⟩
theorem kZv {P:Program} {w:World} {K:PySem.W.Frag} {tg:Expr} (a it:Addr):Turn P w K tg (Itl K a) [it] it (fun i h=>h.IsListIter it a i) where
 mem:=by simp
 obj:=fun i h st b hb=>by
  have e:b=it:=by simpa using hb
  subst e
  obtain⟨o,e,c,d⟩:=st
  exact⟨o,e,fun v z=>by rw[d] at z;cases z⟩
 keep:=fun i h h' st k=>st.at fun o e=>k it (by simp) o e
 item:=by
  intro X hP hw hK hc i pins s σ H E I hf st hg
  subst hP hw hK
  obtain⟨xs,x,hq,hx⟩:=hg
  obtain⟨its,rv,p,hz⟩:=I.list hq
  obtain⟨u,hu,ru⟩:=rv.get hx
  obtain⟨f0,f1,f2,f3,f4,f5⟩:=hf it (by simp)
  refine wpAny_pyNext_list_item st p.isList (x:=u) (by simpa using hu) fun h' st' sb=> ?_
  have I1:Inv X pins σ H {s with heap:=h'}:=I.turned (t':=s.toks) (fun b o hb e=>(sb.2 b hb).trans e) f0 f1 f3 f4 f5
  obtain⟨o,e,c,d⟩:=id st'
  exact⟨u,rfl,kZh (s:={s with heap:=h'}) e c d (by decide) ⟨x,H,I1,ru,⟨rfl,fun ys hy=>by rw[I.list_inj hy hq];exact hx⟩,st',fun b hb=>(hf b hb).1⟩⟩
 done:=by
  intro X hP hw hK hc i pins s σ H E I hf st hg
  subst hP hw hK
  obtain⟨xs,hq,hx⟩:=hg
  obtain⟨its,rv,p,hz⟩:=I.list hq
  obtain⟨f0,f1,f2,f3,f4,f5⟩:=hf it (by simp)
  have hl:=rv.length
  exact wpAny_pyNext_list_end (I.ok.hd hc) st p.isList (by simp;omega) fun h' eb=>⟨rfl,I.turned (t':=s.toks) (fun b o hb e=>eb b o hb e) f0 f1 f3 f4 f5⟩
 self:=fun _ _ _ _ _ st h=>wpAny_pyIter_listiter st h
theorem kYm {P:Program} {w:World} {K:PySem.W.Frag} {tg:Expr} (a it:Addr):Turn P w K tg (Itt K a) [it] it (fun i h=>h.IsTupleIter it a i) where
 mem:=by simp
 obj:=fun i h st b hb=>by
  have e:b=it:=by simpa using hb
  subst e
  obtain⟨o,e,c,d⟩:=st
  exact⟨o,e,fun v z=>by rw[d] at z;cases z⟩
 keep:=fun i h h' st k=>st.at fun o e=>k it (by simp) o e
 item:=by
  intro X hP hw hK hc i pins s σ H E I hf st hg
  subst hP hw hK
  obtain⟨xs,x,hq,hx⟩:=hg
  obtain⟨its,rv,p,hz⟩:=I.tuple hq
  obtain⟨u,hu,ru⟩:=rv.get hx
  obtain⟨f0,f1,f2,f3,f4,f5⟩:=hf it (by simp)
  refine wpAny_pyNext_tuple_item st (show s.heap.IsTuple a its.toArray from p) (x:=u) (by simpa using hu) fun h' st' sb=> ?_
  have I1:Inv X pins σ H {s with heap:=h'}:=I.turned (t':=s.toks) (fun b o hb e=>(sb.2 b hb).trans e) f0 f1 f3 f4 f5
  obtain⟨o,e,c,d⟩:=id st'
  exact⟨u,rfl,kZh (s:={s with heap:=h'}) e c d (by decide) ⟨x,H,I1,ru,⟨rfl,fun ys hy=>by rw[I.tuple_inj hy hq];exact hx⟩,st',fun b hb=>(hf b hb).1⟩⟩
 done:=by
  intro X hP hw hK hc i pins s σ H E I hf st hg
  subst hP hw hK
  obtain⟨xs,hq,hx⟩:=hg
  obtain⟨its,rv,p,hz⟩:=I.tuple hq
  obtain⟨f0,f1,f2,f3,f4,f5⟩:=hf it (by simp)
  have hl:=rv.length
  exact wpAny_pyNext_tuple_end (I.ok.hd hc) st (show s.heap.IsTuple a its.toArray from p) (by simp;omega) fun h' eb=>⟨rfl,I.turned (t':=s.toks) (fun b o hb e=>eb b o hb e) f0 f1 f3 f4 f5⟩
 self:=fun _ _ _ _ _ st h=>wpAny_pyIter_tupleiter st h
theorem kYn {P:Program} {w:World} {K:PySem.W.Frag} {tg:Expr} (it:Addr) (lo:Int) (n:Nat):Turn P w K tg (Itr lo n) [it] it (fun i h=>IsRangeIter h it (lo+(i:Nat)*1) ((n:Int)-(i:Nat)) 1) where
 mem:=by simp
 obj:=fun i h st b hb=>by
  have e:b=it:=by simpa using hb
  subst e
  exact⟨_,st,fun v z=>by
   have z':Data.fields _=Data.cell v:=z
   cases z'⟩
 keep:=fun i h h' st k=>k it (by simp) _ st
 item:=by
  intro X hP hw hK hc i pins s σ H E I hf st hg
  subst hP hw hK
  obtain⟨f0,f1,f2,f3,f4,f5⟩:=hf it (by simp)
  have W:=Walks.range (prog:=X.prog) (w:=X.w) (I.ok.hd hc) it lo 1 n
  refine W.item i s _ _ hg st fun v h' tk hv st' kk=> ?_
  obtain⟨t,rfl⟩:=hv
  have I1:Inv X pins σ H {s with heap:=h',toks:=tk}:=I.turned (fun b o hb e=>kk b o (by simpa using hb) e) f0 f1 f3 f4 f5
  refine⟨_,rfl,kZh (s:={s with heap:=h',toks:=tk}) (n:="range_iterator") st' rfl rfl (by decide) ⟨.int (lo+i),H,I1,⟨t,?_⟩,⟨rfl,rfl⟩,st',fun b hb=>(hf b hb).1⟩⟩
  rw[Int.mul_one]
 done:=by
  intro X hP hw hK hc i pins s σ H E I hf st hg
  subst hP hw hK
  obtain⟨f0,f1,f2,f3,f4,f5⟩:=hf it (by simp)
  exact wpAny_pyNext_range_end (I.ok.hd hc) st (by have:n<=i:=hg;omega) fun h' eb=>⟨rfl,I.turned (t':=s.toks) (fun b o hb e=>eb b o hb e) f0 f1 f3 f4 f5⟩
 self:=fun _ _ _ _ _ st h=>wpAny_pyIter_rangeiter st h
section
variable {X:Cx} {tg:Expr}
theorem kXq {pins:List (Addr×Obj)} {σ:St} {H:Hp} {s:Shared} {R:It->Hp->Prop} {E:Value->Shared->Prop} {lo hi:Int} {t u v:Tok} {tk:Nat} (I:Inv X pins σ H s) (h1: -(2^62)<=lo) (h2:lo<2^62) (h3: -(2^62)<=hi) (h4:hi<2^62)
  (q:R (Itr lo (hi-lo).toNat) H):wpAny (model X.prog X.w) X.A (pyIter (.ref s.heap.objs.size)) (PIE X pins σ tg R) E {s with heap:=s.heap.push {cls:= .type "range",data:= .fields #[.int lo t,.int hi u,.int 1 v]},toks:=tk}:=by
 refine wpAny_pyIter_range (IsRange.new ..) (small_one h1 h2 h3 h4) ?_
 have I1:Inv X pins σ H {s with heap:=s.heap.push {cls:= .type "range",data:= .fields #[.int lo t,.int hi u,.int 1 v]},toks:=tk}:=I.kept fun b o e=>lJk _ e
 refine⟨(s.heap.push {cls:= .type "range",data:= .fields #[.int lo t,.int hi u,.int 1 v]}).objs.size,[(s.heap.push {cls:= .type "range",data:= .fields #[.int lo t,.int hi u,.int 1 v]}).objs.size],_,_,H,rfl,
  I1.kept (t':=tk) fun b o e=>lJk _ e,kYn _ lo (hi-lo).toNat,?_,fun b hb=> ?_,q⟩
 ·have e1:lo+((0:Nat):Int)*1=lo:=by simp
  have e2:(((hi-lo).toNat:Nat):Int)-((0:Nat):Int)=Builtin.Range.rangeSize lo hi 1:=by rw[rangeSize_one];split<;>omega
  show IsRangeIter _ _ (lo+((0:Nat):Int)*1) ((((hi-lo).toNat:Nat):Int)-((0:Nat):Int)) 1
  rw[e1,e2]
  exact lJu _ rfl
 ·have e:b=(s.heap.push {cls:= .type "range",data:= .fields #[.int lo t,.int hi u,.int 1 v]}).objs.size:=by simpa using hb
  subst e
  exact I1.fpOk (lJh _) (I1.hok.fresh (lJh _))
def jKb (ta:TA):TI:=fun σ H R=>ta σ H fun vs H1=>∃j:Int,vs=[.int j]/\ -(2^62)<=j/\j<2^62/\R (Itr 0 j.toNat) H1
def kQb (ta:TA):TI:=fun σ H R=>ta σ H fun vs H1=>∃i j:Int,vs=[.int i,.int j]/\(-(2^62)<=i/\i<2^62/\ -(2^62)<=j/\j<2^62)/\R (Itr i (j-i).toNat) H1
noncomputable def tFor (wi:TI) (g:TG) (tb:TS):TS:=fun D σ H=>wi σ H fun J H1=>∃W:Nat->Nat->St->Hp->Prop,(∃m,W 0 m σ H1)/\∀i m σ H,W i m σ H->
 (J.stop i H/\D.nx σ H)\/(J.go i H/\∃N:St->Hp->Prop,(∀ σ' H',N σ' H'->∃m',m'<m/\W (i+1) m' σ' H')/\∀x H',J.yld i H x H'->g x σ H' fun σ2 H2=>tb {D with nx:=N,ct:=N,bk:=D.nx} σ2 H2)
def jV1 (fp:List Addr) (h:Heap):List (Addr×Obj):=fp.filterMap fun b=>(h.get? b).map fun o=>(b,o)
theorem jVs {fp:List Addr} {h:Heap} {b:Addr} {o:Obj} (hb:b∈fp) (e:h.get? b=some o):(b,o)∈jV1 fp h:=lVn.mpr ⟨b,hb,by rw[e];rfl⟩
theorem qJ6 {fp:List Addr} {h:Heap} {p:Addr×Obj} (hp:p∈jV1 fp h):p.1∈fp/\h.get? p.1=some p.2:=by
 obtain⟨b,hb,e⟩:=lVn.mp hp
 cases q:h.get? b with
 | none=>rw[q] at e;cases e
 | some o=>
  rw[q] at e
  have e':(b,o)=p:=lJ4 e
  subst e'
  exact⟨hb,q⟩
theorem Inv.pinned {pins:List (Addr×Obj)} {σ:St} {H:Hp} {s:Shared} {fp:List Addr} (I:Inv X pins σ H s) (hf:∀b∈fp,FpOk X pins H b) (ho:∀b∈fp,∃o,s.heap.get? b=some o/\∀v,o.data≠ .cell v):Inv X (pins++jV1 fp s.heap) σ H s:=
 I.pins_of fun p hp=>(lKc.mp hp).elim (fun z=>I.pin p (lKs _ z)) fun z=>by
  obtain⟨hb,e⟩:=qJ6 z
  obtain⟨f0,f1,f2,_⟩:=hf p.1 hb
  obtain⟨o,e',d⟩:=ho p.1 hb
  rw[e] at e';cases e'
  exact⟨e,f0,f1,f2,d⟩
theorem Inv.unpinned {pins pl:List (Addr×Obj)} {σ:St} {H:Hp} {s:Shared} (I:Inv X (pins++pl) σ H s):Inv X pins σ H s:=I.pins_of fun p hp=>I.pin p (lKs _ (lKx _ hp))
end
abbrev R2:=V->V->Hp->VK->Prop
def OpR (X:Cx) (f:Value->Value->Sem Value) (r:R2):Prop:=
 ∀(pins:List (Addr×Obj)) (s:Shared) (σ:St) (H:Hp) (x y:V) (v u:Value) (Q:VK),Inv X pins σ H s->RelV x v->RelV y u->r x y H Q->
  wpAny (model X.prog X.w) X.A (f v u) (EP X pins σ Q) X.xe s
def UnR (X:Cx) (f:Value->Sem Value) (r:V->Hp->VK->Prop):Prop:=
 ∀(pins:List (Addr×Obj)) (s:Shared) (σ:St) (H:Hp) (x:V) (v:Value) (Q:VK),Inv X pins σ H s->RelV x v->r x H Q->
  wpAny (model X.prog X.w) X.A (f v) (EP X pins σ Q) X.xe s
def kQl (X:Cx) (f:Value) (r:List V->Hp->VK->Prop):Prop:=
 ∀(pins:List (Addr×Obj)) (s:Shared) (σ:St) (H:Hp) (xs:List V) (us:List Value) (Q:VK),Inv X pins σ H s->Vals xs us->r xs H Q->
  wpAny (model X.prog X.w) X.A (call f us) (EP X pins σ Q) X.xe s
def TruR (X:Cx) (r:V->Hp->(Bool->Hp->Prop)->Prop):Prop:=
 ∀(pins:List (Addr×Obj)) (s:Shared) (σ:St) (H:Hp) (x:V) (v:Value) (Q:Bool->Hp->Prop),Inv X pins σ H s->RelV x v->r x H Q->
  wpAny (model X.prog X.w) X.A (truthy v) (TP X pins σ Q) X.xe s
def tOp (r:R2) (ta tb:TE):TE:=fun σ H Q=>ta σ H fun x H1=>tb σ H1 fun y H2=>r x y H2 Q
def tUn (r:V->Hp->VK->Prop) (ta:TE):TE:=fun σ H Q=>ta σ H fun x H1=>r x H1 Q
def rI (C:Int->Int->Prop) (g:Int->Int->V):R2:=fun x y H Q=>∃i j,x= .int i/\y= .int j/\C i j/\Q (g i j) H
def rI0 (g:Int->Int->V):R2:=fun x y H Q=>∃i j,x= .int i/\y= .int j/\Q (g i j) H
def rU (g:Int->V):V->Hp->VK->Prop:=fun x H Q=>∃i,x= .int i/\Q (g i) H
section
variable {X:Cx} {a b c:Expr} {ta tb tc:TE} {pos:Pos}
theorem opI {f:Value->Value->Sem Value} {C:Int->Int->Prop} {g:Int->Int->Int}
  (rule:∀(i j:Int) (t u:Tok) (s:Shared) (Q:Value->Shared->Prop) (E:Value->Shared->Prop),C i j->Q (.int (g i j) s.toks) {s with toks:=s.toks+1}->wpAny (model X.prog X.w) X.A (f (.int i t) (.int j u)) Q E s):
  OpR X f (rI C fun i j=> .int (g i j)):=by
 intro pins s σ H x y v u Q I rx ry h
 obtain⟨i,j,rfl,rfl,hc,q⟩:=h
 obtain⟨t,rfl⟩:=rx
 obtain⟨t',rfl⟩:=ry
 exact rule i j t t' s _ _ hc ⟨.int (g i j),H,I.tok _,⟨_,rfl⟩,q⟩
theorem opI0 {f:Value->Value->Sem Value} {g:Int->Int->Int}
  (rule:∀(i j:Int) (t u:Tok) (s:Shared) (Q:Value->Shared->Prop) (E:Value->Shared->Prop),Q (.int (g i j) s.toks) {s with toks:=s.toks+1}->wpAny (model X.prog X.w) X.A (f (.int i t) (.int j u)) Q E s):
  OpR X f (rI0 fun i j=> .int (g i j)):=by
 intro pins s σ H x y v u Q I rx ry h
 obtain⟨i,j,rfl,rfl,q⟩:=h
 obtain⟨t,rfl⟩:=rx
 obtain⟨t',rfl⟩:=ry
 exact rule i j t t' s _ _ ⟨.int (g i j),H,I.tok _,⟨_,rfl⟩,q⟩
theorem opB0 {f:Value->Value->Sem Value} {g:Int->Int->Bool}
  (rule:∀(i j:Int) (t u:Tok) (s:Shared) (Q:Value->Shared->Prop) (E:Value->Shared->Prop),Q (.bool (g i j)) s->wpAny (model X.prog X.w) X.A (f (.int i t) (.int j u)) Q E s):
  OpR X f (rI0 fun i j=> .bl (g i j)):=by
 intro pins s σ H x y v u Q I rx ry h
 obtain⟨i,j,rfl,rfl,q⟩:=h
 obtain⟨t,rfl⟩:=rx
 obtain⟨t',rfl⟩:=ry
 exact rule i j t t' s _ _ ⟨.bl (g i j),H,I,rfl,q⟩
def CDiv (i j:Int):Prop:=0<j/\j<1073741824
def CPow (i j:Int):Prop:=0<=j/\j<=1000000/\i.natAbs<2^64
def CMul (i j:Int):Prop:=(-(2^64)<i/\i<2^64)\/(-(2^64)<j/\j<2^64)
theorem CMul.ok {i j:Int} (h:CMul i j):IntMulOk i j:=by
 rcases h with ⟨h1,h2⟩ | ⟨h1,h2⟩
 ·exact .of_left (intBits_le_64 h1 h2)
 ·exact .of_right (intBits_le_64 h1 h2)
theorem op_add:OpR X (binaryOp .Add) (rI0 fun i j=> .int (i+j)):=opI0 fun _ _ _ _ _ _ _ q=>add_int q
theorem op_sub:OpR X (binaryOp .Sub) (rI0 fun i j=> .int (i-j)):=opI0 fun _ _ _ _ _ _ _ q=>sub_int q
theorem op_mul:OpR X (binaryOp .Mult) (rI CMul fun i j=> .int (i*j)):=opI fun _ _ _ _ _ _ _ hc q=>mul_int q hc.ok
theorem qYy:OpR X (binaryOp .FloorDiv) (rI CDiv fun i j=> .int (i / j)):=opI fun i j _ _ _ _ _ hc q=>by
 have h1:(0:Int)<j:=hc.1
 have h2:j<1073741824:=hc.2
 exact floordiv_int (by omega) (by rw[Int.fdiv_eq_ediv_of_nonneg i (by omega)];exact q) (.inl (PyProof.noPylong_small (by omega)))
theorem op_mod:OpR X (binaryOp .Mod) (rI (fun _ j=>0<j) fun i j=> .int (i%j)):=opI fun i j _ _ _ _ _ hc q=>by
 have h1:(0:Int)<j:=hc
 exact mod_int' (by omega) (by rw[Int.fmod_eq_emod_of_nonneg i (by omega)];exact q)
theorem op_pow:OpR X (binaryOp .Pow) (rI CPow fun i j=> .int (i^j.toNat)):=opI fun _ _ _ _ _ _ _ hc q=>pow_int_small hc.1 hc.2.1 hc.2.2 q
theorem unI {f:Value->Sem Value} {g:Int->Int}
  (rule:∀(i:Int) (t:Tok) (s:Shared) (Q:Value->Shared->Prop) (E:Value->Shared->Prop),Q (.int (g i) s.toks) {s with toks:=s.toks+1}->wpAny (model X.prog X.w) X.A (f (.int i t)) Q E s):
  UnR X f (rU fun i=> .int (g i)):=by
 intro pins s σ H x v Q I rx h
 obtain⟨i,rfl,q⟩:=h
 obtain⟨t,rfl⟩:=rx
 exact rule i t s _ _ ⟨.int (g i),H,I.tok _,⟨_,rfl⟩,q⟩
theorem un_neg:UnR X (unaryOp .USub) (rU fun i=> .int (-i)):=unI fun _ _ _ _ _ q=>neg_int q
end
section
variable {X:Cx} {a b c:Expr} {ta tb tc:TE} {pos:Pos}
theorem op_lt:OpR X (compareOp .Lt) (rI0 fun i j=> .bl (decide (i<j))):=opB0 fun _ _ _ _ _ _ _ q=>lt_int q
theorem op_le:OpR X (compareOp .LtE) (rI0 fun i j=> .bl (decide (i<=j))):=opB0 fun _ _ _ _ _ _ _ q=>le_int q
theorem op_gt:OpR X (compareOp .Gt) (rI0 fun i j=> .bl (decide (j<i))):=opB0 fun _ _ _ _ _ _ _ q=>gt_int q
theorem op_ge:OpR X (compareOp .GtE) (rI0 fun i j=> .bl (decide (j<=i))):=opB0 fun _ _ _ _ _ _ _ q=>ge_int q
theorem nomark (b:Expr) {op:CmpOp} (h:op≠ .In:=by decide) (h2:op≠ .NotIn:=by decide):behindInMarks op b=false:=by
 have e1:(op == CmpOp.In)=false:=by cases op<;>first | rfl | exact absurd rfl h
 have e2:(op == CmpOp.NotIn)=false:=by cases op<;>first | rfl | exact absurd rfl h2
 cases b<;>simp[behindInMarks,e1,e2]
def jJs (t:TE):TT:=fun σ H Q=>t σ H fun x H'=>∃k,x= .bl k/\Q k H'
noncomputable def jZg (r r':R2) (ta tb tc:TE):TE:=fun σ H Q=>ta σ H fun x H1=>tb σ H1 fun y H2=>r x y H2 fun z H3=>∃k,z= .bl k/\
 (if k=true then tc σ H3 fun w' H4=>r' y w' H4 Q else Q (.bl false) H3)
def TruV (K:PySem.W.Frag) (x:V) (H:Hp) (k:Bool):Prop:=
 match x with
 | .non=>k=false
 | .bl b=>k=b
 | .int i=>k=(i != 0)
 | .str y=>y.length<=sizeLine/\k=((y.length:Int) != 0)
 | .byt y=>y.size<=sizeLine/\k=((y.size:Int) != 0)
 | .ref p=>(∃xs,SqL K H p xs/\k= !xs.isEmpty)\/(∃xs,SqT K H p xs/\k= !xs.isEmpty)\/∃kvs,H p=some (.dK kvs)/\k= !kvs.isEmpty
 | _=>False
theorem kZf {κ:Type} {kvs:List (κ×V)} {vs:List (κ×Value)} (r:KV kvs vs):(!vs.isEmpty)= !kvs.isEmpty:=by
 cases r<;>rfl
theorem kJ8 {xs:List V} {its:List Value} (r:Vals xs its):(!its.toArray.isEmpty)= !xs.isEmpty:=by
 cases r<;>simp
theorem jYk:(sizeLine:Nat)<2^63:=by rw[lKi];decide
theorem tru_ok:TruR X (fun x H Q=>∃k,TruV X.K x H k/\Q k H):=by
 intro pins s σ H x v Q I rx h
 obtain⟨k,e,q⟩:=h
 have hl:=jYk
 have hs:sizeLine=16777216:=lKi
 cases x with
 | non=>
  cases rx
  have e':k=false:=e
  subst e'
  exact truthy_none ⟨H,I,q⟩
 | bl b=>
  cases rx
  have e':k=b:=e
  subst e'
  exact lQs ⟨H,I,q⟩
 | int i=>
  obtain⟨t,rfl⟩:=rx
  have e':k=(i != 0):=e
  subst e'
  exact PySem.P.truthy_int ⟨H,I,q⟩
 | str y=>
  obtain⟨t,rfl⟩:=rx
  obtain⟨hy,e'⟩:y.length<=sizeLine/\k=((y.length:Int) != 0):=e
  subst e'
  exact PySem.P.truthy_str (by omega) ⟨H,I.tok _,q⟩
 | byt y=>
  obtain⟨t,rfl⟩:=rx
  obtain⟨hy,e'⟩:y.size<=sizeLine/\k=((y.size:Int) != 0):=e
  subst e'
  exact PySem.W.truthy_bytes (by omega) ⟨H,I.tok _,q⟩
 | ref p=>
  cases rx
  have e':(∃xs,SqL X.K H p xs/\k= !xs.isEmpty)\/(∃xs,SqT X.K H p xs/\k= !xs.isEmpty)\/∃kvs,H p=some (.dK kvs)/\k= !kvs.isEmpty:=e
  rcases e' with ⟨xs,hx,e'⟩ | ⟨xs,hx,e'⟩ | ⟨kvs,hx,e'⟩
  ·subst e'
   obtain⟨its,r,pl,hz⟩:=I.list hx
   have hlen:=r.length
   exact wpAny_truthy_list pl.isList (by simp only[lJw];omega) ⟨H,I.tok _,by rw[kJ8 r];exact q⟩
  ·subst e'
   obtain⟨its,r,pl,hz⟩:=I.tuple hx
   have hlen:=r.length
   exact truthy_tuple pl (by simp only[lJw];omega) ⟨H,I.tok _,by rw[kJ8 r];exact q⟩
  ·subst e'
   obtain⟨hz,hS,vs,r,m⟩:kvs.length<=sizeLine/\(p == sysModules)=false/\∃vs,KV kvs vs/\s.heap.DictOf (jQd X.prog X.w) p vs:=I.hok p _ hx
   have hlen:kvs.length=vs.length:=lV5 r
   exact wpAny_truthy_dict hS m (by omega) ⟨H,I.tok _,by rw[kZf r];exact q⟩
 | _=>exact (show False from e).elim
theorem kUw {x:V} {us:List Value} (r:Vals [x] us):∃u,us=[u]/\RelV x u:=by
 cases r with
 | cons r1 r2=>cases r2;exact⟨_,rfl,r1⟩
theorem vals2 {x y:V} {us:List Value} (r:Vals [x,y] us):∃u w',us=[u,w']/\RelV x u/\RelV y w':=by
 cases r with
 | cons r1 r2=>
  cases r2 with
  | cons r3 r4=>cases r4;exact⟨_,_,rfl,r1,r3⟩
theorem qV5:kQl X (.builtin "abs") (fun xs H Q=>∃i,xs=[.int i]/\Q (.int (if i<0 then -i else i)) H):=by
 intro pins s σ H xs us Q I r h
 obtain⟨i,rfl,q⟩:=h
 obtain⟨u,rfl,t,rfl⟩:=kUw r
 exact call_abs_int fun u tk=>⟨.int (if i<0 then -i else i),H,I.tok _,⟨_,rfl⟩,q⟩
theorem qQn (hc:X.calm=true):kQl X (.builtin "max") (fun xs H Q=>∃i j,xs=[.int i,.int j]/\Q (.int (if j>i then j else i)) H):=by
 intro pins s σ H xs us Q I r h
 obtain⟨i,j,rfl,q⟩:=h
 obtain⟨u,w',rfl,⟨t,rfl⟩,⟨t',rfl⟩⟩:=vals2 r
 refine max_two_ints (I.ok.hd hc) fun h' tk k=>⟨_,H,I.kept k,?_,q⟩
 by_cases hj:j>i
 ·rw[lJc hj,lJc hj];exact⟨_,rfl⟩
 ·rw[lJb hj,lJb hj];exact⟨_,rfl⟩
theorem qQo:kQl X (.type "int") (fun xs H Q=>(∃i,xs=[.int i]/\Q (.int i) H)\/∃k,xs=[.bl k]/\Q (.int (if k then 1 else 0)) H):=by
 intro pins s σ H xs us Q I r h
 rcases h with ⟨i,rfl,q⟩ | ⟨k,rfl,q⟩
 ·obtain⟨u,rfl,t,rfl⟩:=kUw r
  exact call_int_int ⟨.int i,H,I,⟨_,rfl⟩,q⟩
 ·obtain⟨u,rfl,r1⟩:=kUw r
  cases r1
  exact call_int_bool ⟨.int (if k then 1 else 0),H,I.tok _,⟨_,rfl⟩,q⟩
theorem kV3:kQl X (.builtin "divmod") (fun xs H Q=>∃i j,xs=[.int i,.int j]/\CDiv i j/\∀p,H p=none->Q (.ref p) (upd H p (.tup [.int (i / j),.int (i%j)]))):=by
 intro pins s σ H xs us Q I r h
 obtain⟨i,j,rfl,⟨h1,h2⟩,q⟩:=h
 obtain⟨u,w',rfl,⟨t,rfl⟩,⟨t',rfl⟩⟩:=vals2 r
 refine divmod_int (by omega) ?_ (.inl (PyProof.noPylong_small (by omega)))
 rw[Int.fdiv_eq_ediv_of_nonneg i (by omega),Int.fmod_eq_emod_of_nonneg i (by omega)]
 have hn:H s.heap.objs.size=none:=I.hok.fresh (lJh _)
 refine⟨.ref s.heap.objs.size,_,?_,rfl,q _ hn⟩
 refine I.laid (fun b o e=>lJk _ e) (lJh _) ⟨by simp only[lJ5,lK9];rw[lKi];decide,[.int (i / j) s.toks,.int (i%j) (s.toks+1)],.cons ⟨_,rfl⟩ (.cons ⟨_,rfl⟩ .nil),?_⟩
 exact⟨_,lJu s.heap rfl,rfl,0,rfl,rfl⟩
end
section
variable {prog:Program} {w:World} {A:Around} {E:Value->Shared->Prop} {s:Shared} {K:PySem.W.Frag} {x dx C f:Addr} {mA:Str->Option Value} {name:Str} {v:Value}
end
theorem RelO.some_of {v:V} {o:Option Value} (r:RelO (some v) o):∃u,o=some u/\RelV v u:=by
 cases o with
 | none=>exact (show False from r).elim
 | some u=>exact⟨u,rfl,r⟩
section
variable {P:Program} {w:World} {H H':Hp} {h h':Heap} {a C dx:Addr} {fs fs':List (Str×V)}
end
section
variable {X:Cx} {pins:List (Addr×Obj)} {σ:St} {H:Hp} {s:Shared} {a C dx:Addr} {fs:List (Str×V)} {f:Str} {v:V} {A:Around} {E:Value->Shared->Prop}
end
section
variable {X:Cx} {o e value:Expr} {f:Str} {pos pos' tpos:Pos} {ta tv:TE}
def rSub:V->V->Hp->VK->Prop:=fun x y H Q=>∃i j,x= .int i/\y= .int j/\Q (.int (i-j)) H
end
section
variable {X:Cx} {pins:List (Addr×Obj)} {σ:St} {H:Hp} {s:Shared} {A:Around} {E:Value->Shared->Prop} {Q:Value->Shared->Prop} {c:Value} {b:Bool}
end
structure Room (k:Nat) (A:Around):Prop where
 hd:A.handled=none
 gd:A.guards=some []
 dp:A.depth+3*k+5<recursionLimit
 un:A.units+16*k+200<cLine
theorem Room.mono {j k:Nat} {A:Around} (r:Room k A) (h:j<=k):Room j A:=⟨r.hd,r.gd,by have:=r.dp;omega,by have:=r.un;omega⟩
theorem Room.deeper {k:Nat} {A:Around} (r:Room (k+1) A) (env:Env):Room k (A.deeper env):=
 ⟨r.hd,r.gd,by have:=r.dp;show A.depth+1+3*k+5<_;omega,by have:=r.un;show A.units+3+16*k+200<_;omega⟩
theorem Room.depth {k:Nat} {A:Around} (r:Room k A):A.depth<recursionLimit:=by have:=r.dp;omega
theorem Room.units {k:Nat} {A:Around} (r:Room k A):A.units+64<cLine:=by have:=r.un;omega
def tNil:TA:=fun _ H Q=>Q [] H
def jJa (ta:TE) (tr:TA):TA:=fun σ H Q=>ta σ H fun x H1=>tr σ H1 fun xs H2=>Q (x::xs) H2
section
variable {X:Cx} {e:Expr} {es:List Expr} {te:TE} {t:TA} {pos:Pos}
def tTup (t:TA):TE:=fun σ H Q=>t σ H fun xs H1=>xs.length<=sizeLine/\∀p,H1 p=none->Q (.ref p) (upd H1 p (.tup xs))
def tLst (t:TA):TE:=fun σ H Q=>t σ H fun xs H1=>xs.length<=sizeLine/\∀p,H1 p=none->Q (.ref p) (upd H1 p (.lst xs))
end
abbrev Sp:=List V->Hp->VK->XK->Prop
abbrev CXT:=List Env->Hp->Shared->XK->Value->Shared->Prop
structure Env0 (P:Program) (w:World) (K:PySem.W.Frag) (mg:Str->Option Value) (base:Heap) (A:Around) (outer:List Env) (s:Shared) (H:Hp):Prop where
 frames:A.frames=some outer
 mod:Mod K mg base
 bs:∀b o,base.get? b=some o->s.heap.get? b=some o/\H b=none
 bsz:base.objs.size<=s.heap.objs.size
 funs:s.heap.FunFrames base outer
 frf:∀b∈frs outer,H b=none
 hok:HOk P w H s.heap
 bare:AllBare s.gens
def CE (outer:List Env) (P:Program) (w:World) (H:Hp) (s:Shared) (Q:VK) (u:Value) (s':Shared):Prop:=
 ∃v H',s'.os=s.os/\AllBare s'.gens/\Un (frs outer) [] H H' s.heap s'.heap/\HOk P w H' s'.heap/\RelV v u/\Q v H'
def CR (CX:CXT) (outer:List Env) (P:Program) (w:World) (H:Hp) (s:Shared) (Q:VK) (E:XK) (r:Result) (s':Shared):Prop:=
 match r with
 | .ok (.ret u)=>CE outer P w H s Q u s'
 | .ok _=>False
 | .error e=>CX outer H s E e s'
structure FnOk (P:Program) (w:World) (K:PySem.W.Frag) (mg:Str->Option Value) (base:Heap) (CX:CXT) (k:Nat) (f:Addr) (fd:FuncData) (ps:List Str) (sp:Sp):Prop where
 len:∀vs H Q E,sp vs H Q E->vs.length=ps.length
 run:∀(A:Around) (outer:List Env) (s:Shared) (H:Hp) (args:Args) (us:List Value) (vs:List V) (Q:VK) (E:XK),Room k A->Env0 P w K mg base A outer s H->BindsTo s fd args (ps.zip us)->Vals vs us->sp vs H Q E->
  codeAny (model P w) A (.call (.ref f) args) (CR CX outer P w H s Q E) s
section
variable {X:Cx} {pins:List (Addr×Obj)} {σ:St} {H:Hp} {s s':Shared}
theorem Inv.env0 (I:Inv X pins σ H s):Env0 X.prog X.w X.K X.mg X.base X.A X.stack s H:=
 ⟨I.ok.frames,I.ok.mod,I.bs,lKf I.ok.bsz I.sz,I.stack,I.stkFree,I.hok,I.bare⟩
theorem Inv.after {Q:VK} {u:Value} (I:Inv X pins σ H s) (h:CE X.stack X.prog X.w H s Q u s'):EP X pins σ Q u s':=by
 obtain⟨v,H',os,bare,un,hok,r,q⟩:=h
 obtain⟨hh,g,d,t,os'⟩:=s'
 obtain rfl:os'=s.os:=os
 exact⟨v,H',I.call (h':=hh) (g':=g) (d':=d) (t':=t) (ch:=[]) un hok bare (fun b z=>absurd z (by simp)),r,q⟩
end
def jJp (sp:Sp) (dvs:List V) (E:XK) (t:TA):TE:=fun σ H Q=>t σ H fun vs H1=>sp (vs++dvs) H1 Q E
def Binds (K:PySem.W.Frag) (fd:FuncData) (ps:List Str) (ds:List Value):Prop:=
 ∀(s:Shared) (us:List Value),K.In s.heap->(us++ds).length=ps.length->BindsTo s fd ⟨us,[]⟩ (ps.zip (us++ds))
theorem Binds.all {K:PySem.W.Frag} {fd:FuncData} {ps:List Str} (h:∀us:List Value,us.length=ps.length->bindArgs fd ⟨us,[]⟩=pure (ps.zip us)):Binds K fd ps []:=fun s us _ hl=>by
 rw[lV4] at hl ⊢
 exact .of_eq (h us hl)
def qYb (CX:CXT) (X:Cx) (E:XK):Prop:=∀(pins:List (Addr×Obj)) (σ:St) (H:Hp) (s:Shared) (e:Value) (s':Shared),Inv X pins σ H s->CX X.stack H s E e s'->X.xe e s'
section
variable {X:Cx} {CX:CXT} {k:Nat} {f C:Addr} {fd:FuncData} {ps:List Str} {sp:Sp} {dvs:List V} {ds:List Value} {E:XK} {x m:Str} {p pos apos:Pos} {e o:Expr} {es:List Expr} {ta:TE} {t:TA}
theorem run_fn {pins:List (Addr×Obj)} {σ:St} {H:Hp} {s:Shared} {Q:VK} {us:List Value} {vs:List V} (F:FnOk X.prog X.w X.K X.mg X.base CX k f fd ps sp) (hr:Room k X.A) (hb:Binds X.K fd ps ds) (hd:Vals dvs ds) (hx:qYb CX X E)
  (I:Inv X pins σ H s) (r:Vals vs us) (h:sp (vs++dvs) H Q E):wpAny (model X.prog X.w) X.A (call (.ref f) us) (EP X pins σ Q) X.xe s:=by
 have r2:Vals (vs++dvs) (us++ds):=r.append hd
 have hl:(us++ds).length=ps.length:=by rw[<-r2.length];exact F.len _ _ _ _ h
 refine wpAny_call (codeAny_mono (F.run X.A X.stack s H ⟨us,[]⟩ (us++ds) (vs++dvs) Q E hr I.env0 (hb s us I.kIn hl) r2 h) fun r s' hq=> ?_)
 cases r with
 | error e=>exact hx pins σ H s e s' I hq
 | ok fl=>
  cases fl with
  | ret u=>exact I.after hq
  | next=>exact False.elim hq
  | brk=>exact False.elim hq
  | cont=>exact False.elim hq
end
section
variable {X:Cx} {CX:CXT} {k:Nat} {f C:Addr} {fd:FuncData} {ps ks:List Str} {sp:Sp} {E:XK} {x m:Str} {p pos apos kpos:Pos} {e o:Expr} {es:List Expr} {kws:List Keyword} {te ta:TE} {t tk:TA} {nm:Option Str}
variable {g:List Value->List Value->List Value} {gV:List V->List V->List V}
end
structure FnScope (N P:List Str) (sc:Scope):Prop where
 kind:sc.kind= .function
 co:sc.isCoroutine=false
 gen:sc.isGenerator=false
 nd:N.Nodup
 pre:N.take P.length=P
 par:∀x∈P,sc.names.lookup x=some .local\/sc.names.lookup x=some .cell
 nofree:∀y∈sc.names,y.2≠ .free
theorem kUp {kindOf:Str->Option NameKind} {x:Str}:∀ {binds:List (Str×Value)} {m:Str->Option Value},(∀v,(x,v)∉binds)->bindL kindOf binds m x=m x
 | [],_,_=>rfl
 | (n,v)::r,m,h=>by
  unfold bindL
  rw[kUp fun w hw=>h w (lJ2 _ hw)]
  split
  ·have:x≠n:=by rintro rfl;exact h v lJ1
   simp[this]
  ·rfl
theorem kUr {kindOf:Str->Option NameKind} {x:Str}:∀ {binds:List (Str×Value)} {m:Str->Option Value},(∀v,(x,v)∉binds)->bindC kindOf binds m x=m x
 | [],_,_=>rfl
 | (n,v)::r,m,h=>by
  unfold bindC
  rw[kUr fun w hw=>h w (lJ2 _ hw)]
  split
  ·rfl
  ·have:x≠n:=by rintro rfl;exact h v lJ1
   simp[this]
theorem kUq {kindOf:Str->Option NameKind} {x:Str} {v:Value}:∀ {P:List Str} {vs:List Value} {i:Nat} {m:Str->Option Value},P.Nodup->P[i]? =some x->vs[i]? =some v->kindOf x=some .local->
  bindL kindOf (P.zip vs) m x=some v
 | [],_,_,_,_,h,_,_=>by simp at h
 | _::_,[],_,_,_,_,h,_=>by simp at h
 | p::P,w::vs,0,m,nd,h1,h2,hk=>by
  simp at h1 h2;subst h1;subst h2
  show bindL kindOf ((p,w)::P.zip vs) m p=_
  unfold bindL
  rw[kUp fun v hv=>(lKm.mp nd).1 (List.of_mem_zip hv).1,lJc hk]
  simp
 | p::P,w::vs,i+1,m,nd,h1,h2,hk=>by
  show bindL kindOf ((p,w)::P.zip vs) m x=_
  unfold bindL
  exact kUq (i:=i) (lKm.mp nd).2 (by simpa using h1) (by simpa using h2) hk
theorem kUs {kindOf:Str->Option NameKind} {x:Str} {v:Value}:∀ {P:List Str} {vs:List Value} {i:Nat} {m:Str->Option Value},P.Nodup->P[i]? =some x->vs[i]? =some v->kindOf x≠some .local->
  bindC kindOf (P.zip vs) m x=some v
 | [],_,_,_,_,h,_,_=>by simp at h
 | _::_,[],_,_,_,_,h,_=>by simp at h
 | p::P,w::vs,0,m,nd,h1,h2,hk=>by
  simp at h1 h2;subst h1;subst h2
  show bindC kindOf ((p,w)::P.zip vs) m p=_
  unfold bindC
  rw[kUr fun v hv=>(lKm.mp nd).1 (List.of_mem_zip hv).1,lJb hk]
  simp
 | p::P,w::vs,i+1,m,nd,h1,h2,hk=>by
  show bindC kindOf ((p,w)::P.zip vs) m x=_
  unfold bindC
  exact kUs (i:=i) (lKm.mp nd).2 (by simpa using h1) (by simpa using h2) hk
def start (N:List Str) (vs:List V):St:=vs.map some++List.replicate (N.length-vs.length) none
noncomputable def cxOf (CX:CXT) (P:Program) (w:World) (K:PySem.W.Frag) (mg:Str->Option Value) (base:Heap) (N:List Str) (qual:Str) (scope:Scope) (f:Addr) (cd:Value) (A:Around) (outer:List Env) (s:Shared) (H:Hp) (E:XK):Cx where
 prog:=P
 w:=w
 K:=K
 mg:=mg
 base:=base
 A:=A.deeper (envOfC qual scope s.heap.objs.size f cd)
 N:=N
 s₀:=s
 H₀:=H
 env:=envOfC qual scope s.heap.objs.size f cd
 outer:=outer
 stack:=envOfC qual scope s.heap.objs.size f cd::outer
 ex:=[]
 calm:=true
 fn:=fun _=>true
 pn:=[]
 xe:=fun e s'=>wpAny (model P w) (A.deeper (envOfC qual scope s.heap.objs.size f cd)) (leaving (envOfC qual scope s.heap.objs.size f cd) e) (fun _ s''=>CX outer H s E e s'') (fun e' s''=>CX outer H s E e' s'') s'
theorem kYi {sc:Scope} {n:Nat} {x:Str} (h:sc.names.lookup x=some .cell):∃c,(cellsFrom n sc.names []).lookup x=some c:=by
 have q:=PySem.W.cellsFrom_some sc.names n [] (.inl h)
 exact lYh.mp q
theorem qKs {CX:CXT} {P:Program} {w:World} {K:PySem.W.Frag} {mg:Str->Option Value} {base:Heap} {N ps:List Str} {qual:Str} {scope:Scope} {f:Addr} {cd:Value} {A:Around} {outer:List Env} {s s1:Shared} {H:Hp} {E:XK} {us:List Value} {vs:List V}
  (S:FnScope N ps scope) (hd:A.handled=none/\A.guards=some []) (e0:Env0 P w K mg base A outer s H) (hl:vs.length=ps.length) (r:Vals vs us)
  (x:InCallC s s.heap.objs.size (bindL (envOfC qual scope s.heap.objs.size f cd).kindOf (ps.zip us) fun _=>none) (cellsFrom (s.heap.objs.size+1) scope.names []) (bindC (envOfC qual scope s.heap.objs.size f cd).kindOf (ps.zip us) fun _=>none) s1):
  Inv (cxOf CX P w K mg base N qual scope f cd A outer s H E) [] (start N vs) H s1:=by
 have hpl:ps.length<=N.length:=by have:=lJ9 List.length S.pre;rw[lQy] at this;omega
 obtain⟨h1,tk,rfl,hk⟩:=x.done
 have noA:∀b:Addr,b∉(cxOf CX P w K mg base N qual scope f cd A outer s H E).ex:=fun b z=>absurd (show b∈([]:List Addr) from z) (by simp)
 refine⟨⟨e0.mod,S.kind,rfl,rfl,lJh _,fun y z c h1 h2=> ?_,fun y hy=> ?_,fun y c _ h=> ?_,fun _=>hd.1,fun _=>hd.2,Around.frames_deeper e0.frames,.inr ⟨rfl,rfl⟩,fun b z=>absurd z (noA b),e0.bs,e0.bsz,fun b _ _=>noA b,fun b z=>absurd z (noA b),e0.funs,e0.frf⟩,
  rfl,e0.bare,Un.kept hk,⟨_,x.toInCall.ns,fun i y v h1 h2 h3=> ?_⟩,fun y c h=>⟨_,x.cell y c h⟩,e0.hok.fresh (lJh _),fun y c h=> ?_,fun p hp=>absurd (show p∈([]:List (Addr×Obj)) from hp) (by simp),e0.hok.kept hk,?_⟩
 ·exact name_of_addr x.apart (lV6 h1) (lV6 h2)
 ·have hy:scope.names.lookup y=some .cell\/scope.names.lookup y=some .free:=hy
  rcases hy with hy | hy
  ·exact kYi hy
  ·exact absurd rfl (S.nofree _ (lV6 hy))
 ·exact lVm (x.above y c (lV6 h))
 ·have hi:i<vs.length:=by
   unfold start at h2
   by_cases hi:i<vs.length
   ·exact hi
   ·rw[lV7 (by simpa using hi)] at h2
    rw[lXw] at h2
    split at h2<;>cases h2
  have ha:vs[i]? =some v:=by
   unfold start at h2
   rw[lQc (by simpa using hi),lJq] at h2
   cases e:vs[i]? with
   | none=>rw[e] at h2;cases h2
   | some a=>rw[e] at h2;cases h2;rfl
  obtain⟨u,hu,rv⟩:=r.get ha
  have hp:ps[i]? =some y:=by
   rw[<-S.pre,List.getElem?_take_of_lt (by omega)];exact h1
  have ndP:ps.Nodup:=by rw[<-S.pre];exact S.nd.sublist (List.take_sublist _ _)
  refine⟨u,rv,?_⟩
  rcases S.par y (lJl hp) with k | k
  ·exact .inl ⟨k,kUq ndP hp hu k⟩
  ·obtain⟨c,e⟩:=kYi (n:=s.heap.objs.size+1) k
   refine .inr ⟨.inl k,c,e,?_⟩
   have q:=x.cell y c e
   rw[kUs ndP hp hu (by show scope.names.lookup y≠_;rw[k];decide)] at q
   exact q
 ·exact e0.hok.fresh (lVm (x.above y c (lV6 h)))
 ·unfold start
  show _=N.length
  rw[lKd,lJe,List.length_replicate]
  omega
theorem fn_of {CX:CXT} {P:Program} {w:World} {K:PySem.W.Frag} {mg:Str->Option Value} {base:Heap} {k:Nat} {f:Addr} {name qual:Str} {params:Arguments} {body:List Stmt} {scope:Scope} {dV kV doc pm cdv ct oc:Value} {an od:Option Addr}
  {osl:Array (Option Value)} {N ps:List Str} {sp:Sp} (lk:K.lookup f=some ⟨oc,od,.func (PySem.W.fnOf name qual params body scope dV kV doc pm an cdv ct),osl⟩) (hcd:PySem.W.codeIn K cdv qual=true) (S:FnScope N ps scope)
  (len:∀vs H Q E,sp vs H Q E->vs.length=ps.length)
  (hbody:∀(A:Around) (outer:List Env) (s:Shared) (H:Hp) (vs:List V) (Q:VK) (E:XK),Room k (A.deeper (envOfC qual scope s.heap.objs.size f cdv))->sp vs H Q E->
   ∃t,PSs (cxOf CX P w K mg base N qual scope f cdv A outer s H E) body t/\t {nx:=fun _ H'=>Q .non H',rt:=Q} (start N vs) H):
  FnOk P w K mg base CX (k+1) f (PySem.W.fnOf name qual params body scope dV kV doc pm an cdv ct) ps sp:=by
 refine⟨len,fun A outer s H args us vs Q E hr e0 hb r hsp=> ?_⟩
 have hl:=len _ _ _ _ hsp
 have KX:K.In s.heap:=e0.mod.kin.keeps fun b o e=>(e0.bs b o e).1
 have lim:s.heap.NoLimit:=e0.mod.nolimit.keeps fun b o e=>(e0.bs b o e).1
 have hkind:∀y∈ps.zip us,scope.names.lookup y.1=some .local\/(scope.names.lookup y.1=some .cell/\((cellsFrom (s.heap.objs.size+1) scope.names []).lookup y.1).isSome=true):=fun ⟨n,v⟩ hy=>by
  rcases S.par n (List.of_mem_zip hy).1 with q | q
  ·exact .inl q
  ·exact .inr ⟨q,PySem.W.cellsFrom_some _ _ _ (.inl q)⟩
 refine codeAny_call_function hr.depth (KX _ _ lk) rfl S.co S.gen rfl (PySem.W.codeRec_of KX hcd) (hb _ _ _ _ ?_)
 refine wpAny_newFunctionEnv_cells S.kind hkind fun env he s1 x=> ?_
 subst he
 refine⟨lim.keeps x.toInCall.keep,codeAny_func ?_⟩
 obtain⟨t,ht,hq⟩:=hbody A outer s H vs Q E (hr.deeper _) hsp
 have I:Inv (cxOf CX P w K mg base N qual scope f cdv A outer s H E) [] (start N vs) H s1:=qKs S ⟨hr.hd,hr.gd⟩ e0 hl r x
 refine lQj (ht [] s1 (start N vs) H _ I hq) (fun fl s' hs=> ?_) fun e s' hs=>hs
 have fin:∀ {σ':St} {H':Hp} {v:V} {u:Value},Inv (cxOf CX P w K mg base N qual scope f cdv A outer s H E) [] σ' H' s'->RelV v u->Q v H'->CE outer P w H s Q u s':=
  fun {σ' H' v u} J rv q=>⟨v,H',J.os,J.bare,J.base,J.hok,rv,q⟩
 cases fl with
 | ret u=>
  obtain⟨v,σ',H',J,rv,q⟩:=hs
  exact fin J rv q
 | next=>
  obtain⟨σ',H',J,q⟩:=hs
  exact fin (v:=V.non) (u:=Value.none) J rfl q
 | brk=>
  obtain⟨_,_,_,q⟩:=hs
  exact False.elim q
 | cont=>
  obtain⟨_,_,_,q⟩:=hs
  exact False.elim q
section
variable {X:Cx} {x:Str} {p pos:Pos} {e:Expr} {es:List Expr} {t:TA} {id T:String} {r:List V->Hp->VK->Prop}
def tCB (r:List V->Hp->VK->Prop) (t:TA):TE:=fun σ H Q=>t σ H fun vs H1=>r vs H1 Q
end
end L2
namespace HT
open PySem PyProof.Rows
def lexLt:List Int->List Int->Bool
 | [],[]=>false
 | [],_::_=>true
 | _::_,[]=>false
 | x::xs,y::ys=>if x=y then lexLt xs ys else decide (x<y)
theorem qV0 (A:Around) (s:Shared) (a:Int) (t:Tok) (c:Int) (u:Tok):∃e,SeqAt.EqAt A s (.int a t) (.int c u) e/\(e=true↔a=c):=
 ⟨(a == c),SeqAt.EqAt.int_int a t c u,by simp⟩
section
open PySem.SeqAt
open PySem.AutoSeq1 (wpAny_loadPart')
open PySem.MeetsSeq PySem.MeetsSeq2 PySem.MeetsSeq3
end
section
variable {prog:Program} {w:World} {A:Around} {E:Value->Shared->Prop} {s:Shared}
theorem cat_tup {t b:Addr} {vs ws:List Value} {Q:Value->Shared->Prop} (ht:IsTup s.heap t vs.toArray) (hb:IsTup s.heap b ws.toArray) (hv:vs≠[])
  (h1:ws=[]->Q (.ref t) s) (h2:ws≠[]->Q (.ref s.heap.objs.size) {s with heap:=s.heap.push {cls:= .type "tuple",data:= .seq (vs++ws).toArray} })
  (hsz:vs.length+ws.length<=sizeLine):wpAny (model prog w) A (binaryOp .Add (.ref t) (.ref b)) Q E s:=by
 obtain⟨⟨cls,dd,data,sl⟩,ho,hc,n,hd⟩:=id ht
 obtain⟨⟨cls2,dd2,data2,sl2⟩,ho2,hc2,n2,hd2⟩:=id hb
 simp only at hc hd hc2 hd2
 subst hc hd hc2 hd2
 have e:vs.toArray++ws.toArray=(vs++ws).toArray:=by simp
 by_cases hw:ws=[]
 ·exact concat_meets ⟨_,ho,rfl⟩ ⟨_,ho2,rfl⟩ noFill_tuple_add seq_tuple_add PySem.F.slot_tuple_add PySem.F.entry_tuple_add (PySem.F.args_tuple_add_2 _ _)
   (tuple_addW1 t b vs.toArray ws.toArray n n2 dd dd2 sl sl2 (by simpa using hv) (by simp[hw])) ⟨ho,ho2,h1 hw⟩
 ·refine concat_meets ⟨_,ho,rfl⟩ ⟨_,ho2,rfl⟩ noFill_tuple_add seq_tuple_add PySem.F.slot_tuple_add PySem.F.entry_tuple_add (PySem.F.args_tuple_add_2 _ _)
   (tuple_addW2 t b vs.toArray ws.toArray n n2 dd dd2 sl sl2 (by simpa using hv) (by simpa using hw) (by rw[lJw,lJw];exact hsz)) ⟨ho,ho2,?_⟩
  rw[e]
  exact h2 hw
def sIx (n d:Nat):Option Int->Nat
 | none=>d
 | some v=>if v<0 then (v+(n:Int)).toNat else min v.toNat n
theorem sIx_le (n d:Nat) (hd:d<=n) (o:Option Int):sIx n d o<=n:=by
 cases o with
 | none=>exact hd
 | some v=>
  show (if v<0 then (v+(n:Int)).toNat else min v.toNat n)<=n
  by_cases hv:v<0
  ·rw[lJc hv];omega
  ·rw[lJb hv];exact Nat.min_le_right _ _
theorem qQl (v:Int) (n d:Nat):(if v<0 then max (v+(n:Int)) 0 else min v (n:Int))=((sIx n d (some v):Nat):Int):=by
 show (if v<0 then max (v+(n:Int)) 0 else min v (n:Int))=(((if v<0 then (v+(n:Int)).toNat else min v.toNat n):Nat):Int)
 by_cases hv:v<0
 ·simp only[lJc hv];omega
 ·simp only[lJb hv];omega
theorem kZn (lo hi:Option Int) (n:Nat):Builtin.Slice.sliceAdjust lo hi 1 (n:Int)=(((sIx n 0 lo:Nat):Int),((sIx n n hi:Nat):Int)):=by
 have h1:¬ ((1:Int)<0):=by omega
 unfold Builtin.Slice.sliceAdjust
 simp only[h1,lJ3]
 refine Prod.ext ?_ ?_
 ·cases lo with
  | none=>rfl
  | some v=>exact qQl v n 0
 ·cases hi with
  | none=>rfl
  | some v=>exact qQl v n n
theorem kY0 (i j:Nat):Builtin.Slice.slicePlaces (i:Int) (j:Int) 1=j-i:=by
 unfold Builtin.Slice.slicePlaces
 have h1:(1:Int)>0:=by omega
 simp only[h1,lKw,Int.ediv_one]
 split<;>omega
theorem kJ4 {v:Value} {o:Option Int} {Q:Option Int->Shared->Prop} (p:IsPart v o) (h:Q o s):wpAny (model prog w) A (Builtin.Slice.slicePartIndex v) Q E s:=by
 cases p with
 | none=>exact slicePart_none h
 | int i t=>exact slicePart_int h
theorem jUz {sl:Addr} {vl vu:Value} {lo hi:Option Int} {n:Nat} {Q:Int×Int×Nat->Shared->Prop} (hs:s.heap.IsSliceOf sl vl vu .none) (pl:IsPart vl lo) (pu:IsPart vu hi)
  (h:Q (((sIx n 0 lo:Nat):Int),1,sIx n n hi-sIx n 0 lo) s):wpAny (model prog w) A (Builtin.Slice.sliceApplied (.ref sl) (pure (n:Int))) Q E s:=by
 obtain⟨os,hos,hcs,hds⟩:=id hs
 unfold Builtin.Slice.sliceApplied Builtin.Slice.sliceFields
 refine lJa (lJa (lKp hos hds (x:=vl) rfl (lJa (lKp hos hds (x:=vu) rfl (lJa (lKp hos hds (x:= .none) rfl (lJd ?_)))))))
 refine lJa (slicePart_none ?_)
 show wpAny _ _ (if ((1:Int) == 0)=true then _ else _) _ _ s
 rw[lJb (by decide)]
 refine lJa (kJ4 pl (lJa (kJ4 pu (lJa (lJd ?_)))))
 show wpAny _ _ (match Builtin.Slice.sliceAdjust lo hi 1 (n:Int) with | (lo,hi)=>pure (lo,(1:Int),Builtin.Slice.slicePlaces lo hi 1)) _ _ s
 rw[kZn lo hi n]
 show wpAny _ _ (pure (((sIx n 0 lo:Nat):Int),(1:Int),Builtin.Slice.slicePlaces ((sIx n 0 lo:Nat):Int) ((sIx n n hi:Nat):Int) 1)) _ _ s
 rw[kY0]
 exact lJd h
theorem qU0 (xs:Array Value) (i k:Nat):((List.range k).filterMap fun (m:Nat)=>xs[((i:Int)+(m:Int)*1).toNat]?).toArray=((xs.toList.drop i).take k).toArray:=by
 have e:(fun (m:Nat)=>xs[((i:Int)+(m:Int)*1).toNat]?)=fun m=>xs[i+m]? :=by
  funext m
  have:((i:Int)+(m:Int)*1).toNat=i+m:=by omega
  rw[this]
 rw[e]
 have:=pick_run xs i k
 rw[List.filterMap_map] at this
 have e2:((fun x=>xs[x]?)∘fun x=>i+x)=fun m=>xs[i+m]? :=rfl
 rw[e2] at this
 rw[this]
theorem getItem_tuple_cut {t sl:Addr} {items:Array Value} {vl vu:Value} {lo hi:Option Int} {Q:Value->Shared->Prop} (ht:IsTup s.heap t items) (hs:s.heap.IsSliceOf sl vl vu .none) (pl:IsPart vl lo) (pu:IsPart vu hi)
  (hw:¬ (sIx items.size 0 lo=0/\sIx items.size items.size hi=items.size))
  (h:Q (.ref s.heap.objs.size) {s with heap:=s.heap.push {cls:= .type "tuple",data:= .seq ((items.toList.drop (sIx items.size 0 lo)).take (sIx items.size items.size hi-sIx items.size 0 lo)).toArray} })
  (hsz:items.size<=sizeLine):wpAny (model prog w) A (getItem (.ref t) (.ref sl)) Q E s:=by
 have htake:sizeOk (.seq ((items.toList.drop (sIx items.size 0 lo)).take (sIx items.size items.size hi-sIx items.size 0 lo)).toArray):=by
  show ((items.toList.drop (sIx items.size 0 lo)).take (sIx items.size items.size hi-sIx items.size 0 lo)).toArray.size<=sizeLine
  rw[lJw,lQy,lXm,lKj]
  omega
 have hj:sIx items.size items.size hi<=items.size:=sIx_le _ _ (lJh _) hi
 obtain⟨os,hos,hcs,hds⟩:=id hs
 have hTs:s.TypeIs (.ref sl) "slice":=⟨os,hos,hcs⟩
 unfold getItem
 try with_reducible refine lKy ?_
 first | refine lJa (lJd ?_) | skip
 refine lJa (wpAny_sequenceKey ht.typeIs (by decide) ?_)
 refine lJa (lQt (name:=Str.ofString "__getitem__") ht.typeIs lV8
  (lKl lV8 ht.typeIs entry_tuple_getitem ?_ (args_tuple_getitem _ _)))
 show wpAny _ _ (Builtin.Tuple.tupleItemsOf (.ref t) >>= _) _ _ s
 refine lJa (tupleItemsOf_ ht ?_)
 refine lJa (lVi hTs ?_)
 rw[lJc (by decide)]
 refine lJa (jUz hs pl pu ?_)
 have hno:¬ ((((sIx items.size 0 lo:Nat):Int) == 0&&(1:Int) == 1&&(sIx items.size items.size hi-sIx items.size 0 lo) == items.size)=true):=by
  intro q
  rw[lJ6,lJ6] at q
  have q1:((sIx items.size 0 lo:Nat):Int)=0:=eq_of_beq q.1.1
  have q2:sIx items.size items.size hi-sIx items.size 0 lo=items.size:=eq_of_beq q.2
  exact hw ⟨by omega,by omega⟩
 show wpAny _ _ (if (((sIx items.size 0 lo:Nat):Int) == 0&&(1:Int) == 1&&(sIx items.size items.size hi-sIx items.size 0 lo) == items.size)=true then _ else _) _ _ s
 rw[lJb hno,qU0]
 first
  | exact lJa (m:=Builtin.Tuple.tupleExact _) (lKe (lJd ⟨_,rfl,lJd h⟩) htake)
  | exact lJa (m:=Builtin.Tuple.tupleExact _) (lKe (lJa (lJd (lJd ⟨_,rfl,lJd h⟩))) htake)
  | exact lJa (lJa (m:=Builtin.Tuple.tupleExact _) (lKe (lJd (lJd ⟨_,rfl,lJd h⟩)) htake))
  | exact lJa (lJa (m:=Builtin.Tuple.tupleExact _) (lKe (lJd ⟨_,rfl,lJd h⟩) htake))
end
end HT
namespace L2
open PySem PySem.Spec PyProof.Rows
abbrev TO:=St->Hp->(Option Int->Hp->Prop)->Prop
def jJ2:TO:=fun _ H Q=>Q none H
def jKo (t:TE):TO:=fun σ H Q=>t σ H fun x H1=>∃i,x= .int i/\Q (some i) H1
theorem kJ9 {ns:List Int}:∀ {us:List Value},Vals (ns.map V.int) us->IntsAre us ns:=by
 induction ns with
 | nil=>intro us r;rw[List.map_nil] at r;cases r;exact .nil
 | cons n ns ih=>
  intro us r
  rw[lJr] at r
  cases r with
  | cons r1 r2=>
   obtain⟨t,e⟩:=r1
   subst e
   exact .cons n t (ih r2)
section
variable {X:Cx} {e:Expr} {te:TE} {lo hi:Option Expr} {tl th:TO} {pos p2:Pos}
def SlR (X:Cx) (r:V->Option Int->Option Int->Hp->VK->Prop):Prop:=
 ∀(pins:List (Addr×Obj)) (s:Shared) (σ:St) (H:Hp) (x:V) (v vl vu:Value) (lo hi:Option Int) (sl:Addr) (Q:VK),Inv X pins σ H s->RelV x v->s.heap.IsSliceOf sl vl vu .none->IsPart vl lo->IsPart vu hi->r x lo hi H Q->
  ∃T id,typeLookup (.type T) "__getitem__"=pure (some (.builtin id))/\s.TypeIs v T/\wpAny (model X.prog X.w) X.A (getItem v (.ref sl)) (EP X pins σ Q) X.xe s
def tSl (r:V->Option Int->Option Int->Hp->VK->Prop) (te:TE) (tl th:TO):TE:=fun σ H Q=>te σ H fun x H1=>tl σ H1 fun l H2=>th σ H2 fun u H3=>r x l u H3 Q
def cutV (xs:List V) (lo hi:Option Int):List V:=(xs.drop (HT.sIx xs.length 0 lo)).take (HT.sIx xs.length xs.length hi-HT.sIx xs.length 0 lo)
theorem kJh (xs:List V) (lo hi:Option Int):(cutV xs lo hi).length<=xs.length:=by
 unfold cutV
 rw[lQy,lXm]
 omega
noncomputable def rSlT (K:PySem.W.Frag):V->Option Int->Option Int->Hp->VK->Prop:=fun x lo hi H Q=>∃a xs,x= .ref a/\SqT K H a xs/\
 ¬ (HT.sIx xs.length 0 lo=0/\HT.sIx xs.length xs.length hi=xs.length)/\∀p,H p=none->Q (.ref p) (upd H p (.tup (cutV xs lo hi)))
theorem sl_tup:SlR X (rSlT X.K):=by
 intro pins s σ H x v vl vu lo hi sl Q I rx hs pl pu h
 obtain⟨a,xs,rfl,hx,hw,q⟩:=h
 cases rx
 obtain⟨its,r,ht,hz⟩:=I.tuple hx
 have hlen:its.toArray.size=xs.length:=by rw[lJw];exact r.length.symm
 refine⟨"tuple",_,lV8.lookup,ht.typeIs,?_⟩
 refine HT.getItem_tuple_cut ht hs pl pu (by rw[hlen];exact hw) ?_ (by rw[hlen];exact hz)
 rw[hlen]
 refine⟨.ref s.heap.objs.size,_,I.laid (t':=s.toks) (o:= .tup (cutV xs lo hi)) (fun b ob q=>lJk _ q) (lJh _) ?_,rfl,q _ (I.hok.fresh (lJh _))⟩
 exact⟨lKf (kJh xs lo hi) hz,_,(r.drop (HT.sIx xs.length 0 lo)).take (HT.sIx xs.length xs.length hi-HT.sIx xs.length 0 lo),TupD.new _ _⟩
noncomputable def qUy (K:PySem.W.Frag):R2:=fun x y H Q=>∃a b xs ys,x= .ref a/\y= .ref b/\SqT K H a xs/\SqT K H b ys/\xs≠[]/\xs.length+ys.length<=sizeLine/\
 (ys=[]->Q (.ref a) H)/\(ys≠[]->∀p,H p=none->Q (.ref p) (upd H p (.tup (xs++ys))))
theorem Vals.nil_iff {xs:List V} {us:List Value} (r:Vals xs us):us=[]↔xs=[]:=by
 cases r with
 | nil=>simp
 | cons _ _=>simp
theorem qYz:OpR X (binaryOp .Add) (qUy X.K):=by
 intro pins s σ H x y v u Q I rx ry h
 obtain⟨a,b,xs,ys,rfl,rfl,ha,hb,hx,hz,q1,q2⟩:=h
 cases rx
 cases ry
 obtain⟨its,r1,p1,_⟩:=I.tuple ha
 obtain⟨its2,r2,p2,_⟩:=I.tuple hb
 refine HT.cat_tup p1 p2 (fun z=>hx (r1.nil_iff.mp z)) (fun z=>⟨.ref a,H,I,rfl,q1 (r2.nil_iff.mp z)⟩) (fun z=> ?_) (by rw[<-r1.length,<-r2.length];exact hz)
 refine⟨.ref s.heap.objs.size,_,I.laid (t':=s.toks) (o:= .tup (xs++ys)) (fun b ob q=>lJk _ q) (lJh _) ?_,rfl,q2 (fun w=>z (r2.nil_iff.mpr w)) _ (I.hok.fresh (lJh _))⟩
 exact⟨by rw[lKd];exact hz,_,r1.append r2,TupD.new _ _⟩
end
def ixN (n:Nat) (i:Int):Option Nat:=if 0<=i then (if i<n then some i.toNat else none) else if -(n:Int)<=i then some (i+n).toNat else none
def atI {α:Type} (xs:List α) (i:Int):Option α:=(ixN xs.length i).bind fun j=>xs[j]?
theorem qKq {n:Nat} {i:Int} {j:Nat} (h:ixN n i=some j):seqIndex? i n=some j/\j<n/\ -(n:Int)<=i/\i<n:=by
 unfold ixN at h
 by_cases h0:0<=i
 ·rw[lJc h0] at h
  by_cases h1:i<n
  ·rw[lJc h1] at h
   have e:i.toNat=j:=lJ4 h
   exact⟨by rw[seqIndex_of h0 h1,e],by omega,by omega,h1⟩
  ·rw[lJb h1] at h;cases h
 ·rw[lJb h0] at h
  by_cases h1: -(n:Int)<=i
  ·rw[lJc h1] at h
   have e:(i+n).toNat=j:=lJ4 h
   exact⟨by rw[seqIndex_neg (by omega) h1,e],by omega,h1,by omega⟩
  ·rw[lJb h1] at h;cases h
theorem qQw {α:Type} {xs:List α} {i:Int} {v:α} (h:atI xs i=some v):∃j,seqIndex? i xs.length=some j/\xs[j]? =some v/\j<xs.length/\ -(xs.length:Int)<=i/\i<xs.length:=by
 unfold atI at h
 cases e:ixN xs.length i with
 | none=>rw[e] at h;cases h
 | some j=>
  rw[e] at h
  obtain⟨h1,h2,h3,h4⟩:=qKq e
  exact⟨j,h1,h,h2,h3,h4⟩
def uJa (b:Expr):Prop:=∀o i,subscripted b false o i=operate [o,i] (getItem o i)
def IxR (X:Cx) (r:R2):Prop:=
 ∀(value slice:Expr) (pins:List (Addr×Obj)) (s:Shared) (σ:St) (H:Hp) (x y:V) (v u:Value) (Q:VK),Inv X pins σ H s->RelV x v->RelV y u->r x y H Q->
  subscripted slice false v u=operate [v,u] (getItem v u)->wpAny (model X.prog X.w) X.A (subscriptTail value slice v u) (EP X pins σ Q) X.xe s
def MtR (X:Cx) (id:String) (r:V->List V->Hp->VK->Prop):Prop:=
 ∀(pins:List (Addr×Obj)) (s:Shared) (σ:St) (H:Hp) (x:V) (xs:List V) (v:Value) (us:List Value) (Q:VK),Inv X pins σ H s->RelV x v->Vals xs us->r x xs H Q->
  wpAny (model X.prog X.w) X.A (call (.builtin id) (v::us)) (EP X pins σ Q) X.xe s
section
variable {X:Cx} {a b:Expr} {ta tb:TE} {pos:Pos}
theorem IxR.or {r r':R2} (h:IxR X r) (h':IxR X r'):IxR X (fun x y H Q=>r x y H Q\/r' x y H Q):=by
 intro value slice pins s σ H x y v u Q I rx ry q hs
 rcases q with q | q
 ·exact h value slice pins s σ H x y v u Q I rx ry q hs
 ·exact h' value slice pins s σ H x y v u Q I rx ry q hs
def rIxL (K:PySem.W.Frag):R2:=fun x y H Q=>∃p xs i v,x= .ref p/\y= .int i/\SqL K H p xs/\atI xs i=some v/\Q v H
def rIxT (K:PySem.W.Frag):R2:=fun x y H Q=>∃p xs i v,x= .ref p/\y= .int i/\SqT K H p xs/\atI xs i=some v/\Q v H
def rIxS:R2:=fun x y H Q=>∃z i c,x= .str z/\y= .int i/\z.length<=sizeLine/\atI z.cps.toList i=some c/\Q (.str ⟨#[c]⟩) H
theorem ix_list:IxR X (rIxL X.K):=by
 intro value slice pins s σ H x y v u Q I rx ry h hs
 obtain⟨p,xs,i,z,rfl,rfl,hq,he,q⟩:=h
 cases rx
 obtain⟨t,rfl⟩:=ry
 obtain⟨its,r,pl,hz⟩:=I.list hq
 obtain⟨j,h1,h2,h3,h4,h5⟩:=qQw he
 obtain⟨w,ew,rw'⟩:=r.get h2
 have hl:=r.length
 have hn:=jYk
 have fin:EP X pins σ Q w s:=⟨z,H,I,rw',q⟩
 by_cases h0:0<=i
 ·have hj:i.toNat=j:=by
   rw[seqIndex_of h0 h5] at h1
   exact lJ4 h1
  exact item_listR pl.isList h0 (by omega) (by rw[hj];simpa using ew) fin hs
 ·have hj:(i+(its.toArray.size:Int)).toNat=j:=by
   rw[seqIndex_neg (by omega) h4] at h1
   rw[lJw,<-hl]
   exact lJ4 h1
  exact subscriptTail_builtinR (x:=w) pl.isList.typeIs slot_list_getitem.lookup
   (wpAny_getItem_list_neg (Q:=fun r s'=>r=w/\EP X pins σ Q r s') pl.isList (by omega) (by rw[lJw]<;>omega) (by omega) (by rw[hj];simpa using ew) ⟨rfl,fin⟩) hs
theorem ix_tup:IxR X (rIxT X.K):=by
 intro value slice pins s σ H x y v u Q I rx ry h hs
 obtain⟨p,xs,i,z,rfl,rfl,hq,he,q⟩:=h
 cases rx
 obtain⟨t,rfl⟩:=ry
 obtain⟨its,r,pl,hz⟩:=I.tuple hq
 obtain⟨j,h1,h2,h3,h4,h5⟩:=qQw he
 obtain⟨w,ew,rw'⟩:=r.get h2
 have hl:=r.length
 have hn:=jYk
 have fin:EP X pins σ Q w s:=⟨z,H,I,rw',q⟩
 exact subscriptTail_builtinR (x:=w) pl.typeIs slot_tuple_getitem.lookup
  (getItem_tuple (j:=j) (Q:=fun r s'=>r=w/\EP X pins σ Q r s') pl (by omega) (by omega) (by rw[lJw,<-hl];exact h1) (by simpa using ew) ⟨rfl,fin⟩) hs
def rIx (K:PySem.W.Frag):R2:=fun x y H Q=>rIxL K x y H Q\/rIxT K x y H Q\/rIxS x y H Q
theorem kY8 (its:List Value) (n j:Nat) (u:Value):Obj.mapSeq (·.setIfInBounds j u) {cls:= .type "list",data:= .seq its.toArray n}={cls:= .type "list",data:= .seq (its.set j u).toArray n}:=by
 simp[Obj.mapSeq]
theorem Inv.lst {pins:List (Addr×Obj)} {σ:St} {H:Hp} {s:Shared} {p:Addr} {xs:List V} (I:Inv X pins σ H s) (h:H p=some (.lst xs)):
  ∃(its:List Value) (n:Nat),Vals xs its/\s.heap.get? p=some {cls:= .type "list",data:= .seq its.toArray n}/\xs.length<=sizeLine:=by
 obtain⟨z,its,n,r,e⟩:=I.hok p _ h
 exact⟨its,n,r,e,z⟩
theorem Inv.lstUpd {pins:List (Addr×Obj)} {σ:St} {H:Hp} {s:Shared} {p:Addr} {xs ys:List V} {its its':List Value} {n n':Nat} {f:Obj->Obj} (I:Inv X pins σ H s) (h:H p=some (.lst xs))
  (ho:s.heap.get? p=some {cls:= .type "list",data:= .seq its.toArray n}) (hf:f {cls:= .type "list",data:= .seq its.toArray n}={cls:= .type "list",data:= .seq its'.toArray n'}) (r:Vals ys its') (hz:ys.length<=sizeLine) (t:Nat):
  Inv X pins σ (upd H p (.lst ys)) {s with heap:=s.heap.update p f,toks:=t}:=by
 have e:(s.heap.update p f).get? p=some {cls:= .type "list",data:= .seq its'.toArray n'}:=by
  rw[lQn f ho (by rw[hf]<;>rfl),hf]
 refine I.write (x:=p) (e:=p) (by rw[h];trivial) (.inl rfl) (fun b u hb q=>(lV9 _ _ (Ne.symm hb)).trans q) ⟨_,e⟩ ?_
 exact⟨hz,its',n',r,e⟩
def qUv:V->V->V->Hp->(Hp->Prop)->Prop:=fun o i v H Q=>∃p xs k j,o= .ref p/\i= .int k/\H p=some (.lst xs)/\ixN xs.length k=some j/\Q (upd H p (.lst (xs.set j v)))
theorem kKp:PSet X qUv:=by
 intro pins s σ H o i v ov iv u Q I ro ri rv h
 obtain⟨p,xs,k,j,rfl,rfl,hp,hj,q⟩:=h
 cases ro
 obtain⟨t,rfl⟩:=ri
 obtain⟨its,n,r,ho,hz⟩:=I.lst hp
 obtain⟨h1,h2,h3,h4⟩:=qKq hj
 have hl:=r.length
 have hn:=jYk
 have I':Inv X pins σ (upd H p (.lst (xs.set j v))) {s with heap:=s.heap.update p (Obj.mapSeq (·.setIfInBounds j u))}:=
  I.lstUpd hp ho (kY8 its n j u) (r.set rv j) (by rw[lQ9];exact hz) s.toks
 by_cases h0:0<=k
 ·have hk:k.toNat=j:=by
   rw[seqIndex_of h0 h4] at h1
   exact lJ4 h1
  exact PySem.W.ki_setAt ho h0 (by omega) (by rw[lJw,<-hl];exact h4) (by rw[hk];exact⟨_,I',q⟩)
 ·have hk:(k+(its.toArray.size:Int)).toNat=j:=by
   rw[seqIndex_neg (by omega) h3] at h1
   rw[lJw,<-hl]
   exact lJ4 h1
  exact PySem.W.ki_setBack ho (by omega) (by rw[lJw,<-hl];exact h3) (by omega) (by rw[hk];exact⟨_,I',q⟩)
theorem kQo (lo hi:Option Int) (n:Nat):(sliceBounds lo hi none n).1=((HT.sIx n 0 lo:Nat):Int)/\(sliceBounds lo hi none n).2.1=((HT.sIx n n hi:Nat):Int)/\(sliceBounds lo hi none n).2.2=1:=by
 refine⟨?_,?_,rfl⟩
 ·cases lo with
  | none=>simp[sliceBounds,HT.sIx]
  | some i=>
   simp only[sliceBounds,HT.sIx,Option.getD_none,show (1:Int)>0 by decide,lKw]
   by_cases h:i<0
   ·simp only[h,lKw]<;>omega
   ·simp only[h,lJ3]<;>omega
 ·cases hi with
  | none=>simp[sliceBounds,HT.sIx]
  | some i=>
   simp only[sliceBounds,HT.sIx,Option.getD_none,show (1:Int)>0 by decide,lKw]
   by_cases h:i<0
   ·simp only[h,lKw]<;>omega
   ·simp only[h,lJ3]<;>omega
theorem kKo (its:List Value) (lo hi:Option Int):slicePick its.toArray lo hi none=((its.drop (HT.sIx its.length 0 lo)).take (HT.sIx its.length its.length hi-HT.sIx its.length 0 lo)).toArray:=by
 obtain⟨h1,h2,h3⟩:=kQo lo hi its.toArray.size
 unfold slicePick
 rw[h1,h2,h3]
 simp only[sliceRange_one,pick_run,lJw]<;>rfl
def rSlL (K:PySem.W.Frag):V->Option Int->Option Int->Hp->VK->Prop:=fun x lo hi H Q=>∃a xs,x= .ref a/\SqL K H a xs/\∀p,H p=none->Q (.ref p) (upd H p (.lst (cutV xs lo hi)))
theorem qYm:SlR X (rSlL X.K):=by
 intro pins s σ H x v vl vu lo hi sl Q I rx hs pl pu h
 obtain⟨a,xs,rfl,hx,q⟩:=h
 cases rx
 obtain⟨its,r,ht,hz⟩:=I.list hx
 have hlen:=r.length
 refine⟨"list",_,slot_list_getitem.lookup,ht.isList.typeIs,?_⟩
 refine wpAny_getItem_list_slice ht.isList hs pl pu .none (by simp) ?_ (by rw[lJw]<;>omega)
 rw[kKo,<-hlen]
 refine⟨.ref s.heap.objs.size,_,I.laid (t':=s.toks) (o:= .lst (cutV xs lo hi)) (fun b ob q=>lJk _ q) (lJh _) ?_,rfl,q _ (I.hok.fresh (lJh _))⟩
 exact⟨lKf (kJh xs lo hi) hz,_,0,(r.drop (HT.sIx xs.length 0 lo)).take (HT.sIx xs.length xs.length hi-HT.sIx xs.length 0 lo),lJu _ rfl⟩
def kJ1:V->Bool
 | .non=>true
 | .bl _=>true
 | .int _=>true
 | .str _=>true
 | _=>false
noncomputable def eqV:V->V->Bool
 | .non,.non=>true
 | .bl a,.bl b=>a == b
 | .bl a,.int b=>(if a then 1 else 0) == b
 | .int a,.bl b=>a == (if b then 1 else 0)
 | .int a,.int b=>a == b
 | .str a,.str b=>a == b
 | _,_=>false
theorem eqAt_V {A:Around} {s:Shared} {y x:V} {u v:Value} (ry:RelV y u) (rx:RelV x v) (fy:kJ1 y=true) (fx:kJ1 x=true):SeqAt.EqAt A s u v (eqV y x):=by
 cases y with
 | non=>
  cases ry
  cases x with
  | non=>cases rx;exact SeqAt.EqAt.same _
  | bl b=>cases rx;exact SeqAt.EqAt.none_bool b
  | int b=>obtain⟨t,rfl⟩:=rx;exact SeqAt.EqAt.none_int b t
  | str b=>obtain⟨t,rfl⟩:=rx;exact SeqAt.EqAt.none_str b t
  | _=>exact absurd (show false=true from fx) lJm
 | bl a=>
  cases ry
  cases x with
  | non=>cases rx;exact SeqAt.EqAt.bool_none a
  | bl b=>cases rx;exact SeqAt.EqAt.bool_bool a b
  | int b=>obtain⟨t,rfl⟩:=rx;exact SeqAt.EqAt.bool_int a b t
  | str b=>obtain⟨t,rfl⟩:=rx;exact SeqAt.EqAt.bool_str a b t
  | _=>exact absurd (show false=true from fx) lJm
 | int a=>
  obtain⟨t',rfl⟩:=ry
  cases x with
  | non=>cases rx;exact SeqAt.EqAt.int_none a t'
  | bl b=>cases rx;exact SeqAt.EqAt.int_bool a t' b
  | int b=>obtain⟨t,rfl⟩:=rx;exact SeqAt.EqAt.int_int a t' b t
  | str b=>obtain⟨t,rfl⟩:=rx;exact SeqAt.EqAt.int_str a t' b t
  | _=>exact absurd (show false=true from fx) lJm
 | str a=>
  obtain⟨t',rfl⟩:=ry
  cases x with
  | non=>cases rx;exact SeqAt.EqAt.str_none a t'
  | bl b=>cases rx;exact SeqAt.EqAt.str_bool a t' b
  | int b=>obtain⟨t,rfl⟩:=rx;exact SeqAt.EqAt.str_int a t' b t
  | str b=>obtain⟨t,rfl⟩:=rx;exact SeqAt.EqAt.str_str a t' b t
  | _=>exact absurd (show false=true from fx) lJm
 | _=>exact absurd (show false=true from fy) lJm
def eqU (x:V) (u:Value):Bool:=match u with
 | .none=>eqV .non x
 | .bool b=>eqV (.bl b) x
 | .int i _=>eqV (.int i) x
 | .str z _=>eqV (.str z) x
 | _=>false
theorem kYd {x y:V} {u:Value} (r:RelV y u) (f:kJ1 y=true):eqU x u=eqV y x:=by
 cases y with
 | non=>cases r;rfl
 | bl b=>cases r;rfl
 | int i=>obtain⟨t,rfl⟩:=r;rfl
 | str z=>obtain⟨t,rfl⟩:=r;rfl
 | _=>exact absurd (show false=true from f) lJm
theorem kJk {x:V}:∀ {xs:List V} {us:List Value},Vals xs us->xs.all kJ1=true->us.any (eqU x)=xs.any fun y=>eqV y x
 | _,_,.nil,_=>rfl
 | y::xs,u::us,.cons r t,f=>by
  rw[lQd,lJ6] at f
  rw[lK1,lK1,kYd r f.1,kJk t f.2]
theorem jUt {A:Around} {s:Shared} {x:V} {v:Value} (rx:RelV x v) (fx:kJ1 x=true):∀ {xs:List V} {us:List Value},Vals xs us->xs.all kJ1=true->∀u∈us,SeqAt.EqAt A s u v (eqU x u)
 | _,_,.nil,_=>fun u hu=>by cases hu
 | y::xs,u::us,.cons r t,f=>fun u' hu=>by
  rw[lQd,lJ6] at f
  rcases (lJv.mp hu) with rfl | hu
  ·rw[kYd r f.1];exact eqAt_V r rx f.1 fx
  ·exact jUt rx fx t f.2 u' hu
def inV (x:V) (xs:List V):Bool:=xs.any fun y=>eqV y x
def rIn (K:PySem.W.Frag) (neg:Bool):R2:=fun x y H Q=>∃p xs,y= .ref p/\(SqL K H p xs\/SqT K H p xs)/\kJ1 x=true/\xs.all kJ1=true/\Q (.bl (if neg then !inV x xs else inV x xs)) H
theorem qJ1:OpR X (compareOp .In) (rIn X.K false):=by
 intro pins s σ H x y v u Q I rx ry h
 obtain⟨p,xs,rfl,hq,fx,fs,q⟩:=h
 cases ry
 rcases hq with hq | hq
 ·obtain⟨its,r,pl,hz⟩:=I.list hq
  refine SeqAt.in_listAt (eqU x) pl.isList (fun w hw=>jUt rx fx r fs w (by simpa using hw)) ⟨.bl _,H,I,rfl,?_⟩
  rw[show its.toArray.any (eqU x)=its.any (eqU x) by simp,kJk r fs]
  exact q
 ·obtain⟨its,r,pl,hz⟩:=I.tuple hq
  refine SeqAt.in_tupleAt (eqU x) pl (fun w hw=>jUt rx fx r fs w (by simpa using hw)) ⟨.bl _,H,I,rfl,?_⟩
  rw[show its.toArray.any (eqU x)=its.any (eqU x) by simp,kJk r fs]
  exact q
theorem kQz:OpR X (compareOp .NotIn) (rIn X.K true):=by
 intro pins s σ H x y v u Q I rx ry h
 obtain⟨p,xs,rfl,hq,fx,fs,q⟩:=h
 cases ry
 rcases hq with hq | hq
 ·obtain⟨its,r,pl,hz⟩:=I.list hq
  refine SeqAt.notIn_listAt (eqU x) pl.isList (fun w hw=>jUt rx fx r fs w (by simpa using hw)) ⟨.bl _,H,I,rfl,?_⟩
  rw[show its.toArray.any (eqU x)=its.any (eqU x) by simp,kJk r fs]
  exact q
 ·obtain⟨its,r,pl,hz⟩:=I.tuple hq
  refine SeqAt.notIn_tupleAt (eqU x) pl (fun w hw=>jUt rx fx r fs w (by simpa using hw)) ⟨.bl _,H,I,rfl,?_⟩
  rw[show its.toArray.any (eqU x)=its.any (eqU x) by simp,kJk r fs]
  exact q
theorem kUo:kQl X (.builtin "len") (fun xs H Q=>∃p ys,xs=[.ref p]/\(SqL X.K H p ys\/SqT X.K H p ys)/\Q (.int ys.length) H):=by
 intro pins s σ H xs us Q I r h
 obtain⟨p,ys,rfl,hq,q⟩:=h
 obtain⟨u,rfl,rx⟩:=kUw r
 cases rx
 have hn:=jYk
 rcases hq with hq | hq
 ·obtain⟨its,r',pl,hz⟩:=I.list hq
  have hlen:=r'.length
  exact Calls.call_len_list pl.isList (by simp only[lJw]<;>omega) ⟨.int ys.length,H,I.tok _,⟨s.toks+1,by rw[lJw,hlen]⟩,q⟩
 ·obtain⟨its,r',pl,hz⟩:=I.tuple hq
  have hlen:=r'.length
  exact len_tuple pl (by simp only[lJw]<;>omega) ⟨.int ys.length,H,I.tok _,⟨s.toks+1,by rw[lJw,hlen]⟩,q⟩
theorem kUn:kQl X (.type "list") (fun xs H Q=>∃p ys,xs=[.ref p]/\(SqL X.K H p ys\/SqT X.K H p ys)/\∀l,H l=none->Q (.ref l) (upd H l (.lst ys))):=by
 intro pins s σ H xs us Q I r h
 obtain⟨p,ys,rfl,hq,q⟩:=h
 obtain⟨u,rfl,rx⟩:=kUw r
 cases rx
 have fin:∀(its:List Value),Vals ys its->ys.length<=sizeLine->∀(h':Heap) (c':Nat),(∀b o',s.heap.get? b=some o'->h'.get? b=some o')->
   h'.get? s.heap.objs.size=some {cls:= .type "list",dict:=none,data:= .seq its.toArray c',slots:= #[]}->EP X pins σ Q (.ref s.heap.objs.size) {s with heap:=h'}:=fun its r' hz h' c' kp e=>
  ⟨.ref s.heap.objs.size,_,I.laid (t':=s.toks) kp (lJh _) (show ObjOk X.prog X.w _ h' _ (.lst ys) from⟨hz,its,c',r',e⟩),rfl,q _ (I.hok.fresh (lJh _))⟩
 rcases hq with hq | hq
 ·obtain⟨its,r',pl,hz⟩:=I.list hq
  have hlen:=r'.length
  obtain⟨o,ho,hc,n,hd⟩:=pl.isList
  exact call_list_seq p (.inl rfl) ho hc hd (fun h' c' kp e=>fin its r' hz h' c' kp e) (by simp only[lJw]<;>omega)
 ·obtain⟨its,r',pl,hz⟩:=I.tuple hq
  have hlen:=r'.length
  obtain⟨o,ho,hc,n,hd⟩:=pl
  exact call_list_seq p (.inr rfl) ho hc hd (fun h' c' kp e=>fin its r' hz h' c' kp e) (by simp only[lJw]<;>omega)
theorem kQh:kQl X (.type "tuple") (fun xs H Q=>∃p ys,xs=[.ref p]/\((SqL X.K H p ys/\∀l,H l=none->Q (.ref l) (upd H l (.tup ys)))\/(SqT X.K H p ys/\Q (.ref p) H))):=by
 intro pins s σ H xs us Q I r h
 obtain⟨p,ys,rfl,h⟩:=h
 obtain⟨u,rfl,rx⟩:=kUw r
 cases rx
 rcases h with ⟨hq,q⟩ | ⟨hq,q⟩
 ·obtain⟨its,r',pl,hz⟩:=I.list hq
  have hlen:=r'.length
  refine call_tuple_list pl.isList (fun h' kp=> ?_) (by simp only[lJw]<;>omega)
  have I1:Inv X pins σ H {s with heap:=h'}:=I.kept (t':=s.toks) kp
  have I2:Inv X pins σ (upd H h'.objs.size (.tup ys)) {s with heap:=h'.push {cls:= .type "tuple",data:= .seq its.toArray} }:=
   I1.laid (t':=s.toks) (fun b o e=>lJk _ e) (lJh _) (show ObjOk X.prog X.w _ _ _ (.tup ys) from⟨hz,its,r',TupD.new _ _⟩)
  exact⟨.ref h'.objs.size,_,I2,rfl,q _ (I1.hok.fresh (lJh _))⟩
 ·obtain⟨its,r',pl,hz⟩:=I.tuple hq
  exact call_tuple_same pl ⟨.ref p,H,I,rfl,q⟩
def tyV (K:PySem.W.Frag) (T:String) (x:V) (H:Hp):Prop:=match x with
 | .str _=>T="str"
 | .int _=>T="int"
 | .ref p=>(T="list"/\∃xs,SqL K H p xs)\/(T="tuple"/\∃o,K.lookup p=some o/\o.cls= .type "tuple"/\o.dict=none)\/
   (T="dict"/\((∃kvs,H p=some (.dK kvs))\/∃kvs,H p=some (.dT kvs)))\/(T="set"/\∃S n,H p=some (.set S n))
 | _=>False
theorem tyV_is {pins:List (Addr×Obj)} {σ:St} {H:Hp} {s:Shared} {T:String} {x:V} {v:Value} (I:Inv X pins σ H s) (r:RelV x v) (ty:tyV X.K T x H):
  s.TypeIs v T/\∀a,v= .ref a->∃ob,s.heap.get? a=some ob/\ob.dict=none:=by
 cases x with
 | str z=>
  obtain⟨t,rfl⟩:=r
  cases (show T="str" from ty)
  exact⟨typeIs_str s z t,fun _ e=>nomatch e⟩
 | int i=>
  obtain⟨t,rfl⟩:=r
  cases (show T="int" from ty)
  exact⟨typeIs_int s i t,fun _ e=>nomatch e⟩
 | ref p=>
  cases r
  rcases ty with ⟨rfl,xs,hq⟩ | ⟨rfl,o,hk,hc,hd⟩ | ⟨rfl,hk⟩ | ⟨rfl,S,n,hk⟩
  ·obtain⟨its,_,pl,_⟩:=I.list hq
   refine⟨pl.isList.typeIs,fun a e=> ?_⟩
   cases e
   obtain⟨o,n,e,c,hd,_⟩:=pl
   exact⟨o,e,hd⟩
  ·refine⟨⟨o,I.kIn p o hk,hc⟩,fun a e=> ?_⟩
   cases e
   exact⟨o,I.kIn _ o hk,hd⟩
  ·have z:∃o,s.heap.get? p=some o/\o.ExactDict:=by
    rcases hk with ⟨kvs,hk⟩ | ⟨kvs,hk⟩
    ·obtain⟨_,_,_,_,o,_,_,e,ex,_⟩:=I.hok p _ hk
     exact⟨o,e,ex⟩
    ·obtain⟨_,_,_,_,o,_,_,e,ex,_⟩:=I.hok p _ hk
     exact⟨o,e,ex⟩
   obtain⟨o,e,ex⟩:=z
   refine⟨⟨o,e,ex.1⟩,fun a e2=> ?_⟩
   cases e2
   exact⟨o,e,ex.2.1⟩
  ·obtain⟨o,_,_,_,e,ex,_⟩:=I.hok p _ hk
   refine⟨⟨o,e,ex.1⟩,fun a e2=> ?_⟩
   cases e2
   exact⟨o,e,ex.2.1⟩
 | _=>exact False.elim ty
def tBM (K:PySem.W.Frag) (T:String) (r:V->List V->Hp->VK->Prop) (to:TE) (t:TA):TE:=fun σ H Q=>to σ H fun x H1=>tyV K T x H1/\t σ H1 fun xs H2=>r x xs H2 Q
variable {o e:Expr} {es:List Expr} {to:TE} {t:TA} {name:Str} {apos cpos:Pos} {T id:String} {r:V->List V->Hp->VK->Prop}
end
def MtM (X:Cx) (id:String) (r:V->List V->Hp->VK->Prop):Prop:=
 ∀(pins:List (Addr×Obj)) (s:Shared) (σ:St) (H:Hp) (x:V) (xs:List V) (v:Value) (us:List Value) (Q:VK),Inv X pins σ H s->RelV x v->Vals xs us->r x xs H Q->
  wpAny (model X.prog X.w) X.A (call (.builtin id) (v::us)) (EP X pins σ Q) X.xe s
theorem Vals.one {x:V} {us:List Value} (h:Vals [x] us):∃u,us=[u]/\RelV x u:=by
 cases h with | cons r t=>(cases t;exact⟨_,rfl,r⟩)
theorem Vals.two {x y:V} {us:List Value} (h:Vals [x,y] us):∃u v,us=[u,v]/\RelV x u/\RelV y v:=by
 cases h with | cons r t=>(cases t with | cons q t=>(cases t;exact⟨_,_,rfl,r,q⟩))
theorem Vals.reverse {xs:List V} {us:List Value} (h:Vals xs us):Vals xs.reverse us.reverse:=by
 induction h with
 | nil=>exact .nil
 | cons r t ih=>rw[lXx,lXx];exact Vals.append ih (.cons r .nil)
theorem Vals.rep {xs:List V} {us:List Value} (h:Vals xs us):∀k:Nat,Vals (List.replicate k xs).flatten (List.replicate k us).flatten
 | 0=> .nil
 | k+1=>by
  rw[lQo,lQo,lVa,lVa]
  exact Vals.append h (Vals.rep h k)
theorem kUe (its:List Value):∀(k:Nat) (acc:List Value),
  List.foldl (fun x1 x2=>x1++x2) acc.toArray (List.replicate k its.toArray)=(acc++(List.replicate k its).flatten).toArray
 | 0,acc=>by simp
 | k+1,acc=>by
  have e:acc.toArray++its.toArray=(acc++its).toArray:=by simp
  have e2:(acc++its)++(List.replicate k its).flatten=acc++(List.replicate (k+1) its).flatten:=by
   rw[lQo,lVa,lXy]
  rw[<-e2,<-kUe its k (acc++its),<-e,lQo,lXa]
section
variable {X:Cx} {pins:List (Addr×Obj)} {σ:St} {H:Hp} {s:Shared} {l b:Addr} {xs ys zs:List V}
theorem Inv.lset {its its':List Value} {n:Nat} {f:Array Value->Array Value} {t':Nat} (I:Inv X pins σ H s) (hH:H l=some (.lst xs))
  (e:s.heap.get? l=some {cls:= .type "list",data:= .seq its.toArray n}) (hf:f its.toArray=its'.toArray) (hv:Vals ys its') (hz:ys.length<=sizeLine):
  Inv X pins σ (upd H l (.lst ys)) {s with heap:=s.heap.update l (Obj.mapSeq f),toks:=t'}:=by
 have q:=PySem.IsL.update e f
 rw[hf] at q
 refine I.write (x:=l) (e:=l) (by rw[hH];exact trivial) (.inl rfl) (fun b' u hb hu=>(lV9 s.heap (Obj.mapSeq f) (Ne.symm hb)).trans hu) ⟨_,q⟩ ?_
 exact⟨hz,its',_,hv,q⟩
theorem Inv.lnew {its:List Value} {t':Nat} (I:Inv X pins σ H s) (hv:Vals ys its) (hz:ys.length<=sizeLine):
  Inv X pins σ (upd H s.heap.objs.size (.lst ys)) {s with heap:=s.heap.push {cls:= .type "list",data:= .seq its.toArray},toks:=t'}:=
 I.laid (fun _ _ q=>lJk _ q) (lJh _) ⟨hz,its,0,hv,lJu _ rfl⟩
theorem Inv.fresh (I:Inv X pins σ H s):H s.heap.objs.size=none:=I.hok.fresh (lJh _)
theorem Inv.lstM (I:Inv X pins σ H s) (hH:H l=some (.lst xs)):xs.length<=sizeLine/\∃(its:List Value) (n:Nat),Vals xs its/\xs.length=its.length/\s.heap.get? l=some {cls:= .type "list",data:= .seq its.toArray n}:=by
 obtain⟨z,its,n,r,e⟩:=I.hok l _ hH
 exact⟨z,its,n,r,r.length,e⟩
theorem kX0 {n:Nat} (h:n<=sizeLine):Builtin.List.listTooLong n=false:=by
 unfold Builtin.List.listTooLong
 exact lJo (by omega)
end
section
variable {X:Cx}
def jKv:V->List V->Hp->VK->Prop:=fun x vs H Q=>∃l xs y,x= .ref l/\vs=[y]/\H l=some (.lst xs)/\xs.length<sizeLine/\Q .non (upd H l (.lst (xs++[y])))
theorem qKe:MtM X "list.append" jKv:=by
 intro pins s σ H x vs v us Q I rx rv h
 obtain⟨l,xs,y,rfl,rfl,hH,hz,q⟩:=h
 cases rx
 obtain⟨u,rfl,ru⟩:=rv.one
 obtain⟨z,its,n,r,hl,e⟩:=I.lstM hH
 refine lV1 F.slot_list_append ⟨_,e,rfl⟩ F.entry_list_append (F.args_list_append_2 _ _) (PySem.list_append l its.toArray n u (by rw[lJw];omega)) ⟨e,?_⟩
 refine⟨.non,_,I.lset (its':=its++[u]) hH e (by simp) (r.append (.cons ru .nil)) ?_,rfl,q⟩
 rw[lKd,lXz]
 omega
noncomputable def rCat:R2:=fun x y H Q=>∃l b xs zs,x= .ref l/\y= .ref b/\H l=some (.lst xs)/\H b=some (.lst zs)/\xs.length+zs.length<=sizeLine/\∀p,H p=none->Q (.ref p) (upd H p (.lst (xs++zs)))
theorem op_cat:OpR X (binaryOp .Add) rCat:=by
 intro pins s σ H x y v u Q I rx ry h
 obtain⟨l,b,xs,zs,rfl,rfl,hH,hB,hz,q⟩:=h
 cases rx
 cases ry
 obtain⟨z,its,n,r,hl,e⟩:=I.lstM hH
 obtain⟨z2,its2,n2,r2,hl2,e2⟩:=I.lstM hB
 refine PySem.P.add_list e e2 ?_ (by rw[lJw,lJw];omega)
 have ea:its.toArray++its2.toArray=(its++its2).toArray:=by simp
 rw[ea]
 exact⟨.ref _,_,I.lnew (t':=s.toks) (r.append r2) (by rw[lKd];omega),rfl,q _ I.fresh⟩
noncomputable def rRep:R2:=fun x y H Q=>∃l k xs,x= .ref l/\y= .int k/\H l=some (.lst xs)/\ -(2^63)<=k/\k<2^63/\xs.length*k.toNat<=sizeLine/\
 ∀p,H p=none->Q (.ref p) (upd H p (.lst (List.replicate k.toNat xs).flatten))
theorem qZd {α:Type} (xs:List α) (k:Nat):(List.replicate k xs).flatten.length=k*xs.length:=by
 induction k with
 | zero=>simp
 | succ k ih=>rw[lQo,lVa,lKd,ih,lQp,Nat.add_comm]
theorem op_rep:OpR X (binaryOp .Mult) rRep:=by
 intro pins s σ H x y v u Q I rx ry h
 obtain⟨l,k,xs,rfl,rfl,hH,h1,h2,hz,q⟩:=h
 cases rx
 obtain⟨t,rfl⟩:=ry
 obtain⟨z,its,n,r,hl,e⟩:=I.lstM hH
 have hlen:its.toArray.size*k.toNat<=sizeLine:=by rw[lJw,<-hl];exact hz
 have hcap:¬ its.toArray.size*k.toNat>(2^63-1) / 8:=by
  have:(sizeLine:Nat)<=(2^63-1) / 8:=by decide
  omega
 have hfit:¬ (!Builtin.List.listFitsIndex k)=true:=by
  rw[fitsIndex_both h1 h2]
  exact lJm
 have hlong:¬ Builtin.List.listTooLong (its.toArray.size*k.toNat)=true:=by
  rw[kX0 hlen]
  exact lJm
 have hnew:List.foldl (fun x1 x2=>x1++x2) #[] (List.replicate (if its.toArray.isEmpty=true then 0 else k.toNat) its.toArray)=(List.replicate k.toNat its).flatten.toArray:=by
  have f0:∀m:Nat,List.foldl (fun x1 x2=>x1++x2) #[] (List.replicate m its.toArray)=(List.replicate m its).flatten.toArray:=fun m=>by
   have:=kUe its m []
   rw[List.nil_append] at this
   exact this
  rw[f0]
  cases its with
  | nil=>simp
  | cons a r'=>rw[lJb (by simp)]
 refine wpAny_binaryOp_repeat_ref (T:="list") (U:="int") (by decide) ⟨_,e,rfl⟩ (fun s'=>typeIs_int s' k t) noFill_list_mul F.fills_int_mul F.slot_int_rmul repeat_list F.slot_int_index.lookup
  (lV1 F.slot_int_rmul (typeIs_int s k t) F.entry_int_rmul (F.args_int_rmul_2 _ _) (int___rmul___int_list k t l its.toArray n)
   ⟨e,rfl,⟨_,e,rfl⟩,lV1 F.slot_list_mul ⟨_,e,rfl⟩ F.entry_list_mul (F.args_list_mul_2 _ _) (AutoListH.list___mul___list_int_3 l its.toArray n k t hfit hcap hlong) ⟨e,?_⟩⟩)
 rw[hnew]
 exact⟨.ref _,_,I.lnew (t':=s.toks) (r.rep k.toNat) (by rw[qZd,lXb];exact hz),rfl,q _ I.fresh⟩
end
section
variable {prog:Program} {w:World} {A:Around} {E:Value->Shared->Prop} {s:Shared}
end
section
variable {X:Cx}
end
section
variable {κ:Type} [DecidableEq κ]
def valV (kvs:List (κ×V)) (k:κ):Option V:=(kvs.find? fun kv=>decide (kv.1=k)).map (·.2)
def putK (kvs:List (κ×V)) (k:κ) (v:V):List (κ×V):=
 if (kvs.any fun kv=>decide (kv.1=k))=true then kvs.map (fun kv=>if kv.1=k then (kv.1,v) else kv) else kvs++[(k,v)]
theorem jYt {p:κ×V} {r:List (κ×V)} {k:κ} (e:p.1=k):valV (p::r) k=some p.2:=by simp[valV,lQq,e]
theorem jYu {p:κ×V} {r:List (κ×V)} {k:κ} (e:¬ p.1=k):valV (p::r) k=valV r k:=by simp[valV,lQq,e]
theorem kXe (k:κ):∀kvs:List (κ×V),(kvs.any fun kv=>decide (kv.1=k))=(valV kvs k).isSome
 | []=>rfl
 | p::r=>by
  rw[lK1]
  by_cases e:p.1=k
  ·simp only[jYt e,lJn e,Bool.true_or,Option.isSome_some]
  ·rw[jYu e,lJo e,Bool.false_or];exact kXe k r
theorem jZ3 (kvs:List (κ×V)) (k:κ) (v:V):(putK kvs k v).length<=kvs.length+1:=by
 unfold putK
 split
 ·rw[lJe];omega
 ·rw[lKd,lJ5,lK9];omega
theorem RelO.isSome_eq {o:Option V} {u:Option Value} (r:RelO o u):o.isSome=u.isSome:=by
 cases o with
 | none=>cases u with
  | none=>rfl
  | some _=>exact (show False from r).elim
 | some _=>cases u with
  | none=>exact (show False from r).elim
  | some _=>rfl
theorem KV.val {kvs:List (κ×V)} {vs:List (κ×Value)} (r:KV kvs vs) (k:κ):RelO (valV kvs k) (valueAt vs k):=by
 unfold KV at r
 induction r with
 | nil=>exact True.intro
 | @cons p q ps qs h t ih=>
  obtain⟨h1,h2⟩:=h
  by_cases e:p.1=k
  ·have e':q.1=k:=h1.symm.trans e
   have b:valueAt (q::qs) k=some q.2:=by simp[valueAt,lQq,e']
   rw[jYt e,b];exact h2
  ·have e':¬ q.1=k:=fun z=>e (h1.trans z)
   have b:valueAt (q::qs) k=valueAt qs k:=by simp[valueAt,lQq,e']
   rw[jYu e,b];exact ih
theorem KV.any {kvs:List (κ×V)} {vs:List (κ×Value)} (r:KV kvs vs) (k:κ):(kvs.any fun kv=>decide (kv.1=k))=vs.any fun kv=>decide (kv.1=k):=by
 unfold KV at r
 induction r with
 | nil=>rfl
 | cons h t ih=>rw[lK1,lK1,ih,h.1]
theorem KV.repl {kvs:List (κ×V)} {vs:List (κ×Value)} (r:KV kvs vs) (k:κ) {y:V} {u:Value} (ry:RelV y u):
  KV (kvs.map fun kv=>if kv.1=k then (kv.1,y) else kv) (vs.map fun kv=>if kv.1=k then (kv.1,u) else kv):=by
 unfold KV at r ⊢
 induction r with
 | nil=>exact .nil
 | @cons p q ps qs h t ih=>
  rw[lJr,lJr]
  refine .cons ?_ ih
  obtain⟨h1,h2⟩:=h
  by_cases e:p.1=k
  ·rw[lJc e,lJc (h1.symm.trans e)];exact⟨h1,ry⟩
  ·rw[lJb e,lJb (fun z=>e (h1.trans z))];exact⟨h1,h2⟩
theorem KV.put {kvs:List (κ×V)} {vs:List (κ×Value)} (r:KV kvs vs) (k:κ) {y:V} {u:Value} (ry:RelV y u):KV (putK kvs k y) (stored vs k u):=by
 unfold putK stored
 rw[r.any k]
 by_cases e:(vs.any fun kv=>decide (kv.1=k))=true
 ·rw[lJc e,lJc e];exact r.repl k ry
 ·rw[lJb e,lJb e];exact Paired.snoc r ⟨rfl,ry⟩
theorem KV.length {kvs:List (κ×V)} {vs:List (κ×Value)} (r:KV kvs vs):kvs.length=vs.length:=lV5 r
end
theorem kVs {P:Program} {w:World} {k:Key} {u:Value} (r:RelV (kV k) u):(jQd P w).is k u=true:=by
 cases k with
 | inl i=>obtain⟨t,e⟩:=(show ∃t,u=Value.int i t from r);subst e;exact kVn P w i t
 | inr x=>obtain⟨t,e⟩:=(show ∃t,u=Value.str x t from r);subst e;exact kVm P w x t
abbrev KT (H:Hp):List (TKey×V)->List (TKey×Addr×Value)->Prop:=Paired fun p q=>p.1=q.1/\TKeyAt H p.1 q.2.1/\RelV p.2 q.2.2
theorem KT.val {H:Hp} {kvs:List (TKey×V)} {xs:List (TKey×Addr×Value)} (r:KT H kvs xs) (k:TKey):RelO (valV kvs k) ((atKey xs k).map (·.2)):=by
 induction r with
 | nil=>exact True.intro
 | @cons p q ps qs h t ih=>
  obtain⟨h1,_,h2⟩:=h
  by_cases e:p.1=k
  ·have e':q.1=k:=h1.symm.trans e
   have b:atKey (q::qs) k=some q.2:=by simp[atKey,lQq,e']
   rw[jYt e,b];exact h2
  ·have e':¬ q.1=k:=fun z=>e (h1.trans z)
   have b:atKey (q::qs) k=atKey qs k:=by simp[atKey,lQq,e']
   rw[jYu e,b];exact ih
theorem KT.repl {H:Hp} {kvs:List (TKey×V)} {xs:List (TKey×Addr×Value)} (r:KT H kvs xs) (k:TKey) {y:V} {u:Value} (ry:RelV y u):
  KT H (kvs.map fun kv=>if kv.1=k then (kv.1,y) else kv) (xs.map (putAt k u)):=by
 induction r with
 | nil=>exact .nil
 | @cons p q ps qs h t ih=>
  rw[lJr,lJr]
  refine .cons ?_ ih
  obtain⟨h1,h2,h3⟩:=h
  unfold putAt
  by_cases e:p.1=k
  ·rw[lJc e,lJc (h1.symm.trans e)];exact⟨h1,h2,ry⟩
  ·rw[lJb e,lJb (fun z=>e (h1.trans z))];exact⟨h1,h2,h3⟩
theorem KT.put {H:Hp} {kvs:List (TKey×V)} {xs:List (TKey×Addr×Value)} (r:KT H kvs xs) (k:TKey) {b:Addr} {y:V} {u:Value} (hb:TKeyAt H k b) (ry:RelV y u):
  KT H (putK kvs k y) (storedH xs k b u):=by
 have e:(kvs.any fun kv=>decide (kv.1=k))=(atKey xs k).isSome:=by
  rw[kXe,(r.val k).isSome_eq,Option.isSome_map]
 unfold putK storedH
 rw[e]
 by_cases q:(atKey xs k).isSome=true
 ·rw[lJc q,lJc q];exact r.repl k ry
 ·rw[lJb q,lJb q];exact Paired.snoc r ⟨rfl,hb,ry⟩
theorem KT.keeps {H H':Hp} {kvs:List (TKey×V)} {xs:List (TKey×Addr×Value)} (r:KT H kvs xs) (ht:∀b ys,H b=some (.tup ys)->H' b=some (.tup ys)):KT H' kvs xs:=
 Paired.mapP r fun _ _ z=>⟨z.1,z.2.1.mono ht,z.2.2⟩
section
variable {P:Program} {w:World} {H:Hp} {h:Heap} {a:Addr}
theorem rd_of {u:HO} (ok:HOk P w H h) (e:Rd H a u):ObjOk P w H h a u:=e.ok ok
theorem qQe {kvs:List (Key×V)} (ok:HOk P w H h) (e:Rd H a (.dK kvs)):kvs.length<=sizeLine/\(a == sysModules)=false/\∃vs,KV kvs vs/\h.DictOf (jQd P w) a vs:=
 show ObjOk P w H h a (.dK kvs) from rd_of ok e
theorem dk_of {kvs:List (Key×V)} (ok:HOk P w H h) (e:H a=some (.dK kvs)):kvs.length<=sizeLine/\(a == sysModules)=false/\∃vs,KV kvs vs/\h.DictOf (jQd P w) a vs:=qQe ok (.inl e)
theorem kX6 {K:Type} [DecidableEq K] {c:Nat} {T:KeyV P w K c} {R:K->V->Prop} (hR:∀k x u,R k x->RelV x u->T.is h k u):∀ {ks:List K} {xs:List V} {us:List Value},Paired R ks xs->Vals xs us->ItemsV T h ks us
 | _,_,_,.nil,.nil=> .nil
 | _,_,_,.cons r t,.cons q z=> .cons (hR _ _ _ r q) (kX6 hR t z)
theorem kUy {K:Type} [DecidableEq K] {c:Nat} {T:KeyV P w K c} {R:K->V->Prop} {ks:List K} {xs:List V} {p:Addr} (ok:HOk P w H h) (hR:∀k x u,R k x->RelV x u->T.is h k u) (e:H p=some (.tup xs)) (r:Paired R ks xs):kJp T h ks (.ref p):=by
 obtain⟨_,its,q,o,h1,h2,n,h3,_⟩:=(show ObjOk P w H h p (.tup xs) from ok p _ e)
 exact⟨p,o,its.toArray,n,rfl,h1,h2,h3,by simpa using kX6 hR r q⟩
theorem r1_of (ok:HOk P w H h) (k:K1) (x:V) (u:Value) (r:Rk1 H k x) (q:RelV x u):(vk1 P w).is h k u:=by
 cases k with
 | inl k=>cases (show x=kV k from r);exact kVs (P:=P) (w:=w) q
 | inr ks=>
  obtain⟨p,vs,rfl,e,t⟩:=(show ∃p vs,x= .ref p/\H p=some (.tup vs)/\Paired (fun k v=>v=kV k) ks vs from r)
  cases (show u=Value.ref p from q)
  exact kUy (T:=jYo P w) ok (fun k x u r q=>by subst r;exact kVs (P:=P) (w:=w) q) e t
theorem r2_of (ok:HOk P w H h) (k:K2) (x:V) (u:Value) (r:Rk2 H k x) (q:RelV x u):(vk2 P w).is h k u:=by
 cases k with
 | inl k=>cases (show x=kV k from r);exact kVs (P:=P) (w:=w) q
 | inr ks=>
  obtain⟨p,vs,rfl,e,t⟩:=(show ∃p vs,x= .ref p/\H p=some (.tup vs)/\Paired (Rk1 H) ks vs from r)
  cases (show u=Value.ref p from q)
  exact kUy (T:=vk1 P w) ok (r1_of ok) e t
theorem jYl {ks:TKey} (ok:HOk P w H h) (e:TKeyAt H ks a):(jJg P w).is h ks a:=by
 obtain⟨vs,h1,t⟩:=e
 exact kUy (T:=vk2 P w) ok (r2_of ok) h1 t
theorem qQd {kvs:List (TKey×V)} (ok:HOk P w H h) (e:Rd H a (.dT kvs)):kvs.length<=sizeLine/\(a == sysModules)=false/\
  ∃xs,KT H kvs xs/\h.DictOfH (jJg P w) a xs:=by
 obtain⟨z,y,xs,r,o,es,ep,h1,h2,h3,h4,h5⟩:=(show ObjOk P w H h a (.dT kvs) from rd_of ok e)
 refine⟨z,y,xs,r,o,es,ep,h1,h2,h3,h4,fun x hx=> ?_,h5⟩
 have all:∀ {l:List (TKey×V)} {m:List (TKey×Addr×Value)},KT H l m->∀x∈m,(jJg P w).is h x.1 x.2.1:=by
  intro l m q
  induction q with
  | nil=>intro x hx;exact nomatch hx
  | @cons p q ps qs hq t ih=>
   intro x hx
   rcases (lJv.mp hx) with e | hx
   ·subst e
    exact jYl ok (by rw[<-hq.1];exact hq.2.1)
   ·exact ih x hx
 exact all r x hx
theorem dt_of {kvs:List (TKey×V)} (ok:HOk P w H h) (e:H a=some (.dT kvs)):kvs.length<=sizeLine/\(a == sysModules)=false/\
  ∃xs,KT H kvs xs/\h.DictOfH (jJg P w) a xs:=qQd ok (.inl e)
end
def DGet (H:Hp) (a:Addr) (y:V) (r:Option V):Prop:=
 (∃kvs k,Rd H a (.dK kvs)/\y=kV k/\r=valV kvs k)\/∃kvs k b,Rd H a (.dT kvs)/\y= .ref b/\TKeyAt H k b/\r=valV kvs k
def DPut (H:Hp) (a:Addr) (y v:V) (H':Hp):Prop:=
 (∃kvs k,H a=some (.dK kvs)/\y=kV k/\kvs.length<sizeLine/\H'=upd H a (.dK (putK kvs k v)))\/
 ∃kvs k b,H a=some (.dT kvs)/\y= .ref b/\TKeyAt H k b/\kvs.length<sizeLine/\H'=upd H a (.dT (putK kvs k v))
theorem DGet.k {H:Hp} {a:Addr} {kvs:List (Key×V)} {k:Key} (e:H a=some (.dK kvs)):DGet H a (kV k) (valV kvs k):= .inl ⟨kvs,k,.inl e,rfl,rfl⟩
theorem DGet.t {H:Hp} {a b:Addr} {kvs:List (TKey×V)} {k:TKey} (e:H a=some (.dT kvs)) (eb:TKeyAt H k b):DGet H a (.ref b) (valV kvs k):= .inr ⟨kvs,k,b,.inl e,rfl,eb,rfl⟩
theorem DPut.k {H:Hp} {a:Addr} {kvs:List (Key×V)} {k:Key} {v:V} (e:H a=some (.dK kvs)) (hl:kvs.length<sizeLine):DPut H a (kV k) v (upd H a (.dK (putK kvs k v))):= .inl ⟨kvs,k,e,rfl,hl,rfl⟩
theorem DPut.t {H:Hp} {a b:Addr} {kvs:List (TKey×V)} {k:TKey} {v:V} (e:H a=some (.dT kvs)) (eb:TKeyAt H k b) (hl:kvs.length<sizeLine):
  DPut H a (.ref b) v (upd H a (.dT (putK kvs k v))):= .inr ⟨kvs,k,b,e,rfl,eb,hl,rfl⟩
section
variable {X:Cx} {pins:List (Addr×Obj)} {σ:St} {H:Hp} {s:Shared} {a:Addr} {y v:V} {u r:Value} {o:Option V} {A:Around} {E:Value->Shared->Prop}
theorem Inv.big (I:Inv X pins σ H s):sysModules<s.heap.objs.size:=by
 have h:mainGlobals<s.heap.objs.size:=(I.mod.glob.keeps I.bk).lt
 exact Nat.lt_trans (by decide) h
theorem qQf {Q:Value->Shared->Prop} (hu:A.units+20<cLine) (I:Inv X pins σ H s) (g:DGet H a y (some v)) (ry:RelV y u) (h:∀w' s',Inv X pins σ H s'->RelV v w'->Q w' s'):
  wpAny (model X.prog X.w) A (getItem (.ref a) u) Q E s:=by
 rcases g with ⟨kvs,k,e,ey,l⟩ | ⟨kvs,k,b,e,ey,eb,l⟩
 ·subst ey
  obtain⟨z,hd,vs,rel,dd⟩:=qQe I.hok e
  obtain⟨w',hw,rw'⟩:=RelO.some_of (v:=v) (o:=valueAt vs k) (by rw[l];exact rel.val k)
  exact wpAny_getItem_of (kVs ry) dd.mapOf hw (h w' _ (I.tok _) rw')
 ·subst ey
  cases (show u=Value.ref b from ry)
  obtain⟨z,hd,xs,rel,dd⟩:=qQd I.hok e
  obtain⟨w',hw,rw'⟩:=RelO.some_of (v:=v) (o:=(atKey xs k).map (·.2)) (by rw[l];exact rel.val k)
  obtain⟨p,hp,hp2⟩:=lK2.mp hw
  refine wpAny_getItem_heap (jKy hu) (jYl I.hok eb) dd hp ?_
  rw[hp2]
  exact h w' _ (I.tok _) rw'
theorem d_in {Q:Value->Shared->Prop} (hu:A.units+20<cLine) (I:Inv X pins σ H s) (g:DGet H a y o) (ry:RelV y u) (h:∀s',Inv X pins σ H s'->Q (.bool o.isSome) s'):
  wpAny (model X.prog X.w) A (compareOp .In u (.ref a)) Q E s:=by
 rcases g with ⟨kvs,k,e,ey,l⟩ | ⟨kvs,k,b,e,ey,eb,l⟩
 ·subst ey
  obtain⟨z,hd,vs,rel,dd⟩:=qQe I.hok e
  refine wpAny_in_of (kVs ry) hd dd.mapOf ?_
  rw[<-(rel.val k).isSome_eq,<-l]
  exact h _ (I.tok _)
 ·subst ey
  cases (show u=Value.ref b from ry)
  obtain⟨z,hd,xs,rel,dd⟩:=qQd I.hok e
  refine wpAny_in_heap (jKy hu) (jYl I.hok eb) hd dd ?_
  have q:=(rel.val k).isSome_eq
  rw[Option.isSome_map] at q
  rw[<-q,<-l]
  exact h _ (I.tok _)
theorem qZ3 {Q:Value->Shared->Prop} (hu:A.units+20<cLine) (I:Inv X pins σ H s) (g:DGet H a y o) (ry:RelV y u) (h:∀s',Inv X pins σ H s'->Q (.bool (!o.isSome)) s'):
  wpAny (model X.prog X.w) A (compareOp .NotIn u (.ref a)) Q E s:=by
 rcases g with ⟨kvs,k,e,ey,l⟩ | ⟨kvs,k,b,e,ey,eb,l⟩
 ·subst ey
  obtain⟨z,hd,vs,rel,dd⟩:=qQe I.hok e
  refine wpAny_notIn_of (kVs ry) hd dd.mapOf ?_
  rw[<-(rel.val k).isSome_eq,<-l]
  exact h _ (I.tok _)
 ·subst ey
  cases (show u=Value.ref b from ry)
  obtain⟨z,hd,xs,rel,dd⟩:=qQd I.hok e
  refine wpAny_notIn_heap (jKy hu) (jYl I.hok eb) hd dd ?_
  have q:=(rel.val k).isSome_eq
  rw[Option.isSome_map] at q
  rw[<-q,<-l]
  exact h _ (I.tok _)
theorem kV0 {h':Heap} {t':Nat} {ob:HO} (I:Inv X pins σ H s) (mu:Mut (H a)) (hs:Heap.SameBut a s.heap h') (he:∃q,h'.get? a=some q) (new:ObjOk X.prog X.w (upd H a ob) h' a ob):
  Inv X pins σ (upd H a ob) {s with heap:=h',toks:=t'}:=
 I.write (x:=a) (e:=a) mu (.inl rfl) (fun b q hb z=>(hs.2 b hb).trans z) he new
theorem dk_new {P:Program} {w:World} {H':Hp} {h':Heap} {kvs:List (Key×V)} {vs:List (Key×Value)} (z:kvs.length<=sizeLine) (hd:(a == sysModules)=false) (rel:KV kvs vs) (dd:h'.DictOf (jQd P w) a vs):
  ObjOk P w H' h' a (.dK kvs):=⟨z,hd,vs,rel,dd⟩
theorem kUj {H':Hp} {Q:Unit->Shared->Prop} (hu:A.units+20<cLine) (I:Inv X pins σ H s) (g:DPut H a y v H') (ry:RelV y u) (rv:RelV v r) (h:∀s',Inv X pins σ H' s'->Q () s'):
  wpAny (model X.prog X.w) A (setItem (.ref a) u r) Q E s:=by
 rcases g with ⟨kvs,k,e,ey,l,eH⟩ | ⟨kvs,k,b,e,ey,eb,l,eH⟩
 ·subst ey eH
  obtain⟨z,hd,vs,rel,dd⟩:=dk_of I.hok e
  have hz:vs.length<=sizeLine:=by rw[<-rel.length];exact z
  have hl:(putK kvs k v).length<=sizeLine:=by have:=jZ3 kvs k v;omega
  refine wpAny_setItem_pairs (hsz:=hz) (kVs ry) dd fun h' dd' hs=>h _ ?_
  have he:∃q,h'.get? a=some q:=let ⟨q,_,_,hq,_⟩:=dd';⟨q,hq⟩
  exact kV0 I (by rw[e];exact True.intro) hs he (dk_new hl hd (rel.put k rv) dd')
 ·subst ey eH
  cases (show u=Value.ref b from ry)
  obtain⟨z,hd,xs,rel,dd⟩:=dt_of I.hok e
  have hz:xs.length<=sizeLine:=by rw[<-lV5 rel];exact z
  have hl:(putK kvs k v).length<=sizeLine:=by have:=jZ3 kvs k v;omega
  refine wpAny_setItem_heap (hsz:=hz) (jKy hu) (jYl I.hok eb) dd fun h' dd' hs=>h _ ?_
  obtain⟨q,es,ep,hq,h2,h3,h4,_,h5⟩:=dd'
  refine kV0 I (by rw[e];exact True.intro) hs ⟨q,hq⟩ ⟨hl,hd,_,(rel.put k eb rv).keeps fun c ys ec=> ?_,q,es,ep,hq,h2,h3,h4,h5⟩
  rw[jKg (ne_of ec e (fun z=>nomatch z))]
  exact ec
end
section
variable {X:Cx} {pins:List (Addr×Obj)} {σ:St} {H:Hp} {s:Shared} {a:Addr} {kvs:List (Key×V)} {k:Key} {u:Value} {A:Around} {E:Value->Shared->Prop}
end
theorem kVz {X:Cx} {pins:List (Addr×Obj)} {σ:St} {H:Hp} {s:Shared} {a:Addr} {y:V} {o:Option V} (I:Inv X pins σ H s) (g:DGet H a y o):s.TypeIs (.ref a) "dict":=by
 rcases g with ⟨kvs,k,e,_,_⟩ | ⟨kvs,k,b,e,_,_,_⟩
 ·obtain⟨_,_,vs,_,dd⟩:=qQe I.hok e
  exact dd.typeIs
 ·obtain⟨_,_,xs,_,dd⟩:=qQd I.hok e
  exact dd.typeIs
section
variable {X:Cx} {o i e value:Expr} {pos pos' tpos:Pos} {td ty tv:TE}
end
theorem qV3 {P:Program} {w:World} {H:Hp} (h:Heap) (hb:sysModules<h.objs.size):ObjOk P w H (h.push {cls:= .type "dict",data:= .dict #[]}) h.objs.size (.dK []):=
 ⟨lJy _,beq_eq_false_iff_ne.mpr (Ne.symm (lJs hb)),[],.nil,Heap.DictOf.new h⟩
theorem qV2 {P:Program} {w:World} {H:Hp} (h:Heap) (hb:sysModules<h.objs.size):ObjOk P w H (h.push {cls:= .type "dict",data:= .dict #[]}) h.objs.size (.dT []):=
 ⟨lJy _,beq_eq_false_iff_ne.mpr (Ne.symm (lJs hb)),[],.nil,_,#[],0,lJu _ rfl,⟨rfl,rfl,rfl⟩,rfl,rfl,lVo⟩
def tDNewK:TE:=fun _ H Q=>∀p,H p=none->Q (.ref p) (upd H p (.dK []))
def tDNewT:TE:=fun _ H Q=>∀p,H p=none->Q (.ref p) (upd H p (.dT []))
section
variable {X:Cx} {pos:Pos}
theorem qU2:PE X (.Dict [] [] pos) tDNewK:=fun pins s σ H Q I h=>
 wpAny_Dict_empty ⟨.ref s.heap.objs.size,_,I.laid (a:=s.heap.objs.size) (o:= .dK []) (t':=s.toks) (fun _ _ q=>lJk _ q) (lJh _) (qV3 s.heap I.big),rfl,h _ (I.hok.fresh (lJh _))⟩
theorem qU1:PE X (.Dict [] [] pos) tDNewT:=fun pins s σ H Q I h=>
 wpAny_Dict_empty ⟨.ref s.heap.objs.size,_,I.laid (a:=s.heap.objs.size) (o:= .dT []) (t':=s.toks) (fun _ _ q=>lJk _ q) (lJh _) (qV2 s.heap I.big),rfl,h _ (I.hok.fresh (lJh _))⟩
end
section
variable {X:Cx} {pins:List (Addr×Obj)} {σ:St} {H:Hp} {s:Shared} {a:Addr} {y d:V} {u r:Value} {o:Option V} {A:Around} {E:Value->Shared->Prop}
end
section
variable {X:Cx} {o e f:Expr} {apos cpos:Pos} {td ty tx:TE}
end
section
variable {X:Cx} {pins:List (Addr×Obj)} {σ:St} {H:Hp} {s:Shared} {a:Addr} {kvs:List (Key×V)} {A:Around} {E:Value->Shared->Prop}
end
section
variable {X:Cx} {pins:List (Addr×Obj)} {σ:St} {H:Hp} {s:Shared} {a:Addr} {y:V} {u:Value} {A:Around} {E:Value->Shared->Prop}
end
end L2
namespace Att
open PySem PySem.W PySem.Calls PyProof.Rows
theorem jZ8 {P:Params} {h:Heap}:∀(ns:List Int) (vs:List Value),WellAll P h vs (ns.map WData.int)->IntsAre vs ns:=by
 intro ns
 induction ns with
 | nil=>
  intro vs w
  rw[List.map_nil] at w
  cases w
  exact .nil
 | cons n ns ih=>
  intro vs w
  rw[lJr] at w
  cases w with
  | cons a b=>
   cases a
   exact .cons _ _ (ih _ b)
theorem kZ7 {l:OpenLaw} {n:Nat} (hn:l.most=some n) {P:Params} {h:Heap} {args:List WData} {vals:List Value}
  (hpre:l.row.toRowW.claim.pre args=true) (hwl:WellAll P h vals args):
  ∃a vs ns,vals=[Value.ref a]/\args=[WData.list (ns.map WData.int)]/\h.get? a=some {cls:= .type "list",data:= .seq vs.toArray}/\IntsAre vs ns/\ns.length<=n:=by
 have hsh:WShape.hasAll [] args [.list .int]=true:=(pre_splitW hpre).1
 have hc:l.pre.holds [] {args:=args}=true:=(pre_splitW hpre).2
 obtain⟨d,r,rfl,h1,h2⟩:=hasAllW_cons hsh
 obtain rfl:=hasAllW_nil h2
 obtain⟨xs,rfl,h3⟩:=hasW_list h1
 obtain⟨ns,rfl⟩:=items_int h3
 have hlen:ns.length<=n:=by
  unfold OpenLaw.pre at hc
  have h4:(WTm.not (.lt (.lit (.int (n:Int))) (.len (.arg 0)))).holds [] {args:=[.list (ns.map .int)]}=true:=by
   have h4:=(holds_andW hc).1
   rw[hn] at h4
   exact h4
  have h5:=condW_of h4 (w_not (w_lt w_lit (w_len_list (w_arg rfl))))
  rw[lJe] at h5
  refine Nat.le_of_not_lt fun q=> ?_
  have q':(n:Int)<((ns.length:Nat):Int):=by omega
  first
   | (rw[lJn q'] at h5;exact absurd h5 (by decide))
   | (simp at h5;omega)
 cases hwl with
 | cons w1 w2=>
  cases w2
  cases w1 with
  | list ho hall=>exact⟨_,_,ns,rfl,rfl,ho,jZ8 ns _ hall,hlen⟩
theorem qJu (l:OpenLaw) (args:List WData):l.row.toRowW.claim.post args (.bool true) args=true:=
 postW_of (r:=l.row.toRowW) (X:=(true == true))
  (show WShape.has [] (.bool true) .bool=true by first | rfl | decide | simp[WShape.has,WShape.arms,WShape.armsAll])
  (show (WTm.eq .res (.lit (.bool true))).value [] {args:=args,res:=some (.bool true),after:=args}=some (.bool (true == true)) from w_eq_bool (w_res rfl) w_lit) rfl
theorem attach_call {l:OpenLaw} {n:Nat} {q:Program} {loose:List Str} {XP:(Str->Option Value)->Heap->Prop} {YP:World->Heap->Prop} {d:DefRec}
  (hn:l.most=some n) (hdf:d.params.defaults=[])
  (call:∀(w:World) (s₀ s₁:Shared) (mg mb:Str->Option Value) (fa:Addr) (o:Obj) (pm cd doc:Value) (a:Addr) (vs:List Value) (ns:List Int),
   Ground q loose [] XP w s₀ mg mb s₁.heap->YP w s₁.heap->
   s₁.heap.get? fa=some o->o.data= .func (docDef d.name d.params d.body d.scope pm cd doc)->s₁.heap.CodeRec cd d.name->mg d.name=some (.ref fa)->
   s₁.heap.get? a=some {cls:= .type "list",data:= .seq vs.toArray}->IntsAre vs ns->ns.length<=n->s₁.gens= #[]->
   codeAny (model l.prog w) callerA (.call (.ref fa) ⟨[.ref a],[]⟩) (fun r s'=>r= .ok (.ret (.bool true))/\OldK s₁.heap s'.heap/\s'.os=s₁.os/\AllBare s'.gens) s₁):
  WalkO q loose XP YP l.row.toRowW d [] (fun f vs=>PySem.call f vs):=by
 intro w s₀ s₁ mg mb G Y fa o pm cd doc dV kV ho hd hcd hD hmg hg args vals as hpre hlay hrd hwl hlo
 obtain rfl:dV= .none:=Dflts.none hD hdf
 obtain rfl:kV= .none:=Dflts.noKw hD
 obtain⟨a,vs,ns,rfl,rfl,hobj,hints,hlen⟩:=kZ7 hn hpre hwl
 refine enter_call (codeAny_mono (call w s₀ s₁ mg mb fa o pm cd doc a vs ns G Y ho (fd_plain hd) hcd hmg hobj hints hlen hg) fun r s' hq=> ?_)
 obtain⟨rfl,h2,h3,h4⟩:=hq
 exact⟨.inl ⟨.bool true,.bool true,[],rfl,fun _=>rfl,.bool true,qJu l _,fun _=>⟨List.Pairwise.nil,fun _ hm=>(nomatch hm)⟩⟩,h2,h3,h4⟩
section
variable {prog:Program} {w:World} {A:Around} {E:Value->Shared->Prop} {s:Shared} {K:Frag}
end
end Att
namespace L2
open PySem PySem.Spec PyProof.Rows
theorem jU7:∀ {vs:List Value} {ns:List Int},IntsAre vs ns->Vals (ns.map V.int) vs
 | _,_,.nil=> .nil
 | _,_,.cons n t h=> .cons ⟨t,rfl⟩ (jU7 h)
def Only (H:Hp):Prop:=∀b,H b=none\/∃o xs,H b=some (.frz o (.lst xs))
theorem qVh {P:Program} {w:World} {K:PySem.W.Frag} {mg mb:Str->Option Value} {CX:CXT} {k:Nat} {fa a:Addr} {fd:FuncData} {x:Str} {sp:Sp} {s₁:Shared} {vs:List Value} {ns:List Int}
  (KX:K.In s₁.heap) (hns:s₁.heap.Ns mainGlobals mg) (hb:s₁.heap.Ns builtinsNs mb) (hbb:∀x:Str,x≠"__name__"->mb x=bootBuiltins x) (hlim:s₁.heap.NoLimit) (hg:s₁.gens= #[])
  (ha:s₁.heap.get? a=some {cls:= .type "list",data:= .seq vs.toArray}) (hi:IntsAre vs ns) (hl:ns.length<=sizeLine) (hr:Room k callerA)
  (F:∀base:Heap,K.In base->base.Ns mainGlobals mg->FnOk P w K mg base CX k fa fd [x] sp) (hbind:∀(s:Shared) (u:Value),BindsTo s fd ⟨[u],[]⟩ [(x,u)])
  (hsp:∀H:Hp,Only H->SqL K H a (ns.map V.int)->sp [.ref a] H (fun v _=>v= .bl true) fun _ _ _=>False)
  (hCX:∀H e s',CX [] H s₁ (fun _ _ _=>False) e s'->False):
  codeAny (model P w) callerA (.call (.ref fa) ⟨[.ref a],[]⟩) (fun r s'=>r= .ok (.ret (.bool true))/\OldK s₁.heap s'.heap/\s'.os=s₁.os/\AllBare s'.gens) s₁:=by
 have rv:=jU7 hi
 have lenV:=hi.length
 have core:∀H:Hp,Only H->SqL K H a (ns.map V.int)->HOk P w H s₁.heap->(∀b,H b≠none->b=a)->(H a≠none->K.lookup a=none)->
   codeAny (model P w) callerA (.call (.ref fa) ⟨[.ref a],[]⟩) (fun r s'=>r= .ok (.ret (.bool true))/\OldK s₁.heap s'.heap/\s'.os=s₁.os/\AllBare s'.gens) s₁:=by
  intro H hO hS hok hA hK
  have base_of:∀ {b:Addr} {o:Obj},s₁.heap.get? b=some o->H b=none->(hidT s₁.heap H).get? b=some o:=fun e n=>qVv e n
  have noA:∀ {b:Addr} {o:Obj} {es:Array DictEntry} {ep:Nat},s₁.heap.get? b=some o->o.data= .dict es ep->H b=none:=fun {b o es ep} e d=>by
   cases q:H b with
   | none=>rfl
   | some u=>
    have e':b=a:=hA b (by rw[q];simp)
    subst e'
    rw[ha] at e;cases e
    have d':Data.seq vs.toArray _=Data.dict es ep:=d
    cases d'
  have nsK:∀ {b:Addr} {m:Str->Option Value},s₁.heap.Ns b m->(hidT s₁.heap H).Ns b m:=fun {b m} ⟨o,es,ep,e,d,r⟩=>⟨o,es,ep,base_of e (noA e d),d,r⟩
  have hKb:K.In (hidT s₁.heap H):=fun b o e=>base_of (KX b o e) (by
   cases q:H b with
   | none=>rfl
   | some u=>
    have e':b=a:=hA b (by rw[q];simp)
    subst e'
    rw[hK (by rw[q];simp)] at e;cases e)
  have hM:Mod K mg (hidT s₁.heap H):=⟨hKb,nsK hns,⟨mb,nsK hb,hbb⟩,let ⟨mc,h1,h2⟩:=hlim;⟨mc,nsK h1,h2⟩⟩
  have e0:Env0 P w K mg (hidT s₁.heap H) callerA [] s₁ H:=⟨rfl,hM,fun b o e=>qY2 e,Nat.le_of_eq (qKv _ _),trivial,fun b hb=>absurd (show b∈([]:List Addr) from hb) (by simp),hok,.of_eq hg⟩
  refine codeAny_mono ((F _ hKb (nsK hns)).run callerA [] s₁ H ⟨[.ref a],[]⟩ [.ref a] [.ref a] _ _ hr e0 (hbind s₁ (.ref a)) (.cons rfl .nil) (hsp H hO hS)) fun r s' h=> ?_
  cases r with
  | error e=>exact (hCX H e s' h).elim
  | ok fl=>
   cases fl with
   | next=>exact False.elim h
   | brk=>exact False.elim h
   | cont=>exact False.elim h
   | ret u=>
    obtain⟨v,H',os,bare,un,hok',r',q⟩:=h
    have q':v= .bl true:=q
    subst q'
    obtain rfl:u=Value.bool true:=r'
    refine⟨rfl,OldK.of_keep fun b o e=> ?_,os,bare⟩
    cases q:H b with
    | none=>exact un.keep b o e q (by intro z;exact absurd (show b∈([]:List Addr) from z) (by simp)) (by simp)
    | some u=>
     rcases hO b with z | ⟨ob,xs,z⟩
     ·rw[q] at z;cases z
     ·have z2:=un.frzs b ob _ z
      obtain⟨e1,_⟩:=hok b _ z
      obtain⟨e2,_⟩:=hok' b _ z2
      rw[e] at e1;cases e1
      exact e2
 cases hk:K.lookup a with
 | some o=>
  have e:=KX a o hk
  rw[ha] at e
  cases e
  refine core (fun _=>none) (fun _=> .inl rfl) (.inr ⟨_,vs.toArray,_,hk,rfl,rfl,rfl,by rw[lJw,lenV];exact hl,by simpa using rv⟩) (fun b u z=>by have z':(none:Option HO)=some u:=z;cases z') (fun b z=>absurd rfl z) fun z=>absurd rfl z
 | none=>
  refine core (fun b=>if b=a then some (.frz {cls:= .type "list",data:= .seq vs.toArray} (.lst (ns.map V.int))) else none) (fun b=> ?_) (.inl (.inr ⟨{cls:= .type "list",data:= .seq vs.toArray},lJc rfl⟩)) (fun b u z=> ?_) (fun b z=> ?_) fun _=>hk
  ·by_cases hb:b=a
   ·exact .inr ⟨_,_,lJc hb⟩
   ·exact .inl (lJb hb)
  ·by_cases hb:b=a
   ·have z':=(lJc hb).symm.trans z
    cases z'
    subst hb
    exact⟨ha,by rw[lJe];exact hl,vs,_,rv,ha⟩
   ·have z':=(lJb hb).symm.trans z
    cases z'
  ·by_cases hb:b=a
   ·exact hb
   ·exact absurd (lJb hb) z
theorem walk_of {l:PySem.W.OpenLaw} {n k:Nat} {q:Program} {loose:List Str} {XP:(Str->Option Value)->Heap->Prop} {YP:World->Heap->Prop} {d:DefRec} {K:Params->PySem.W.Frag} {CX:World->CXT} {sp:World->Sp} {x:Str}
  (hn:l.most=some n) (hn2:n<=sizeLine) (hdf:d.params.defaults=[]) (hr:Room k callerA)
  (hY:∀(w:World) (h:Heap),YP w h->(K w.params).In h)
  (F:∀(w:World) (mg:Str->Option Value) (fa:Addr) (h:Heap),(K w.params).In h->h.Ns mainGlobals mg->mg d.name=some (.ref fa)->
   ∃fd:FuncData,(∀(s:Shared) (u:Value),BindsTo s fd ⟨[u],[]⟩ [(x,u)])/\
    ∀base:Heap,(K w.params).In base->base.Ns mainGlobals mg->FnOk l.prog w (K w.params) mg base (CX w) k fa fd [x] (sp w))
  (hsp:∀(w:World) (H:Hp) (a:Addr) (ns:List Int),ns.length<=n->Only H->SqL (K w.params) H a (ns.map V.int)->sp w [.ref a] H (fun v _=>v= .bl true) fun _ _ _=>False)
  (hCX:∀(w:World) (H:Hp) (s:Shared) (e:Value) (s':Shared),CX w [] H s (fun _ _ _=>False) e s'->False):
  PySem.W.WalkO q loose XP YP l.row.toRowW d [] (fun f vs=>PySem.call f vs):=by
 refine Att.attach_call hn hdf fun w s₀ s₁ mg mb fa o pm cd doc a vs ns G Y ho hd hcd hmg hobj hints hlen hg=> ?_
 have KX:=hY w _ Y
 obtain⟨fd,hb,hF⟩:=F w mg fa _ KX G.T.g hmg
 exact qVh KX G.T.g G.T.b G.T.builtins G.T.nolimit hg hobj hints (lKf hlen hn2) hr hF hb (fun H hO hS=>hsp w H a ns hlen hO hS) fun H e s'=>hCX w H s₁ e s'
noncomputable def jYe (s:Stmt):Arguments:=match s with
 | .FunctionDef _ a _ _ _ _ _ _ _ _=>a
 | _=>{posonlyargs:=[],args:=[],vararg:=none,kwonlyargs:=[],kw_defaults:=[],kwarg:=none,defaults:=[]}
def jUx (s:Stmt):List Stmt:=match s with
 | .FunctionDef _ _ b _ _ _ _ _ _ _=>b
 | _=>[]
def jKf (s:Stmt):Scope:=match s with
 | .FunctionDef _ _ _ _ _ _ sc _ _ _=>sc
 | _=>{kind:= .function,names:=[],isGenerator:=false,isCoroutine:=false}
abbrev CX0:CXT:=fun _ _ _ _ _ _=>False
abbrev E0:XK:=fun _ _ _=>False
theorem pass0 {X:Cx}:qYb CX0 X E0:=fun _ _ _ _ _ _ _ h=>h.elim
structure Fun (K:PySem.W.Frag) (x qual:Str) (st:Stmt) (f:Addr) (fd:FuncData):Prop where
 ex:∃(oc:Value) (od:Option Addr) (kV doc pm:Value) (an:Option Addr) (cdv ct:Value) (osl:Array (Option Value)),
  fd=PySem.W.fnOf x qual (jYe st) (jUx st) (jKf st) .none kV doc pm an cdv ct/\K.lookup f=some ⟨oc,od,.func fd,osl⟩/\PySem.W.codeIn K cdv qual=true
 kp:PySem.W.keepIn K (.ref f)=true
section
variable {P:Program} {w:World} {K:PySem.W.Frag} {mg:Str->Option Value} {base:Heap}
theorem Fun.ok {x qual:Str} {st:Stmt} {f:Addr} {fd:FuncData} {N ps:List Str} {k:Nat} {sp:Sp} (F:Fun K x qual st f fd) (S:FnScope N ps (jKf st)) (len:∀vs H Q E,sp vs H Q E->vs.length=ps.length)
  (hbody:∀(cdv:Value) (A:Around) (outer:List Env) (s:Shared) (H:Hp) (vs:List V) (Q:VK) (E:XK),Room k (A.deeper (envOfC qual (jKf st) s.heap.objs.size f cdv))->sp vs H Q E->
   ∃t,PSs (cxOf CX0 P w K mg base N qual (jKf st) f cdv A outer s H E).nox (jUx st) t/\t {nx:=fun _ H'=>Q .non H',rt:=Q} (start N vs) H):FnOk P w K mg base CX0 (k+1) f fd ps sp:=by
 obtain⟨oc,od,kV,doc,pm,an,cdv,ct,osl,rfl,lk,hcd⟩:=F.ex
 refine fn_of lk hcd S len fun A outer s H vs Q E hr hsp=> ?_
 obtain⟨t,h,q⟩:=hbody cdv A outer s H vs Q E hr hsp
 exact⟨t,h.nox,q⟩
theorem Fun.binds {x qual:Str} {st:Stmt} {f:Addr} {fd:FuncData} {ps:List Str} (F:Fun K x qual st f fd)
  (h:∀(kV doc pm:Value) (an:Option Addr) (cdv ct:Value) (us:List Value),us.length=ps.length->bindArgs (PySem.W.fnOf x qual (jYe st) (jUx st) (jKf st) .none kV doc pm an cdv ct) ⟨us,[]⟩=pure (ps.zip us)):Binds K fd ps []:=by
 obtain⟨oc,od,kV,doc,pm,an,cdv,ct,osl,rfl,lk,hcd⟩:=F.ex
 exact .all (h kV doc pm an cdv ct)
theorem fun_mk {x qual:Str} {st:Stmt} {f:Addr} {oc:Value} {od an:Option Addr} {osl:Array (Option Value)} {kV doc pm cdv ct:Value} (l:K.lookup f=some ⟨oc,od,.func (PySem.W.fnOf x qual (jYe st) (jUx st) (jKf st) .none kV doc pm an cdv ct),osl⟩)
  (c:PySem.W.codeIn K cdv qual=true) (k:PySem.W.keepIn K (.ref f)=true):Fun K x qual st f (PySem.W.fnOf x qual (jYe st) (jUx st) (jKf st) .none kV doc pm an cdv ct):=⟨⟨oc,od,kV,doc,pm,an,cdv,ct,osl,rfl,l,c⟩,k⟩
end
theorem hu_of {A:Around} {k:Nat} (hr:Room k A):A.units+20<cLine:=Nat.lt_of_le_of_lt (Nat.add_le_add_left (by decide:20<=64) _) hr.units
section
variable {X:Cx}
end
end L2
set_option Elab.async false
set_option linter.all false
set_option maxRecDepth 100000
set_option maxHeartbeats 5000000
namespace L3
open PySem PySem.Spec PyProof.Rows L2
inductive T where
 | non | bl (b:Bool) | int (i:Int) | str (x:Str) | tup (xs:List T) | scr (xs:List T) | ref (a:Addr) | ty (n:String)
structure Ext (H H':Hp):Prop where
 tup:∀b xs,H b=some (.tup xs)->H' b=some (.tup xs)
 frz:∀b ob u,H b=some (.frz ob u)->H' b=some (.frz ob u)
theorem Ext.refl (H:Hp):Ext H H:=⟨fun _ _ h=>h,fun _ _ _ h=>h⟩
theorem Ext.trans {H H1 H2:Hp} (a:Ext H H1) (b:Ext H1 H2):Ext H H2:=⟨fun c o h=>b.tup c o (a.tup c o h),fun c o u h=>b.frz c o u (a.frz c o u h)⟩
def FrL (K:PySem.W.Frag) (H:Hp) (a:Addr) (xs:List V):Prop:=
 (∃ob,H a=some (.frz ob (.lst xs)))\/
  ∃(o:Obj) (its:Array Value) (n:Nat),K.lookup a=some o/\o.cls= .type "list"/\o.dict=none/\o.data= .seq its n/\its.size<=sizeLine/\Vals xs its.toList
theorem FrL.sq {K:PySem.W.Frag} {H:Hp} {a:Addr} {xs:List V} (h:FrL K H a xs):SqL K H a xs:=by
 rcases h with ⟨ob,h⟩ | h
 ·exact .inl (.inr ⟨ob,h⟩)
 ·exact .inr h
theorem FrL.mono {K:PySem.W.Frag} {H H':Hp} {a:Addr} {xs:List V} (e:Ext H H') (h:FrL K H a xs):FrL K H' a xs:=by
 rcases h with ⟨ob,h⟩ | h
 ·exact .inl ⟨ob,e.frz _ _ _ h⟩
 ·exact .inr h
mutual
noncomputable def Rep (K:PySem.W.Frag) (H:Hp):T->V->Prop
 | .non,v=>v= .non
 | .bl b,v=>v= .bl b
 | .int i,v=>v= .int i
 | .str x,v=>v= .str x
 | .ref a,v=>v= .ref a
 | .ty n,v=>v= .ty n
 | .tup xs,v=>∃a vs,v= .ref a/\H a=some (.tup vs)/\Reps K H xs vs
 | .scr xs,v=>∃a vs,v= .ref a/\FrL K H a vs/\Reps K H xs vs
noncomputable def Reps (K:PySem.W.Frag) (H:Hp):List T->List V->Prop
 | [],vs=>vs=[]
 | x::xs,vs=>∃v ws,vs=v::ws/\Rep K H x v/\Reps K H xs ws
end
mutual
theorem Rep.mono {K:PySem.W.Frag} {H H':Hp} (e:Ext H H'):∀(x:T) {v:V},Rep K H x v->Rep K H' x v
 | .non,_,h=>h
 | .bl _,_,h=>h
 | .int _,_,h=>h
 | .str _,_,h=>h
 | .ref _,_,h=>h
 | .ty _,_,h=>h
 | .tup xs,_,⟨a,vs,r1,r2,r3⟩=>⟨a,vs,r1,e.tup _ _ r2,Reps.mono e xs r3⟩
 | .scr xs,_,⟨a,vs,r1,r2,r3⟩=>⟨a,vs,r1,r2.mono e,Reps.mono e xs r3⟩
theorem Reps.mono {K:PySem.W.Frag} {H H':Hp} (e:Ext H H'):∀(xs:List T) {vs:List V},Reps K H xs vs->Reps K H' xs vs
 | [],_,h=>h
 | x::xs,_,⟨v,ws,r1,r2,r3⟩=>⟨v,ws,r1,Rep.mono e x r2,Reps.mono e xs r3⟩
end
section
variable {K:PySem.W.Frag} {H:Hp}
theorem Reps.length:∀ {xs:List T} {vs:List V},Reps K H xs vs->xs.length=vs.length
 | [],_,h=>by cases h;rfl
 | _::_,_,⟨_,_,r1,_,r3⟩=>by subst r1;simp[Reps.length r3]
theorem Reps.get:∀ {xs:List T} {vs:List V} {i:Nat} {x:T},Reps K H xs vs->xs[i]? =some x->∃v,vs[i]? =some v/\Rep K H x v
 | [],_,_,_,_,e=>by simp at e
 | y::ys,_,0,x,⟨v,ws,r1,r2,r3⟩,e=>by subst r1;simp at e;subst e;exact⟨v,rfl,r2⟩
 | y::ys,_,i+1,x,⟨v,ws,r1,r2,r3⟩,e=>by subst r1;simpa using Reps.get r3 (by simpa using e)
theorem Reps.get':∀ {xs:List T} {vs:List V} {i:Nat} {v:V},Reps K H xs vs->vs[i]? =some v->∃x,xs[i]? =some x/\Rep K H x v
 | [],_,_,_,h,e=>by cases h;simp at e
 | y::ys,_,0,x,⟨v,ws,r1,r2,r3⟩,e=>by subst r1;simp at e;subst e;exact⟨y,rfl,r2⟩
 | y::ys,_,i+1,x,⟨v,ws,r1,r2,r3⟩,e=>by subst r1;simpa using Reps.get' r3 (by simpa using e)
theorem Reps.append:∀ {xs ys:List T} {vs ws:List V},Reps K H xs vs->Reps K H ys ws->Reps K H (xs++ys) (vs++ws)
 | [],_,_,_,h,h2=>by cases h;exact h2
 | _::_,_,_,_,⟨v,ws,r1,r2,r3⟩,h2=>by subst r1;exact⟨v,_,rfl,r2,Reps.append r3 h2⟩
theorem Reps.one {x:T} {v:V} (r:Rep K H x v):Reps K H [x] [v]:=⟨v,[],rfl,r,rfl⟩
theorem Reps.set {x:T} {v:V} (r:Rep K H x v):∀ {xs:List T} {vs:List V} (i:Nat),Reps K H xs vs->Reps K H (xs.set i x) (vs.set i v)
 | [],_,_,e=>by cases e;rfl
 | _::_,_,0,⟨_,ws,r1,r2,r3⟩=>by subst r1;exact⟨v,ws,rfl,r,r3⟩
 | _::_,_,i+1,⟨u,ws,r1,r2,r3⟩=>by subst r1;exact⟨u,_,rfl,r2,Reps.set r i r3⟩
theorem Reps.take:∀ {xs:List T} {vs:List V} (n:Nat),Reps K H xs vs->Reps K H (xs.take n) (vs.take n)
 | _,_,0,_=>by simp[Reps]
 | [],_,_+1,h=>by cases h;simp[Reps]
 | _::_,_,n+1,⟨u,ws,r1,r2,r3⟩=>by subst r1;exact⟨u,_,rfl,r2,Reps.take n r3⟩
theorem Reps.drop:∀ {xs:List T} {vs:List V} (n:Nat),Reps K H xs vs->Reps K H (xs.drop n) (vs.drop n)
 | _,_,0,h=>h
 | [],_,_+1,h=>by cases h;simp[Reps]
 | _::_,_,n+1,⟨u,ws,r1,r2,r3⟩=>by subst r1;exact Reps.drop n r3
theorem Reps.reverse:∀ {xs:List T} {vs:List V},Reps K H xs vs->Reps K H xs.reverse vs.reverse
 | [],_,h=>by cases h;simp[Reps]
 | _::_,_,⟨u,ws,r1,r2,r3⟩=>by
  subst r1;rw[lXx,lXx];exact (Reps.reverse r3).append ⟨u,[],rfl,r2,rfl⟩
theorem Reps.rep {xs:List T} {vs:List V} (r:Reps K H xs vs):∀n:Nat,Reps K H (List.replicate n xs).flatten (List.replicate n vs).flatten
 | 0=>by simp[Reps]
 | n+1=>by simpa[lQo] using r.append (Reps.rep r n)
theorem Reps.atI {xs:List T} {vs:List V} {i:Int} {x:T} (r:Reps K H xs vs) (h:atI xs i=some x):∃v,atI vs i=some v/\Rep K H x v:=by
 unfold L2.atI at h ⊢
 rw[<-r.length]
 cases e:ixN xs.length i with
 | none=>rw[e] at h;cases h
 | some j=>rw[e] at h;exact r.get h
end
inductive GO where
 | lst (xs:List T) | dct (kvs:List (TKey×T)) | dck (kvs:List (Key×T)) | fdc (kvs:List (TKey×T)) | ins (cn:Str) (fs:List (Str×T))
abbrev Gp:=Addr->Option GO
def gup (G:Gp) (a:Addr) (o:GO):Gp:=fun b=>if b=a then some o else G b
theorem jJi {G:Gp} {a:Addr} {o:GO}:gup G a o a=some o:=by simp[gup]
theorem jJv {G:Gp} {a b:Addr} {o:GO} (h:b≠a):gup G a o b=G b:=by simp[gup,h]
theorem qKx {G:Gp} {a:Addr} {o o':GO}:gup (gup G a o) a o'=gup G a o':=by funext b;by_cases h:b=a<;>simp[gup,h]
def asL:Option GO->Option (List T)
 | some (.lst xs)=>some xs
 | _=>none
def seqT (G:Gp):T->Option (List T)
 | .tup xs=>some xs
 | .scr xs=>some xs
 | .ref a=>asL (G a)
 | _=>none
def PKV {κ:Type} (K:PySem.W.Frag) (H:Hp):List (κ×T)->List (κ×V)->Prop:=Paired fun p q=>p.1=q.1/\Rep K H p.2 q.2
noncomputable def GOk (K:PySem.W.Frag) (H:Hp) (a:Addr):GO->Prop
 | .lst xs=>∃vs,H a=some (.lst vs)/\Reps K H xs vs
 | .dct kvs=>∃ws,H a=some (.dT ws)/\PKV K H kvs ws
 | .dck kvs=>∃ws,H a=some (.dK ws)/\PKV K H kvs ws
 | .fdc kvs=>∃ob ws,H a=some (.frz ob (.dT ws))/\PKV K H kvs ws
 | .ins cn fs=>∃C dx ws,H a=some (.ins C dx ws)/\PySem.W.nsIn K mainGlobals cn=some (some (.ref C))/\PKV K H fs ws
def GRel (K:PySem.W.Frag) (H:Hp) (G:Gp):Prop:=∀a o,G a=some o->GOk K H a o
section
variable {K:PySem.W.Frag} {H H':Hp} {G:Gp} {a:Addr}
theorem PKV.mono {κ:Type} {kvs:List (κ×T)} {ws:List (κ×V)} (e:Ext H H') (h:PKV K H kvs ws):PKV K H' kvs ws:=Paired.mapP h fun _ _ z=>⟨z.1,Rep.mono e _ z.2⟩
theorem GOk.move {o:GO} (h:GOk K H a o) (e:Ext H H') (ha:H' a=H a):GOk K H' a o:=by
 cases o with
 | lst xs=>obtain⟨vs,h1,h2⟩:=h;exact⟨vs,ha.trans h1,Reps.mono e _ h2⟩
 | dct kvs=>obtain⟨vs,h1,h2⟩:=h;exact⟨vs,ha.trans h1,h2.mono e⟩
 | dck kvs=>obtain⟨vs,h1,h2⟩:=h;exact⟨vs,ha.trans h1,h2.mono e⟩
 | fdc kvs=>obtain⟨ob,vs,h1,h2⟩:=h;exact⟨ob,vs,ha.trans h1,h2.mono e⟩
 | ins cn fs=>obtain⟨C,dx,ws,h1,h2,h3⟩:=h;exact⟨C,dx,ws,ha.trans h1,h2,h3.mono e⟩
theorem GOk.some {o:GO} (h:GOk K H a o):H a≠none:=by
 cases o with
 | lst xs=>obtain⟨vs,h1,h2⟩:=h;rw[h1];simp
 | dct kvs=>obtain⟨vs,h1,h2⟩:=h;rw[h1];simp
 | dck kvs=>obtain⟨vs,h1,h2⟩:=h;rw[h1];simp
 | fdc kvs=>obtain⟨ob,vs,h1,h2⟩:=h;rw[h1];simp
 | ins cn fs=>obtain⟨C,dx,ws,h1,h2,h3⟩:=h;rw[h1];simp
theorem GRel.fresh (g:GRel K H G) (h:H a=none):G a=none:=by
 cases e:G a with
 | none=>rfl
 | some o=>exact absurd h (g a o e).some
def Soft (o:Option HO):Prop:=o=none\/(∃xs,o=some (.lst xs))\/(∃kvs,o=some (.dK kvs))\/(∃kvs,o=some (.dT kvs))\/∃C dx fs,o=some (.ins C dx fs)
theorem Ext.upd {o:HO} (h:Soft (H a)):Ext H (L2.upd H a o):=by
 refine⟨fun b xs e=> ?_,fun b ob u e=> ?_⟩
 ·rw[jKg];exact e
  rintro rfl;rw[e] at h;rcases h with h | ⟨_,h⟩ | ⟨_,h⟩ | ⟨_,h⟩ | ⟨_,_,_,h⟩<;>cases h
 ·rw[jKg];exact e
  rintro rfl;rw[e] at h;rcases h with h | ⟨_,h⟩ | ⟨_,h⟩ | ⟨_,h⟩ | ⟨_,_,_,h⟩<;>cases h
theorem GRel.upd {o:HO} {go:GO} (g:GRel K H G) (h:Soft (H a)) (n:GOk K (L2.upd H a o) a go):GRel K (L2.upd H a o) (gup G a go):=by
 intro b u e
 by_cases hb:b=a
 ·subst hb;rw[jJi] at e;cases e;exact n
 ·rw[jJv hb] at e;exact (g b u e).move (Ext.upd h) (jKg hb)
theorem Soft.none (h:H a=none):Soft (H a):= .inl h
theorem Soft.lst {xs:List V} (h:H a=some (.lst xs)):Soft (H a):= .inr (.inl ⟨xs,h⟩)
theorem Soft.dT {xs:List (TKey×V)} (h:H a=some (.dT xs)):Soft (H a):= .inr (.inr (.inr (.inl ⟨xs,h⟩)))
theorem Soft.dK {xs:List (Key×V)} (h:H a=some (.dK xs)):Soft (H a):= .inr (.inr (.inl ⟨xs,h⟩))
theorem GRel.tupNew {vs:List V} (g:GRel K H G) (h:H a=Option.none):GRel K (L2.upd H a (.tup vs)) G:=by
 intro b u e
 have hb:b≠a:=by rintro rfl;exact (g b u e).some h
 exact (g b u e).move (Ext.upd (.none h)) (jKg hb)
theorem Rep.tupNew {xs:List T} {vs:List V} (r:Reps K H xs vs) (h:H a=Option.none):Rep K (L2.upd H a (.tup vs)) (.tup xs) (.ref a):=
 ⟨a,vs,rfl,jQa,Reps.mono (Ext.upd (.none h)) _ r⟩
theorem GRel.lstNew {xs:List T} {vs:List V} (g:GRel K H G) (r:Reps K H xs vs) (h:Soft (H a)):GRel K (L2.upd H a (.lst vs)) (gup G a (.lst xs)):=
 g.upd h ⟨vs,jQa,Reps.mono (Ext.upd h) _ r⟩
theorem GRel.lst {xs:List T} (g:GRel K H G) (h:G a=some (.lst xs)):∃vs,H a=some (.lst vs)/\Reps K H xs vs:=g a _ h
end
abbrev St3:=List (Option T)
def SRel (K:PySem.W.Frag) (H:Hp) (σ:L2.St) (τ:St3):Prop:=σ.length=τ.length/\∀(i:Nat) (t:T),τ[i]? =some (some t)->∃v,σ[i]? =some (some v)/\Rep K H t v
theorem SRel.mono {K:PySem.W.Frag} {H H':Hp} {σ:L2.St} {τ:St3} (e:Ext H H') (h:SRel K H σ τ):SRel K H' σ τ:=
 ⟨h.1,fun i t q=>let ⟨v,h1,h2⟩:=h.2 i t q;⟨v,h1,Rep.mono e _ h2⟩⟩
theorem SRel.set {K:PySem.W.Frag} {H:Hp} {σ:L2.St} {τ:St3} {t:T} {v:V} (h:SRel K H σ τ) (i:Nat) (r:Rep K H t v):SRel K H (σ.set i (some v)) (τ.set i (some t)):=by
 refine⟨by simp[h.1],fun j u q=> ?_⟩
 by_cases hj:i=j
 ·subst hj
  have hl:i<τ.length:=by
   rcases lQ8 i τ.length with z | z
   ·exact z
   ·rw[lKa (by simpa using z)] at q;cases q
  rw[lK0 hl] at q
  cases q
  exact⟨v,by rw[lK0 (by rw[h.1];exact hl)],r⟩
 ·rw[lKr hj] at q ⊢
  exact h.2 j u q
def Inv3 (X:Cx) (pins:List (Addr×Obj)) (τ:St3) (G:Gp) (H:Hp) (s:Shared):Prop:=∃ σ,Inv X pins σ H s/\SRel X.K H σ τ/\GRel X.K H G
abbrev VK3:=T->Gp->Prop
abbrev TE3:=St3->Gp->VK3->Prop
abbrev TT3:=St3->Gp->(Bool->Gp->Prop)->Prop
abbrev TA3:=St3->Gp->(List T->Gp->Prop)->Prop
structure Ends3 where
 nx:St3->Gp->Prop
 rt:VK3
 bk:St3->Gp->Prop:=fun _ _=>False
 ct:St3->Gp->Prop:=fun _ _=>False
abbrev TS3:=Ends3->St3->Gp->Prop
def RU (K:PySem.W.Frag) (H:Hp) (t:T) (u:Value):Prop:=∃v,Rep K H t v/\RelV v u
def RUs (K:PySem.W.Frag) (H:Hp) (ts:List T) (us:List Value):Prop:=∃vs,Reps K H ts vs/\Vals vs us
theorem RU.mono {K:PySem.W.Frag} {H H':Hp} {t:T} {u:Value} (e:Ext H H') (h:RU K H t u):RU K H' t u:=let ⟨v,h1,h2⟩:=h;⟨v,Rep.mono e _ h1,h2⟩
def EP3 (X:Cx) (pins:List (Addr×Obj)) (τ:St3) (H:Hp) (Q:VK3) (u:Value) (s':Shared):Prop:=∃t G' H',Ext H H'/\Inv3 X pins τ G' H' s'/\RU X.K H' t u/\Q t G'
def TP3 (X:Cx) (pins:List (Addr×Obj)) (τ:St3) (H:Hp) (Q:Bool->Gp->Prop) (b:Bool) (s':Shared):Prop:=∃G' H',Ext H H'/\Inv3 X pins τ G' H' s'/\Q b G'
def AP3 (X:Cx) (pins:List (Addr×Obj)) (τ:St3) (H:Hp) (Q:List T->Gp->Prop) (us:List Value) (s':Shared):Prop:=∃ts G' H',Ext H H'/\Inv3 X pins τ G' H' s'/\RUs X.K H' ts us/\Q ts G'
def SP3 (X:Cx) (pins:List (Addr×Obj)) (H:Hp) (D:Ends3) (f:Flow) (s':Shared):Prop:=
 match f with
 | .next=>∃ τ' G' H',Ext H H'/\Inv3 X pins τ' G' H' s'/\D.nx τ' G'
 | .brk=>∃ τ' G' H',Ext H H'/\Inv3 X pins τ' G' H' s'/\D.bk τ' G'
 | .cont=>∃ τ' G' H',Ext H H'/\Inv3 X pins τ' G' H' s'/\D.ct τ' G'
 | .ret u=>∃t τ' G' H',Ext H H'/\Inv3 X pins τ' G' H' s'/\RU X.K H' t u/\D.rt t G'
def PE3 (X:Cx) (e:Expr) (t:TE3):Prop:=∀(pins:List (Addr×Obj)) (s:Shared) (τ:St3) (G:Gp) (H:Hp) (Q:VK3),Inv3 X pins τ G H s->t τ G Q->wpAny (model X.prog X.w) X.A (eval e X.env) (EP3 X pins τ H Q) X.xe s
def PT3 (X:Cx) (e:Expr) (t:TT3):Prop:=∀(pins:List (Addr×Obj)) (s:Shared) (τ:St3) (G:Gp) (H:Hp) (Q:Bool->Gp->Prop),Inv3 X pins τ G H s->t τ G Q->wpAny (model X.prog X.w) X.A (isTrue e X.env (eval e X.env)) (TP3 X pins τ H Q) X.xe s
def PW3 (X:Cx) (e:Expr) (t:TT3):Prop:=∀(whole:Sem Value) (pins:List (Addr×Obj)) (s:Shared) (τ:St3) (G:Gp) (H:Hp) (Q:Bool->Gp->Prop),Inv3 X pins τ G H s->t τ G Q->wpAny (model X.prog X.w) X.A (isTrue e X.env whole) (TP3 X pins τ H Q) X.xe s
theorem PW3.pt {X:Cx} {e:Expr} {t:TT3} (h:PW3 X e t):PT3 X e t:=h _
def PA3 (X:Cx) (es:List Expr) (t:TA3):Prop:=∀(pos:Pos) (pins:List (Addr×Obj)) (s:Shared) (τ:St3) (G:Gp) (H:Hp) (Q:List T->Gp->Prop),Inv3 X pins τ G H s->t τ G Q->wpAny (model X.prog X.w) X.A (spliced (backTo pos (starEach es X.env))) (AP3 X pins τ H Q) X.xe s
def PS3 (X:Cx) (st:Stmt) (t:TS3):Prop:=∀(pins:List (Addr×Obj)) (s:Shared) (τ:St3) (G:Gp) (H:Hp) (D:Ends3),Inv3 X pins τ G H s->t D τ G->wpAny (model X.prog X.w) X.A (exec st X.env) (SP3 X pins H D) X.xe s
def PSs3 (X:Cx) (st:List Stmt) (t:TS3):Prop:=∀(pins:List (Addr×Obj)) (s:Shared) (τ:St3) (G:Gp) (H:Hp) (D:Ends3),Inv3 X pins τ G H s->t D τ G->wpAny (model X.prog X.w) X.A (execs st X.env) (SP3 X pins H D) X.xe s
section
variable {X:Cx} {pins:List (Addr×Obj)} {τ:St3} {G:Gp} {H H1:Hp} {s:Shared} {C:Prop}
theorem EP3.el {Q:VK3} {u:Value} (h:EP3 X pins τ H Q u s) (k:∀t G' H',Ext H H'->Inv3 X pins τ G' H' s->RU X.K H' t u->Q t G'->C):C:=let ⟨t,G',H',a,b,c,d⟩:=h;k t G' H' a b c d
theorem AP3.el {Q:List T->Gp->Prop} {u:List Value} (h:AP3 X pins τ H Q u s) (k:∀t G' H',Ext H H'->Inv3 X pins τ G' H' s->RUs X.K H' t u->Q t G'->C):C:=let ⟨t,G',H',a,b,c,d⟩:=h;k t G' H' a b c d
theorem TP3.el {Q:Bool->Gp->Prop} {u:Bool} (h:TP3 X pins τ H Q u s) (k:∀G' H',Ext H H'->Inv3 X pins τ G' H' s->Q u G'->C):C:=let ⟨G',H',a,b,c⟩:=h;k G' H' a b c
theorem Inv3.el (h:Inv3 X pins τ G H s) (k:∀ σ,Inv X pins σ H s->SRel X.K H σ τ->GRel X.K H G->C):C:=let ⟨σ,a,b,c⟩:=h;k σ a b c
theorem RU.el {K:PySem.W.Frag} {t:T} {u:Value} (h:RU K H t u) (k:∀v,Rep K H t v->RelV v u->C):C:=let ⟨v,a,b⟩:=h;k v a b
theorem RUs.el {K:PySem.W.Frag} {t:List T} {u:List Value} (h:RUs K H t u) (k:∀v,Reps K H t v->Vals v u->C):C:=let ⟨v,a,b⟩:=h;k v a b
end
section
variable {X:Cx} {pins:List (Addr×Obj)} {τ:St3} {G:Gp} {H H1:Hp} {s:Shared}
theorem EP3.ext {Q:VK3} {u:Value} (e:Ext H H1) (h:EP3 X pins τ H1 Q u s):EP3 X pins τ H Q u s:=let ⟨t,G',H',a,b⟩:=h;⟨t,G',H',e.trans a,b⟩
theorem TP3.ext {Q:Bool->Gp->Prop} {u:Bool} (e:Ext H H1) (h:TP3 X pins τ H1 Q u s):TP3 X pins τ H Q u s:=let ⟨G',H',a,b⟩:=h;⟨G',H',e.trans a,b⟩
theorem SP3.ext {D:Ends3} {f:Flow} (e:Ext H H1) (h:SP3 X pins H1 D f s):SP3 X pins H D f s:=by
 cases f with
 | next=>obtain⟨τ',G',H',a,b⟩:=h;exact⟨τ',G',H',e.trans a,b⟩
 | brk=>obtain⟨τ',G',H',a,b⟩:=h;exact⟨τ',G',H',e.trans a,b⟩
 | cont=>obtain⟨τ',G',H',a,b⟩:=h;exact⟨τ',G',H',e.trans a,b⟩
 | ret u=>obtain⟨t,τ',G',H',a,b⟩:=h;exact⟨t,τ',G',H',e.trans a,b⟩
theorem bin3 {a b:Expr} {ta tb:TE3} (ha:PE3 X a ta) (hb:PE3 X b tb) {R:T->T->Gp->Prop} (I:Inv3 X pins τ G H s) (h:ta τ G fun x G1=>tb τ G1 fun y G2=>R x y G2)
  {α:Type} {Q:α->Shared->Prop} {f:Value->Value->Sem α}
  (hf:∀v u s2 x y G2 H2,Ext H H2->Inv3 X pins τ G2 H2 s2->RU X.K H2 x v->RU X.K H2 y u->R x y G2->wpAny (model X.prog X.w) X.A (f v u) Q X.xe s2):
  wpAny (model X.prog X.w) X.A (eval a X.env) (fun v s₁=>wpAny (model X.prog X.w) X.A (eval b X.env) (fun u s₂=>wpAny (model X.prog X.w) X.A (f v u) Q X.xe s₂) X.xe s₁) X.xe s:=by
 refine thn (ha pins s τ G H _ I h) fun v s1 w_=>w_.el fun x G1 H1 e1 I1 r1 q1=> ?_
 refine thn (hb pins s1 τ G1 H1 _ I1 q1) fun u s2 w_=>w_.el fun y G2 H2 e2 I2 r2 q2=> ?_
 exact hf v u s2 x y G2 H2 (e1.trans e2) I2 (r1.mono e2) r2 q2
def up (K:PySem.W.Frag) (H:Hp) (Q:VK3):VK:=fun v H'=>∃t G',Ext H H'/\GRel K H' G'/\Rep K H' t v/\Q t G'
theorem jVy {σ:L2.St} {Q:VK3} {u:Value} (hs:SRel X.K H σ τ) (h:EP X pins σ (up X.K H Q) u s):EP3 X pins τ H Q u s:=
 let ⟨v,H',I',r',t,G',e,g',rt,q⟩:=h
 ⟨t,G',H',e,⟨σ,I',hs.mono e,g'⟩,⟨v,rt,r'⟩,q⟩
end
section
variable {X:Cx} {pos:Pos}
def tVar (i:Nat):TE3:=fun τ G Q=>∃t,τ[i]? =some (some t)/\Q t G
def tC (t:T):TE3:=fun _ G Q=>Q t G
theorem jJc (i:Nat) {x:Str} (hN:X.N[i]? =some x:=by rfl) (hv:Vis X.env.scope x:=by first | exact Or.inl rfl | exact Or.inr (Or.inl rfl) | exact Or.inr (Or.inr rfl))
  (hd:(x == ("__debug__":Str))=false:=by decide) (hcd:(x == ("__classdict__":Str))=false:=by decide):PE3 X (.Name x pos) (tVar i):=by
 rintro pins s τ G H Q ⟨σ,I,hs,hg⟩ ⟨t,e,q⟩
 obtain⟨v,ev,rv⟩:=hs.2 i t e
 exact thn (pe_var hN hv hd hcd pins s σ H (up X.K H Q) I ⟨v,ev,t,G,.refl H,hg,rv,q⟩) fun u s' h=>jVy hs h
theorem jJj {i j}:PE3 X (.Constant (.int i) j pos) (tC (.int i)):=fun pins s τ G H Q ⟨σ,I,hs,hg⟩ q=>
 thn (pe_int pins s σ H (up X.K H Q) I ⟨.int i,G,.refl H,hg,rfl,q⟩) fun u s' h=>jVy hs h
theorem e_bl {b j}:PE3 X (.Constant (.bool b) j pos) (tC (.bl b)):=fun pins s τ G H Q ⟨σ,I,hs,hg⟩ q=>
 thn (pe_bl pins s σ H (up X.K H Q) I ⟨.bl b,G,.refl H,hg,rfl,q⟩) fun u s' h=>jVy hs h
theorem e_non {j}:PE3 X (.Constant .none j pos) (tC .non):=fun pins s τ G H Q ⟨σ,I,hs,hg⟩ q=>
 thn (pe_non pins s σ H (up X.K H Q) I ⟨.non,G,.refl H,hg,rfl,q⟩) fun u s' h=>jVy hs h
theorem e_str {x j}:PE3 X (.Constant (.str x) j pos) (tC (.str x)):=fun pins s τ G H Q ⟨σ,I,hs,hg⟩ q=>
 thn (pe_str pins s σ H (up X.K H Q) I ⟨.str x,G,.refl H,hg,rfl,q⟩) fun u s' h=>jVy hs h
end
abbrev R3:=T->T->Gp->VK3->Prop
def Op3 (X:Cx) (f:Value->Value->Sem Value) (r:R3):Prop:=
 ∀(pins:List (Addr×Obj)) (s:Shared) (τ:St3) (G:Gp) (H:Hp) (x y:T) (v u:Value) (Q:VK3),Inv3 X pins τ G H s->RU X.K H x v->RU X.K H y u->r x y G Q->wpAny (model X.prog X.w) X.A (f v u) (EP3 X pins τ H Q) X.xe s
def Un3 (X:Cx) (f:Value->Sem Value) (r:T->Gp->VK3->Prop):Prop:=
 ∀(pins:List (Addr×Obj)) (s:Shared) (τ:St3) (G:Gp) (H:Hp) (x:T) (v:Value) (Q:VK3),Inv3 X pins τ G H s->RU X.K H x v->r x G Q->wpAny (model X.prog X.w) X.A (f v) (EP3 X pins τ H Q) X.xe s
def Call3 (X:Cx) (f:Value) (r:List T->Gp->VK3->Prop):Prop:=
 ∀(pins:List (Addr×Obj)) (s:Shared) (τ:St3) (G:Gp) (H:Hp) (xs:List T) (us:List Value) (Q:VK3),Inv3 X pins τ G H s->RUs X.K H xs us->r xs G Q->wpAny (model X.prog X.w) X.A (call f us) (EP3 X pins τ H Q) X.xe s
def Mt3 (X:Cx) (id:String) (r:T->List T->Gp->VK3->Prop):Prop:=
 ∀(pins:List (Addr×Obj)) (s:Shared) (τ:St3) (G:Gp) (H:Hp) (x:T) (xs:List T) (v:Value) (us:List Value) (Q:VK3),Inv3 X pins τ G H s->RU X.K H x v->RUs X.K H xs us->r x xs G Q->
  wpAny (model X.prog X.w) X.A (call (.builtin id) (v::us)) (EP3 X pins τ H Q) X.xe s
def Ix3 (X:Cx) (r:R3):Prop:=
 ∀(value slice:Expr) (pins:List (Addr×Obj)) (s:Shared) (τ:St3) (G:Gp) (H:Hp) (x y:T) (v u:Value) (Q:VK3),Inv3 X pins τ G H s->RU X.K H x v->RU X.K H y u->r x y G Q->
  subscripted slice false v u=operate [v,u] (getItem v u)->wpAny (model X.prog X.w) X.A (subscriptTail value slice v u) (EP3 X pins τ H Q) X.xe s
def Set3 (X:Cx) (r:T->T->T->Gp->(Gp->Prop)->Prop):Prop:=
 ∀(pins:List (Addr×Obj)) (s:Shared) (τ:St3) (G:Gp) (H:Hp) (o i v:T) (ov iv u:Value) (Q:Gp->Prop),Inv3 X pins τ G H s->RU X.K H o ov->RU X.K H i iv->RU X.K H v u->r o i v G Q->
  wpAny (model X.prog X.w) X.A (setItem ov iv u) (fun _ s'=>∃G' H',Ext H H'/\Inv3 X pins τ G' H' s'/\Q G') X.xe s
def Tru3 (X:Cx) (r:T->Gp->(Bool->Gp->Prop)->Prop):Prop:=
 ∀(pins:List (Addr×Obj)) (s:Shared) (τ:St3) (G:Gp) (H:Hp) (x:T) (v:Value) (Q:Bool->Gp->Prop),Inv3 X pins τ G H s->RU X.K H x v->r x G Q->wpAny (model X.prog X.w) X.A (truthy v) (TP3 X pins τ H Q) X.xe s
section
variable {X:Cx}
theorem Op3.of {f:Value->Value->Sem Value} {r:R2} {r3:R3} (h:OpR X f r)
  (hr:∀H G x y a b Q,GRel X.K H G->Rep X.K H x a->Rep X.K H y b->r3 x y G Q->r a b H (up X.K H Q)):Op3 X f r3:=by
 rintro pins s τ G H x y v u Q ⟨σ,I,hs,hg⟩ ⟨a,ra,rv⟩ ⟨b,rb,ru⟩ q
 exact thn (h pins s σ H a b v u _ I rv ru (hr H G x y a b Q hg ra rb q)) fun u s' h=>jVy hs h
theorem Un3.of {f:Value->Sem Value} {r:V->Hp->VK->Prop} {r3:T->Gp->VK3->Prop} (h:UnR X f r)
  (hr:∀H G x a Q,GRel X.K H G->Rep X.K H x a->r3 x G Q->r a H (up X.K H Q)):Un3 X f r3:=by
 rintro pins s τ G H x v Q ⟨σ,I,hs,hg⟩ ⟨a,ra,rv⟩ q
 exact thn (h pins s σ H a v _ I rv (hr H G x a Q hg ra q)) fun u s' h=>jVy hs h
theorem Call3.of {f:Value} {r:List V->Hp->VK->Prop} {r3:List T->Gp->VK3->Prop} (h:kQl X f r)
  (hr:∀H G xs as Q,GRel X.K H G->Reps X.K H xs as->r3 xs G Q->r as H (up X.K H Q)):Call3 X f r3:=by
 rintro pins s τ G H xs us Q ⟨σ,I,hs,hg⟩ ⟨as,ra,rv⟩ q
 exact thn (h pins s σ H as us _ I rv (hr H G xs as Q hg ra q)) fun u s' h=>jVy hs h
theorem Mt3.of {id:String} {r:V->List V->Hp->VK->Prop} {r3:T->List T->Gp->VK3->Prop} (h:MtR X id r)
  (hr:∀H G x xs a as Q,GRel X.K H G->Rep X.K H x a->Reps X.K H xs as->r3 x xs G Q->r a as H (up X.K H Q)):Mt3 X id r3:=by
 rintro pins s τ G H x xs v us Q ⟨σ,I,hs,hg⟩ ⟨a,ra,rv⟩ ⟨as,ras,rvs⟩ q
 exact thn (h pins s σ H a as v us _ I rv rvs (hr H G x xs a as Q hg ra ras q)) fun u s' h=>jVy hs h
theorem Ix3.of {r:R2} {r3:R3} (h:IxR X r)
  (hr:∀H G x y a b Q,GRel X.K H G->Rep X.K H x a->Rep X.K H y b->r3 x y G Q->r a b H (up X.K H Q)):Ix3 X r3:=by
 rintro value slice pins s τ G H x y v u Q ⟨σ,I,hs,hg⟩ ⟨a,ra,rv⟩ ⟨b,rb,ru⟩ q hh
 exact thn (h value slice pins s σ H a b v u _ I rv ru (hr H G x y a b Q hg ra rb q) hh) fun u s' h=>jVy hs h
theorem Set3.of {t:TSet} {r3:T->T->T->Gp->(Gp->Prop)->Prop} (h:PSet X t)
  (hr:∀H G o i v a b c Q,GRel X.K H G->Rep X.K H o a->Rep X.K H i b->Rep X.K H v c->r3 o i v G Q->t a b c H (fun H'=>∃G',Ext H H'/\GRel X.K H' G'/\Q G')):Set3 X r3:=by
 rintro pins s τ G H o i v ov iv u Q ⟨σ,I,hs,hg⟩ ⟨a,ra,rv⟩ ⟨b,rb,ru⟩ ⟨c,rc,rw'⟩ q
 exact thn (h pins s σ H a b c ov iv u _ I rv ru rw' (hr H G o i v a b c Q hg ra rb rc q)) fun _ s' ⟨H',I',G',e,g',q'⟩=>⟨G',H',e,⟨σ,I',hs.mono e,g'⟩,q'⟩
theorem Tru3.of {r:V->Hp->(Bool->Hp->Prop)->Prop} {r3:T->Gp->(Bool->Gp->Prop)->Prop} (h:TruR X r)
  (hr:∀H G x a Q,GRel X.K H G->Rep X.K H x a->r3 x G Q->r a H (fun b H'=>H'=H/\Q b G)):Tru3 X r3:=by
 rintro pins s τ G H x v Q ⟨σ,I,hs,hg⟩ ⟨a,ra,rv⟩ q
 exact thn (h pins s σ H a v _ I rv (hr H G x a Q hg ra q)) fun b s' ⟨H',I',e,q'⟩=>by
  subst e;exact⟨G,H',.refl _,⟨σ,I',hs,hg⟩,q'⟩
theorem Op3.or {f:Value->Value->Sem Value} {r r':R3} (h:Op3 X f r) (h':Op3 X f r'):Op3 X f (fun x y G Q=>r x y G Q\/r' x y G Q):=by
 intro pins s τ G H x y v u Q I rx ry q
 rcases q with q | q
 ·exact h pins s τ G H x y v u Q I rx ry q
 ·exact h' pins s τ G H x y v u Q I rx ry q
def rI (C:Int->Int->Prop) (g:Int->Int->T):R3:=fun x y G Q=>∃i j,x= .int i/\y= .int j/\C i j/\Q (g i j) G
def rI0 (g:Int->Int->T):R3:=fun x y G Q=>∃i j,x= .int i/\y= .int j/\Q (g i j) G
theorem o_I {f:Value->Value->Sem Value} {C:Int->Int->Prop} {g:Int->Int->V} {g':Int->Int->T} (h:OpR X f (L2.rI C g)) (hg':∀K H i j,Rep K H (g' i j) (g i j)):Op3 X f (rI C g'):=
 Op3.of h fun H G x y a b Q hg ra rb ⟨i,j,ex,ey,c,q⟩=>by
  subst ex;subst ey
  cases (show a= .int i from ra);cases (show b= .int j from rb)
  exact⟨i,j,rfl,rfl,c,g' i j,G,.refl H,hg,hg' _ _ i j,q⟩
theorem o_I0 {f:Value->Value->Sem Value} {g:Int->Int->V} {g':Int->Int->T} (h:OpR X f (L2.rI0 g)) (hg':∀K H i j,Rep K H (g' i j) (g i j)):Op3 X f (rI0 g'):=
 Op3.of h fun H G x y a b Q hg ra rb ⟨i,j,ex,ey,q⟩=>by
  subst ex;subst ey
  cases (show a= .int i from ra);cases (show b= .int j from rb)
  exact⟨i,j,rfl,rfl,g' i j,G,.refl H,hg,hg' _ _ i j,q⟩
theorem o_add:Op3 X (binaryOp .Add) (rI0 fun i j=> .int (i+j)):=o_I0 op_add fun _ _ _ _=>rfl
theorem kJy:Op3 X (binaryOp .Sub) (rI0 fun i j=> .int (i-j)):=o_I0 op_sub fun _ _ _ _=>rfl
theorem o_mul:Op3 X (binaryOp .Mult) (rI CMul fun i j=> .int (i*j)):=o_I op_mul fun _ _ _ _=>rfl
theorem o_fdiv:Op3 X (binaryOp .FloorDiv) (rI CDiv fun i j=> .int (i / j)):=o_I qYy fun _ _ _ _=>rfl
theorem jXs:Op3 X (binaryOp .Mod) (rI (fun _ j=>0<j) fun i j=> .int (i%j)):=o_I op_mod fun _ _ _ _=>rfl
theorem o_pow:Op3 X (binaryOp .Pow) (rI CPow fun i j=> .int (i^j.toNat)):=o_I op_pow fun _ _ _ _=>rfl
theorem o_lt:Op3 X (compareOp .Lt) (rI0 fun i j=> .bl (decide (i<j))):=o_I0 op_lt fun _ _ _ _=>rfl
theorem o_le:Op3 X (compareOp .LtE) (rI0 fun i j=> .bl (decide (i<=j))):=o_I0 op_le fun _ _ _ _=>rfl
theorem o_gt:Op3 X (compareOp .Gt) (rI0 fun i j=> .bl (decide (j<i))):=o_I0 op_gt fun _ _ _ _=>rfl
theorem o_ge:Op3 X (compareOp .GtE) (rI0 fun i j=> .bl (decide (j<=i))):=o_I0 op_ge fun _ _ _ _=>rfl
def qZo:T->Bool
 | .non=>true
 | _=>false
end
def tOp (r:R3) (ta tb:TE3):TE3:=fun τ G Q=>ta τ G fun x G1=>tb τ G1 fun y G2=>r x y G2 Q
def tUn (r:T->Gp->VK3->Prop) (ta:TE3):TE3:=fun τ G Q=>ta τ G fun x G1=>r x G1 Q
def jJs (t:TE3):TT3:=fun τ G Q=>t τ G fun x G1=>∃c,x= .bl c/\Q c G1
def tAnd (t u:TT3):TT3:=fun τ G Q=>t τ G fun c G1=>if c=true then u τ G1 Q else Q false G1
def tOr (t u:TT3):TT3:=fun τ G Q=>t τ G fun c G1=>if c=true then Q true G1 else u τ G1 Q
def tNot (t:TT3):TT3:=fun τ G Q=>t τ G fun c G1=>Q (!c) G1
def kQn (ta tb:TE3):TE3:=fun τ G Q=>ta τ G fun x G1=>∃c,x= .bl c/\if c=true then tb τ G1 Q else Q (.bl false) G1
def tOrV (ta tb:TE3):TE3:=fun τ G Q=>ta τ G fun x G1=>∃c,x= .bl c/\if c=true then Q (.bl true) G1 else tb τ G1 Q
def qQ9 (ta:TE3):TE3:=fun τ G Q=>ta τ G fun x G1=>∃c,x= .bl c/\Q (.bl (!c)) G1
def tIf (t:TT3) (ta tb:TE3):TE3:=fun τ G Q=>t τ G fun c G1=>if c=true then ta τ G1 Q else tb τ G1 Q
noncomputable def jZg (r r':R3) (ta tb tc:TE3):TE3:=fun τ G Q=>ta τ G fun x G1=>tb τ G1 fun y G2=>r x y G2 fun z G3=>∃k,z= .bl k/\if k=true then tc τ G3 (fun w G4=>r' y w G4 Q) else Q (.bl false) G3
def tNil:TA3:=fun _ G Q=>Q [] G
def jJa (ta:TE3) (tr:TA3):TA3:=fun τ G Q=>ta τ G fun x G1=>tr τ G1 fun xs G2=>Q (x::xs) G2
def tTup (t:TA3):TE3:=fun τ G Q=>t τ G fun xs G1=>xs.length<=sizeLine/\Q (.tup xs) G1
def tLst (t:TA3):TE3:=fun τ G Q=>t τ G fun xs G1=>xs.length<=sizeLine/\∀p,G1 p=none->Q (.ref p) (gup G1 p (.lst xs))
def tCB (r:List T->Gp->VK3->Prop) (t:TA3):TE3:=fun τ G Q=>t τ G fun xs G1=>r xs G1 Q
section
variable {X:Cx} {a b c:Expr} {ta tb tc:TE3} {tA tB:TT3} {pos:Pos} {rest es:List Expr} {t:TA3}
theorem e_op {op:Operator} {r:R3} (ho:Op3 X (binaryOp op) r) (ha:PE3 X a ta) (hb:PE3 X b tb):PE3 X (.BinOp a op b pos) (tOp r ta tb):=by
 intro pins s τ G H Q I h
 exact wpAny_BinOp (bin3 ha hb I h fun v u s2 x y G2 H2 e I2 rx ry q=>thn (ho pins s2 τ G2 H2 x y v u Q I2 rx ry q) fun _ _ z=>z.ext e)
theorem e_un {op:UnaryOp} {r:T->Gp->VK3->Prop} (ho:Un3 X (unaryOp op) r) (ha:PE3 X a ta):PE3 X (.UnaryOp op a pos) (tUn r ta):=by
 intro pins s τ G H Q I h
 exact UnaryOp_ (thn (ha pins s τ G H _ I h) fun v s1 w_=>w_.el fun x G1 H1 e I1 r1 q1=>thn (ho pins s1 τ G1 H1 x v Q I1 r1 q1) fun _ _ z=>z.ext e)
theorem kUi {op:CmpOp} {r:R3} (ho:Op3 X (compareOp op) r) (ha:PE3 X a ta) (hb:PE3 X b tb) (hm:behindInMarks op b=false):PE3 X (.Compare a [op] [b] pos) (tOp r ta tb):=by
 intro pins s τ G H Q I h
 exact wpAny_Compare1 (bin3 ha hb I h fun v u s2 x y G2 H2 e I2 rx ry q=>thn (ho pins s2 τ G2 H2 x y v u Q I2 rx ry q) fun _ _ z=>z.ext e) hm
theorem jKi {op:CmpOp} {r:R3} (ho:Op3 X (compareOp op) r) (ha:PE3 X a ta) (hb:PE3 X b tb) (hm:behindInMarks op b=false):PT3 X (.Compare a [op] [b] pos) (jJs (tOp r ta tb)):=by
 intro pins s τ G H Q I h
 refine wpAny_isTrue_Compare1 (bin3 ha hb I h fun v u s2 x y G2 H2 e I2 rx ry q=>thn (ho pins s2 τ G2 H2 x y v u _ I2 rx ry q) fun w' s3 w_=>w_.el fun z G3 H3 e3 I3 r3 ⟨k,ez,q3⟩=> ?_) hm
 subst ez
 obtain⟨v',rv',ru'⟩:=r3
 cases (show v'= .bl k from rv');cases ru'
 exact lQs ⟨G3,H3,e.trans e3,I3,q3⟩
theorem jZe {e:Expr} {t:TE3} (h:PE3 X e t) (he:∀whole,isTrue e X.env whole=(do let v <-whole;standAt e.pos;holding [v] (truthy v)):=by intro _;rfl):PT3 X e (jJs t):=by
 intro pins s τ G H Q I hw
 refine isTrue_plain (thn (h pins s τ G H _ I hw) fun v s1 w_=>w_.el fun x G1 H1 e1 I1 r1 ⟨k,ez,q1⟩=> ?_) (he _)
 subst ez
 obtain⟨v',rv',ru'⟩:=r1
 cases (show v'= .bl k from rv');cases ru'
 exact lQs ⟨G1,H1,e1,I1,q1⟩
def tTru (r:T->Gp->(Bool->Gp->Prop)->Prop) (t:TE3):TT3:=fun τ G Q=>t τ G fun x G1=>r x G1 Q
theorem t_tru {e:Expr} {t:TE3} {r:T->Gp->(Bool->Gp->Prop)->Prop} (hr:Tru3 X r) (h:PE3 X e t) (he:∀whole,isTrue e X.env whole=(do let v <-whole;standAt e.pos;holding [v] (truthy v)):=by intro _;rfl):PT3 X e (tTru r t):=by
 intro pins s τ G H Q I hw
 exact isTrue_plain (thn (h pins s τ G H _ I hw) fun v s1 w_=>w_.el fun x G1 H1 e1 I1 r1 q1=>thn (hr pins s1 τ G1 H1 x v Q I1 r1 q1) fun _ _ z=>z.ext e1) (he _)
theorem kZt (ha:PT3 X a tA):PW3 X (.BoolOp .And [a] pos) tA:=by
 intro wh pins s τ G H Q I h
 refine isTrue_and (thn (ha pins s τ G H Q I h) fun c s1 e=> ?_)
 cases c with
 | true=>exact isTrue_and_nil e
 | false=>exact e
theorem kKi (ha:PT3 X a tA):PW3 X (.BoolOp .Or [a] pos) tA:=by
 intro wh pins s τ G H Q I h
 refine isTrue_or (thn (ha pins s τ G H Q I h) fun c s1 e=> ?_)
 cases c with
 | false=>exact isTrue_or_nil e
 | true=>exact e
theorem qQ5 (ha:PT3 X a tA) (hb:PW3 X (.BoolOp .And (b::rest) pos) tB):PW3 X (.BoolOp .And (a::b::rest) pos) (tAnd tA tB):=by
 intro wh pins s τ G H Q I h
 refine isTrue_and (thn (ha pins s τ G H _ I h) fun c s1 w_=>w_.el fun G1 H1 e1 I1 q1=> ?_)
 cases c with
 | true=>exact thn (hb wh pins s1 τ G1 H1 Q I1 q1) fun _ _ z=>z.ext e1
 | false=>exact⟨G1,H1,e1,I1,q1⟩
theorem w_or (ha:PT3 X a tA) (hb:PW3 X (.BoolOp .Or (b::rest) pos) tB):PW3 X (.BoolOp .Or (a::b::rest) pos) (tOr tA tB):=by
 intro wh pins s τ G H Q I h
 refine isTrue_or (thn (ha pins s τ G H _ I h) fun c s1 w_=>w_.el fun G1 H1 e1 I1 q1=> ?_)
 cases c with
 | true=>exact⟨G1,H1,e1,I1,q1⟩
 | false=>exact thn (hb wh pins s1 τ G1 H1 Q I1 q1) fun _ _ z=>z.ext e1
theorem kJq (ha:PT3 X a tA):PT3 X (.UnaryOp .Not a pos) (tNot tA):=by
 intro pins s τ G H Q I h
 exact isTrue_not (thn (ha pins s τ G H (fun c G1=>Q (!c) G1) I h) fun c s1 w_=>w_.el fun G1 H1 e1 I1 q1=>⟨G1,H1,e1,I1,q1⟩)
theorem qQb {op} {t:TE3} (h:PE3 X a t):PE3 X (.BoolOp op [a] pos) t:=fun pins s τ G H Q I hw=>BoolOp_one (h pins s τ G H Q I hw)
theorem qQc (ha:PE3 X a ta) (hb:PE3 X (.BoolOp .And (b::rest) pos) tb):PE3 X (.BoolOp .And (a::b::rest) pos) (kQn ta tb):=by
 intro pins s τ G H Q I h
 refine BoolOp_and (thn (ha pins s τ G H _ I h) fun v s1 w_=>w_.el fun x G1 H1 e1 I1 r1 ⟨k,ez,q1⟩=> ?_)
 subst ez
 obtain⟨v',rv',ru'⟩:=r1
 cases (show v'= .bl k from rv');cases ru'
 refine lQs ?_
 cases k with
 | true=>exact thn (hb pins s1 τ G1 H1 Q I1 q1) fun _ _ z=>z.ext e1
 | false=>exact⟨.bl false,G1,H1,e1,I1,⟨.bl false,rfl,rfl⟩,q1⟩
theorem e_not (ha:PE3 X a ta):PE3 X (.UnaryOp .Not a pos) (qQ9 ta):=by
 intro pins s τ G H Q I h
 refine UnaryOp_ (thn (ha pins s τ G H _ I h) fun v s1 w_=>w_.el fun x G1 H1 e1 I1 r1 ⟨k,ez,q1⟩=> ?_)
 subst ez
 obtain⟨v',rv',ru'⟩:=r1
 cases (show v'= .bl k from rv');cases ru'
 exact not_of (lQs ⟨.bl (!k),G1,H1,e1,I1,⟨.bl (!k),rfl,rfl⟩,q1⟩)
theorem qZz (hc:PT3 X c tA) (ha:PE3 X a ta) (hb:PE3 X b tb):PE3 X (.IfExp c a b pos) (tIf tA ta tb):=by
 intro pins s τ G H Q I h
 refine IfExp_ (thn (hc pins s τ G H _ I h) fun k s1 w_=>w_.el fun G1 H1 e1 I1 q1=> ?_)
 cases k with
 | true=>exact thn (ha pins s1 τ G1 H1 Q I1 q1) fun _ _ z=>z.ext e1
 | false=>exact thn (hb pins s1 τ G1 H1 Q I1 q1) fun _ _ z=>z.ext e1
theorem jJd:PA3 X [] tNil:=fun _ _ _ _ G H Q I h=>Calls.spliced_nil ⟨[],G,H,.refl H,I,⟨[],rfl,.nil⟩,h⟩
theorem jJb {e:Expr} {te:TE3} (ha:PE3 X e te) (hr:PA3 X es t) (hs:starEach (e::es) X.env=(false,eval e X.env)::starEach es X.env:=by rfl):PA3 X (e::es) (jJa te t):=by
 intro pos pins s τ G H Q I h
 rw[hs]
 show wpAny _ _ (spliced ((false,eval e X.env)::backTo pos (starEach es X.env))) _ _ s
 refine Calls.spliced_cons (thn (ha pins s τ G H _ I h) fun u s1 w_=>w_.el fun x G1 H1 e1 I1 r1 q1=> ?_)
 refine thn (hr pos pins s1 τ G1 H1 _ I1 q1) fun us s2 w_=>w_.el fun xs G2 H2 e2 I2 r_ q2=>r_.el fun vs rs rv=> ?_
 obtain⟨v,rr,rvv⟩:=r1.mono e2
 exact⟨x::xs,G2,H2,e1.trans e2,I2,⟨v::vs,⟨v,vs,rfl,rr,rs⟩,.cons rvv rv⟩,q2⟩
theorem jKn {x1} (h:PA3 X es t):PE3 X (.Tuple es x1 pos) (tTup t):=by
 intro pins s τ G H Q I hq
 refine wpAny_Tuple_spliced (thn (h pos pins s τ G H _ I hq) fun us s1 w_=>w_.el fun xs G1 H1 e1 i_ r_ ⟨z,q⟩=>i_.el fun σ I1 hs1 hg1=>r_.el fun vs rs rv=>⟨by rw[<-rv.length,<-rs.length];exact z,?_⟩)
 have hf:H1 s1.heap.objs.size=none:=I1.hok.fresh (lJh _)
 have e2:Ext H1 (upd H1 s1.heap.objs.size (.tup vs)):= .upd (.none hf)
 refine⟨.tup xs,G1,upd H1 s1.heap.objs.size (.tup vs),e1.trans e2,⟨σ,I1.laid (t':=s1.toks) (fun b u e=>lJk _ e) (lJh _) ?_,hs1.mono e2,hg1.tupNew hf⟩,⟨.ref s1.heap.objs.size,Rep.tupNew rs hf,rfl⟩,q⟩
 exact⟨by rw[<-rs.length];exact z,us,rv,⟨_,lJu _ rfl,rfl,_,rfl,rfl⟩⟩
theorem jQf (h:PA3 X es t):PE3 X (.List es pos) (tLst t):=by
 intro pins s τ G H Q I hq
 refine wpAny_List_spliced (thn (h pos pins s τ G H _ I hq) fun us s1 w_=>w_.el fun xs G1 H1 e1 i_ r_ ⟨z,q⟩=>i_.el fun σ I1 hs1 hg1=>r_.el fun vs rs rv=>⟨by rw[<-rv.length,<-rs.length];exact z,?_⟩)
 have hf:H1 s1.heap.objs.size=none:=I1.hok.fresh (lJh _)
 have e2:Ext H1 (upd H1 s1.heap.objs.size (.lst vs)):= .upd (.none hf)
 refine⟨.ref s1.heap.objs.size,gup G1 s1.heap.objs.size (.lst xs),upd H1 s1.heap.objs.size (.lst vs),e1.trans e2,⟨σ,I1.laid (t':=s1.toks) (fun b u e=>lJk _ e) (lJh _) ?_,hs1.mono e2,hg1.lstNew rs (.none hf)⟩,⟨.ref s1.heap.objs.size,rfl,rfl⟩,q _ (hg1.fresh hf)⟩
 exact⟨by rw[<-rs.length];exact z,us,0,rv,lJu _ rfl⟩
theorem e_ix {r:R3} (hr:Ix3 X r) (ha:PE3 X a ta) (hb:PE3 X b tb) (hs:uJa b):PE3 X (.Subscript a b pos) (tOp r ta tb):=by
 intro pins s τ G H Q I h
 exact Subscript_ (bin3 ha hb I h fun v u s2 x y G2 H2 e I2 rx ry q=>thn (hr a b pins s2 τ G2 H2 x y v u Q I2 rx ry q (hs _ _)) fun _ _ z=>z.ext e)
def rIx:R3:=fun x y G Q=>∃xs i t,seqT G x=some xs/\y= .int i/\atI xs i=some t/\Q t G
theorem jXy {o:Option GO} {xs:List T} (h:asL o=some xs):o=some (.lst xs):=by
 cases o with
 | none=>cases h
 | some g=>cases g with
  | lst ys=>cases h;rfl
  | dct _=>cases h
  | dck _=>cases h
  | fdc _=>cases h
  | ins _ _=>cases h
theorem jUj {K:PySem.W.Frag} {H:Hp} {G:Gp} {x:T} {a:V} {xs:List T} (hg:GRel K H G) (r:Rep K H x a) (h:seqT G x=some xs):
  ∃p vs,a= .ref p/\(SqL K H p vs\/SqT K H p vs)/\Reps K H xs vs:=by
 cases x with
 | tup ys=>cases h;obtain⟨p,vs,e,h1,h2⟩:=(show ∃p vs,a= .ref p/\H p=some (.tup vs)/\Reps K H xs vs from r);exact⟨p,vs,e,.inr (.of h1),h2⟩
 | scr ys=>cases h;obtain⟨p,vs,e,h1,h2⟩:=(show ∃p vs,a= .ref p/\FrL K H p vs/\Reps K H xs vs from r);exact⟨p,vs,e,.inl h1.sq,h2⟩
 | ref p=>
  obtain⟨vs,h1,h2⟩:=hg.lst (jXy h)
  exact⟨p,vs,r,.inl (.of h1),h2⟩
 | non=>cases h
 | bl _=>cases h
 | int _=>cases h
 | str _=>cases h
 | ty _=>cases h
theorem ix_any:Ix3 X rIx:=
 Ix3.of (ix_list.or ix_tup) fun H G x y a b Q hg ra rb ⟨xs,i,t,hx,ey,ht,q⟩=>by
  subst ey;cases (show b= .int i from rb)
  obtain⟨p,vs,e,hq,r⟩:=jUj hg ra hx
  subst e
  obtain⟨v,hv,rv⟩:=r.atI ht
  rcases hq with hq | hq
  ·exact .inl ⟨p,vs,i,v,rfl,rfl,hq,hv,t,G,.refl H,hg,rv,q⟩
  ·exact .inr ⟨p,vs,i,v,rfl,rfl,hq,hv,t,G,.refl H,hg,rv,q⟩
theorem jJm {id:String} {r:List T->Gp->VK3->Prop} {x:Str} {p:Pos} {e:Expr} (hc:Call3 X (.builtin id) r) (hg:Gl X x) (hm:X.mg x=none) (hv:bootBuiltins x=some (.builtin id)) (ha:PA3 X (e::es) t) (hn:x≠"__name__":=by decide) (hdb:(x == ("__debug__":Str))=false:=by decide)
  (he:starEach (e::es) X.env=(false,eval e X.env)::starEach es X.env:=by rfl) (hpl:(backTo pos (starEach es X.env)).any (·.1)=false:=by rfl):PE3 X (.Call (.Name x p) (e::es) [] pos) (tCB r t):=by
 intro pins s τ G H Q I h
 obtain⟨σ,I0,hs0,hg0⟩:=_root_.id I
 refine lYc (jQ6 I0 hg hm hv ?_ hn hdb)
 exact PyProof.Rows.callWith_builtin1 (thn (ha pos pins s τ G H _ I h) fun us s1 w_=>w_.el fun xs G1 H1 e1 I1 r1 q1=>thn (hc pins s1 τ G1 H1 xs us Q I1 r1 q1) fun _ _ z=>z.ext e1) he hpl
theorem jKl {T0:String} {r:List T->Gp->VK3->Prop} {x:Str} {p:Pos} {e:Expr} (hc:Call3 X (.type T0) r) (hg:Gl X x) (hm:X.mg x=none) (hv:bootBuiltins x=some (.type T0)) (ha:PA3 X (e::es) t) (hn:x≠"__name__":=by decide) (hdb:(x == ("__debug__":Str))=false:=by decide)
  (he:starEach (e::es) X.env=(false,eval e X.env)::starEach es X.env:=by rfl) (hpl:(backTo pos (starEach es X.env)).any (·.1)=false:=by rfl):PE3 X (.Call (.Name x p) (e::es) [] pos) (tCB r t):=by
 intro pins s τ G H Q I h
 obtain⟨σ,I0,hs0,hg0⟩:=_root_.id I
 refine lYc (jQ6 I0 hg hm hv ?_ hn hdb)
 exact lQa (thn (ha pos pins s τ G H _ I h) fun us s1 w_=>w_.el fun xs G1 H1 e1 I1 r1 q1=>thn (hc pins s1 τ G1 H1 xs us Q I1 r1 q1) fun _ _ z=>z.ext e1) he hpl
theorem jU3 {K:PySem.W.Frag} {H:Hp} {x:T} {vs:List V} (h:Reps K H [x] vs):∃v,vs=[v]/\Rep K H x v:=by
 obtain⟨v,ws,rfl,r,e⟩:=h;cases e;exact⟨v,rfl,r⟩
theorem kQq {K:PySem.W.Frag} {H:Hp} {x y:T} {vs:List V} (h:Reps K H [x,y] vs):∃v w,vs=[v,w]/\Rep K H x v/\Rep K H y w:=by
 obtain⟨v,ws,rfl,r,w,ws2,rfl,r2,e⟩:=h;cases e;exact⟨v,w,rfl,r,r2⟩
def rLen:List T->Gp->VK3->Prop:=fun xs G Q=>∃x ys,xs=[x]/\seqT G x=some ys/\Q (.int ys.length) G
theorem jKq:Call3 X (.builtin "len") rLen:=
 Call3.of kUo fun H G xs as Q hg ra ⟨x,ys,e,hx,q⟩=>by
  subst e
  obtain⟨v,rfl,rv⟩:=jU3 ra
  obtain⟨p,vs,rfl,hq,r⟩:=jUj hg rv hx
  exact⟨p,vs,rfl,hq,.int ys.length,G,.refl H,hg,by rw[r.length];rfl,q⟩
def rAbs:List T->Gp->VK3->Prop:=fun xs G Q=>∃i,xs=[.int i]/\Q (.int (if i<0 then -i else i)) G
theorem c_abs:Call3 X (.builtin "abs") rAbs:=
 Call3.of qV5 fun H G xs as Q hg ra ⟨i,e,q⟩=>by
  subst e
  obtain⟨v,rfl,rv⟩:=jU3 ra
  cases (show v= .int i from rv)
  exact⟨i,rfl,.int _,G,.refl H,hg,rfl,q⟩
def rMax:List T->Gp->VK3->Prop:=fun xs G Q=>∃i j,xs=[.int i,.int j]/\Q (.int (if j>i then j else i)) G
theorem c_max (hc:X.calm=true):Call3 X (.builtin "max") rMax:=
 Call3.of (qQn hc) fun H G xs as Q hg ra ⟨i,j,e,q⟩=>by
  subst e
  obtain⟨v,w,rfl,rv,rw'⟩:=kQq ra
  cases (show v= .int i from rv);cases (show w= .int j from rw')
  exact⟨i,j,rfl,.int _,G,.refl H,hg,rfl,q⟩
def kQv:List T->Gp->VK3->Prop:=fun xs G Q=>∃k,xs=[.bl k]/\Q (.int (if k then 1 else 0)) G
theorem qZ8:Call3 X (.type "int") kQv:=
 Call3.of qQo fun H G xs as Q hg ra ⟨k,e,q⟩=>by
  subst e
  obtain⟨v,rfl,rv⟩:=jU3 ra
  cases (show v= .bl k from rv)
  exact .inr ⟨k,rfl,.int _,G,.refl H,hg,rfl,q⟩
def kVd:List T->Gp->VK3->Prop:=fun xs G Q=>∃i j,xs=[.int i,.int j]/\CDiv i j/\Q (.tup [.int (i / j),.int (i%j)]) G
theorem qV6:Call3 X (.builtin "divmod") kVd:=
 Call3.of kV3 fun H G xs as Q hg ra ⟨i,j,e,c,q⟩=>by
  subst e
  obtain⟨v,w,rfl,rv,rw'⟩:=kQq ra
  cases (show v= .int i from rv);cases (show w= .int j from rw')
  exact⟨i,j,rfl,c,fun p hp=>⟨.tup [.int (i / j),.int (i%j)],G,.upd (.none hp),hg.tupNew hp,Rep.tupNew ⟨_,_,rfl,rfl,_,_,rfl,rfl,rfl⟩ hp,q⟩⟩
def jZt:List T->Gp->VK3->Prop:=fun xs G Q=>∃x ys,xs=[x]/\seqT G x=some ys/\∀p,G p=none->Q (.ref p) (gup G p (.lst ys))
theorem c_list:Call3 X (.type "list") jZt:=
 Call3.of kUn fun H G xs as Q hg ra ⟨x,ys,e,hx,q⟩=>by
  subst e
  obtain⟨v,rfl,rv⟩:=jU3 ra
  obtain⟨p,vs,rfl,hq,r⟩:=jUj hg rv hx
  exact⟨p,vs,rfl,hq,fun l hl=>⟨.ref l,_,.upd (.none hl),hg.lstNew r (.none hl),rfl,q l (hg.fresh hl)⟩⟩
def jKj:List T->Gp->VK3->Prop:=fun xs G Q=>∃x ys,xs=[x]/\seqT G x=some ys/\Q (.tup ys) G
theorem jQu:Call3 X (.type "tuple") jKj:=
 Call3.of kQh fun H G xs as Q hg ra ⟨x,ys,e,hx,q⟩=>by
  subst e
  obtain⟨v,rfl,rv⟩:=jU3 ra
  obtain⟨p,vs,rfl,hq,r⟩:=jUj hg rv hx
  cases x with
  | tup zs=>
   cases hx
   obtain⟨p',vs',e',h1,h2⟩:=(show ∃p' vs',V.ref p= .ref p'/\H p'=some (.tup vs')/\Reps X.K H ys vs' from rv)
   cases e'
   exact⟨p,vs',rfl,.inr ⟨.of h1,.tup ys,G,.refl H,hg,⟨p,vs',rfl,h1,h2⟩,q⟩⟩
  | scr zs=>
   cases hx
   obtain⟨p',vs',e',h1,h2⟩:=(show ∃p' vs',V.ref p= .ref p'/\FrL X.K H p' vs'/\Reps X.K H ys vs' from rv)
   cases e'
   exact⟨p,vs',rfl,.inl ⟨h1.sq,fun l hl=>⟨.tup ys,G,.upd (.none hl),hg.tupNew hl,Rep.tupNew h2 hl,q⟩⟩⟩
  | ref p'=>
   cases (show V.ref p= .ref p' from rv)
   obtain⟨vs',h1,h2⟩:=hg.lst (jXy hx)
   exact⟨p,vs',rfl,.inl ⟨.of h1,fun l hl=>⟨.tup ys,G,.upd (.none hl),hg.tupNew hl,Rep.tupNew h2 hl,q⟩⟩⟩
  | non=>cases hx
  | bl _=>cases hx
  | int _=>cases hx
  | str _=>cases hx
  | ty _=>cases hx
noncomputable def rCat:R3:=fun x y G Q=>∃p q xs ys,x= .ref p/\y= .ref q/\G p=some (.lst xs)/\G q=some (.lst ys)/\xs.length+ys.length<=sizeLine/\∀l,G l=none->Q (.ref l) (gup G l (.lst (xs++ys)))
noncomputable def rRep:R3:=fun x y G Q=>∃p xs n,x= .ref p/\y= .int n/\G p=some (.lst xs)/\n.toNat * xs.length<=sizeLine/\n<2^62/\ -(2^62)<n/\∀l,G l=none->Q (.ref l) (gup G l (.lst (List.replicate n.toNat xs).flatten))
def tyT (G:Gp) (T0:String) (x:T):Prop:=match x with
 | .str _=>T0="str"
 | .int _=>T0="int"
 | .ref p=>(T0="list"/\∃xs,G p=some (.lst xs))\/(T0="dict"/\((∃kvs,G p=some (.dck kvs))\/∃kvs,G p=some (.dct kvs)))
 | _=>False
theorem tyT.of {K:PySem.W.Frag} {H:Hp} {G:Gp} {T0:String} {x:T} {a:V} (hg:GRel K H G) (r:Rep K H x a) (h:tyT G T0 x):tyV K T0 a H:=by
 cases x with
 | str z=>cases (show a= .str z from r);exact h
 | int z=>cases (show a= .int z from r);exact h
 | ref p=>
  cases (show a= .ref p from r)
  rcases h with ⟨e,xs,h⟩ | ⟨e,h⟩
  ·obtain⟨vs,h1,_⟩:=hg.lst h;exact .inl ⟨e,vs,.of h1⟩
  ·refine .inr (.inr (.inl ⟨e,?_⟩))
   rcases h with ⟨kvs,h⟩ | ⟨kvs,h⟩
   ·obtain⟨ws,h1,_⟩:=hg p _ h;exact .inl ⟨ws,h1⟩
   ·obtain⟨ws,h1,_⟩:=hg p _ h;exact .inr ⟨ws,h1⟩
 | non=>exact False.elim h
 | bl _=>exact False.elim h
 | ty _=>exact False.elim h
 | tup _=>exact False.elim h
 | scr _=>exact False.elim h
def tBM (T0:String) (r:T->List T->Gp->VK3->Prop) (to:TE3) (t:TA3):TE3:=fun τ G Q=>to τ G fun x G1=>tyT G1 T0 x/\t τ G1 fun xs G2=>r x xs G2 Q
theorem e_bm {T0 id:String} {r:T->List T->Gp->VK3->Prop} {o e:Expr} {name:Str} {apos cpos:Pos} {to:TE3} (pa:PlainAttrs T0) (slot:Slot T0 name id) (hty:typeOf (.builtin id)=pure (.type "method_descriptor")) (hm:Mt3 X id r) (ho:PE3 X o to) (ha:PA3 X (e::es) t)
  (hbase:attributeBase o name X.env (eval o X.env)=eval o X.env:=by rfl)
  (hfew:((backTo cpos (starEach (e::es) X.env)).all (fun x=> !x.1)&&(backToKw cpos (keywordEach [] X.env)).all (fun x=>x.1.isSome)
   &&decide ((e::es).length+([]:List Keyword).length+(if ([]:List Keyword).isEmpty then 0 else 1)<30))=true:=by rfl)
  (hline:(apos.endLine == cpos.line)=true:=by rfl) (hs:starEach (e::es) X.env=(false,eval e X.env)::starEach es X.env:=by rfl) (hplain:(backTo cpos (starEach es X.env)).any (·.1)=false:=by rfl):
  PE3 X (.Call (.Attribute o name apos) (e::es) [] cpos) (tBM T0 r to t):=by
 intro pins s τ G H Q I h
 refine wpAny_Call_method_late hbase hfew hline rfl (thn (ho pins s τ G H _ I h) fun v s1 w_=>w_.el fun x G1 H1 e1 I1 r1 ⟨ty,q1⟩=> ?_)
 obtain⟨σ,I0,hs0,hg0⟩:=_root_.id I1
 obtain⟨a0,ra0,rv0⟩:=_root_.id r1
 obtain⟨h1,h2⟩:=tyV_is I0 rv0 (tyT.of hg0 ra0 ty)
 refine⟨T0,id,pa,slot,hty,h1,h2,?_⟩
 have hA:=ha cpos pins s1 τ G1 H1 _ I1 q1
 rw[hs] at hA ⊢
 refine Calls.callWith_builtin (by show (false||(backTo cpos (starEach es X.env)).any (·.1))=false;rw[hplain]<;>rfl) (Calls.evalArgs_plain ?_)
 exact thn hA fun us s2 w_=>w_.el fun vs G2 H2 e2 I2 r2 q2=>thn (hm pins s2 τ G2 H2 x vs v us Q I2 (r1.mono e2) r2 q2) fun _ _ z=>(z.ext e2).ext e1
def jKv:T->List T->Gp->VK3->Prop:=fun x xs G Q=>∃p ys y,x= .ref p/\xs=[y]/\G p=some (.lst ys)/\ys.length<sizeLine/\Q .non (gup G p (.lst (ys++[y])))
def qUv:T->T->T->Gp->(Gp->Prop)->Prop:=fun o i v G Q=>∃p xs k j,o= .ref p/\i= .int k/\G p=some (.lst xs)/\ixN xs.length k=some j/\Q (gup G p (.lst (xs.set j v)))
theorem s_list:Set3 X qUv:=
 Set3.of kKp fun H G o i v a b c Q hg ra rb rc ⟨p,xs,k,j,eo,ei,hp,hj,q⟩=>by
  subst eo;subst ei
  cases (show a= .ref p from ra);cases (show b= .int k from rb)
  obtain⟨vs,h1,h2⟩:=hg.lst hp
  exact⟨p,vs,k,j,rfl,rfl,h1,by rw[<-h2.length];exact hj,_,.upd (.lst h1),hg.lstNew (h2.set rc j) (.lst h1),q⟩
end
section
variable {X:Cx}
theorem o_cat:Op3 X (binaryOp .Add) rCat:=
 Op3.of op_cat fun H G x y a b Q hg ra rb ⟨p,q,xs,ys,ex,ey,hp,hq,hz,h⟩=>by
  subst ex;subst ey
  cases (show a= .ref p from ra);cases (show b= .ref q from rb)
  obtain⟨vs,h1,h2⟩:=hg.lst hp
  obtain⟨ws,h3,h4⟩:=hg.lst hq
  exact⟨p,q,vs,ws,rfl,rfl,h1,h3,by rw[<-h2.length,<-h4.length];exact hz,fun l hl=>⟨.ref l,_,.upd (.none hl),hg.lstNew (h2.append h4) (.none hl),rfl,h l (hg.fresh hl)⟩⟩
theorem o_rep:Op3 X (binaryOp .Mult) rRep:=
 Op3.of op_rep fun H G x y a b Q hg ra rb ⟨p,xs,n,ex,ey,hp,hz,h1,h2,h⟩=>by
  subst ex;subst ey
  cases (show a= .ref p from ra);cases (show b= .int n from rb)
  obtain⟨vs,h3,h4⟩:=hg.lst hp
  refine⟨p,n,vs,rfl,rfl,h3,by omega,by omega,by rw[<-h4.length,lXb];exact hz,fun l hl=>⟨.ref l,_,.upd (.none hl),hg.lstNew (h4.rep _) (.none hl),rfl,h l (hg.fresh hl)⟩⟩
theorem jK5:Mt3 X "list.append" jKv:=
 Mt3.of qKe fun H G x xs a as Q hg ra ras ⟨p,ys,y,ex,exs,hp,hz,q⟩=>by
  subst ex;subst exs
  cases (show a= .ref p from ra)
  obtain⟨v,rfl,rv⟩:=jU3 ras
  obtain⟨vs,h1,h2⟩:=hg.lst hp
  exact⟨p,vs,v,rfl,rfl,h1,by rw[<-h2.length];exact hz,.non,_,.upd (.lst h1),hg.lstNew (h2.append (.one rv)) (.lst h1),rfl,q⟩
end
def jJ8:TS3:=fun D τ G=>D.nx τ G
def tSeq (t u:TS3):TS3:=fun D τ G=>t {D with nx:=u D} τ G
def jUq (te:TE3):TS3:=fun D τ G=>te τ G fun _ G1=>D.nx τ G1
def tRet (te:TE3):TS3:=fun D τ G=>te τ G D.rt
def tRetN:TS3:=fun D _ G=>D.rt .non G
def tIfS (c:TT3) (t u:TS3):TS3:=fun D τ G=>c τ G fun b G1=>if b=true then t D τ G1 else u D τ G1
section
variable {X:Cx} {st:Stmt} {rest:List Stmt} {t u:TS3} {e:Expr} {te:TE3} {pos:Pos}
theorem jJ9:PSs3 X [] jJ8:=fun _ _ τ G H _ I h=>wpAny_execs_nil ⟨τ,G,H,.refl H,I,h⟩
theorem jJe (h1:PS3 X st t) (h2:PSs3 X rest u):PSs3 X (st::rest) (tSeq t u):=by
 intro pins s τ G H D I h
 refine wpAny_execs_cons (thn (h1 pins s τ G H {D with nx:=u D} I h) fun f s1 q=> ?_)
 cases f with
 | next=>
  obtain⟨τ',G',H',e',I',q⟩:=q
  exact thn (h2 pins s1 τ' G' H' D I' q) fun _ _ z=>z.ext e'
 | ret v=>exact q
 | brk=>exact q
 | cont=>exact q
theorem jJk (h1:PS3 X st t):PSs3 X [st] t:=by
 intro pins s τ G H D I h
 refine wpAny_execs_cons (thn (h1 pins s τ G H D I h) fun f s1 q=> ?_)
 cases f with
 | next=>exact wpAny_execs_nil q
 | ret v=>exact q
 | brk=>exact q
 | cont=>exact q
theorem jUk (he:PE3 X e te) (hs:swapsWith e none pos.line X.env=pure false:=by rfl):PS3 X (.Expr e pos) (jUq te):=by
 intro pins s τ G H D I h
 obtain⟨σ,I0,hs0,hg0⟩:=id I
 exact wpAny_Expr_any (thn (he pins s τ G H _ I h) fun v s1 w_=>w_.el fun x G1 H1 e1 I1 r1 q1=>⟨τ,G1,H1,e1,I1,q1⟩) I0.quiet hs
theorem jJ5 (he:PE3 X e te):PS3 X (.Return (some e) pos) (tRet te):=by
 intro pins s τ G H D I h
 exact wpAny_Return_some (thn (he pins s τ G H _ I h) fun v s1 w_=>w_.el fun x G1 H1 e1 I1 r1 q1=>⟨x,τ,G1,H1,e1,I1,r1,q1⟩)
theorem s_if {c:Expr} {a b:List Stmt} {tc:TT3} (hc:PT3 X c tc) (ha:PSs3 X a t) (hb:PSs3 X b u):PS3 X (.If c a b pos) (tIfS tc t u):=by
 intro pins s τ G H D I h
 refine wpAny_If (thn (hc pins s τ G H _ I h) fun d s1 w_=>w_.el fun G1 H1 e1 I1 q1=> ?_)
 cases d with
 | true=>exact thn (ha pins s1 τ G1 H1 D I1 q1) fun _ _ z=>z.ext e1
 | false=>exact thn (hb pins s1 τ G1 H1 D I1 q1) fun _ _ z=>z.ext e1
end
abbrev TG3:=T->St3->Gp->(St3->Gp->Prop)->Prop
abbrev TGs3:=List T->St3->Gp->(St3->Gp->Prop)->Prop
def GP3 (X:Cx) (pins:List (Addr×Obj)) (H:Hp) (Q:St3->Gp->Prop) (s':Shared):Prop:=∃ τ' G' H',Ext H H'/\Inv3 X pins τ' G' H' s'/\Q τ' G'
def PG3 (X:Cx) (target:Expr) (t:TG3):Prop:=
 ∀(pins:List (Addr×Obj)) (s:Shared) (τ:St3) (G:Gp) (H:Hp) (v:T) (u:Value) (Q:St3->Gp->Prop),Inv3 X pins τ G H s->RU X.K H v u->t v τ G Q->
  wpAny (model X.prog X.w) X.A (assign target X.env u) (fun _ s'=>GP3 X pins H Q s') X.xe s
def PGs3 (X:Cx) (ts:List Expr) (t:TGs3):Prop:=
 ∀(pins:List (Addr×Obj)) (s:Shared) (τ:St3) (G:Gp) (H:Hp) (vs:List T) (us:List Value) (Q:St3->Gp->Prop),Inv3 X pins τ G H s->RUs X.K H vs us->t vs τ G Q->
  wpAny (model X.prog X.w) X.A (assignInOrder ((assignEach ts X.env).map (·.2)) us) (fun _ s'=>GP3 X pins H Q s') X.xe s
def jJh (i:Nat):TG3:=fun v τ G Q=>Q (τ.set i (some v)) G
def gNil:TGs3:=fun vs τ G Q=>vs=[]/\Q τ G
def jKd (t:TG3) (u:TGs3):TGs3:=fun vs τ G Q=>∃v r,vs=v::r/\t v τ G fun τ' G'=>u r τ' G' Q
def gTup (n:Nat) (t:TGs3):TG3:=fun v τ G Q=>∃xs,v= .tup xs/\xs.length=n/\t xs τ G Q
def gSub (to ti:TE3) (t:T->T->T->Gp->(Gp->Prop)->Prop):TG3:=fun v τ G Q=>to τ G fun o G1=>ti τ G1 fun i G2=>t o i v G2 fun G3=>Q τ G3
def tAsg (te:TE3) (g:TG3):TS3:=fun D τ G=>te τ G fun x G1=>g x τ G1 D.nx
section
variable {X:Cx} {pos:Pos}
theorem jJo {i:Nat} {x:Str} (hN:X.N.Nodup) (hi:X.N[i]? =some x:=by rfl) (hx:Loc X.env.scope x:=by first | exact Or.inl rfl | exact Or.inr rfl) (hf:X.fn x=true\/X.env.scope.names.lookup x=some .local:=by first | exact .inl rfl | exact .inr rfl):PG3 X (.Name x pos) (jJh i):=by
 rintro pins s τ G H v u Q ⟨σ,I,hs,hg⟩ ⟨a,ra,rv⟩ h
 exact wpAny_assign_Name (jXg I hN hi hx rv (fun s' I'=>⟨_,G,H,.refl H,⟨_,I',hs.set i ra,hg⟩,h⟩) hf)
theorem jQn:PGs3 X [] gNil:=by
 rintro pins s τ G H vs us Q I ⟨as,r,rv⟩ ⟨e,h⟩
 subst e
 cases (show as=[] from r)
 cases rv
 exact assignInOrder_nil ⟨τ,G,H,.refl H,I,h⟩
theorem jJz {e:Expr} {es:List Expr} {t:TG3} {u:TGs3} (h1:PG3 X e t) (h2:PGs3 X es u)
  (hs:(assignEach (e::es) X.env).map (·.2)=assign e X.env::(assignEach es X.env).map (·.2):=by rfl):PGs3 X (e::es) (jKd t u):=by
 rintro pins s τ G H vs us Q I ⟨as,r,rv⟩ ⟨v,vr,e1,h⟩
 subst e1
 obtain⟨a,ar,rfl,ra,rar⟩:=r
 cases rv with
 | cons q qq=>
  rw[hs]
  refine assignInOrder_cons (thn (h1 pins s τ G H v _ _ I ⟨a,ra,q⟩ h) fun _ s1 ⟨τ1,G1,H1,e1,I1,q1⟩=> ?_)
  exact thn (h2 pins s1 τ1 G1 H1 vr _ Q I1 ⟨ar,Reps.mono e1 _ rar,qq⟩ q1) fun _ s2 ⟨τ2,G2,H2,e2,z⟩=>⟨τ2,G2,H2,e1.trans e2,z⟩
theorem jVl {es:List Expr} {k:Nat} {t:TGs3} {n:Nat} (hc:X.calm=true) (h:PGs3 X es t)
  (hn:(assignEach es X.env).length=n:=by rfl) (hst:(assignEach es X.env).findIdx? (·.1)=none:=by rfl):PG3 X (.Tuple es k pos) (gTup n t):=by
 rintro pins s τ G H v u Q ⟨σ,I,hs,hg⟩ ⟨a,ra,rv⟩ ⟨xs,ev,hl,hw⟩
 subst ev
 obtain⟨p,vs,e1,h1,r1⟩:=(show ∃p vs,a= .ref p/\H p=some (.tup vs)/\Reps X.K H xs vs from ra)
 subst e1
 cases rv
 obtain⟨its,rv,ht,hz⟩:=I.tuple (.of h1)
 refine assign_Tuple_tuple (I.ok.hd hc) ht (by simp[hn,<-hl,r1.length,rv.length]) hst fun h' hx=> ?_
 have I1:Inv X pins σ H {s with heap:=h'}:=I.kept (t':=s.toks) fun b o e=>hx b o (lJs (lJi e)) e
 exact h pins _ τ G H xs _ Q ⟨σ,I1,hs,hg⟩ ⟨vs,r1,by simpa using rv⟩ hw
theorem jXb {o i:Expr} {to ti:TE3} {t:T->T->T->Gp->(Gp->Prop)->Prop} (ho:PE3 X o to) (hi:PE3 X i ti) (hs:Set3 X t)
  (ha:∀v,assign (.Subscript o i pos) X.env v=(do
   let ov <-holding [v] (eval o X.env)
   let iv <-holding [v,ov] (eval i X.env)
   standAt pos
   holding [v,ov,iv] (setItem ov iv v)
   release [v,ov,iv] []):=by intro _;rfl):PG3 X (.Subscript o i pos) (gSub to ti t):=by
 intro pins s τ G H v u Q I r h
 rw[ha]
 refine lJa (lKy (thn (ho pins s τ G H _ I h) fun ov s1 w_=>w_.el fun x G1 H1 e1 I1 r1 q1=> ?_))
 refine lJa (lKy (thn (hi pins s1 τ G1 H1 _ I1 q1) fun iv s2 w_=>w_.el fun y G2 H2 e2 I2 r2 q2=> ?_))
 refine lJa (wpAny_standAt (lJa (lKy (thn (hs pins s2 τ G2 H2 x y v ov iv u _ I2 (r1.mono e2) r2 (r.mono (e1.trans e2)) q2) fun _ s3 ⟨G3,H3,e3,I3,q3⟩=> ?_))))
 exact wpAny_release ⟨τ,G3,H3,(e1.trans e2).trans e3,I3,q3⟩
theorem jVx {tg e:Expr} {te:TE3} {g:TG3} (he:PE3 X e te) (hg:PG3 X tg g) (hs:swapsWithSole [tg] e pos.line X.env=pure false:=by rfl) (hw:swappedStores [tg] e X.env=pure none:=by rfl)
  (h1:(assignEach [tg] X.env).map (·.2)=[assign tg X.env]:=by rfl):PS3 X (.Assign [tg] e pos) (tAsg te g):=by
 intro pins s τ G H D I h
 refine wpAny_Assign_stores (thn (he pins s τ G H _ I h) fun v s1 w_=>w_.el fun x G1 H1 e1 I1 r1 q1=> ?_) hs hw
 rw[h1]
 exact thn (hg pins s1 τ G1 H1 x v _ I1 r1 q1) fun _ s2 ⟨τ2,G2,H2,e2,q⟩=>⟨τ2,G2,H2,e1.trans e2,q⟩
theorem jKa {i:Nat} {x:Str} {e:Expr} {te:TE3} {pos':Pos} (hN:X.N.Nodup) (he:PE3 X e te) (hi:X.N[i]? =some x:=by rfl) (hx:Loc X.env.scope x:=by first | exact Or.inl rfl | exact Or.inr rfl)
  (hs:swapsWith e (some (.Name x pos')) pos.line X.env=pure false:=by rfl) (hf:X.fn x=true\/X.env.scope.names.lookup x=some .local:=by first | exact .inl rfl | exact .inr rfl):
  PS3 X (.Assign [.Name x pos'] e pos) (tAsg te (jJh i)):=by
 intro pins s τ G H D I h
 refine wpAny_Assign_Name (thn (he pins s τ G H _ I h) fun v s1 w_=>w_.el fun y G1 H1 e1 i_ r_ q1=>i_.el fun σ I1 hs1 hg1=>r_.el fun a ra rv=> ?_) hs
 exact jXg I1 hN hi hx rv (fun s2 I2=>⟨_,G1,H1,e1,⟨_,I2,hs1.set i ra,hg1⟩,q1⟩) hf
def tPar (i j:Nat) (ta:TA3):TS3:=fun D τ G=>ta τ G fun vs G1=>∃v w,vs=[v,w]/\D.nx ((τ.set i (some v)).set j (some w)) G1
theorem s_par {i j:Nat} {x y:Str} {a b:Expr} {ta:TA3} {px py pt:Pos} {kt k2 pt2} (hc:X.calm=true) (hN:X.N.Nodup) (hij:i≠j) (ha:PA3 X [a,b] ta) (hi:X.N[i]? =some x:=by rfl) (hj:X.N[j]? =some y:=by rfl)
  (hx:X.env.scope.names.lookup x=some .local:=by rfl) (hy:X.env.scope.names.lookup y=some .local:=by rfl)
  (hw:swappedStores [.Tuple [.Name x px,.Name y py] kt pt] (.Tuple [a,b] k2 pt2) X.env=pure (some [x,y]):=by rfl)
  (hs:swapsWithSole [.Tuple [.Name x px,.Name y py] kt pt] (.Tuple [a,b] k2 pt2) pos.line X.env=pure false:=by rfl):
  PS3 X (.Assign [.Tuple [.Name x px,.Name y py] kt pt] (.Tuple [a,b] k2 pt2) pos) (tPar i j ta):=by
 intro pins s τ G H D I h
 rw[exec_Assign_arm]
 refine lJa (wpAny_standAt ?_)
 rw[hs]
 refine lJa (lJd ?_)
 rw[lJb (by decide)]
 refine lJa (Tuple_ (thn (ha _ pins s τ G H _ I h) fun us s1 w_=>w_.el fun vs G1 H1 e1 i_ r_ q1=>i_.el fun σ I1 hs1 hg1=>r_.el fun as ras rvs=> ?_))
 obtain⟨v,w,ev,q1⟩:=q1
 subst ev
 obtain⟨a1,a2,rfl,ra1,ra2⟩:=kQq ras
 obtain⟨u1,u2,rfl,rv,rw'⟩:=rvs.two
 refine lKe ?_ (by show 2<=sizeLine;decide)
 have I2:Inv X pins σ H1 {s1 with heap:=s1.heap.push {cls:= .type "tuple",data:= .seq [u1,u2].toArray} }:=I1.kept (t':=s1.toks) fun b o e=>lJk _ e
 rw[hw]
 refine lJa (lJd ?_)
 show wpAny (model X.prog X.w) X.A (do rule "assign.swapped-stores"; let items <-unpackItems (.ref s1.heap.objs.size) 2 none;assignInOrder [fun v=>bindName X.env y v,fun v=>bindName X.env x v] items.reverse;pure Flow.next) _ _ _
 refine lJa (lVj (lJa (unpackItems_tuple (items:= #[u1,u2]) (I1.ok.hd hc) (IsTup.new s1.heap _) fun h' hx'=> ?_)))
 have I3:=I2.kept (h':=h') (t':=s1.toks) fun b o e=>hx' b o (lJs (lJi e)) e
 show wpAny _ _ (assignInOrder [fun v=>bindName X.env y v,fun v=>bindName X.env x v] [u2,u1] >>= fun _=>pure Flow.next) _ _ _
 refine lJa (assignInOrder_cons (wpAny_bindName (jXg I3 hN hj (.inl hy) rw' (fun s2 I4=> ?_) (.inr hy))))
 refine assignInOrder_cons (wpAny_bindName (jXg I4 hN hi (.inl hx) rv (fun s3 I5=>assignInOrder_nil (lJd ?_)) (.inr hx)))
 rw[List.set_comm _ _ (Ne.symm hij)] at I5
 exact⟨_,G1,H1,e1,⟨_,I5,(hs1.set i ra1).set j ra2,hg1⟩,q1⟩
noncomputable def jXf (c:TT3) (tb:TS3):TS3:=fun D τ G=>∃W:Nat->St3->Gp->Prop,(∃m,W m τ G)/\∀m τ G,W m τ G->
 c τ G fun b G1=>if b=true then ∃N:St3->Gp->Prop,(∀ τ' G',N τ' G'->∃m',m'<m/\W m' τ' G')/\tb {D with nx:=N,ct:=N,bk:=D.nx} τ G1 else D.nx τ G1
theorem kU1 {c:Expr} {body:List Stmt} {tc:TT3} {tb:TS3} (hp:PassesOwn (model X.prog X.w) X.A X.env X.xe) (hc:PT3 X c tc) (hb:PSs3 X body tb):PS3 X (.While c body [] pos) (jXf tc tb):=by
 intro pins s τ G H D I h
 obtain⟨W,⟨m0,w0⟩,turn⟩:=h
 refine wpAny_While (codeAny_whileLoop (fun n s'=>∃ τ' G' H',Ext H H'/\Inv3 X pins τ' G' H' s'/\W n τ' G') ?_ m0 ⟨τ,G,H,.refl H,I,w0⟩)
 rintro n s1 ⟨τ1,G1,H1,e1,I1,w1⟩
 refine lV2 hp (thn (hc pins s1 τ1 G1 H1 _ I1 (turn n τ1 G1 w1)) fun b s2 w_=>w_.el fun G2 H2 e2 I2 q2=> ?_)
 cases b with
 | true=>
  obtain⟨N,hN,q2⟩:=q2
  rw[lJc rfl]
  refine lV2 hp (thn (hb pins s2 τ1 G2 H2 _ I2 q2) fun f s3 q3=> ?_)
  cases f with
  | next=>
   obtain⟨τ3,G3,H3,e3,I3,n3⟩:=q3
   obtain⟨m',hm,w3⟩:=hN τ3 G3 n3
   exact⟨m',hm,τ3,G3,H3,(e1.trans e2).trans e3,I3,w3⟩
  | cont=>
   obtain⟨τ3,G3,H3,e3,I3,n3⟩:=q3
   obtain⟨m',hm,w3⟩:=hN τ3 G3 n3
   exact⟨m',hm,τ3,G3,H3,(e1.trans e2).trans e3,I3,w3⟩
  | brk=>exact SP3.ext (f:= .next) (e1.trans e2) q3
  | ret v=>exact SP3.ext (f:= .ret v) (e1.trans e2) q3
 | false=>
  rw[lJb lJm]
  exact wpAny_execs_nil ⟨τ1,G2,H2,e1.trans e2,I2,q2⟩
end
def uJf (K:PySem.W.Frag) (H0:Hp) (J:It) (xs:List T) (stay:Gp->Prop):Prop:=
 ∀i H G,Ext H0 H->GRel K H G->stay G->(i<xs.length->J.go i H)/\(xs.length<=i->J.stop i H)/\(i<xs.length->∀x H',J.yld i H x H'->Ext H H'/\GRel K H' G/\∃t,xs[i]? =some t/\Rep K H' t x)
abbrev TI3:=St3->Gp->(List T->(Gp->Prop)->Gp->Prop)->Prop
def PIE3 (X:Cx) (pins:List (Addr×Obj)) (τ:St3) (H:Hp) (tg:Expr) (R:List T->(Gp->Prop)->Gp->Prop) (itv:Value) (s2:Shared):Prop:=
 ∃(it:Addr) (fp:List Addr) (tn:Nat->Heap->Prop) (J:It) (xs:List T) (stay:Gp->Prop) (G':Gp) (H':Hp),itv= .ref it/\Ext H H'/\Inv3 X pins τ G' H' s2/\Turn X.prog X.w X.K tg J fp it tn/\tn 0 s2.heap/\(∀b∈fp,FpOk X pins H' b)/\
  uJf X.K H' J xs stay/\R xs stay G'
def PI3 (X:Cx) (tg iter:Expr) (wi:TI3):Prop:=
 ∀(pins:List (Addr×Obj)) (s:Shared) (τ:St3) (G:Gp) (H:Hp) (R:List T->(Gp->Prop)->Gp->Prop),Inv3 X pins τ G H s->wi τ G R->
  wpAny (model X.prog X.w) X.A (eval iter X.env) (fun v s1=>wpAny (model X.prog X.w) X.A (pyIter v) (PIE3 X pins τ H tg R) X.xe s1) X.xe s
noncomputable def tFor (wi:TI3) (g:TG3) (tb:TS3):TS3:=fun D τ G=>wi τ G fun xs stay G1=>∃P:Nat->St3->Gp->Prop,P 0 τ G1/\(∀i τ G,i<=xs.length->P i τ G->stay G)/\
 (∀i x τ G,xs[i]? =some x->P i τ G->g x τ G fun τ2 G2=>tb {D with nx:=P (i+1),ct:=P (i+1),bk:=D.nx} τ2 G2)/\∀ τ G,P xs.length τ G->D.nx τ G
section
variable {X:Cx} {tg:Expr} {pos:Pos}
theorem jK0 {iter:Expr} {body:List Stmt} {wi:TI3} {g:TG3} {tb:TS3} (hp:PassesOwn (model X.prog X.w) X.A X.env X.xe) (hc:X.calm=true) (hi:PI3 X tg iter wi) (hg:PG3 X tg g) (hb:PSs3 X body tb)
  (hs:∀x,foldedSetIterable iter X.env x=pure x:=by intro _;rfl):PS3 X (.For tg iter body [] pos) (tFor wi g tb):=by
 intro pins s τ G H D I h
 refine wpAny_For (thn (hi pins s τ G H _ I h) fun v s1 h1=>thn h1 fun itv s2 h2=> ?_) hs
 obtain⟨it,fp,tn,J,xs,stay,G2,H2,e,eH,I2,T0,st2,f2,IT,P,p0,hstay,turn,fin⟩:=h2
 subst e
 have stat:∀ {H':Hp},(∀b∈fp,H' b=none)->∀b∈fp,FpOk X pins H' b:=fun hn b hb=>⟨hn b hb,(f2 b hb).2⟩
 refine codeAny_forLoop_any (fun n s'=>∃i τ' G' H',n=xs.length-i/\i<=xs.length/\Ext H2 H'/\Inv3 X pins τ' G' H' s'/\tn i s'.heap/\(∀b∈fp,H' b=none)/\P i τ' G') ?_ xs.length ⟨0,τ,G2,H2,rfl,lJy _,.refl _,I2,st2,fun b hb=>(f2 b hb).1,p0⟩
 rintro n s3 ⟨i,τ3,G3,H3,en,hi3,e3,⟨σ3,I3,hs3,hg3⟩,st3,fr3,p3⟩
 obtain⟨go,stop,yl⟩:=IT i H3 G3 e3 hg3 (hstay i τ3 G3 hi3 p3)
 by_cases hlt:i<xs.length
 ·refine lV2 hp (thn (T0.item X rfl rfl rfl hc i pins s3 σ3 H3 X.xe I3 (stat fr3) st3 (go hlt)) fun r s4 ⟨u,hr,h4⟩=> ?_)
  subst hr
  refine lV2 hp (thn h4 fun _ s5 ⟨x,H5,I5,r5,y5,st5,fr5⟩=> ?_)
  obtain⟨e5,g5,t,ht,rt⟩:=yl hlt x H5 y5
  have I5':=I5.pinned (stat fr5) (T0.obj _ _ st5)
  refine lV2 hp (thn (hg _ s5 τ3 G3 H5 t u _ ⟨σ3,I5',hs3.mono e5,g5⟩ ⟨x,rt,r5⟩ (turn i t τ3 G3 ht p3)) fun _ s6 ⟨τ6,G6,H6,e6,I6,q6⟩=> ?_)
  refine lV2 hp (thn (hb _ s6 τ6 G6 H6 _ I6 q6) fun f s7 q7=> ?_)
  have e36:Ext H2 H6:=(e3.trans e5).trans e6
  have again:∀ {τ7:St3} {G7:Gp} {H7:Hp},Ext H6 H7->Inv3 X (pins++jV1 fp s5.heap) τ7 G7 H7 s7->P (i+1) τ7 G7->
    ∃m,m<n/\∃i τ' G' H',m=xs.length-i/\i<=xs.length/\Ext H2 H'/\Inv3 X pins τ' G' H' s7/\tn i s7.heap/\(∀b∈fp,H' b=none)/\P i τ' G':=fun {τ7 G7 H7} e7 ⟨σ7,I7,hs7,hg7⟩ p7=>by
   refine⟨xs.length-(i+1),by omega,i+1,τ7,G7,H7,rfl,hlt,e36.trans e7,⟨σ7,I7.unpinned,hs7,hg7⟩,T0.keep _ _ _ st5 fun b hb o e=>(I7.pin (b,o) (lKs _ (lKs _ (jVs hb e)))).1,fun b hb=> ?_,p7⟩
   obtain⟨o,e,d⟩:=T0.obj _ _ st5 b hb
   exact (I7.pin (b,o) (lKs _ (lKs _ (jVs hb e)))).2.1
  have un:∀ {τ7:St3} {G7:Gp} {H7:Hp},Inv3 X (pins++jV1 fp s5.heap) τ7 G7 H7 s7->Inv3 X pins τ7 G7 H7 s7:=fun ⟨σ7,I7,a,b⟩=>⟨σ7,I7.unpinned,a,b⟩
  cases f with
  | next=>obtain⟨τ7,G7,H7,e7,I7,n7⟩:=q7;exact again e7 I7 n7
  | cont=>obtain⟨τ7,G7,H7,e7,I7,n7⟩:=q7;exact again e7 I7 n7
  | brk=>obtain⟨τ7,G7,H7,e7,I7,q7⟩:=q7;exact⟨τ7,G7,H7,(eH.trans e36).trans e7,un I7,q7⟩
  | ret v=>obtain⟨x7,τ7,G7,H7,e7,I7,r7,q7⟩:=q7;exact⟨x7,τ7,G7,H7,(eH.trans e36).trans e7,un I7,r7,q7⟩
 ·have ei:i=xs.length:=by omega
  refine lV2 hp (thn (T0.done X rfl rfl rfl hc i pins s3 σ3 H3 X.xe I3 (stat fr3) st3 (stop (by omega))) fun r s4 ⟨hr,I4⟩=> ?_)
  subst hr;subst ei
  exact wpAny_execs_nil ⟨τ3,G3,H3,eH.trans e3,⟨σ3,I4,hs3,hg3⟩,fin τ3 G3 p3⟩
def iSeq (tl:TE3):TI3:=fun τ G R=>tl τ G fun x G1=>∃xs,seqT G1 x=some xs/\R xs (fun G'=>seqT G' x=some xs) G1
theorem jQs {l:Expr} {tl:TE3} (hl:PE3 X l tl):PI3 X tg l (iSeq tl):=by
 intro pins s τ G H R I h
 refine thn (hl pins s τ G H _ I h) fun v s1 w_=>w_.el fun x G1 H1 e1 i_ r_ ⟨xs,hx,q⟩=>i_.el fun σ I1 hs1 hg1=>r_.el fun a ra rv=> ?_
 obtain⟨p,vs,e,hq,r⟩:=jUj hg1 ra hx
 subst e
 cases rv
 have fpk:∀b∈[s1.heap.objs.size],FpOk X pins H1 b:=fun b hb=>by
  have e:b=s1.heap.objs.size:=by simpa using hb
  subst e
  exact I1.fpOk (lJh _) (I1.hok.fresh (lJh _))
 rcases hq with hq | hq
 ·obtain⟨its,rv,pl,hz⟩:=I1.list hq
  refine lYd pl.isList ?_
  refine⟨s1.heap.objs.size,[s1.heap.objs.size],_,_,xs,fun G'=>seqT G' x=some xs,G1,H1,rfl,e1,⟨σ,I1.kept (t':=s1.toks) fun b o e=>lJk _ e,hs1,hg1⟩,kZv p _,⟨_,lJu _ rfl,rfl,rfl⟩,fpk,?_,q⟩
  intro i H2 G2 e2 g2 st
  have ra2:=Rep.mono e2 _ ra
  have now:∃ws,SqL X.K H2 p ws/\Reps X.K H2 xs ws:=by
   cases x with
   | scr ys=>cases hx;obtain⟨p',ws,ep,h1,h2⟩:=(show ∃p' ws,V.ref p= .ref p'/\FrL X.K H2 p' ws/\Reps X.K H2 xs ws from ra2);cases ep;exact⟨ws,h1.sq,h2⟩
   | ref p'=>cases (show V.ref p= .ref p' from ra);obtain⟨ws,h1,h2⟩:=g2.lst (jXy st);exact⟨ws,.of h1,h2⟩
   | tup ys=>
    obtain⟨p',ws,ep,h1,h2⟩:=(show ∃p' ws,V.ref p= .ref p'/\H1 p'=some (.tup ws)/\Reps X.K H1 ys ws from ra)
    cases ep
    exfalso
    obtain⟨its',_,pl',_⟩:=I1.tuple (.of h1)
    obtain⟨o,n,ho,hc,_⟩:=pl
    obtain⟨o',ho',hc',_⟩:=pl'
    rw[ho] at ho';cases ho'
    rw[hc] at hc';exact absurd hc' (by decide)
   | non=>cases hx
   | bl _=>cases hx
   | int _=>cases hx
   | str _=>cases hx
   | ty _=>cases hx
  obtain⟨ws,h1,h2⟩:=now
  have hlen:=h2.length
  refine⟨fun hi=> ?_,fun hi=>⟨ws,h1,by omega⟩,fun _ y H' ⟨eH,hy⟩=> ?_⟩
  ·exact⟨ws,ws[i]'(by omega),h1,by simp[hlen▸hi]⟩
  ·subst eH
   obtain⟨t,ht,rt⟩:=h2.get' (hy ws h1)
   exact⟨.refl _,g2,t,ht,rt⟩
 ·obtain⟨its,rv,pl,hz⟩:=I1.tuple hq
  refine wpAny_pyIter_tuple (show s1.heap.IsTuple p its.toArray from pl) ?_
  refine⟨s1.heap.objs.size,[s1.heap.objs.size],_,_,xs,fun G'=>seqT G' x=some xs,G1,H1,rfl,e1,⟨σ,I1.kept (t':=s1.toks) fun b o e=>lJk _ e,hs1,hg1⟩,kYm p _,⟨_,lJu _ rfl,rfl,rfl⟩,fpk,?_,q⟩
  intro i H2 G2 e2 g2 st
  have ra2:=Rep.mono e2 _ ra
  have now:∃ws,H2 p=some (.tup ws)/\Reps X.K H2 xs ws:=by
   cases x with
   | tup ys=>cases hx;obtain⟨p',ws,ep,h1,h2⟩:=(show ∃p' ws,V.ref p= .ref p'/\H2 p'=some (.tup ws)/\Reps X.K H2 xs ws from ra2);cases ep;exact⟨ws,h1,h2⟩
   | scr ys=>
    obtain⟨p',ws,ep,h1,h2⟩:=(show ∃p' ws,V.ref p= .ref p'/\FrL X.K H1 p' ws/\Reps X.K H1 ys ws from ra)
    cases ep
    exfalso
    obtain⟨its',_,pl',_⟩:=I1.list h1.sq
    obtain⟨o,n,ho,hc,_⟩:=pl'
    obtain⟨o',ho',hc',_⟩:=pl
    rw[ho] at ho';cases ho'
    rw[hc] at hc';exact absurd hc' (by decide)
   | ref p'=>
    cases (show V.ref p= .ref p' from ra)
    obtain⟨ws,h1,h2⟩:=hg1.lst (jXy hx)
    exfalso
    obtain⟨its',_,pl',_⟩:=I1.list (.of h1)
    obtain⟨o,n,ho,hc,_⟩:=pl'
    obtain⟨o',ho',hc',_⟩:=pl
    rw[ho] at ho';cases ho'
    rw[hc] at hc';exact absurd hc' (by decide)
   | non=>cases hx
   | bl _=>cases hx
   | int _=>cases hx
   | str _=>cases hx
   | ty _=>cases hx
  obtain⟨ws,h1,h2⟩:=now
  have hlen:=h2.length
  refine⟨fun hi=> ?_,fun hi=>⟨ws,.of h1,by omega⟩,fun _ y H' ⟨eH,hy⟩=> ?_⟩
  ·exact⟨ws,ws[i]'(by omega),.of h1,by simp[hlen▸hi]⟩
  ·subst eH
   obtain⟨t,ht,rt⟩:=h2.get' (hy ws (.of h1))
   exact⟨.refl _,g2,t,ht,rt⟩
def rngT (lo:Int) (n:Nat):List T:=(List.range n).map fun (k:Nat)=>T.int (lo+k)
def jKb (ta:TA3):TI3:=fun τ G R=>ta τ G fun vs G1=>∃j:Int,vs=[.int j]/\ -(2^62)<=j/\j<2^62/\R (rngT 0 j.toNat) (fun _=>True) G1
def kQb (ta:TA3):TI3:=fun τ G R=>ta τ G fun vs G1=>∃i j:Int,vs=[.int i,.int j]/\(-(2^62)<=i/\i<2^62/\ -(2^62)<=j/\j<2^62)/\R (rngT i (j-i).toNat) (fun _=>True) G1
theorem kUa {K:PySem.W.Frag} {H:Hp} (lo:Int) (n:Nat):uJf K H (Itr lo n) (rngT lo n) fun _=>True:=by
 intro i H' G e g _
 have hl:(rngT lo n).length=n:=by simp[rngT]
 refine⟨fun h=>by rw[hl] at h;exact h,fun h=>by rw[hl] at h;exact h,fun hi x H2 ⟨eH,ex⟩=> ?_⟩
 rw[hl] at hi
 subst eH;subst ex
 exact⟨.refl _,g,.int (lo+i),by simp[rngT,hi],rfl⟩
theorem jKc {a:Expr} {ta:TA3} {p:Pos} (hg:Gl X "range") (hm:X.mg "range"=none) (ha:PA3 X [a] ta) (hs:starEach [a] X.env=[(false,eval a X.env)]:=by rfl):PI3 X tg (.Call (.Name "range" p) [a] [] pos) (jKb ta):=by
 intro pins s τ G H R I h
 obtain⟨σ,I0,hs0,hg0⟩:=id I
 refine Call_ (jQ6 I0 hg hm boot_range (lQa (thn (ha pos pins s τ G H _ I h) fun us s1 w_=>w_.el fun xs G1 H1 e1 i_ r_ q1=>i_.el fun σ I1 hs1 hg1=>r_.el fun as ras rvs=> ?_) hs rfl))
 obtain⟨j,e,q1,q2,q⟩:=q1
 subst e
 obtain⟨v,rfl,rv⟩:=jU3 ras
 cases (show v= .int j from rv)
 obtain⟨u,rfl,ru⟩:=rvs.one
 obtain⟨t,rfl⟩:=ru
 refine call_range_1 (thn (kXq (tg:=tg) (R:=fun J H'=>J=Itr 0 j.toNat/\H'=H1) I1 (by omega) (by omega) q1 q2 ⟨by simp,rfl⟩) fun itv s2 z=> ?_)
 obtain⟨it,fp,tn,J,H',ei,I2,T0,st,fk,eJ,eH⟩:=z
 subst eJ;subst eH
 exact⟨it,fp,tn,_,rngT 0 j.toNat,fun _=>True,G1,H',ei,e1,⟨σ,I2,hs1,hg1⟩,T0,st,fk,kUa 0 j.toNat,q⟩
theorem kQa {a b:Expr} {ta:TA3} {p:Pos} (hg:Gl X "range") (hm:X.mg "range"=none) (ha:PA3 X [a,b] ta) (hs:starEach [a,b] X.env=[(false,eval a X.env),(false,eval b X.env)]:=by rfl) (hs2:starEach [b] X.env=[(false,eval b X.env)]:=by rfl):
  PI3 X tg (.Call (.Name "range" p) [a,b] [] pos) (kQb ta):=by
 intro pins s τ G H R I h
 obtain⟨σ,I0,hs0,hg0⟩:=id I
 refine Call_ (jQ6 I0 hg hm boot_range (lQa (thn (ha pos pins s τ G H _ I h) fun us s1 w_=>w_.el fun xs G1 H1 e1 i_ r_ q1=>i_.el fun σ I1 hs1 hg1=>r_.el fun as ras rvs=> ?_) (by rw[hs,hs2]) (by rw[hs2];rfl)))
 obtain⟨i,j,e,⟨q1,q2,q3,q4⟩,q⟩:=q1
 subst e
 obtain⟨v,w,rfl,rv,rw'⟩:=kQq ras
 cases (show v= .int i from rv);cases (show w= .int j from rw')
 obtain⟨u,u',rfl,ru,ru'⟩:=rvs.two
 obtain⟨t,rfl⟩:=ru
 obtain⟨t',rfl⟩:=ru'
 refine call_range_2 (thn (kXq (tg:=tg) (R:=fun J H'=>J=Itr i (j-i).toNat/\H'=H1) I1 q1 q2 q3 q4 ⟨rfl,rfl⟩) fun itv s2 z=> ?_)
 obtain⟨it,fp,tn,J,H',ei,I2,T0,st,fk,eJ,eH⟩:=z
 subst eJ;subst eH
 exact⟨it,fp,tn,_,rngT i (j-i).toNat,fun _=>True,G1,H',ei,e1,⟨σ,I2,hs1,hg1⟩,T0,st,fk,kUa i (j-i).toNat,q⟩
end
abbrev Sp3:=List T->Gp->VK3->Prop
def dn (K:PySem.W.Frag) (n:Nat) (sp:Sp3):Sp:=fun vs H Q _=>vs.length=n/\∃xs G,Reps K H xs vs/\GRel K H G/\sp xs G fun t G'=>∀v H',Ext H H'->GRel K H' G'->Rep K H' t v->Q v H'
def Fn3 (P:Program) (w:World) (K:PySem.W.Frag) (mg:Str->Option Value) (base:Heap) (k:Nat) (f:Addr) (fd:FuncData) (ps:List Str) (sp:Sp3):Prop:=FnOk P w K mg base CX0 k f fd ps (dn K ps.length sp)
def jJp (sp:Sp3) (t:TA3):TE3:=fun τ G Q=>t τ G fun xs G1=>sp xs G1 Q
def Mono (sp:Sp3):Prop:=∀xs G Q Q',(∀t G',Q t G'->Q' t G')->sp xs G Q->sp xs G Q'
def jZh (N:List Str) (xs:List T):St3:=xs.map some++List.replicate (N.length-xs.length) none
theorem kZz {K:PySem.W.Frag} {H:Hp} {N:List Str} {xs:List T} {vs:List V} (r:Reps K H xs vs):SRel K H (start N vs) (jZh N xs):=by
 have hl:=r.length
 refine⟨by simp[L2.start,jZh,hl],fun i t h=> ?_⟩
 unfold jZh at h
 unfold L2.start
 by_cases hi:i<xs.length
 ·rw[lQc (by simpa using hi),lJq] at h
  cases e:xs[i]? with
  | none=>rw[e] at h;cases h
  | some x=>
   rw[e] at h;cases h
   obtain⟨v,hv,rv⟩:=r.get e
   exact⟨v,by rw[lQc (by simp;omega),lJq,hv];rfl,rv⟩
 ·rw[lV7 (by simpa using hi),lXw] at h
  split at h<;>cases h
theorem fn3 {P:Program} {w:World} {K:PySem.W.Frag} {mg:Str->Option Value} {base:Heap} {x qual:Str} {st:Stmt} {f:Addr} {fd:FuncData} {N ps:List Str} {k:Nat} {sp:Sp3} (F:Fun K x qual st f fd) (S:FnScope N ps (jKf st))
  (hbody:∀(cdv:Value) (A:Around) (outer:List Env) (s:Shared) (H:Hp) (E:XK),Room k (A.deeper (envOfC qual (jKf st) s.heap.objs.size f cdv))->
   ∃t,PSs3 (cxOf CX0 P w K mg base N qual (jKf st) f cdv A outer s H E).nox (jUx st) t/\∀xs G Q,sp xs G Q->t {nx:=fun _ G'=>Q .non G',rt:=Q} (jZh N xs) G):Fn3 P w K mg base (k+1) f fd ps sp:=by
 refine Fun.ok (sp:=dn K ps.length sp) F S (fun vs H Q E h=>h.1) fun cdv A outer s H vs Q E hr hsp=> ?_
 obtain⟨t,ht,hq⟩:=hbody cdv A outer s H E hr
 obtain⟨hl,xs,G,rs,hg,hsp⟩:=hsp
 refine⟨fun D σ H1=>D.nx=(fun _ H'=>Q .non H')/\D.rt=Q/\σ=L2.start N vs/\H1=H,?_,rfl,rfl,rfl,rfl⟩
 rintro pins s1 σ1 H1 D I ⟨e1,e2,e3,e4⟩
 subst e3;subst e4
 have I3:Inv3 (cxOf CX0 P w K mg base N qual (jKf st) f cdv A outer s H1 E).nox pins (jZh N xs) G H1 s1:=⟨_,I,kZz rs,hg⟩
 refine thn (ht pins s1 _ G H1 _ I3 (hq xs G _ hsp)) fun fl s2 z=> ?_
 cases fl with
 | next=>obtain⟨τ',G',H',e',⟨σ',I',a,b⟩,q⟩:=z;exact⟨σ',H',I',by rw[e1];exact q .non H' e' b rfl⟩
 | brk=>obtain⟨τ',G',H',e',_,q⟩:=z;exact q.elim
 | cont=>obtain⟨τ',G',H',e',_,q⟩:=z;exact q.elim
 | ret u=>obtain⟨x',τ',G',H',e',⟨σ',I',a,b⟩,⟨v,rv,ru⟩,q⟩:=z;exact⟨v,σ',H',I',ru,by rw[e2];exact q v H' e' b rv⟩
mutual
noncomputable def dep:T->Nat
 | .tup xs=>deps xs+1
 | _=>0
noncomputable def deps:List T->Nat
 | []=>0
 | x::xs=>max (dep x) (deps xs)
end
mutual
noncomputable def tree:T->Bool
 | .tup xs=>jQj xs
 | .ref _=>false
 | .scr _=>false
 | .ty _=>false
 | .non=>true
 | .bl _=>true
 | .int _=>true
 | .str _=>true
noncomputable def jQj:List T->Bool
 | []=>true
 | x::xs=>tree x&&jQj xs
end
mutual
noncomputable def eqT:T->T->Bool
 | .non,.non=>true
 | .bl a,.bl b=>a == b
 | .bl a,.int b=>(if a then 1 else 0) == b
 | .int a,.bl b=>a == (if b then 1 else 0)
 | .int a,.int b=>a == b
 | .str a,.str b=>a == b
 | .tup xs,.tup ys=>eqTs xs ys
 | _,_=>false
noncomputable def eqTs:List T->List T->Bool
 | [],[]=>true
 | x::xs,y::ys=>eqT x y&&eqTs xs ys
 | [],_::_=>false
 | _::_,[]=>false
end
mutual
theorem qVy {K:PySem.W.Frag} {H:Hp}:∀(x y:T) {a:V},tree x=true->tree y=true->Rep K H x a->Rep K H y a->eqT x y=true
 | .non,y,a,hx,hy,r,q=>by
  cases (show a= .non from r)
  cases y<;>first | rfl | (exact absurd (show false=true from hy) lJm) | (cases (show V.non=_ from q)) | (obtain⟨_,_,e,_⟩:=(show ∃c vs,V.non= .ref c/\_ from q);cases e)
 | .bl b,y,a,hx,hy,r,q=>by
  cases (show a= .bl b from r)
  cases y with
  | bl c=>cases (show V.bl b=V.bl c from q);simp[eqT]
  | tup ys=>obtain⟨_,_,e,_⟩:=(show ∃c vs,V.bl b= .ref c/\_ from q);cases e
  | non=>cases (show V.bl b= .non from q)
  | int c=>cases (show V.bl b= .int c from q)
  | str c=>cases (show V.bl b= .str c from q)
  | _=>exact absurd (show false=true from hy) lJm
 | .int b,y,a,hx,hy,r,q=>by
  cases (show a= .int b from r)
  cases y with
  | int c=>cases (show V.int b=V.int c from q);simp[eqT]
  | tup ys=>obtain⟨_,_,e,_⟩:=(show ∃c vs,V.int b= .ref c/\_ from q);cases e
  | non=>cases (show V.int b= .non from q)
  | bl c=>cases (show V.int b= .bl c from q)
  | str c=>cases (show V.int b= .str c from q)
  | _=>exact absurd (show false=true from hy) lJm
 | .str b,y,a,hx,hy,r,q=>by
  cases (show a= .str b from r)
  cases y with
  | str c=>cases (show V.str b=V.str c from q);simp[eqT]
  | tup ys=>obtain⟨_,_,e,_⟩:=(show ∃c vs,V.str b= .ref c/\_ from q);cases e
  | non=>cases (show V.str b= .non from q)
  | bl c=>cases (show V.str b= .bl c from q)
  | int c=>cases (show V.str b= .int c from q)
  | _=>exact absurd (show false=true from hy) lJm
 | .tup xs,y,a,hx,hy,r,q=>by
  obtain⟨p,vs,e,h1,h2⟩:=(show ∃p vs,a= .ref p/\H p=some (.tup vs)/\Reps K H xs vs from r)
  subst e
  cases y with
  | tup ys=>
   obtain⟨p',vs',e',h1',h2'⟩:=(show ∃p' vs',V.ref p= .ref p'/\H p'=some (.tup vs')/\Reps K H ys vs' from q)
   cases e'
   rw[h1] at h1';cases h1'
   exact kUg xs ys (show jQj xs=true from hx) (show jQj ys=true from hy) h2 h2'
  | non=>cases (show V.ref p= .non from q)
  | bl c=>cases (show V.ref p= .bl c from q)
  | int c=>cases (show V.ref p= .int c from q)
  | str c=>cases (show V.ref p= .str c from q)
  | _=>exact absurd (show false=true from hy) lJm
 | .ref _,_,_,hx,_,_,_=>absurd (show false=true from hx) lJm
 | .scr _,_,_,hx,_,_,_=>absurd (show false=true from hx) lJm
 | .ty _,_,_,hx,_,_,_=>absurd (show false=true from hx) lJm
theorem kUg {K:PySem.W.Frag} {H:Hp}:∀(xs ys:List T) {vs:List V},jQj xs=true->jQj ys=true->Reps K H xs vs->Reps K H ys vs->eqTs xs ys=true
 | [],ys,_,_,_,r,q=>by
  cases r
  cases ys with
  | nil=>rfl
  | cons y ys=>obtain⟨_,_,e,_⟩:=q;cases e
 | x::xs,ys,_,hx,hy,⟨v,ws,e,r1,r2⟩,q=>by
  subst e
  cases ys with
  | nil=>cases q
  | cons y ys=>
   obtain⟨v',ws',e',q1,q2⟩:=q
   cases e'
   have hx':tree x=true/\jQj xs=true:=by simpa[jQj] using hx
   have hy':tree y=true/\jQj ys=true:=by simpa[jQj] using hy
   show (eqT x y&&eqTs xs ys)=true
   rw[qVy x y hx'.1 hy'.1 r1 q1,kUg xs ys hx'.2 hy'.2 r2 q2]
   rfl
end
section
variable {X:Cx}
def rSub:R3:=rI0 fun i j=> .int (i-j)
def rMod:R3:=rI (fun _ j=>0<j) fun i j=> .int (i%j)
def rFdiv:R3:=rI CDiv fun i j=> .int (i / j)
def rPow:R3:=rI CPow fun i j=> .int (i^j.toNat)
def rLt:R3:=rI0 fun i j=> .bl (decide (i<j))
def rGt:R3:=rI0 fun i j=> .bl (decide (j<i))
def rGe:R3:=rI0 fun i j=> .bl (decide (j<=i))
def rIsN:R3:=fun x y G Q=>y= .non/\Q (.bl (qZo x)) G
def rNotN:R3:=fun x y G Q=>y= .non/\Q (.bl (!qZo x)) G
def qUy:R3:=fun x y G Q=>∃xs ys,x= .tup xs/\y= .tup ys/\xs≠[]/\xs.length+ys.length<=sizeLine/\Q (.tup (xs++ys)) G
theorem o_catT:Op3 X (binaryOp .Add) qUy:=
 Op3.of qYz fun H G x y a b Q hg ra rb ⟨xs,ys,ex,ey,hx,hz,q⟩=>by
  subst ex;subst ey
  obtain⟨p,vs,e1,h1,h2⟩:=(show ∃p vs,a= .ref p/\H p=some (.tup vs)/\Reps X.K H xs vs from ra)
  obtain⟨p',ws,e2,h3,h4⟩:=(show ∃p vs,b= .ref p/\H p=some (.tup vs)/\Reps X.K H ys vs from rb)
  subst e1;subst e2
  have l1:=h2.length
  have l2:=h4.length
  refine⟨p,p',vs,ws,rfl,rfl,.of h1,.of h3,fun z=>hx ?_,by omega,fun z=> ?_,fun z l hl=> ?_⟩
  ·rw[z] at l1;exact lVb.mp l1
  ·rw[z] at l2
   have:ys=[]:=lVb.mp l2
   subst this
   exact⟨.tup (xs++[]),G,.refl H,hg,by rw[lV4];exact ra,q⟩
  ·exact⟨.tup (xs++ys),G,.upd (.none hl),hg.tupNew hl,Rep.tupNew (h2.append h4) hl,q⟩
def rAddI:R3:=rI0 fun i j=> .int (i+j)
def rAddA:R3:=fun x y G Q=>rAddI x y G Q\/rCat x y G Q\/qUy x y G Q
theorem o_addA:Op3 X (binaryOp .Add) rAddA:=o_add.or (o_cat.or o_catT)
def rMulI:R3:=rI CMul fun i j=> .int (i*j)
def rMulA:R3:=fun x y G Q=>rMulI x y G Q\/rRep x y G Q
theorem o_mulA:Op3 X (binaryOp .Mult) rMulA:=o_mul.or o_rep
def rNeg:T->Gp->VK3->Prop:=fun x G Q=>∃i,x= .int i/\Q (.int (-i)) G
theorem qYd:Un3 X (unaryOp .USub) rNeg:=
 Un3.of un_neg fun H G x a Q hg ra ⟨i,e,q⟩=>by
  subst e;cases (show a= .int i from ra)
  exact⟨i,rfl,.int (-i),G,.refl H,hg,rfl,q⟩
theorem jJq (b:Expr) {op:CmpOp} (h:behindInMarks op b=false:=by first | exact nomark _ | with_unfolding_all rfl):behindInMarks op b=false:=h
variable {a b c:Expr} {ta tb tc:TE3} {pos:Pos}
theorem qZ0 {op op':CmpOp} {r r':R3} (ho:Op3 X (compareOp op) r) (ho':Op3 X (compareOp op') r') (ha:PE3 X a ta) (hb:PE3 X b tb) (hc:PE3 X c tc)
  (hm:lastMarks [op,op'] [b,c]=false:=by with_unfolding_all rfl):PE3 X (.Compare a [op,op'] [b,c] pos) (jZg r r' ta tb tc):=by
 intro pins s τ G H Q I h
 refine Compare_chain (thn (ha pins s τ G H _ I h) fun v s1 w_=>w_.el fun x G1 H1 e1 I1 r1 q1=>chain_link (thn (hb pins s1 τ G1 H1 _ I1 q1) fun u s2 ⟨y,G2,H2,e2,I2,r2,q2⟩=>
  thn (ho pins s2 τ G2 H2 x y v u _ I2 (r1.mono e2) r2 q2) fun d s3 w_=>w_.el fun z G3 H3 e3 I3 r_ ⟨k,e,q3⟩=>r_.el fun v' rv' ru'=> ?_)) hm
 subst e
 cases (show v'= .bl k from rv');cases ru'
 refine lQs ?_
 cases k with
 | false=>exact ite_ff ⟨.bl false,G3,H3,(e1.trans e2).trans e3,I3,⟨.bl false,rfl,rfl⟩,q3⟩
 | true=>exact ite_tt (chain_last (thn (hc pins s3 τ G3 H3 _ I3 q3) fun w' s4 w_=>w_.el fun z' G4 H4 e4 I4 r4 q4=>thn (ho' pins s4 τ G4 H4 y z' u w' Q I4 (r2.mono (e3.trans e4)) r4 q4) fun _ _ z=>z.ext (((e1.trans e2).trans e3).trans e4)))
theorem qYh {op op':CmpOp} {r r':R3} (ho:Op3 X (compareOp op) r) (ho':Op3 X (compareOp op') r') (ha:PE3 X a ta) (hb:PE3 X b tb) (hc:PE3 X c tc)
  (hm:lastMarks [op,op'] [b,c]=false:=by with_unfolding_all rfl):PT3 X (.Compare a [op,op'] [b,c] pos) (jJs (jZg r r' ta tb tc)):=by
 intro pins s τ G H Q I h
 refine isTrue_chain (thn (ha pins s τ G H _ I h) fun v s1 w_=>w_.el fun x G1 H1 e1 I1 r1 q1=>test_link (thn (hb pins s1 τ G1 H1 _ I1 q1) fun u s2 ⟨y,G2,H2,e2,I2,r2,q2⟩=>
  thn (ho pins s2 τ G2 H2 x y v u _ I2 (r1.mono e2) r2 q2) fun d s3 w_=>w_.el fun z G3 H3 e3 I3 r_ ⟨k,e,q3⟩=>r_.el fun v' rv' ru'=> ?_)) hm
 subst e
 cases (show v'= .bl k from rv');cases ru'
 refine lQs ?_
 cases k with
 | false=>
  obtain⟨k',e',q'⟩:=q3
  cases e'
  exact ite_ff ⟨G3,H3,(e1.trans e2).trans e3,I3,q'⟩
 | true=>
  refine ite_tt (test_last (thn (hc pins s3 τ G3 H3 _ I3 q3) fun w' s4 w_=>w_.el fun z' G4 H4 e4 I4 r4 q4=>thn (ho' pins s4 τ G4 H4 y z' u w' _ I4 (r2.mono (e3.trans e4)) r4 q4) fun d' s5 w_=>w_.el fun z2 G5 H5 e5 I5 r_ ⟨k2,e2',q5⟩=>r_.el fun v2 rv2 ru2=> ?_))
  subst e2'
  cases (show v2= .bl k2 from rv2);cases ru2
  exact lQs ⟨G5,H5,(((e1.trans e2).trans e3).trans e4).trans e5,I5,q5⟩
mutual
noncomputable def td:T->PyData
 | .tup xs=> .tuple (tds xs)
 | .int i=> .int i
 | .bl b=> .bool b
 | .str x=> .str x
 | .non=> .none
 | .ref _=> .none
 | .scr _=> .none
 | .ty _=> .none
noncomputable def tds:List T->List PyData
 | []=>[]
 | x::xs=>td x::tds xs
end
def eqOk (x:T):Bool:=tree x&&(td x).canLay0&&decide ((td x).depth<=50)
def jYd (xs:List T):Bool:=jQj xs&&PyData.canLayAll0 (tds xs)&&decide ((PyData.list (tds xs)).depth<=50)
noncomputable def eqG (G:Gp) (x y:T):Option Bool:=match x,y with
 | .ref p,.ref q=>match G p,G q with
  | some (.lst xs),some (.lst ys)=>if jYd xs=true/\jYd ys=true then some (eqTs xs ys) else none
  | _,_=>none
 | _,_=>if eqOk x=true/\eqOk y=true then some (eqT x y) else none
def rEqA:R3:=fun x y G Q=>∃b,eqG G x y=some b/\Q (.bl b) G
def rNeA:R3:=fun x y G Q=>∃b,eqG G x y=some b/\Q (.bl (!b)) G
noncomputable def truT (G:Gp):T->Option Bool
 | .non=>some false
 | .bl b=>some b
 | .int i=>some (i != 0)
 | .tup xs=>some (!xs.isEmpty)
 | .ref p=>match G p with
  | some (.lst xs)=>some (!xs.isEmpty)
  | some (.dck kvs)=>some (!kvs.isEmpty)
  | _=>none
 | _=>none
def rTru:T->Gp->(Bool->Gp->Prop)->Prop:=fun x G Q=>∃b,truT G x=some b/\Q b G
theorem jYm {K:PySem.W.Frag} {H:Hp} {xs:List T} {vs:List V} (r:Reps K H xs vs):xs.isEmpty=vs.isEmpty:=by
 have:=r.length
 cases xs<;>cases vs<;>simp_all
theorem qYg:Tru3 X rTru:=
 Tru3.of tru_ok fun H G x a Q hg ra ⟨b,hb,q⟩=>by
  refine⟨b,?_,rfl,q⟩
  cases x with
  | non=>cases (show a= .non from ra);cases hb;rfl
  | bl k=>cases (show a= .bl k from ra);cases hb;rfl
  | int k=>cases (show a= .int k from ra);cases hb;rfl
  | tup xs=>
   obtain⟨p,vs,e1,h1,h2⟩:=(show ∃p vs,a= .ref p/\H p=some (.tup vs)/\Reps X.K H xs vs from ra)
   subst e1;cases hb
   exact .inr (.inl ⟨vs,.of h1,by rw[jYm h2]⟩)
  | ref p=>
   cases (show a= .ref p from ra)
   cases hG:G p with
   | none=>simp only[truT,hG] at hb;cases hb
   | some o=>
    simp only[truT,hG] at hb
    cases o with
    | lst xs=>cases hb;obtain⟨vs,h1,h2⟩:=hg.lst hG;exact .inl ⟨vs,.of h1,by rw[jYm h2]⟩
    | dct _=>cases hb
    | fdc _=>cases hb
    | ins _ _=>cases hb
    | dck kvs=>
     cases hb
     obtain⟨ws,h1,h2⟩:=hg p _ hG
     refine .inr (.inr ⟨ws,h1,?_⟩)
     cases h2<;>rfl
  | str _=>cases hb
  | scr _=>cases hb
  | ty _=>cases hb
end
section
variable {X:Cx} {pins:List (Addr×Obj)} {σ:L2.St} {H:Hp} {s:Shared} {h':Heap}
theorem kZu {t':Nat} {fp:List Addr} (I:Inv X pins σ H s) (k:∀b o,b∉fp->s.heap.get? b=some o->h'.get? b=some o) (hf:∀b∈fp,FpOk X pins H b):Inv X pins σ H {s with heap:=h',toks:=t'}:=by
 have nit:∀b u,H b=some u->b∉fp:=fun b u e z=>by rw[(hf b z).1] at e;cases e
 refine I.step (g':=s.gens) (d':=s.drawn) (ch:=fp) (fun b hb=>⟨(hf b hb).2.2.2.1,(hf b hb).2.1,(hf b hb).2.2.2.2.1,(hf b hb).2.2.2.2.2⟩) (fun b o _ _ hc e _=>k b o hc e) (fun b o _ _ hc e _=>⟨o.slots,k b o hc e⟩) (fun _ _ _ _ n=>n)
  (fun b o hc e=>⟨o,k b o hc e⟩) (fun _ _ e=>e) (fun _ _ _ e=>e) (fun b ps e=>⟨#[],by rw[e];simp⟩) (fun m hm=> ?_) (fun b u e=> ?_) I.bare
 ·obtain⟨o,es,ep,ho,r⟩:=hm
  exact⟨o,es,ep,k _ o (fun z=>(hf _ z).2.1 rfl) ho,r⟩
 ·refine (I.hok b u e).stay (fun c v hc q=>k c v ?_ q) (fun _ q=>q) fun _ _ q=>q
  rcases hc with z | z
  ·rw[z];exact nit b u e
  ·exact nit c _ z
theorem kQm {t':Nat} {fp:List Addr} {p:Addr} {vs:List V} {us:List Value} (I:Inv X pins σ H s) (k:∀b o,b∉fp->s.heap.get? b=some o->h'.get? b=some o) (hf:∀b∈fp,FpOk X pins H b)
  (hp:s.heap.objs.size<=p) (ht:TupD h' p us.toArray) (r:Vals vs us) (hz:vs.length<=sizeLine):Inv X pins σ (upd H p (.tup vs)) {s with heap:=h',toks:=t'}:=by
 have hn:H p=none:=I.hok.fresh hp
 have nit:∀b u,H b=some u->b∉fp:=fun b u e z=>by rw[(hf b z).1] at e;cases e
 have old:∀b o,s.heap.get? b=some o->b≠p:=fun b o e=>lJs (lKb (lJi e) hp)
 have tr:∀b u,H b=some u->b≠p:=fun b u e z=>by rw[z,hn] at e;cases e
 refine I.step (g':=s.gens) (d':=s.drawn) (ch:=fp) (fun b hb=>⟨(hf b hb).2.2.2.1,(hf b hb).2.1,(hf b hb).2.2.2.2.1,(hf b hb).2.2.2.2.2⟩) (fun b o _ _ hc e _=>k b o hc e) (fun b o _ _ hc e _=>⟨o.slots,k b o hc e⟩) (fun b o _ e n=>by rw[jKg (old b o e)];exact n)
  (fun b o hc e=>⟨o,k b o hc e⟩) (fun b _ e=>by rw[jKg (tr b _ e)];exact e) (fun b _ _ e=>by rw[jKg (tr b _ e)];exact e) (fun b ps e=>⟨#[],by rw[jKg (tr b _ e),e];simp⟩) (fun m hm=> ?_) (fun b u e=> ?_) I.bare
 ·obtain⟨o,es,ep,ho,r⟩:=hm
  exact⟨o,es,ep,k _ o (fun z=>(hf _ z).2.1 rfl) ho,r⟩
 ·by_cases hb:b=p
  ·subst hb
   rw[jQa] at e
   cases e
   exact⟨hz,us,r,ht⟩
  ·rw[jKg hb] at e
   refine (I.hok b u e).stay (fun c v hc q=>k c v ?_ q) (fun c q=>by rw[jKg (tr c _ q)];exact q) fun c _ q=>by rw[jKg (tr c _ q)];exact q
   rcases hc with z | z
   ·rw[z];exact nit b u e
   ·exact nit c _ z
end
noncomputable def Ite (K:PySem.W.Frag) (a:Addr):It:=
 ⟨fun i H=>∃xs x,SqL K H a xs/\xs[i]? =some x,fun i H x H'=>∃p y,H p=none/\x= .ref p/\(∀xs,SqL K H a xs->xs[i]? =some y)/\H'=upd H p (.tup [.int i,y]),fun i H=>∃xs,SqL K H a xs/\xs.length<=i⟩
theorem kZw {P:Program} {w:World} {K:PySem.W.Frag} {elts:List Expr} {k:Nat} {pos:Pos} (a e it:Addr) (hei:e≠it):
  Turn P w K (.Tuple elts k pos) (Ite K a) [e,it] e (fun i h=>(∃old,IsEnum h e it i old)/\h.IsListIter it a i) where
 mem:=by simp
 obj:=fun i h ⟨⟨old,h1⟩,h2⟩ b hb=>by
  have hb':b=e\/b=it:=by simpa using hb
  rcases hb' with z | z
  ·subst z;exact⟨_,h1,fun v z=>nomatch (show Data.fields _=Data.cell v from z)⟩
  ·subst z
   obtain⟨o,e2,c,d⟩:=h2
   exact⟨o,e2,fun v z=>by rw[d] at z;cases z⟩
 keep:=fun i h h' ⟨⟨old,h1⟩,h2⟩ kp=>⟨⟨old,kp e (by simp) _ h1⟩,h2.at fun o q=>kp it (by simp) o q⟩
 item:=by
  rintro X hP hw hK hc i pins s σ H E I hf ⟨⟨old,he⟩,hit⟩ hg
  subst hP hw hK
  obtain⟨xs,x,hq,hx⟩:=hg
  obtain⟨its,rv,p,hz⟩:=I.list hq
  obtain⟨u,hu,ru⟩:=rv.get hx
  refine wpAny_pyNext_enum_item he hit p.isList (x:=u) (by simpa using hu) hei fun h1 ho hit1 hT hsz hk=> ?_
  refine⟨_,rfl,wpAny_letOwnedTupleGo_enum ho fun h2 he2 hs2=> ?_⟩
  have hel:e<s.heap.objs.size:=lJi he
  have hp2:∀b o,b∉[e,it]->s.heap.get? b=some o->h2.get? b=some o:=fun b o hb q=>by
   have hb1:b≠e:=fun z=>hb (by simp[z])
   have hb2:b≠it:=fun z=>hb (by simp[z])
   exact (hs2.2 b hb1).trans (hk b o hb1 hb2 q)
  have hT2:h2.get? s.heap.objs.size=some {cls:= .type "tuple",data:= .seq #[.int i s.toks,u]}:=(hs2.2 _ (lQx hel)).trans hT
  have I2:=kQm (t':=s.toks+1) (h':=h2) (p:=s.heap.objs.size) (vs:=[.int i,x]) (us:=[.int i s.toks,u]) I hp2 hf (lJh _) ⟨_,hT2,rfl,_,rfl,rfl⟩ (.cons ⟨_,rfl⟩ (.cons ru .nil)) (by show 2<=sizeLine;decide)
  refine⟨.ref s.heap.objs.size,_,I2,rfl,⟨_,x,I.hok.fresh (lJh _),rfl,fun ys hy=>by rw[I.list_inj hy hq];exact hx,rfl⟩,⟨⟨u,by simpa using he2⟩,hit1.at fun o q=>(hs2.2 it hei.symm).trans q⟩,fun b hb=> ?_⟩
  have hbs:∃o,s.heap.get? b=some o:=by
   have hb':b=e\/b=it:=by simpa using hb
   rcases hb' with z | z
   ·subst z;exact⟨_,he⟩
   ·subst z;obtain⟨o,q,_⟩:=hit;exact⟨o,q⟩
  obtain⟨o,q⟩:=hbs
  rw[jKg (lJs (lJi q))]
  exact (hf b hb).1
 done:=by
  rintro X hP hw hK hc i pins s σ H E I hf ⟨⟨old,he⟩,hit⟩ hg
  subst hP hw hK
  obtain⟨xs,hq,hx⟩:=hg
  obtain⟨its,rv,p,hz⟩:=I.list hq
  have hl:=rv.length
  exact wpAny_pyNext_enum_end (I.ok.hd hc) he hit p.isList (by simp;omega) fun h1 hx1=>⟨rfl,kZu (t':=s.toks) I (fun b o hb q=>hx1 b o (fun z=>hb (by simp[z])) q) hf⟩
 self:=fun _ _ _ _ _ ⟨⟨old,he⟩,_⟩ h=>wpAny_pyIter_enum he h
def numT (xs:List T):List T:=(List.range xs.length).map fun (i:Nat)=>T.tup [.int i,xs.getD i .non]
theorem jXt {xs:List T} {i:Nat} {x:T} (h:xs[i]? =some x):(numT xs)[i]? =some (.tup [.int i,x]):=by
 have hi:i<xs.length:=by
  rcases lQ8 i xs.length with z | z
  ·exact z
  ·rw[lKa z] at h;cases h
 have hx:xs[i]=x:=(lJf.mp h).2
 simp[numT,hi,List.getD,hx]
theorem jQm {xs:List T}:(numT xs).length=xs.length:=by simp[numT]
def jUf (G:Gp):T->Option (List T)
 | .ref p=>asL (G p)
 | .scr xs=>some xs
 | _=>none
theorem jVt {K:PySem.W.Frag} {H:Hp} {G:Gp} {x:T} {a:V} {xs:List T} (hg:GRel K H G) (r:Rep K H x a) (h:jUf G x=some xs):∃p vs,a= .ref p/\SqL K H p vs/\Reps K H xs vs:=by
 cases x with
 | scr ys=>cases h;obtain⟨p,vs,e,h1,h2⟩:=(show ∃p vs,a= .ref p/\FrL K H p vs/\Reps K H xs vs from r);exact⟨p,vs,e,h1.sq,h2⟩
 | ref p=>
  obtain⟨vs,h1,h2⟩:=hg.lst (jXy h)
  exact⟨p,vs,r,.of h1,h2⟩
 | tup _=>cases h
 | non=>cases h
 | bl _=>cases h
 | int _=>cases h
 | str _=>cases h
 | ty _=>cases h
def kJ0 (ta:TA3):TI3:=fun τ G R=>ta τ G fun vs G1=>∃x xs,vs=[x]/\jUf G1 x=some xs/\R (numT xs) (fun G'=>jUf G' x=some xs) G1
theorem kX8 {X:Cx} {elts:List Expr} {k:Nat} {tpos pos p:Pos} {a:Expr} {ta:TA3} (hg:Gl X "enumerate") (hm:X.mg "enumerate"=none) (hv:bootBuiltins "enumerate"=some (.type "enumerate")) (ha:PA3 X [a] ta) (hs:starEach [a] X.env=[(false,eval a X.env)]:=by rfl):
  PI3 X (.Tuple elts k tpos) (.Call (.Name "enumerate" p) [a] [] pos) (kJ0 ta):=by
 intro pins s τ G H R I h
 obtain⟨σ0,I0,hs0,hg0⟩:=id I
 refine Call_ (jQ6 I0 hg hm hv (lQa (thn (ha pos pins s τ G H _ I h) fun us s1 w_=>w_.el fun xs' G1 H1 e1 i_ r_ q1=>i_.el fun σ I1 hs1 hg1=>r_.el fun as ras rvs=> ?_) hs rfl))
 obtain⟨x,xs,e,hx,q⟩:=q1
 subst e
 obtain⟨v,rfl,rv⟩:=jU3 ras
 obtain⟨u,rfl,ru⟩:=rvs.one
 obtain⟨pa,vs,rfl,hq,r⟩:=jVt hg1 rv hx
 cases ru
 obtain⟨its,rvv,pl,hz⟩:=I1.list hq
 refine call_enumerate_list pl.isList fun h1 he hit hsz hk=> ?_
 have I2:Inv X pins σ H1 {s1 with heap:=h1}:=I1.kept (t':=s1.toks) hk
 refine wpAny_pyIter_enum (Q:=PIE3 X pins τ H (.Tuple elts k tpos) R) he ?_
 have fr:∀b∈[s1.heap.objs.size+1,s1.heap.objs.size],FpOk X pins H1 b:=fun b hb=>by
  have hb':b=s1.heap.objs.size+1\/b=s1.heap.objs.size:=by simpa using hb
  have hle:s1.heap.objs.size<=b:=by omega
  exact I1.fpOk hle (I1.hok.fresh hle)
 refine⟨s1.heap.objs.size+1,[s1.heap.objs.size+1,s1.heap.objs.size],_,_,numT xs,fun G'=>jUf G' x=some xs,G1,H1,rfl,e1,⟨σ,I2,hs1,hg1⟩,kZw pa _ _ (Nat.succ_ne_self _),⟨⟨.none,he⟩,hit⟩,fr,?_,q⟩
 intro i H2 G2 e2 g2 st
 obtain⟨pb,ws,eb,h1,h2⟩:=jVt g2 (Rep.mono e2 _ rv) st
 cases eb
 have hlen:=h2.length
 refine⟨fun hi=> ?_,fun hi=>⟨ws,h1,by rw[jQm] at hi;omega⟩,fun hi y H' ⟨pp,z,hn,ey,hy,eH⟩=> ?_⟩
 ·rw[jQm] at hi
  exact⟨ws,ws[i]'(by omega),h1,by simp[hlen▸hi]⟩
 ·subst ey;subst eH
  obtain⟨t,ht,rt⟩:=h2.get' (hy ws h1)
  exact⟨.upd (.none hn),g2.tupNew hn,_,jXt ht,Rep.tupNew ⟨_,_,rfl,rfl,_,_,rfl,rt,rfl⟩ hn⟩
noncomputable def clGo (env:Env):List (Str×NameKind)->List (Str×Addr)->Option (List (Str×Addr))
 | [],cs=>some cs
 | (n,k)::r,cs=>if (k == .free)=true then (match env.cells.lookup n with | some c=>clGo env r ((n,c)::cs) | none=>none) else clGo env r cs
theorem kKf {scope:Scope} {env:Env} {cl:List (Str×Addr)} (h:clGo env scope.names []=some cl):closureFor scope env=pure cl:=by
 unfold closureFor
 have go:∀(names:List (Str×NameKind)) (cs:List (Str×Addr)),clGo env names cs=some cl->
   (forIn names cs fun (x:Str×NameKind) (r:List (Str×Addr))=>(match x with | (nm,kd)=>if (kd == .free)=true then cellOf env nm >>= fun a=>pure (ForInStep.yield ((nm,a)::r)) else pure (ForInStep.yield r):Sem (ForInStep (List (Str×Addr)))))=pure cl:=by
  intro names
  induction names with
  | nil=>intro cs e;cases e;rfl
  | cons x r ih=>
   obtain⟨n,k⟩:=x
   intro cs e
   unfold clGo at e
   rw[List.forIn_cons]
   by_cases hk:(k == NameKind.free)=true
   ·rw[lJc hk] at e
    cases hc:env.cells.lookup n with
    | none=>rw[hc] at e;cases e
    | some c=>
     rw[hc] at e
     have hco:cellOf env n=pure c:=by unfold cellOf;rw[hc]
     simp only[hk,lKw,hco,pure_bind]
     exact ih _ e
   ·rw[lJb hk] at e
    simp only[hk,pure_bind,lJ3,lKg]
    exact ih _ e
 have:=go scope.names [] h
 simpa using this
theorem jY3 {env:Env} {cl:List (Str×Addr)}:∀ {names:List (Str×NameKind)} {cs:List (Str×Addr)},clGo env names cs=some cl->(∀n c,cs.lookup n=some c->env.cells.lookup n=some c)->∀n c,cl.lookup n=some c->env.cells.lookup n=some c
 | [],cs,e,h=>by cases e;exact h
 | (n,k)::r,cs,e,h=>by
  unfold clGo at e
  by_cases hk:(k == NameKind.free)=true
  ·rw[lJc hk] at e
   cases hc:env.cells.lookup n with
   | none=>rw[hc] at e;cases e
   | some c=>
    rw[hc] at e
    refine jY3 e fun m d q=> ?_
    rw[lK3] at q
    by_cases hm:(m == n)=true
    ·rw[hm] at q;cases q;rw[eq_of_beq hm];exact hc
    ·simp only[hm] at q;exact h m d q
  ·rw[lJb hk] at e
   exact jY3 e h
theorem kJj {env:Env} {cl:List (Str×Addr)} {m:Str}:∀ {names:List (Str×NameKind)} {cs:List (Str×Addr)},clGo env names cs=some cl->(∃c,cs.lookup m=some c)->∃c,cl.lookup m=some c
 | [],cs,e,h=>by cases e;exact h
 | (n,k)::r,cs,e,h=>by
  unfold clGo at e
  by_cases hk:(k == NameKind.free)=true
  ·rw[lJc hk] at e
   cases hc:env.cells.lookup n with
   | none=>rw[hc] at e;cases e
   | some c=>
    rw[hc] at e
    refine kJj e ?_
    rw[lK3]
    by_cases hm:(m == n)=true
    ·rw[hm];exact⟨_,rfl⟩
    ·simp only[hm];exact h
  ·rw[lJb hk] at e
   exact kJj e h
theorem jY4 {env:Env} {cl:List (Str×Addr)} {m:Str}:∀ {names:List (Str×NameKind)} {cs:List (Str×Addr)},clGo env names cs=some cl->names.lookup m=some .free->∃c,cl.lookup m=some c
 | [],cs,e,h=>by simp at h
 | (n,k)::r,cs,e,h=>by
  unfold clGo at e
  rw[lK3] at h
  by_cases hm:(m == n)=true
  ·rw[hm] at h
   cases h
   rw[lJc (show (NameKind.free == NameKind.free)=true from rfl)] at e
   cases hc:env.cells.lookup n with
   | none=>rw[hc] at e;cases e
   | some c=>
    rw[hc] at e
    refine kJj e ?_
    rw[lK3,hm];exact⟨_,rfl⟩
  ·simp only[hm] at h
   by_cases hk:(k == NameKind.free)=true
   ·rw[lJc hk] at e
    cases hc:env.cells.lookup n with
    | none=>rw[hc] at e;cases e
    | some c=>rw[hc] at e;exact jY4 e h
   ·rw[lJb hk] at e
    exact jY4 e h
theorem jUb {env:Env} {x:Str}:∀ {names:List (Str×NameKind)},(∀y∈names,y.2≠ .cell)->
  ((names.map fun (n,k)=>if (k == NameKind.free&&env.scope.kind == .function&&env.kindOf n == some .cell) then (n,NameKind.cell) else (n,k)).lookup x=some .cell\/
    (names.map fun (n,k)=>if (k == NameKind.free&&env.scope.kind == .function&&env.kindOf n == some .cell) then (n,NameKind.cell) else (n,k)).lookup x=some .free)->names.lookup x=some .free
 | [],_,h=>by simp at h
 | (n,k)::r,hc,h=>by
  have ih:= @jUb env x r (fun y hy=>hc y (lJ2 _ hy))
  have hk:=hc (n,k) lJ1
  rw[lJr] at h
  rw[lK3]
  by_cases hx:(x == n)=true
  ·rw[hx]
   by_cases hf:(k == NameKind.free&&env.scope.kind == .function&&env.kindOf n == some .cell)=true
   ·have:(k == NameKind.free)=true:=by
     rw[lJ6,lJ6] at hf;exact hf.1.1
    rw[eq_of_beq this]
   ·simp only[hf,lJ3,lKg,lK3,hx] at h
    rcases h with h | h
    ·cases h;exact absurd rfl hk
    ·cases h;rfl
  ·simp only[hx]
   refine ih ?_
   by_cases hf:(k == NameKind.free&&env.scope.kind == .function&&env.kindOf n == some .cell)=true
   ·simpa only[hf,lKw,lK3,hx] using h
   ·simpa only[hf,lJ3,lKg,lK3,hx] using h
theorem jUs {env:Env} {x:Str}:∀ {names:List (Str×NameKind)},
  (names.map fun (n,k)=>if (k == NameKind.free&&env.scope.kind == .function&&env.kindOf n == some .cell) then (n,NameKind.cell) else (n,k)).lookup x=some .local->names.lookup x=some .local
 | [],h=>by simp at h
 | (n,k)::r,h=>by
  have ih:= @jUs env x r
  rw[lJr] at h
  rw[lK3]
  by_cases hx:(x == n)=true
  ·rw[hx]
   by_cases hf:(k == NameKind.free&&env.scope.kind == .function&&env.kindOf n == some .cell)=true
   ·simp only[hf,lKw,lK3,hx] at h;cases h
   ·simp only[hf,lJ3,lKg,lK3,hx] at h;exact h
  ·simp only[hx]
   refine ih ?_
   by_cases hf:(k == NameKind.free&&env.scope.kind == .function&&env.kindOf n == some .cell)=true
   ·simpa only[hf,lKw,lK3,hx] using h
   ·simpa only[hf,lJ3,lKg,lK3,hx] using h
noncomputable def jUn (X:Cx) (scope:Scope) (cl:List (Str×Addr)) (C:Addr) (fp:List Addr) (s:Shared) (H:Hp):Cx:=
 {X with env:=compEnvC scope cl C X.env,s₀:=s,H₀:=H,outer:=X.stack,stack:=X.stack,ex:=fp,fn:=fun _=>false,pn:=[],xe:=fun _ _=>False}
structure CmpOk (X:Cx) (scope:Scope) (cl:List (Str×Addr)) (mask:List Bool):Prop where
 cl:clGo X.env scope.names []=some cl
 kind:scope.kind= .function
 nocell:(scope.names.all fun y=>y.2 != .cell)=true
 names:(scope.names.all fun y=>y.2 != .local||scope.names.lookup y.1 == some .local)=true
 vis:(scope.names.all fun y=>y.2 != .free||X.env.kindOf y.1 == some .cell||X.env.kindOf y.1 == some .free)=true
 len:mask.length=X.N.length
 mask:((X.N.zip mask).all fun p=>p.2||scope.names.lookup p.1 != some .local)=true
def msk {α:Type} (mask:List Bool) (τ:List (Option α)):List (Option α):=List.zipWith (fun b o=>if b=true then none else o) mask τ
theorem kVl {α:Type} {mask:List Bool} {τ:List (Option α)} {i:Nat} {t:α} (h:(msk mask τ)[i]? =some (some t)):mask[i]? =some false/\τ[i]? =some (some t):=by
 unfold msk at h
 rw[lXn] at h
 cases hm:mask[i]? with
 | none=>exact absurd (hm▸h) (by simp)
 | some b=>
  cases ht:τ[i]? with
  | none=>rw[hm,ht] at h;cases h
  | some o=>
   rw[hm,ht] at h
   cases b with
   | true=>simp at h
   | false=>simp at h;exact⟨rfl,by rw[h]⟩
theorem jX9 {α:Type} {mask:List Bool} {τ:List (Option α)} (h:mask.length=τ.length):(msk mask τ).length=τ.length:=by
 unfold msk;rw[List.length_zipWith,h,Nat.min_self]
theorem qKf {K:PySem.W.Frag} {H:Hp} {σ:L2.St} {τ:St3} {mask:List Bool} (h:SRel K H σ τ) (hl:mask.length=τ.length):SRel K H (msk mask σ) (msk mask τ):=by
 refine⟨by rw[jX9 hl,jX9 (hl.trans h.1.symm),h.1],fun i t q=> ?_⟩
 obtain⟨h1,h2⟩:=kVl q
 obtain⟨v,h3,h4⟩:=h.2 i t h2
 refine⟨v,?_,h4⟩
 unfold msk
 rw[lXn,h1,h3]
 simp
section
variable {X:Cx} {scope:Scope} {cl:List (Str×Addr)} {mask:List Bool}
theorem CmpOk.local (c:CmpOk X scope cl mask) {i:Nat} {x:Str} (h1:X.N[i]? =some x) (h2:mask[i]? =some false):scope.names.lookup x≠some .local:=by
 have h:=c.mask
 rw[lKk] at h
 have hz:(X.N.zip mask)[i]? =some (x,false):=by rw[lVp];exact⟨h1,h2⟩
 have:=h _ (lJl hz)
 simpa using this
theorem CmpOk.free (c:CmpOk X scope cl mask) {x:Str} (h:scope.names.lookup x=some .free):X.env.kindOf x=some .cell\/X.env.kindOf x=some .free:=by
 have hv:=c.vis
 rw[lKk] at hv
 have:=hv (x,.free) (lV6 h)
 simpa using this
theorem CmpOk.nc (c:CmpOk X scope cl mask):∀y∈scope.names,y.2≠ .cell:=by
 have hv:=c.nocell
 rw[lKk] at hv
 intro y hy
 simpa using hv y hy
theorem CmpOk.nm (c:CmpOk X scope cl mask):∀y∈scope.names,y.2= .local->scope.names.lookup y.1=some .local:=by
 have hv:=c.names
 rw[lKk] at hv
 intro y hy e
 have:=hv y hy
 rw[e] at this
 simpa using this
theorem qQk (c:CmpOk X scope cl mask) {pins:List (Addr×Obj)} {σ:L2.St} {H:Hp} {s:Shared} {fp:List Addr} {h4:Heap} {tk:Nat} (I:Inv X pins σ H s) (hf:∀b∈fp,FpOk X pins H b) (ho:∀b∈fp,∃o,s.heap.get? b=some o)
  (hns:h4.Ns s.heap.objs.size fun _=>none) (hk:∀b o,s.heap.get? b=some o->h4.get? b=some o):
  Inv (jUn X scope cl s.heap.objs.size fp s H) [] (msk mask σ) H {s with heap:=h4,toks:=tk}:=by
 have sub:=jY3 c.cl (by simp)
 have ok:(jUn X scope cl s.heap.objs.size fp s H).Ok:=by
  refine⟨I.ok.mod,c.kind,I.ok.glob,I.ok.blt,lJh _,fun x y d h1 h2=>I.ok.inj x y d (sub _ _ h1) (sub _ _ h2),fun x hx=>jY4 c.cl (jUb (env:=X.env) c.nc hx),fun x d hx=>absurd (show false=true from hx) lJm,I.ok.hd,I.ok.gd,I.ok.frames,.inl rfl,
   fun b hb=> ?_,I.bs,lKf I.ok.bsz I.sz,fun b o e hb=> ?_,fun b hb hz=> ?_,I.stack,I.stkFree⟩
  ·obtain⟨o,e⟩:=ho b hb
   exact⟨lJs (lJi e),fun x d hd=>(hf b hb).2.2.2.2.1 x d (sub _ _ hd)⟩
  ·rcases (hf b hb).2.2.2.1 with z | z
   ·exact I.ok.noex b o e z
   ·exact absurd (lKb (lJi e) I.ok.bsz) (Nat.not_lt.mpr z)
  ·rcases lJv.mp (I.stkSub b hz) with z | z
   ·exact (hf b hb).2.1 z
   ·exact (hf b hb).2.2.1 z
 refine⟨ok,rfl,I.bare,Un.kept hk,⟨_,hns,fun i x v h1 h2 h3=> ?_⟩,fun x d hd=> ?_,I.hok.fresh (lJh _),fun x d hd=>I.freeC x d (sub _ _ hd),fun p hp=>absurd (show p∈([]:List (Addr×Obj)) from hp) (by simp),I.hok.kept hk,?_⟩
 ·obtain⟨m1,m2⟩:=kVl h2
  have nl:=c.local h1 m1
  have fr:scope.names.lookup x=some .free:=by
   rcases h3 with z | z | z
   ·exact absurd (jUs (env:=X.env) z) nl
   ·exact jUb (env:=X.env) c.nc (.inl z)
   ·exact jUb (env:=X.env) c.nc (.inr z)
  have hkk:=c.free fr
  obtain⟨m,hn,hl⟩:=I.loc
  have vis:Vis X.env.scope x:=by rcases hkk with z | z;exact .inr (.inl z);exact .inr (.inr z)
  obtain⟨u,ru,lk⟩:=hl i x v h1 m2 vis
  refine⟨u,ru,?_⟩
  rcases lk with ⟨z,_⟩ | ⟨_,d,hd,cd⟩
  ·exfalso;rcases hkk with q | q<;>(rw[z] at q;cases q)
  ·obtain⟨d',hd'⟩:=jY4 c.cl fr
   have:d'=d:=by have:=sub _ _ hd';rw[hd] at this;exact (lJ4 this).symm
   subst this
   refine .inr ⟨?_,d',hd',cd.keeps hk⟩
   rcases h3 with z | z | z
   ·exact absurd (jUs (env:=X.env) z) nl
   ·exact .inl z
   ·exact .inr z
 ·obtain⟨v,hv⟩:=I.cell x d (sub _ _ hd)
  exact⟨v,hv.keeps hk⟩
 ·exact (jX9 (c.len.trans I.len.symm)).trans I.len
theorem qZ7 {pins:List (Addr×Obj)} {σ σ':L2.St} {H H':Hp} {s s':Shared} {fp:List Addr} {pl:List (Addr×Obj)} {C:Addr} (I:Inv X pins σ H s) (hf:∀b∈fp,FpOk X pins H b) (hC:s.heap.objs.size<=C)
  (J:Inv (jUn X scope cl C fp s H) pl σ' H' s') {h':Heap} (hb:Heap.SameBut C s'.heap h'):Inv X pins σ H' {s' with heap:=h'}:=by
 have ne:∀b o,s.heap.get? b=some o->b≠C:=fun b o e=>lJs (lKb (lJi e) hC)
 have u:=J.base
 have hfree:H' C=none:=J.free
 have u':Un (frs X.stack) fp H H' s.heap h':=⟨fun b o e n hb' hx=>(hb.2 b (ne b o e)).trans (u.keep b o e n hb' hx),fun b o e n hb' hx=>let ⟨sl,z⟩:=u.slot b o e n hb' hx;⟨sl,(hb.2 b (ne b o e)).trans z⟩,
  u.free,fun b o e hx=>let ⟨o',z⟩:=u.there b o e hx;⟨o',(hb.2 b (ne b o e)).trans z⟩,u.tups,u.frzs,u.tbls⟩
 have hok:HOk X.prog X.w H' h':=fun b ob e=>(J.hok b ob e).stay (fun c w' hc q=>(hb.2 c (by
  rintro rfl
  rcases hc with rfl | hc
  ·rw[hfree] at e;cases e
  ·rw[hfree] at hc;cases hc)).trans q) (fun _ q=>q) fun _ _ q=>q
 exact I.call' (s':={s' with heap:=h'}) J.os u' hok J.bare fun b hb=>⟨(hf b hb).2.2.2.1,(hf b hb).2.1,(hf b hb).2.2.2.2.1,(hf b hb).2.2.2.2.2⟩
end
abbrev qQi (ifs:List Expr) (env:Env):Sem Bool:=forIn ifs true fun c b=>if b=true then isTrue c env (eval c env) >>= fun d=>pure (ForInStep.yield d) else pure (ForInStep.yield b)
noncomputable def qXh (M:Model) (A:Around) (elt tg:Expr) (ifs:List Expr) (it acc:Value) (env:Env) (stop more:Shared->Prop):Option Value->Shared->Prop
 | none=>stop
 | some v=>fun z=>wpAny M A (letOwnedTupleGo tg it v) (fun _ z1=>wpAny M A (assign tg env v) (fun _ z2=>wpAny M A (qQi ifs env) (fun ok z3=>if ok=true then wpAny M A (eval elt env) (fun x z4=>wpAny M A (call (.builtin "list.append") [acc,x]) (fun _=>more) (fun _ _=>False) z4) (fun _ _=>False) z3 else more z3) (fun _ _=>False) z2) (fun _ _=>False) z1) (fun _ _=>False) z
theorem qQj {P:Program} {w:World} {A:Around} {R:Result->Shared->Prop} {s:Shared} {elt tg iter:Expr} {ifs:List Expr} {scope:Scope} {pos:Pos} {it acc:Value} {env:Env} (I:Nat->Shared->Prop)
  (turn:∀k z,I k z->wpAny (model P w) A (pyNext it) (qXh (model P w) A elt tg ifs it acc env (R (.ok .next)) fun z'=>∃m,m<k/\I m z') (fun _ _=>False) z) (n:Nat) (h:I n s):codeAny (model P w) A (.compLoop (.ListComp elt [⟨tg,iter,ifs,0⟩] scope pos) 0 it acc env) R s:=by
 refine codeAny_loop rfl I (fun k z hz=>(show wpAny _ A ((compTurn (.ListComp elt [⟨tg,iter,ifs,0⟩] scope pos) 0 it acc env).onRaise _) _ _ z from wpAny_noted ?_)) n h
 rw[compTurn_list]
 refine lJa (wpAny_standAt (lJa (lQj (turn k z hz) (fun r z1 h1=> ?_) fun _ _ e=>e.elim)))
 cases r with
 | none=>exact lJd h1
 | some v=>
  refine lJa (lQj h1 (fun _ z2 h2=>lJa (lQj h2 (fun _ z3 h3=>lJa (lQj h3 (fun ok z4 h4=> ?_) fun _ _ e=>e.elim)) fun _ _ e=>e.elim)) fun _ _ e=>e.elim)
  by_cases hok:ok=true
  ·subst hok
   exact lJa (lJa (lQj h4 (fun x z5 h5=>lJa (lQj h5 (fun _ z6 h6=>lJd (lJd ⟨rfl,h6⟩)) fun _ _ e=>e.elim)) fun _ _ e=>e.elim))
  ·obtain rfl:ok=false:=by simpa using hok
   exact lJd ⟨rfl,h4⟩
def PIf3 (X:Cx) (ifs:List Expr) (t:TT3):Prop:=∀(pins:List (Addr×Obj)) (s:Shared) (τ:St3) (G:Gp) (H:Hp) (Q:Bool->Gp->Prop),Inv3 X pins τ G H s->t τ G Q->
 wpAny (model X.prog X.w) X.A (forIn ifs true fun c r=>if r=true then do let ok <-isTrue c X.env (eval c X.env);pure (ForInStep.yield ok) else pure (ForInStep.yield r)) (TP3 X pins τ H Q) X.xe s
def jQ2:TT3:=fun _ G Q=>Q true G
theorem jQh {X:Cx}:PIf3 X [] jQ2:=fun _ _ _ G H _ I q=>wpAny_tests_nil ⟨G,H,.refl H,I,q⟩
theorem kKa {X:Cx} {c:Expr} {t:TT3} (h:PT3 X c t):PIf3 X [c] t:=fun pins s τ G H Q I q=>wpAny_tests_one (h pins s τ G H Q I q)
def kZr (mask:List Bool) (g:TG3):Prop:=∀v τ G Q,g v τ G Q->g v τ G fun τ2 G2=>Q τ2 G2/\τ2.length=τ.length/\∀i:Nat,mask[i]? ≠some true->τ2[i]? =τ[i]?
def kYk (mask:List Bool) (g:TGs3):Prop:=∀v τ G Q,g v τ G Q->g v τ G fun τ2 G2=>Q τ2 G2/\τ2.length=τ.length/\∀i:Nat,mask[i]? ≠some true->τ2[i]? =τ[i]?
theorem jJ6 {mask:List Bool} {i:Nat} (h:mask[i]? =some true:=by rfl):kZr mask (jJh i):=fun v τ G Q q=>
 ⟨q,lQ9 ..,fun j hj=>lKr (by rintro rfl;exact hj h)⟩
theorem qKz {mask:List Bool}:kYk mask gNil:=fun v τ G Q ⟨e,q⟩=>⟨e,q,rfl,fun _ _=>rfl⟩
theorem jYc {mask:List Bool} {t:TG3} {u:TGs3} (h1:kZr mask t) (mono:∀v τ G Q Q',(∀a b,Q a b->Q' a b)->t v τ G Q->t v τ G Q') (h2:kYk mask u) (mono2:∀v τ G Q Q',(∀a b,Q a b->Q' a b)->u v τ G Q->u v τ G Q'):kYk mask (jKd t u):=fun vs τ G Q ⟨v,r,e,q⟩=>by
 refine⟨v,r,e,mono _ _ _ _ _ (fun τ2 G2 ⟨z,l1,k1⟩=> ?_) (h1 _ _ _ _ q)⟩
 exact mono2 _ _ _ _ _ (fun τ3 G3 ⟨z3,l3,k3⟩=>⟨z3,l3.trans l1,fun i hi=>(k3 i hi).trans (k1 i hi)⟩) (h2 _ _ _ _ z)
theorem jUw {i:Nat}:∀v τ G (Q Q':St3->Gp->Prop),(∀a b,Q a b->Q' a b)->jJh i v τ G Q->jJh i v τ G Q':=fun _ _ _ _ _ h q=>h _ _ q
theorem kKc:∀v τ G (Q Q':St3->Gp->Prop),(∀a b,Q a b->Q' a b)->gNil v τ G Q->gNil v τ G Q':=fun _ _ _ _ _ h q=>⟨q.1,h _ _ q.2⟩
theorem kVt {t:TG3} {u:TGs3} (m1:∀v τ G (Q Q':St3->Gp->Prop),(∀a b,Q a b->Q' a b)->t v τ G Q->t v τ G Q') (m2:∀v τ G (Q Q':St3->Gp->Prop),(∀a b,Q a b->Q' a b)->u v τ G Q->u v τ G Q'):
  ∀v τ G (Q Q':St3->Gp->Prop),(∀a b,Q a b->Q' a b)->jKd t u v τ G Q->jKd t u v τ G Q':=fun _ _ _ _ _ h ⟨v,r,e,q⟩=>⟨v,r,e,m1 _ _ _ _ _ (fun _ _ z=>m2 _ _ _ _ _ h z) q⟩
theorem qKy {mask:List Bool} {n:Nat} {u:TGs3} (h:kYk mask u):kZr mask (gTup n u):=fun v τ G Q ⟨xs,e,l,q⟩=>⟨xs,e,l,h _ _ _ _ q⟩
theorem qVf {mask:List Bool} {τ τ2:St3} (hl:mask.length=τ.length) (l:τ2.length=(msk mask τ).length) (h:∀i:Nat,mask[i]? ≠some true->τ2[i]? =(msk mask τ)[i]?):msk mask τ2=msk mask τ:=by
 have ll:=jX9 hl
 apply lK8
 intro i
 unfold msk at h ⊢
 rw[lXn,lXn]
 cases hm:mask[i]? with
 | none=>rfl
 | some b=>
  cases b with
  | true=>
   have h1:i<mask.length:=by
    rcases lQ8 i mask.length with z | z
    ·exact z
    ·rw[lKa z] at hm;cases hm
   have h2:i<τ2.length:=by omega
   have h3:i<τ.length:=by omega
   rw[lJg h2,lJg h3]
   simp
  | false=>
   have:=h i (by rw[hm];simp)
   rw[lXn,hm] at this
   rw[this]
   cases τ[i]? with
   | none=>rfl
   | some o=>simp
def kUz (mask:List Bool) (g:TG3) (tif:TT3) (te:TE3) (τ:St3) (xs:List T) (stay:Gp->Prop) (G:Gp) (Q:VK3):Prop:=
 ∀D,G D=none->∃P:Nat->List T->Gp->Prop,P 0 [] (gup G D (.lst []))/\(∀i acc G,i<=xs.length->P i acc G->stay G/\G D=some (.lst acc))/\
  (∀i x acc G,xs[i]? =some x->P i acc G->g x (msk mask τ) G fun τ2 G2=>tif τ2 G2 fun b G3=>if b=true then te τ2 G3 fun y G4=>G4 D=some (.lst acc)/\acc.length<sizeLine/\P (i+1) (acc++[y]) (gup G4 D (.lst (acc++[y]))) else P (i+1) acc G3)/\
  ∀acc G,P xs.length acc G->Q (.ref D) G
def jKz (mask:List Bool) (wi:TI3) (g:TG3) (tif:TT3) (te:TE3):TE3:=fun τ G Q=>wi τ G fun xs stay G1=>kUz mask g tif te τ xs stay G1 Q
section
variable {X:Cx} {scope:Scope} {cl:List (Str×Addr)} {mask:List Bool} {elt iter tg:Expr} {ifs:List Expr} {pos:Pos} {wi:TI3} {g:TG3} {tif:TT3} {te:TE3}
theorem kKe (hc:X.calm=true) (ok:CmpOk X scope cl mask)
  (hgk:kZr mask g) (hg:∀C fp s H,PG3 (jUn X scope cl C fp s H) tg g) (hif:∀C fp s H,PIf3 (jUn X scope cl C fp s H) ifs tif) (he:∀C fp s H,PE3 (jUn X scope cl C fp s H) elt te)
  {pins:List (Addr×Obj)} {τ:St3} {H:Hp} {Q:VK3} {itv:Value} {s2:Shared} {E:Value->Shared->Prop} {RR:Value->Addr->Result->Shared->Prop}
  (h2:PIE3 X pins τ H tg (fun xs stay G=>kUz mask g tif te τ xs stay G Q) itv s2)
  (hRR:∀D C s' m,s'.heap.Ns C m->(∃G1 H1,Ext H H1/\H1 C=none/\Q (.ref D) G1/\∀h',Heap.SameBut C s'.heap h'->Inv3 X pins τ G1 H1 {s' with heap:=h'})->(∃oC,s'.heap.get? C=some oC/\C≠X.env.locals/\C∉X.fs/\∀v,oC.data≠ .cell v)->(∀x c,X.env.cells.lookup x=some c->c≠C)->(∀p∈X.pn++pins,p.1≠C)->X.s₀.heap.objs.size<=C->RR (.ref D) C (.ok .next) s'):
  wpAny (model X.prog X.w) X.A (newList []) (fun acc s₃=>wpAny (model X.prog X.w) X.A (newFunctionEnv scope X.env.globals cl [] X.env.qual none .none (some X.env)) (fun cenv s₄=>
   codeAny (model X.prog X.w) X.A (.compStart (.ListComp elt [⟨tg,iter,ifs,0⟩] scope pos) 0 itv acc {cenv with scope:=relabel scope X.env}) (RR acc cenv.locals) s₄) E s₃) E s2:=by
 obtain⟨it,fp,tn,J,xs,stay,G2,H2,e,eH,⟨σ,I2,hs2,hg2⟩,T0,st2,f2,IT,hq⟩:=h2
 subst e
 refine lKe (wpAny_newFunctionEnv ok.nc (by intro y hy;simp at hy) (fun h4 hns hsb=> ?_) ok.kind)
 dsimp only at hns hsb ⊢
 have hD:H2 s2.heap.objs.size=none:=I2.hok.fresh (lJh _)
 generalize hs3:({s2 with heap:=s2.heap.push {cls:= .type "list",dict:=none,data:= .seq ([]:List Value).toArray} }:Shared)=s3
 have eh3:s2.heap.push {cls:= .type "list",dict:=none,data:= .seq ([]:List Value).toArray}=s3.heap:=by rw[<-hs3]
 have I3:Inv X pins σ (upd H2 s2.heap.objs.size (.lst [])) s3:=by
  rw[<-hs3]
  exact I2.laid (t':=s2.toks) (fun b u e=>lJk _ e) (lJh _) ⟨lJy _,[],0,.nil,lJu _ rfl⟩
 rw[eh3] at hns hsb ⊢
 generalize hDd:s2.heap.objs.size=D at *
 have e3:Ext H2 (upd H2 D (.lst [])):= .upd (.none hD)
 have hg3:GRel X.K (upd H2 D (.lst [])) (gup G2 D (.lst [])):=hg2.lstNew (show Reps X.K H2 [] [] from rfl) (.none hD)
 have obj2:∀b∈fp,∃o,s2.heap.get? b=some o:=fun b hb=>let ⟨o,e,_⟩:=T0.obj 0 _ st2 b hb;⟨o,e⟩
 have fD:∀b∈fp,b≠D:=fun b hb=>by obtain⟨o,e⟩:=obj2 b hb;rw[<-hDd];exact lJs (lJi e)
 have f3:∀b∈fp,FpOk X pins (upd H2 D (.lst [])) b:=fun b hb=>⟨by rw[jKg (fD b hb)];exact (f2 b hb).1,(f2 b hb).2⟩
 have k3:∀b o,s2.heap.get? b=some o->s3.heap.get? b=some o:=fun b o e=>by rw[<-eh3];exact lJk _ e
 have obj3:∀b∈fp,∃o,s3.heap.get? b=some o:=fun b hb=>let ⟨o,e⟩:=obj2 b hb;⟨o,k3 b o e⟩
 have k4:∀b o,s3.heap.get? b=some o->h4.get? b=some o:=fun b o e=>hsb.extBut b o (lJs (lJi e)) (lJk _ e)
 have Ic:Inv (jUn X scope cl s3.heap.objs.size fp s3 (upd H2 D (.lst []))) [] (msk mask σ) (upd H2 D (.lst [])) {s3 with heap:=h4,toks:=s3.toks+([]:List (Str×Value)).length}:=qQk ok I3 f3 obj3 hns k4
 have st4:tn 0 h4:=T0.keep _ _ _ st2 fun b _ o e=>k4 b o (k3 b o e)
 have hl3:mask.length=τ.length:=ok.len.trans (I3.len.symm.trans hs2.1)
 obtain⟨P,p0,hst,turn,fin⟩:=hq D (hg2.fresh hD)
 have fpc:∀ {H':Hp} {pl:List (Addr×Obj)},(∀b∈fp,H' b=none)->(∀p∈pl,p.1∉fp)->∀b∈fp,FpOk (jUn X scope cl s3.heap.objs.size fp s3 (upd H2 D (.lst []))) pl H' b:=fun {H' pl} hn hp b hb=>by
  obtain⟨o,e⟩:=obj3 b hb
  refine⟨hn b hb,lJs (lJi e),?_,.inl hb,fun x d hd=>(f3 b hb).2.2.2.2.1 x d (jY3 ok.cl (by simp) _ _ hd),fun p hpp z=> ?_⟩
  ·intro z
   rcases lJv.mp (I3.stkSub b z) with q | q
   ·exact (f3 b hb).2.1 q
   ·exact (f3 b hb).2.2.1 q
  ·have hpp':p∈pl:=by simpa[jUn] using hpp
   exact hp p hpp' (z▸hb)
 have loop:∀s4:Shared,s4={s3 with heap:=h4,toks:=s3.toks+([]:List (Str×Value)).length}->
   codeAny (model X.prog X.w) X.A (.compLoop (.ListComp elt [⟨tg,iter,ifs,0⟩] scope pos) 0 (.ref it) (.ref D) (compEnvC scope cl s3.heap.objs.size X.env)) (RR (.ref D) s3.heap.objs.size) s4:=by
  rintro s4 rfl
  refine qQj (fun n s'=>∃i acc G' H',n=xs.length-i/\i<=xs.length/\Ext H2 H'/\Inv3 (jUn X scope cl s3.heap.objs.size fp s3 (upd H2 D (.lst []))) [] (msk mask τ) G' H' s'/\tn i s'.heap/\(∀b∈fp,H' b=none)/\P i acc G') ?_ xs.length
   ⟨0,[],_,_,rfl,lJy _,e3,⟨_,Ic,qKf (hs2.mono e3) hl3,hg3⟩,st4,fun b hb=>(f3 b hb).1,p0⟩
  rintro n s5 ⟨i,acc,G5,H5,en,hi5,e5,⟨σ5,I5,hs5,hg5⟩,st5,fr5,p5⟩
  obtain⟨hstay,hacc⟩:=hst i acc G5 hi5 p5
  obtain⟨go,stop,yl⟩:=IT i H5 G5 e5 hg5 hstay
  by_cases hlt:i<xs.length
  ·refine thn (T0.item (jUn X scope cl s3.heap.objs.size fp s3 (upd H2 D (.lst []))) rfl rfl rfl hc i [] s5 σ5 H5 (fun _ _=>False) I5 (fpc fr5 (by simp)) st5 (go hlt)) fun r s6 ⟨u,hr,h6⟩=> ?_
   subst hr
   refine thn h6 fun _ s7 ⟨x,H7,I7,r7,y7,st7,fr7⟩=> ?_
   obtain⟨e7,g7,t,ht,rt⟩:=yl hlt x H7 y7
   have I7':=I7.pinned (fpc fr7 (by simp)) (T0.obj _ _ st7)
   refine thn (hg _ _ _ _ ([]++jV1 fp s7.heap) s7 (msk mask τ) G5 H7 t u _ ⟨σ5,I7',hs5.mono e7,g7⟩ ⟨x,rt,r7⟩ (hgk _ _ _ _ (turn i t acc G5 ht p5))) fun _ s8 ⟨τ8,G8,H8,e8,I8,q8,ql8,qk8⟩=> ?_
   refine thn (hif _ _ _ _ ([]++jV1 fp s7.heap) s8 τ8 G8 H8 _ I8 q8) fun b s9 ⟨G9,H9,e9,I9,q9⟩=> ?_
   have back:∀ {Ga:Gp} {Ha:Hp} {sa:Shared} {acc':List T},Ext H7 Ha->Inv3 (jUn X scope cl s3.heap.objs.size fp s3 (upd H2 D (.lst []))) ([]++jV1 fp s7.heap) τ8 Ga Ha sa->P (i+1) acc' Ga->
     ∃m,m<n/\∃i acc G' H',m=xs.length-i/\i<=xs.length/\Ext H2 H'/\Inv3 (jUn X scope cl s3.heap.objs.size fp s3 (upd H2 D (.lst []))) [] (msk mask τ) G' H' sa/\tn i sa.heap/\(∀b∈fp,H' b=none)/\P i acc G':=by
    rintro Ga Ha sa acc' ea ⟨σa,Ia,hsa,hga⟩ pa
    have e2a:Ext H5 Ha:=e7.trans ea
    have hla:mask.length=τ8.length:=by rw[ql8,jX9 hl3];exact hl3
    have hsm:=qKf (mask:=mask) hsa hla
    rw[qVf hl3 ql8 qk8] at hsm
    refine⟨xs.length-(i+1),by omega,i+1,acc',Ga,Ha,rfl,hlt,e5.trans e2a,⟨msk mask σa,(Ia.weak (jX9 (hla.trans hsa.1.symm)) fun j v hv=>(kVl hv).2).pins_of (fun p hp=>absurd hp (by simp)),hsm,hga⟩,?_,fun b hb=> ?_,pa⟩
    ·exact T0.keep _ _ _ st7 fun b hb o e=>(Ia.pin (b,o) (lKs _ (lKs _ (jVs hb e)))).1
    ·obtain⟨o,e,d⟩:=T0.obj _ _ st7 b hb
     exact (Ia.pin (b,o) (lKs _ (lKs _ (jVs hb e)))).2.1
   cases b with
   | false=>
    rw[lJb lJm] at q9 ⊢
    exact back (e8.trans e9) I9 q9
   | true=>
    rw[lJc rfl] at q9 ⊢
    refine thn (he _ _ _ _ ([]++jV1 fp s7.heap) s9 τ8 G9 H9 _ I9 q9) fun y s10 w_=>w_.el fun ty G10 H10 e10 I10 r10 ⟨hD10,hz10,q10⟩=> ?_
    obtain⟨vy,rvy,ruy⟩:=r10
    refine thn (jK5 ([]++jV1 fp s7.heap) s10 τ8 G10 H10 (.ref D) [ty] (.ref D) [y] (fun _ G'=>P (i+1) (acc++[ty]) G') I10 ⟨.ref D,rfl,rfl⟩ ⟨[vy],.one rvy,.cons ruy .nil⟩ ⟨D,acc,ty,rfl,rfl,hD10,hz10,q10⟩) fun _ s11 w_=>w_.el fun _ G11 H11 e11 I11 _ q11=> ?_
    exact back (((e8.trans e9).trans e10).trans e11) I11 q11
  ·have ei:i=xs.length:=by omega
   refine thn (T0.done (jUn X scope cl s3.heap.objs.size fp s3 (upd H2 D (.lst []))) rfl rfl rfl hc i [] s5 σ5 H5 (fun _ _=>False) I5 (fpc fr5 (by simp)) st5 (stop (by omega))) fun r s6 ⟨hr,I6⟩=> ?_
   subst hr;subst ei
   obtain⟨m,hn,_⟩:=I6.loc
   obtain⟨oC,es,ep,hoC,hdC,_⟩:=id hn
   refine hRR D s3.heap.objs.size s6 m hn ⟨G5,H5,eH.trans e5,I6.free,fin acc G5 p5,fun h' hb=>⟨σ,qZ7 I3 f3 (lJh _) I6 hb,hs2.mono e5,hg5⟩⟩
    ⟨oC,hoC,lQx I3.lt,I3.nofs (lJh _),fun v z=>by rw[hdC] at z;cases z⟩ (fun x d hd=> ?_) (fun p hp=> ?_) I3.sz
   ·obtain⟨v,q⟩:=I3.cell x d hd
    exact lJs q.lt
   ·exact lJs (lJi (I3.pin p hp).1)
 exact codeAny_compStart_list (loop _ (by rw[<-hs3])) (T0.self _ 0 _ _ _ st4 (loop _ (by rw[<-hs3])))
theorem jQo (hc:X.calm=true) (ok:CmpOk X scope cl mask) (hi:PI3 X tg iter wi) (hgk:kZr mask g) (hg:∀C fp s H,PG3 (jUn X scope cl C fp s H) tg g) (hif:∀C fp s H,PIf3 (jUn X scope cl C fp s H) ifs tif) (he:∀C fp s H,PE3 (jUn X scope cl C fp s H) elt te)
  (hs:∀x,foldedSetIterable iter X.env x=pure x:=by intro _;rfl):PE3 X (.ListComp elt [⟨tg,iter,ifs,0⟩] scope pos) (jKz mask wi g tif te):=by
 intro pins s τ G H Q I h
 rw[eval_ListComp]
 refine wpAny_comprehension_free (use:=none) rfl hs (kKf ok.cl) ok.kind ok.nm (thn (hi pins s τ G H _ I h) fun xv s1 h1=>thn h1 fun itv s2 h2=> ?_)
 refine kKe (RR:=fun acc C=>compPost (model X.prog X.w) X.A X.xe none (EP3 X pins τ H Q) acc C) hc ok hgk hg hif he h2 ?_
 rintro D C s' m hn ⟨G1,H1,e1,_,q1,hI⟩ _ _ _ _
 exact⟨m,hn,fun h' hb=>⟨.ref D,G1,H1,e1,hI h' hb,⟨.ref D,rfl,rfl⟩,q1⟩⟩
theorem jZj {i:Nat} {y:Str} {py spos:Pos} (hc:X.calm=true) (hN:X.N.Nodup) (ok:CmpOk X scope cl mask) (hi:PI3 X tg iter wi) (hgk:kZr mask g) (hg:∀C fp s H,PG3 (jUn X scope cl C fp s H) tg g) (hif:∀C fp s H,PIf3 (jUn X scope cl C fp s H) ifs tif) (he:∀C fp s H,PE3 (jUn X scope cl C fp s H) elt te)
  (hy:X.N[i]? =some y:=by rfl) (hx:X.env.scope.names.lookup y=some .local:=by rfl)
  (hsw:swapsWith (.ListComp elt [⟨tg,iter,ifs,0⟩] scope pos) (some (.Name y py)) spos.line X.env=pure true:=by rfl)
  (hs:∀x,foldedSetIterable iter X.env x=pure x:=by intro _;rfl):PS3 X (.Assign [.Name y py] (.ListComp elt [⟨tg,iter,ifs,0⟩] scope pos) spos) (tAsg (jKz mask wi g tif te) (jJh i)):=by
 intro pins s τ G H D I h
 rw[exec_Assign_Name_used _ _ _ _ hsw];refine lJa (wpAny_standAt (lJa ?_))
 show wpAny _ X.A (do let _ <-comprehension (.ListComp elt [⟨tg,iter,ifs,0⟩] scope pos) scope X.env _ (newList []) false (eval iter X.env) (some (assign (.Name y py) X.env))) _ _ s
 refine lJa (lQj (wpAny_comprehension_free (use:=some (assign (.Name y py) X.env)) (Q:=fun _ s'=>SP3 X pins H D .next s') rfl hs (kKf ok.cl) ok.kind ok.nm
  (thn (hi pins s τ G H _ I h) fun xv s1 h1=>thn h1 fun itv s2 h2=> ?_)) (fun _ s' hq=>lJd (lJd hq)) fun _ _ e=>e)
 refine kKe (RR:=fun acc C=>compPost (model X.prog X.w) X.A X.xe (some (assign (.Name y py) X.env)) (fun _ s'=>SP3 X pins H D .next s') acc C) hc ok hgk hg hif he h2 ?_
 rintro Dd C s' m hn ⟨G1,H1,e1,hH1C,q1,hI⟩ ⟨oC,hoC,c1,c2,c3⟩ c4 c5 c6
 show wpAny _ X.A (assign (.Name y py) X.env (.ref Dd)) _ _ _
 obtain⟨σ1,I1,hs1,hg1⟩:=hI s'.heap (.refl ..)
 have I1':Inv X (pins++[(C,oC)]) σ1 H1 s':=I1.pins_of fun p hp=>(lKc.mp hp).elim (fun z=>I1.pin p (lKs _ z)) fun z=>by
  obtain rfl:p=(C,oC):=by simpa using z
  exact⟨hoC,hH1C,c1,c2,c3⟩
 refine wpAny_assign_Name (jXg I1' hN hy (.inl hx) (v:= .ref Dd) rfl (fun s2 I2=> ?_) (.inr hx))
 have hC2:s2.heap.get? C=some oC:=(I2.pin (C,oC) (lKs _ (lKs _ (by simp)))).1
 obtain⟨oC',es,ep,hoC',r⟩:=hn
 have eo:oC'=oC:=by rw[hoC] at hoC';exact (lJ4 hoC').symm
 subst eo
 refine⟨m,⟨oC',es,ep,hC2,r⟩,fun h' hb=>⟨_,G1,H1,e1,⟨_,?_,hs1.set i (show Rep X.K H1 (.ref Dd) (.ref Dd) from rfl),hg1⟩,q1⟩⟩
 exact I2.unpinned.turned (t':=s2.toks) (fun b o hb' e=>(hb.2 b hb').trans e) hH1C c1 (.inr c6) c4 c5
end
end L3
namespace HT
open PySem PyProof.Rows
def lexLe:(xs ys:List Int)->Bool
 | [],_=>true
 | _::_,[]=>false
 | x::xs,y::ys=>if x=y then lexLe xs ys else decide (x<=y)
theorem lexLe_cons (x y:Int) (xs ys:List Int):lexLe (x::xs) (y::ys)=if x=y then lexLe xs ys else decide (x<=y):=rfl
theorem lexLe_nil (ys:List Int):lexLe [] ys=true:=by cases ys<;>rfl
theorem kJz (x:Int) (xs:List Int):lexLe (x::xs) []=false:=rfl
theorem qUt (A:Around) (s:Shared) (a:Int) (t:Tok) (c:Int) (u:Tok) (prog:Program) (w:World) (E:Value->Shared->Prop) (Q:Value->Shared->Prop) (h:Q (.bool (decide (a<=c))) s):
  wpAny (model prog w) A (richCompare .LtE (.int a t) (.int c u)) Q E s:=
 (PyProof.Rows.le_int h:wpAny (model prog w) A (compareOp .LtE (.int a t) (.int c u)) Q E s)
section
open PySem.SeqAt
open PySem.AutoSeq1 (wpAny_loadPart')
open PySem.MeetsSeq PySem.MeetsSeq2 PySem.MeetsSeq3
theorem kKj (l b:Addr) (items items2:Array Value) (n n2:Nat) (dd dd2:Option Addr) (sl sl2:Array (Option Value)) (ns ms:List Int) (hi:IntsAre items.toList ns) (hj:IntsAre items2.toList ms):
  Meets (Builtin.«tuple.__le__» ⟨[.ref l,.ref b],[]⟩)
   (fun _ R s=>s.heap.get? l=some {cls:= .type "tuple",dict:=dd,data:= .seq items n,slots:=sl}/\s.heap.get? b=some {cls:= .type "tuple",dict:=dd2,data:= .seq items2 n2,slots:=sl2}/\
    R (.ok (.ret (.bool (lexLe ns ms)))) s):=
 .of_wp fun prog w A R s h=>by
  obtain⟨hp,g,d,tk,os⟩:=s;obtain⟨hl,hb,h⟩:=h
  have f2:=AutoSeq1.sub_tuple_tuple
  have z1:items.size=ns.length:=by rw[<-hi.length];simp
  have z2:items2.size=ms.length:=by rw[<-hj.length];simp
  wp_walk using wpAny_loadPart' hl,wpAny_loadPart' hb,wpAny_forIn_list _ (fun rest b s'=>b.1=none/\s'=⟨hp,g,d,tk,os⟩/\∃(vs ws:List Value) (ns' ms':List Int),rest=vs.zip ws/\
   IntsAre vs ns'/\IntsAre ws ms'/\ns'.length+items2.size=ms'.length+items.size/\R (.ok (.ret (.bool (lexLe ns' ms')))) ⟨hp,g,d,tk,os⟩) _
  case turn=>
   rintro⟨y,x⟩ rest b s' ⟨hb',rfl,vs,ws,ns',ms',hz,hvi,hwi,hlen,hR⟩
   cases hvi with
   | nil=>rw[List.zip_nil_left] at hz;cases hz
   | cons a t hvi'=>
    cases hwi with
    | nil=>rw[List.zip_nil_right] at hz;cases hz
    | cons c u hwi'=>
     rw[lXc] at hz
     injection hz with hyx hrest
     injection hyx with hy hx
     subst hy hx
     rw[lexLe_cons] at hR
     simp only[lJ5] at hlen
     obtain⟨e,he,hiff⟩:=qV0 A.in1 ⟨hp,g,d,tk,os⟩ a t c u
     refine lJa (he prog w _ _ ?_)
     cases e with
     | true=>
      rw[lJc (hiff.mp rfl)] at hR
      wp_walk
      exact⟨rfl,rfl,_,_,_,_,hrest,hvi',hwi',by omega,hR⟩
     | false=>
      rw[lJb (fun q=>absurd (hiff.mpr q) lJm)] at hR
      have hri:=qUt A.in1 ⟨hp,g,d,tk,os⟩ a t c u prog w
      wp_walk using hri
      exact⟨_,rfl,by simpa using hR⟩
  case fin=>
   rintro⟨b1,b2⟩ s' ⟨hb',rfl,vs,ws,ns',ms',hz,hvi,hwi,hlen,hR⟩
   simp only at hb'
   subst hb'
   have hv:lexLe ns' ms'=decide (items.size<=items2.size):=by
    cases hvi with
    | nil=>
     simp only[lK9] at hlen
     rw[lexLe_nil]
     exact (lJn (by omega)).symm
    | cons a t hv=>
     cases hwi with
     | nil=>
      simp only[lK9,lJ5] at hlen
      rw[kJz]
      exact (lJo (by omega)).symm
     | cons c u hw=>
      rw[lXc] at hz
      cases hz
   rw[hv] at hR
   wp_walk
   exact⟨_,rfl,by simpa[Builtin.Tuple.tupleCompareSizes] using hR⟩
  case h=>
   exact⟨rfl,rfl,items.toList,items2.toList,ns,ms,rfl,hi,hj,by omega,h⟩
end
theorem le_tupInts {prog:Program} {w:World} {A:Around} {E:Value->Shared->Prop} {s:Shared} {l b:Addr} {items items2:Array Value} {ns ms:List Int} {Q:Value->Shared->Prop} (hl:IsTup s.heap l items) (hb:IsTup s.heap b items2) (hi:IntsAre items.toList ns) (hj:IntsAre items2.toList ms)
  (hu:A.units<cLine) (h:Q (.bool (lexLe ns ms)) s):wpAny (model prog w) A (compareOp .LtE (.ref l) (.ref b)) Q E s:=by
 obtain⟨⟨cls,dd,data,sl⟩,ho,hc,n,hd⟩:=id hl
 obtain⟨⟨cls2,dd2,data2,sl2⟩,ho2,hc2,n2,hd2⟩:=id hb
 simp only at hc hd hc2 hd2
 subst hc hd hc2 hd2
 exact richCompare_meets_room (op:= .LtE) ⟨_,ho,rfl⟩ ⟨_,ho2,rfl⟩ PySem.F.slot_tuple_le PySem.F.entry_tuple_le (PySem.F.args_tuple_le_2 _ _) (kKj l b items items2 n n2 dd dd2 sl sl2 ns ms hi hj)
  ⟨ho,ho2,show Value.bool (lexLe ns ms)≠Value.notImplemented/\Q (.bool (lexLe ns ms)) s from⟨(fun x=>nomatch x),h⟩⟩ hu
end HT
namespace L3
open PySem PySem.Spec PyProof.Rows L2
section
variable {X:Cx}
theorem jQ3 {K:PySem.W.Frag} {H:Hp}:∀ {ns:List Int} {vs:List V},Reps K H (ns.map T.int) vs->vs=ns.map V.int
 | [],_,h=>h
 | n::ns,_,⟨v,ws,e,r,rs⟩=>by
  subst e;cases (show v= .int n from r)
  rw[jQ3 rs];rfl
def rLeT:R3:=fun x y G Q=>∃ns ms,x= .tup (ns.map T.int)/\y= .tup (ms.map T.int)/\Q (.bl (HT.lexLe ns ms)) G
theorem o_leT (hu:X.A.units<cLine):Op3 X (compareOp .LtE) rLeT:=by
 rintro pins s τ G H x y v u Q ⟨σ,I,hs,hg⟩ ⟨a,ra,rv⟩ ⟨b,rb,ru⟩ ⟨ns,ms,ex,ey,q⟩
 subst ex;subst ey
 obtain⟨p,vs,e1,h1,h2⟩:=(show ∃p vs,a= .ref p/\H p=some (.tup vs)/\Reps X.K H (ns.map T.int) vs from ra)
 obtain⟨p',ws,e2,h3,h4⟩:=(show ∃p vs,b= .ref p/\H p=some (.tup vs)/\Reps X.K H (ms.map T.int) vs from rb)
 subst e1;subst e2
 cases rv;cases ru
 rw[jQ3 h2] at h1
 rw[jQ3 h4] at h3
 obtain⟨its,r1,p1,_⟩:=I.tuple (.of h1)
 obtain⟨its2,r2,p2,_⟩:=I.tuple (.of h3)
 exact HT.le_tupInts p1 p2 (show IntsAre its.toArray.toList ns from kJ9 r1) (show IntsAre its2.toArray.toList ms from kJ9 r2) hu ⟨.bl _,G,H,.refl H,⟨σ,I,hs,hg⟩,⟨.bl _,rfl,rfl⟩,q⟩
def rLeI:R3:=rI0 fun i j=> .bl (decide (i<=j))
def rLeA:R3:=fun x y G Q=>rLeI x y G Q\/rLeT x y G Q
theorem o_leA (hu:X.A.units+20<cLine):Op3 X (compareOp .LtE) rLeA:=o_le.or (o_leT (by omega))
theorem qK8 {G:Gp} {x y:T} {b:Bool} (h:eqG G x y=some b):
  (∃p q xs ys,x= .ref p/\y= .ref q/\G p=some (.lst xs)/\G q=some (.lst ys)/\jYd xs=true/\jYd ys=true/\b=eqTs xs ys)\/(eqOk x=true/\eqOk y=true/\b=eqT x y):=by
 by_cases hr:∃p q,x= .ref p/\y= .ref q
 ·obtain⟨p,q,ex,ey⟩:=hr
  subst ex;subst ey
  refine .inl ?_
  simp only[eqG] at h
  split at h
  ·rename_i xs ys h1 h2
   split at h
   ·rename_i hc
    cases h
    exact⟨p,q,xs,ys,rfl,rfl,h1,h2,hc.1,hc.2,rfl⟩
   ·cases h
  ·cases h
 ·refine .inr ?_
  have e:eqG G x y=if eqOk x=true/\eqOk y=true then some (eqT x y) else none:=by
   cases x with
   | ref p=>cases y with
    | ref q=>exact absurd ⟨p,q,rfl,rfl⟩ hr
    | _=>rfl
   | _=>rfl
  rw[e] at h
  split at h
  ·rename_i hc
   cases h
   exact⟨hc.1,hc.2,rfl⟩
  ·cases h
mutual
theorem kKu {X:Cx} {pins:List (Addr×Obj)} {σ:L2.St} {H:Hp} {s:Shared} (I:Inv X pins σ H s):∀(x:T) {a:V} {u:Value},tree x=true->Rep X.K H x a->RelV a u->∃as,Reads s.heap u (td x) as
 | .non,a,u,_,r,q=>by cases (show a= .non from r);cases q;exact⟨_,.none⟩
 | .bl b,a,u,_,r,q=>by cases (show a= .bl b from r);cases q;exact⟨_,.bool b⟩
 | .int b,a,u,_,r,q=>by cases (show a= .int b from r);obtain⟨t,rfl⟩:=q;exact⟨_,.int b t⟩
 | .str b,a,u,_,r,q=>by cases (show a= .str b from r);obtain⟨t,rfl⟩:=q;exact⟨_,.str b t⟩
 | .tup xs,a,u,ht,r,q=>by
  obtain⟨p,vs,e1,h1,h2⟩:=(show ∃p vs,a= .ref p/\H p=some (.tup vs)/\Reps X.K H xs vs from r)
  subst e1;cases q
  obtain⟨its,rv,⟨o,ho,hc,n,hd⟩,_⟩:=I.tuple (.of h1)
  obtain⟨as,ra⟩:=jXm I xs (show jQj xs=true from ht) h2 rv
  exact⟨_,.tuple ho hc hd (by simpa using ra)⟩
 | .ref _,_,_,ht,_,_=>absurd (show false=true from ht) lJm
 | .scr _,_,_,ht,_,_=>absurd (show false=true from ht) lJm
 | .ty _,_,_,ht,_,_=>absurd (show false=true from ht) lJm
theorem jXm {X:Cx} {pins:List (Addr×Obj)} {σ:L2.St} {H:Hp} {s:Shared} (I:Inv X pins σ H s):∀(xs:List T) {vs:List V} {us:List Value},jQj xs=true->Reps X.K H xs vs->Vals vs us->∃as,ReadsAll s.heap us (tds xs) as
 | [],_,_,_,r,q=>by cases r;cases q;exact⟨_,.nil⟩
 | x::xs,_,_,ht,⟨v,ws,e,r1,r2⟩,q=>by
  subst e
  cases q with
  | cons q1 q2=>
   have hx:tree x=true/\jQj xs=true:=by simpa[jQj] using ht
   obtain⟨as,ra⟩:=kKu I x hx.1 r1 q1
   obtain⟨bs,rb⟩:=jXm I xs hx.2 r2 q2
   exact⟨_,.cons ra rb⟩
end
mutual
theorem eqv_T:∀(x y:T),tree x=true->tree y=true->PyData.eqv (td x) (td y)=eqT x y
 | .non,y,_,hy=>by cases y<;>first | rfl | exact absurd (show false=true from hy) lJm
 | .bl b,y,_,hy=>by cases y<;>first | rfl | exact absurd (show false=true from hy) lJm
 | .int b,y,_,hy=>by cases y<;>first | rfl | exact absurd (show false=true from hy) lJm
 | .str b,y,_,hy=>by cases y<;>first | rfl | exact absurd (show false=true from hy) lJm
 | .tup xs,y,hx,hy=>by
  cases y with
  | tup ys=>exact qK6 xs ys (show jQj xs=true from hx) (show jQj ys=true from hy)
  | _=>first | rfl | exact absurd (show false=true from hy) lJm
 | .ref _,_,ht,_=>absurd (show false=true from ht) lJm
 | .scr _,_,ht,_=>absurd (show false=true from ht) lJm
 | .ty _,_,ht,_=>absurd (show false=true from ht) lJm
theorem qK6:∀(xs ys:List T),jQj xs=true->jQj ys=true->PyData.eqvAll (tds xs) (tds ys)=eqTs xs ys
 | [],[],_,_=>rfl
 | [],_::_,_,_=>rfl
 | _::_,[],_,_=>rfl
 | x::xs,y::ys,hx,hy=>by
  have hx':tree x=true/\jQj xs=true:=by simpa[jQj] using hx
  have hy':tree y=true/\jQj ys=true:=by simpa[jQj] using hy
  show (PyData.eqv (td x) (td y)&&PyData.eqvAll (tds xs) (tds ys))=(eqT x y&&eqTs xs ys)
  rw[eqv_T x y hx'.1 hy'.1,qK6 xs ys hx'.2 hy'.2]
end
theorem kYc {pins:List (Addr×Obj)} {σ:L2.St} {H:Hp} {s:Shared} {G:Gp} {x y:T} {a b:V} {u v:Value} {k:Bool} (I:Inv X pins σ H s) (hg:GRel X.K H G) (ra:Rep X.K H x a) (rb:Rep X.K H y b) (ru:RelV a u) (rv:RelV b v) (h:eqG G x y=some k):
  ∃da db as bs,Reads s.heap u da as/\Reads s.heap v db bs/\da.canLay0=true/\db.canLay0=true/\da.depth<=50/\PyData.eqv da db=k:=by
 rcases qK8 h with ⟨p,q,xs,ys,ex,ey,hp,hq,ox,oy,e⟩ | ⟨ox,oy,e⟩
 ·subst ex;subst ey
  cases (show a= .ref p from ra);cases (show b= .ref q from rb)
  cases ru;cases rv
  obtain⟨vs,h1,h2⟩:=hg.lst hp
  obtain⟨ws,h3,h4⟩:=hg.lst hq
  obtain⟨its,r1,⟨o,n,ho,hc,_,hd⟩,_⟩:=I.list (.of h1)
  obtain⟨its',r2,⟨o',n',ho',hc',_,hd'⟩,_⟩:=I.list (.of h3)
  simp only[jYd,lJ6,lKz] at ox oy
  obtain⟨as,r3⟩:=jXm I xs ox.1.1 h2 r1
  obtain⟨bs,r4⟩:=jXm I ys oy.1.1 h4 r2
  exact⟨.list (tds xs),.list (tds ys),_,_,.list ho hc hd (by simpa using r3),.list ho' hc' hd' (by simpa using r4),ox.1.2,oy.1.2,ox.2,by rw[e];exact qK6 xs ys ox.1.1 oy.1.1⟩
 ·simp only[eqOk,lJ6,lKz] at ox oy
  obtain⟨as,r3⟩:=kKu I x ox.1.1 ra ru
  obtain⟨bs,r4⟩:=kKu I y oy.1.1 rb rv
  exact⟨td x,td y,_,_,r3,r4,ox.1.2,oy.1.2,ox.2,by rw[e];exact eqv_T x y ox.1.1 oy.1.1⟩
theorem jU5 (hu:X.A.units+64<cLine):Op3 X (compareOp .Eq) rEqA:=by
 rintro pins s τ G H x y v u Q ⟨σ,I,hs,hg⟩ ⟨a,ra,rv⟩ ⟨b,rb,ru⟩ ⟨k,hk,q⟩
 obtain⟨da,db,as,bs,r1,r2,c1,c2,d,e⟩:=kYc I hg ra rb rv ru hk
 exact SeqAt.compareEq_reads r1 r2 c1 c2 (by omega) ⟨.bl k,G,H,.refl H,⟨σ,I,hs,hg⟩,⟨.bl k,rfl,by rw[e];rfl⟩,q⟩
theorem jZz (hu:X.A.units+64<cLine):Op3 X (compareOp .NotEq) rNeA:=by
 rintro pins s τ G H x y v u Q ⟨σ,I,hs,hg⟩ ⟨a,ra,rv⟩ ⟨b,rb,ru⟩ ⟨k,hk,q⟩
 obtain⟨da,db,as,bs,r1,r2,c1,c2,d,e⟩:=kYc I hg ra rb rv ru hk
 exact SeqAt.compareNe_reads r1 r2 c1 c2 (by omega) ⟨.bl (!k),G,H,.refl H,⟨σ,I,hs,hg⟩,⟨.bl (!k),rfl,by rw[e];rfl⟩,q⟩
end
section
variable {X:Cx}
def jU6:T->Bool
 | .non=>true
 | .bl _=>true
 | .int _=>true
 | .str _=>true
 | _=>false
theorem jVu {K:PySem.W.Frag} {H:Hp} {x:T} {a:V} (r:Rep K H x a) (f:jU6 x=true):kJ1 a=true:=by
 cases x with
 | non=>cases (show a= .non from r);rfl
 | bl _=>cases (show a= .bl _ from r);rfl
 | int _=>cases (show a= .int _ from r);rfl
 | str _=>cases (show a= .str _ from r);rfl
 | _=>exact absurd (show false=true from f) lJm
theorem kVv {K:PySem.W.Frag} {H:Hp} {x y:T} {a b:V} (r:Rep K H x a) (q:Rep K H y b) (f:jU6 x=true) (g:jU6 y=true):eqV a b=eqT x y:=by
 cases x with
 | non=>cases (show a= .non from r);cases y with
  | non=>cases (show b= .non from q);rfl
  | bl _=>cases (show b= .bl _ from q);rfl
  | int _=>cases (show b= .int _ from q);rfl
  | str _=>cases (show b= .str _ from q);rfl
  | _=>exact absurd (show false=true from g) lJm
 | bl _=>cases (show a= .bl _ from r);cases y with
  | non=>cases (show b= .non from q);rfl
  | bl _=>cases (show b= .bl _ from q);rfl
  | int _=>cases (show b= .int _ from q);rfl
  | str _=>cases (show b= .str _ from q);rfl
  | _=>exact absurd (show false=true from g) lJm
 | int _=>cases (show a= .int _ from r);cases y with
  | non=>cases (show b= .non from q);rfl
  | bl _=>cases (show b= .bl _ from q);rfl
  | int _=>cases (show b= .int _ from q);rfl
  | str _=>cases (show b= .str _ from q);rfl
  | _=>exact absurd (show false=true from g) lJm
 | str _=>cases (show a= .str _ from r);cases y with
  | non=>cases (show b= .non from q);rfl
  | bl _=>cases (show b= .bl _ from q);rfl
  | int _=>cases (show b= .int _ from q);rfl
  | str _=>cases (show b= .str _ from q);rfl
  | _=>exact absurd (show false=true from g) lJm
 | _=>exact absurd (show false=true from f) lJm
def inT (x:T) (xs:List T):Bool:=xs.any fun y=>eqT y x
theorem jY2 {K:PySem.W.Frag} {H:Hp} {x:T} {a:V} (r:Rep K H x a) (f:jU6 x=true):∀ {xs:List T} {vs:List V},Reps K H xs vs->xs.all jU6=true->vs.all kJ1=true/\inV a vs=inT x xs
 | [],_,h,_=>by cases h;exact⟨rfl,rfl⟩
 | y::ys,_,⟨v,ws,e,r1,r2⟩,g=>by
  subst e
  rw[lQd,lJ6] at g
  obtain⟨h1,h2⟩:=jY2 r f r2 g.2
  refine⟨by rw[lQd,jVu r1 g.1,h1];rfl,?_⟩
  unfold inV inT at h2 ⊢
  rw[lK1,lK1,kVv r1 r g.1 f,h2]
def rInF (neg:Bool):R3:=fun x y G Q=>∃xs,seqT G y=some xs/\jU6 x=true/\xs.all jU6=true/\Q (.bl (if neg then !inT x xs else inT x xs)) G
theorem qKt {neg:Bool} {op:CmpOp} (h:OpR X (compareOp op) (L2.rIn X.K neg)):Op3 X (compareOp op) (rInF neg):=
 Op3.of h fun H G x y a b Q hg ra rb ⟨xs,hx,fx,fs,q⟩=>by
  obtain⟨p,vs,e,hq,r⟩:=jUj hg rb hx
  obtain⟨h1,h2⟩:=jY2 ra fx r fs
  exact⟨p,vs,e,hq,jVu ra fx,h1,.bl _,G,.refl H,hg,by rw[h2];rfl,q⟩
theorem o_inF:Op3 X (compareOp .In) (rInF false):=qKt qJ1
theorem o_notInF:Op3 X (compareOp .NotIn) (rInF true):=qKt kQz
def jVk:T->Option Key
 | .int i=>some (.inl i)
 | .str x=>some (.inr x)
 | _=>none
def allK {K:Type} (f:T->Option K):List T->Option (List K)
 | []=>some []
 | x::xs=>match f x,allK f xs with
  | some k,some ks=>some (k::ks)
  | _,_=>none
def key1:T->Option K1
 | .tup ts=>(allK jVk ts).map .inr
 | x=>(jVk x).map .inl
def key2:T->Option K2
 | .tup ts=>(allK key1 ts).map .inr
 | x=>(jVk x).map .inl
def jK7:List T->Option TKey:=allK key2
theorem jZ4 {K:PySem.W.Frag} {H:Hp} {x:T} {a:V} {k:Key} (h:jVk x=some k) (r:Rep K H x a):a=kV k:=by
 cases x with
 | int i=>cases h;exact r
 | str i=>cases h;exact r
 | non=>cases h
 | bl _=>cases h
 | tup _=>cases h
 | scr _=>cases h
 | ref _=>cases h
 | ty _=>cases h
theorem jY8 {K:PySem.W.Frag} {H:Hp} {κ:Type} {f:T->Option κ} {R:κ->V->Prop} (hf:∀x k a,f x=some k->Rep K H x a->R k a):∀ {xs:List T} {vs:List V} {ks:List κ},allK f xs=some ks->Reps K H xs vs->Paired R ks vs
 | [],_,_,h,r=>by cases h;cases (show _=[] from r);exact .nil
 | x::xs,_,ks,h,⟨v,ws,e,r1,r2⟩=>by
  subst e
  unfold allK at h
  cases e1:f x with
  | none=>rw[e1] at h;cases h
  | some k=>
   cases e2:allK f xs with
   | none=>rw[e1,e2] at h;cases h
   | some ks'=>
    rw[e1,e2] at h;cases h
    exact .cons (hf _ _ _ e1 r1) (jY8 hf e2 r2)
theorem qVm {K:PySem.W.Frag} {H:Hp} (x:T) (k:K1) (a:V) (h:key1 x=some k) (r:Rep K H x a):Rk1 H k a:=by
 cases x with
 | tup ts=>
  obtain⟨ks,h1,rfl⟩:=lK2.mp (show (allK jVk ts).map Sum.inr=some k from h)
  obtain⟨p,vs,e,h3,h4⟩:=(show ∃p vs,a= .ref p/\H p=some (.tup vs)/\Reps K H ts vs from r)
  exact⟨p,vs,e,h3,jY8 (fun x k a h r=>jZ4 h r) h1 h4⟩
 | int i=>cases h;exact r
 | str i=>cases h;exact r
 | non=>cases h
 | bl _=>cases h
 | scr _=>cases h
 | ref _=>cases h
 | ty _=>cases h
theorem qVk {K:PySem.W.Frag} {H:Hp} (x:T) (k:K2) (a:V) (h:key2 x=some k) (r:Rep K H x a):Rk2 H k a:=by
 cases x with
 | tup ts=>
  obtain⟨ks,h1,rfl⟩:=lK2.mp (show (allK key1 ts).map Sum.inr=some k from h)
  obtain⟨p,vs,e,h3,h4⟩:=(show ∃p vs,a= .ref p/\H p=some (.tup vs)/\Reps K H ts vs from r)
  exact⟨p,vs,e,h3,jY8 qVm h1 h4⟩
 | int i=>cases h;exact r
 | str i=>cases h;exact r
 | non=>cases h
 | bl _=>cases h
 | scr _=>cases h
 | ref _=>cases h
 | ty _=>cases h
theorem jQ1 {K:PySem.W.Frag} {H:Hp} {xs:List T} {vs:List V} {ks:TKey} {p:Addr} (h:jK7 xs=some ks) (e:H p=some (.tup vs)) (r:Reps K H xs vs):TKeyAt H ks p:=⟨vs,e,jY8 qVk h r⟩
def valT {κ:Type} [DecidableEq κ] (kvs:List (κ×T)) (k:κ):Option T:=(kvs.find? fun kv=>decide (kv.1=k)).map (·.2)
noncomputable def putT {κ:Type} [DecidableEq κ] (kvs:List (κ×T)) (k:κ) (v:T):List (κ×T):=
 if (kvs.any fun kv=>decide (kv.1=k))=true then kvs.map (fun kv=>if kv.1=k then (kv.1,v) else kv) else kvs++[(k,v)]
theorem PKV.val {κ:Type} [DecidableEq κ] {K:PySem.W.Frag} {H:Hp} {kvs:List (κ×T)} {ws:List (κ×V)} (r:PKV K H kvs ws) (k:κ):(∀t,valT kvs k=some t->∃v,valV ws k=some v/\Rep K H t v)/\(valT kvs k).isSome=(valV ws k).isSome:=by
 unfold PKV at r
 induction r with
 | nil=>exact⟨fun t h=>by simp[valT] at h,rfl⟩
 | @cons p q ps qs h t ih=>
  by_cases e:p.1=k
  ·have e':q.1=k:=h.1.symm.trans e
   have b:valT (p::ps) k=some p.2:=by simp[valT,lQq,e]
   rw[b,jYt e']
   exact⟨fun t ht=>by cases ht;exact⟨q.2,rfl,h.2⟩,rfl⟩
  ·have e':¬ q.1=k:=fun z=>e (h.1.trans z)
   have b:valT (p::ps) k=valT ps k:=by simp[valT,lQq,e]
   rw[b,jYu e']
   exact ih
theorem PKV.any {κ:Type} [DecidableEq κ] {K:PySem.W.Frag} {H:Hp} {kvs:List (κ×T)} {ws:List (κ×V)} (r:PKV K H kvs ws) (k:κ):(kvs.any fun kv=>decide (kv.1=k))=ws.any fun kv=>decide (kv.1=k):=by
 unfold PKV at r
 induction r with
 | nil=>rfl
 | cons h t ih=>rw[lK1,lK1,ih,h.1]
theorem PKV.put {κ:Type} [DecidableEq κ] {K:PySem.W.Frag} {H:Hp} {kvs:List (κ×T)} {ws:List (κ×V)} (r:PKV K H kvs ws) (k:κ) {t:T} {v:V} (rt:Rep K H t v):PKV K H (putT kvs k t) (putK ws k v):=by
 unfold putT putK
 rw[r.any k]
 by_cases e:(ws.any fun kv=>decide (kv.1=k))=true
 ·rw[lJc e,lJc e]
  unfold PKV at r ⊢
  clear e
  induction r with
  | nil=>exact .nil
  | @cons p q ps qs h t' ih=>
   rw[lJr,lJr]
   refine .cons ?_ ih
   obtain⟨h1,h2⟩:=h
   by_cases e:p.1=k
   ·rw[lJc e,lJc (h1.symm.trans e)];exact⟨h1,rt⟩
   ·rw[lJb e,lJb (fun z=>e (h1.trans z))];exact⟨h1,h2⟩
 ·rw[lJb e,lJb e];exact Paired.snoc r ⟨rfl,rt⟩
theorem PKV.length {κ:Type} {K:PySem.W.Frag} {H:Hp} {kvs:List (κ×T)} {ws:List (κ×V)} (r:PKV K H kvs ws):kvs.length=ws.length:=lV5 r
noncomputable def dAt (G:Gp) (x y:T):Option (Option T):=match x with
 | .ref p=>match G p with
  | some (.dct kvs)=>match y with
   | .tup ys=>match jK7 ys with
    | some ks=>some (valT kvs ks)
    | none=>none
   | _=>none
  | some (.dck kvs)=>match jVk y with
   | some k=>some (valT kvs k)
   | none=>none
  | some (.fdc kvs)=>match y with
   | .tup ys=>match jK7 ys with
    | some ks=>some (valT kvs ks)
    | none=>none
   | _=>none
  | _=>none
 | _=>none
theorem kV1 {K:PySem.W.Frag} {H:Hp} {G:Gp} {x y:T} {a b:V} {o:Option T} (hg:GRel K H G) (ra:Rep K H x a) (rb:Rep K H y b) (h:dAt G x y=some o):
  ∃p ov,a= .ref p/\DGet H p b ov/\o.isSome=ov.isSome/\∀t,o=some t->∃v,ov=some v/\Rep K H t v:=by
 unfold dAt at h
 split at h
 ·rename_i p
  cases (show a= .ref p from ra)
  split at h
  ·rename_i kvs hG
   split at h
   ·rename_i ys
    split at h
    ·rename_i ks hk
     cases h
     obtain⟨ws,h1,h2⟩:=hg p _ hG
     obtain⟨q,vs,e,h3,h4⟩:=(show ∃q vs,b= .ref q/\H q=some (.tup vs)/\Reps K H ys vs from rb)
     subst e
     exact⟨p,_,rfl,DGet.t h1 (jQ1 hk h3 h4),(h2.val ks).2,(h2.val ks).1⟩
    ·cases h
   ·cases h
  ·rename_i kvs hG
   split at h
   ·rename_i k hk
    cases h
    obtain⟨ws,h1,h2⟩:=hg p _ hG
    rw[jZ4 hk rb]
    exact⟨p,_,rfl,DGet.k h1,(h2.val k).2,(h2.val k).1⟩
   ·cases h
  ·rename_i kvs hG
   split at h
   ·rename_i ys
    split at h
    ·rename_i ks hk
     cases h
     obtain⟨ob,ws,h1,h2⟩:=(show ∃ob ws,H p=some (.frz ob (.dT ws))/\PKV K H kvs ws from hg p _ hG)
     obtain⟨q,vs,e,h3,h4⟩:=(show ∃q vs,b= .ref q/\H q=some (.tup vs)/\Reps K H ys vs from rb)
     subst e
     exact⟨p,_,rfl,.inr ⟨ws,ks,q,.inr ⟨ob,h1⟩,rfl,jQ1 hk h3 h4,rfl⟩,(h2.val ks).2,(h2.val ks).1⟩
    ·cases h
   ·cases h
  ·cases h
 ·cases h
def rDGet:R3:=fun x y G Q=>∃t,dAt G x y=some (some t)/\Q t G
theorem qZi (hu:X.A.units+20<cLine):Ix3 X rDGet:=by
 rintro value slice pins s τ G H x y v u Q ⟨σ,I,hs,hg⟩ ⟨a,ra,rv⟩ ⟨b,rb,ru⟩ ⟨t,hd,q⟩ hsl
 obtain⟨p,ov,e,g,_,hh⟩:=kV1 hg ra rb hd
 obtain⟨w,ew,rw'⟩:=hh t rfl
 subst e;subst ew
 cases rv
 have hT:s.TypeIs (.ref p) "dict":=kVz I g
 unfold subscriptTail
 refine lJa ?_
 rw[getitemInPython_of_ne hT.not_modules]
 refine lJa (lQ3 hT PySem.F.slot_dict_getitem.lookup ?_)
 have fin:wpAny (model X.prog X.w) X.A (subscripted slice false (.ref p) u) (fun r s₃=>wpAny (model X.prog X.w) X.A (letTemporaryGo value (.ref p) r >>= fun _=>pure r) (EP3 X pins τ H Q) X.xe s₃) X.xe s:=by
  rw[hsl]
  exact wpAny_operating (qQf hu I g ru fun w' s' I' r'=>lJa (wpAny_letTemporaryGo (lJd ⟨t,G,H,.refl H,⟨σ,I',hs,hg⟩,⟨w,rw',r'⟩,q⟩)))
 first
  | exact lJd (lJa fin)
  | exact lJa (lJd (lJa fin))
  | exact lJa fin
theorem Ix3.or {r r':R3} (h:Ix3 X r) (h':Ix3 X r'):Ix3 X (fun x y G Q=>r x y G Q\/r' x y G Q):=by
 intro value slice pins s τ G H x y v u Q I rx ry q hs
 rcases q with q | q
 ·exact h value slice pins s τ G H x y v u Q I rx ry q hs
 ·exact h' value slice pins s τ G H x y v u Q I rx ry q hs
def rIxA:R3:=fun x y G Q=>rIx x y G Q\/rDGet x y G Q
theorem qZj (hu:X.A.units+20<cLine):Ix3 X rIxA:=ix_any.or (qZi hu)
def rDIn:R3:=fun x y G Q=>∃o,dAt G y x=some o/\Q (.bl o.isSome) G
def qJo:R3:=fun x y G Q=>∃o,dAt G y x=some o/\Q (.bl (!o.isSome)) G
theorem o_dIn (hu:X.A.units+20<cLine):Op3 X (compareOp .In) rDIn:=by
 rintro pins s τ G H x y v u Q ⟨σ,I,hs,hg⟩ ⟨a,ra,rv⟩ ⟨b,rb,ru⟩ ⟨o,hd,q⟩
 obtain⟨p,ov,e,g,e2,_⟩:=kV1 hg rb ra hd
 subst e;cases ru
 exact d_in hu I g rv fun s' I'=>⟨.bl _,G,H,.refl H,⟨σ,I',hs,hg⟩,⟨.bl _,rfl,by rw[<-e2];rfl⟩,q⟩
theorem qU8 (hu:X.A.units+20<cLine):Op3 X (compareOp .NotIn) qJo:=by
 rintro pins s τ G H x y v u Q ⟨σ,I,hs,hg⟩ ⟨a,ra,rv⟩ ⟨b,rb,ru⟩ ⟨o,hd,q⟩
 obtain⟨p,ov,e,g,e2,_⟩:=kV1 hg rb ra hd
 subst e;cases ru
 exact qZ3 hu I g rv fun s' I'=>⟨.bl _,G,H,.refl H,⟨σ,I',hs,hg⟩,⟨.bl _,rfl,by rw[<-e2];rfl⟩,q⟩
def rInL:R3:=fun x y G Q=>rInF false x y G Q\/rDIn x y G Q
def qJm:R3:=fun x y G Q=>rInF true x y G Q\/qJo x y G Q
theorem o_in (hu:X.A.units+20<cLine):Op3 X (compareOp .In) rInL:=o_inF.or (o_dIn hu)
theorem qY3 (hu:X.A.units+20<cLine):Op3 X (compareOp .NotIn) qJm:=o_notInF.or (qU8 hu)
def jZf:TE3:=fun _ G Q=>(∀p,G p=none->Q (.ref p) (gup G p (.dct [])))\/∀p,G p=none->Q (.ref p) (gup G p (.dck []))
theorem e_dct {pos:Pos}:PE3 X (.Dict [] [] pos) jZf:=by
 rintro pins s τ G H Q ⟨σ,I,hs,hg⟩ h
 rcases h with h | h
 ·exact thn (qU1 pins s σ H (up X.K H Q) I fun p hp=>⟨.ref p,_,.upd (.none hp),hg.upd (.none hp) (go:= .dct []) ⟨[],jQa,.nil⟩,rfl,h p (hg.fresh hp)⟩) fun u s' z=>jVy hs z
 ·exact thn (qU2 pins s σ H (up X.K H Q) I fun p hp=>⟨.ref p,_,.upd (.none hp),hg.upd (.none hp) (go:= .dck []) ⟨[],jQa,.nil⟩,rfl,h p (hg.fresh hp)⟩) fun u s' z=>jVy hs z
noncomputable def qX0:T->T->T->Gp->(Gp->Prop)->Prop:=fun o i v G Q=>∃p ys ks kvs,o= .ref p/\i= .tup ys/\jK7 ys=some ks/\G p=some (.dct kvs)/\kvs.length<sizeLine/\Q (gup G p (.dct (putT kvs ks v)))
def qX1:T->T->T->Gp->(Gp->Prop)->Prop:=fun o i v G Q=>∃p k kvs,o= .ref p/\jVk i=some k/\G p=some (.dck kvs)/\kvs.length<sizeLine/\Q (gup G p (.dck (putT kvs k v)))
theorem qYn (hu:X.A.units+20<cLine):Set3 X qX0:=by
 rintro pins s τ G H o i v ov iv u Q ⟨σ,I,hs,hg⟩ ⟨a,ra,rv⟩ ⟨b,rb,ru⟩ ⟨c,rc,rw'⟩ ⟨p,ys,ks,kvs,eo,ei,hk,hG,hz,q⟩
 subst eo;subst ei
 cases (show a= .ref p from ra);cases rv
 obtain⟨ws,h1,h2⟩:=hg p _ hG
 obtain⟨b',vs,e,h3,h4⟩:=(show ∃q vs,b= .ref q/\H q=some (.tup vs)/\Reps X.K H ys vs from rb)
 subst e
 have h3:=jQ1 hk h3 h4
 have e:Ext H (upd H p (.dT (putK ws ks c))):= .upd (.dT h1)
 exact kUj hu I (DPut.t h1 h3 (by rw[<-h2.length];exact hz)) ru rw' fun s' I'=>⟨_,_,e,⟨σ,I',hs.mono e,hg.upd (.dT h1) (go:= .dct (putT kvs ks v)) ⟨_,jQa,(h2.put ks rc).mono e⟩⟩,q⟩
theorem qYo (hu:X.A.units+20<cLine):Set3 X qX1:=by
 rintro pins s τ G H o i v ov iv u Q ⟨σ,I,hs,hg⟩ ⟨a,ra,rv⟩ ⟨b,rb,ru⟩ ⟨c,rc,rw'⟩ ⟨p,k,kvs,eo,hk,hG,hz,q⟩
 subst eo
 cases (show a= .ref p from ra);cases rv
 obtain⟨ws,h1,h2⟩:=hg p _ hG
 have eb:=jZ4 hk rb
 subst eb
 have e:Ext H (upd H p (.dK (putK ws k c))):= .upd (.dK h1)
 exact kUj hu I (DPut.k h1 (by rw[<-h2.length];exact hz)) ru rw' fun s' I'=>⟨_,_,e,⟨σ,I',hs.mono e,hg.upd (.dK h1) (go:= .dck (putT kvs k v)) ⟨_,jQa,(h2.put k rc).mono e⟩⟩,q⟩
theorem Set3.or {r r':T->T->T->Gp->(Gp->Prop)->Prop} (h:Set3 X r) (h':Set3 X r'):Set3 X (fun o i v G Q=>r o i v G Q\/r' o i v G Q):=by
 intro pins s τ G H o i v ov iv u Q I ro ri rv q
 rcases q with q | q
 ·exact h pins s τ G H o i v ov iv u Q I ro ri rv q
 ·exact h' pins s τ G H o i v ov iv u Q I ro ri rv q
def rSetA:T->T->T->Gp->(Gp->Prop)->Prop:=fun o i v G Q=>qUv o i v G Q\/qX0 o i v G Q\/qX1 o i v G Q
theorem s_any (hu:X.A.units+20<cLine):Set3 X rSetA:=s_list.or ((qYn hu).or (qYo hu))
end
noncomputable def jZc (G:Gp):T->Option String
 | .non=>some "NoneType"
 | .bl _=>some "bool"
 | .int _=>some "int"
 | .str _=>some "str"
 | .tup _=>some "tuple"
 | .scr _=>some "list"
 | .ref p=>match G p with
  | some (.lst _)=>some "list"
  | some (.dct _)=>some "dict"
  | some (.dck _)=>some "dict"
  | some (.fdc _)=>none
  | some (.ins _ _)=>none
  | none=>none
 | .ty _=>none
def subT (t n:String):Option Bool:=
 if n="bool"\/n="int"\/n="str"\/n="list"\/n="tuple" then some (t == n||(t == "bool"&&n == "int")) else none
theorem qVj (K:PySem.W.Frag) {n:String} {b:Bool} (h:subT "bool" n=some b):PySem.W.kitOne K (.type "bool") (.type n)=some b:=by
 unfold subT at h
 split at h
 ·rename_i hn
  rcases hn with rfl | rfl | rfl | rfl | rfl<;>(cases h;kernel_rfl)
 ·cases h
theorem qVi (K:PySem.W.Frag) {n:String} {b:Bool} (h:subT "NoneType" n=some b):PySem.W.kitOne K (.type "NoneType") (.type n)=some b:=by
 unfold subT at h
 split at h
 ·rename_i hn
  rcases hn with rfl | rfl | rfl | rfl | rfl<;>(cases h;kernel_rfl)
 ·cases h
theorem qZg (K:PySem.W.Frag) {n:String} {b:Bool} (h:subT "int" n=some b):PySem.W.kitOne K (.type "int") (.type n)=some b:=by
 unfold subT at h
 split at h
 ·rename_i hn
  rcases hn with rfl | rfl | rfl | rfl | rfl<;>(cases h;kernel_rfl)
 ·cases h
theorem qZf (K:PySem.W.Frag) {n:String} {b:Bool} (h:subT "str" n=some b):PySem.W.kitOne K (.type "str") (.type n)=some b:=by
 unfold subT at h
 split at h
 ·rename_i hn
  rcases hn with rfl | rfl | rfl | rfl | rfl<;>(cases h;kernel_rfl)
 ·cases h
theorem qKj (K:PySem.W.Frag) {n:String} {b:Bool} (h:subT "tuple" n=some b):PySem.W.kitOne K (.type "tuple") (.type n)=some b:=by
 unfold subT at h
 split at h
 ·rename_i hn
  rcases hn with rfl | rfl | rfl | rfl | rfl<;>(cases h;kernel_rfl)
 ·cases h
theorem kX4 (K:PySem.W.Frag) {n:String} {b:Bool} (h:subT "list" n=some b):PySem.W.kitOne K (.type "list") (.type n)=some b:=by
 unfold subT at h
 split at h
 ·rename_i hn
  rcases hn with rfl | rfl | rfl | rfl | rfl<;>(cases h;kernel_rfl)
 ·cases h
theorem kX5 (K:PySem.W.Frag) {n:String} {b:Bool} (h:subT "dict" n=some b):PySem.W.kitOne K (.type "dict") (.type n)=some b:=by
 unfold subT at h
 split at h
 ·rename_i hn
  rcases hn with rfl | rfl | rfl | rfl | rfl<;>(cases h;kernel_rfl)
 ·cases h
section
variable {X:Cx}
theorem e_ty {x:Str} {n:String} {pos:Pos} (hg:Gl X x) (hm:X.mg x=none) (hv:bootBuiltins x=some (.type n)) (hn:x≠"__name__":=by decide) (hd:(x == ("__debug__":Str))=false:=by decide):PE3 X (.Name x pos) (tC (.ty n)):=
 fun pins s τ G H Q ⟨σ,I,hs,hg'⟩ q=>thn (qYw (v:= .ty n) hg hm hv rfl hn hd pins s σ H (up X.K H Q) I ⟨.ty n,G,.refl H,hg',rfl,q⟩) fun u s' h=>jVy hs h
def kitT (t:String):List T->Option Bool
 | []=>some false
 | .ty n::r=>match subT t n with
  | some true=>some true
  | some false=>kitT t r
  | none=>none
 | _::_=>none
def isiC:Option String->T->Option Bool
 | some t,.ty n=>subT t n
 | some t,.tup cs=>kitT t cs
 | _,_=>none
def isiT (G:Gp) (x c:T):Option Bool:=isiC (jZc G x) c
def rIsi:List T->Gp->VK3->Prop:=fun xs G Q=>∃x c b,xs=[x,c]/\isiT G x c=some b/\Q (.bl b) G
theorem qKk {K:PySem.W.Frag} {H:Hp} {t:String} (ok:∀n b,subT t n=some b->PySem.W.kitOne K (.type t) (.type n)=some b):∀ {cs:List T} {vs:List V} {us:List Value} {b:Bool},Reps K H cs vs->Vals vs us->kitT t cs=some b->PySem.W.kitAny K (.type t) us=some b
 | [],_,_,_,r,q,h=>by cases r;cases q;exact h
 | c::cs,_,_,b,⟨v,ws,e,r1,r2⟩,q,h=>by
  subst e
  cases q with
  | cons q1 q2=>
   cases c with
   | ty n=>
    cases (show v= .ty n from r1)
    cases q1
    unfold kitT at h
    unfold PySem.W.kitAny
    cases e:subT t n with
    | none=>rw[e] at h;cases h
    | some k=>
     rw[e] at h
     rw[ok n k e]
     cases k with
     | true=>exact h
     | false=>exact qKk ok r2 q2 h
   | _=>cases h
theorem jQ0 {pins:List (Addr×Obj)} {τ:St3} {G:Gp} {H:Hp} {s:Shared} {σ:L2.St} {c:T} {cv:V} {u cu:Value} {t:String} {b:Bool} {Q:VK3} {Hh:Heap->Prop} (I:Inv X pins σ H s) (hs:SRel X.K H σ τ) (hg:GRel X.K H G)
  (Z:PySem.W.KitX X.K u (.type t) Hh) (p:Hh s.heap) (hx:u≠ .builtin "__main__.__loader__#opaque") (ok:∀n b,subT t n=some b->PySem.W.kitOne X.K (.type t) (.type n)=some b)
  (rc:Rep X.K H c cv) (ru:RelV cv cu) (h:isiC (some t) c=some b) (q:Q (.bl b) G):
  wpAny (model X.prog X.w) X.A (call (.builtin "isinstance") [u,cu]) (EP3 X pins τ H Q) X.xe s:=by
 have fin:∀tk,EP3 X pins τ H Q (.bool b) {s with toks:=tk}:=fun tk=>⟨.bl b,G,H,.refl H,⟨σ,I.tok tk,hs,hg⟩,⟨.bl b,rfl,rfl⟩,q⟩
 cases c with
 | ty n=>
  cases (show cv= .ty n from rc);cases ru
  exact PySem.W.kia_one Z I.kIn p (ok n b h) hx fin
 | tup cs=>
  obtain⟨pp,vs,e,h1,h2⟩:=(show ∃p vs,cv= .ref p/\H p=some (.tup vs)/\Reps X.K H cs vs from rc)
  subst e;cases ru
  obtain⟨its,rv,⟨⟨cls,dd,data,sl⟩,ho,hc,n,hd⟩,_⟩:=I.tuple (.of h1)
  simp only at hc hd
  subst hc hd
  exact PySem.W.kia_tup Z I.kIn p ho (qKk ok h2 rv h) hx fin
 | _=>cases h
theorem kQi:Call3 X (.builtin "isinstance") rIsi:=by
 rintro pins s τ G H xs us Q ⟨σ,I,hs,hg⟩ ⟨as,ras,rvs⟩ ⟨x,c,b,e,h,q⟩
 subst e
 obtain⟨a,cv,rfl,ra,rc⟩:=kQq ras
 obtain⟨u,cu,rfl,ru,rcu⟩:=rvs.two
 unfold isiT at h
 cases x with
 | non=>cases (show a= .non from ra);cases ru;exact jQ0 I hs hg PySem.W.kitx_none True.intro (fun z=>nomatch z) (fun n b=>qVi _) rc rcu h q
 | bl k=>cases (show a= .bl k from ra);cases ru;exact jQ0 I hs hg PySem.W.kitx_bool True.intro (fun z=>nomatch z) (fun n b=>qVj _) rc rcu h q
 | int k=>cases (show a= .int k from ra);obtain⟨t,rfl⟩:=ru;exact jQ0 I hs hg PySem.W.kitx_int True.intro (fun z=>nomatch z) (fun n b=>qZg _) rc rcu h q
 | str k=>cases (show a= .str k from ra);obtain⟨t,rfl⟩:=ru;exact jQ0 I hs hg PySem.W.kitx_str True.intro (fun z=>nomatch z) (fun n b=>qZf _) rc rcu h q
 | tup ys=>
  obtain⟨p,vs,e,h1,h2⟩:=(show ∃p vs,a= .ref p/\H p=some (.tup vs)/\Reps X.K H ys vs from ra)
  subst e;cases ru
  obtain⟨its,rv,⟨o,ho,hc,_⟩,_⟩:=I.tuple (.of h1)
  exact jQ0 I hs hg PySem.W.kitx_tuple ⟨o,ho,hc⟩ (fun z=>nomatch z) (fun n b=>qKj _) rc rcu h q
 | scr ys=>
  obtain⟨p,vs,e,h1,h2⟩:=(show ∃p vs,a= .ref p/\FrL X.K H p vs/\Reps X.K H ys vs from ra)
  subst e;cases ru
  obtain⟨its,rv,⟨o,n,ho,hc,_⟩,_⟩:=I.list h1.sq
  exact jQ0 I hs hg PySem.W.kitx_list ⟨o,ho,hc⟩ (fun z=>nomatch z) (fun n b=>kX4 _) rc rcu h q
 | ref p=>
  cases (show a= .ref p from ra);cases ru
  cases hG:G p with
  | none=>simp only[jZc,hG] at h;cases h
  | some g=>
   cases g with
   | lst ys=>
    simp only[jZc,hG] at h
    obtain⟨vs,h1,h2⟩:=hg.lst hG
    obtain⟨its,rv,⟨o,n,ho,hc,_⟩,_⟩:=I.list (.of h1)
    exact jQ0 I hs hg PySem.W.kitx_list ⟨o,ho,hc⟩ (fun z=>nomatch z) (fun n b=>kX4 _) rc rcu h q
   | fdc kvs=>simp only[jZc,hG] at h;cases h
   | ins _ _=>simp only[jZc,hG] at h;cases h
   | dct kvs=>
    simp only[jZc,hG] at h
    obtain⟨ws,h1,_⟩:=hg p _ hG
    obtain⟨_,_,xs,_,o,es,ep,h3,h4,_⟩:=(show ObjOk X.prog X.w H s.heap p (.dT ws) from I.hok p _ h1)
    exact jQ0 I hs hg PySem.W.kitx_dict ⟨o,h3,h4.1⟩ (fun z=>nomatch z) (fun n b=>kX5 _) rc rcu h q
   | dck kvs=>
    simp only[jZc,hG] at h
    obtain⟨ws,h1,_⟩:=hg p _ hG
    obtain⟨_,_,vs,_,pp⟩:=(show ObjOk X.prog X.w H s.heap p (.dK ws) from I.hok p _ h1)
    obtain⟨o,es,ep,h3,h4,_⟩:=pp
    exact jQ0 I hs hg PySem.W.kitx_dict ⟨o,h3,h4.1⟩ (fun z=>nomatch z) (fun n b=>kX5 _) rc rcu h q
 | ty _=>cases h
abbrev TO3:=St3->Gp->(Option Int->Gp->Prop)->Prop
def PO3 (X:Cx) (e:Option Expr) (t:TO3):Prop:=
 ∀(pins:List (Addr×Obj)) (s:Shared) (τ:St3) (G:Gp) (H:Hp) (Q:Option Int->Gp->Prop),Inv3 X pins τ G H s->t τ G Q->
  wpAny (model X.prog X.w) X.A (evalPart e X.env) (fun u s'=>∃o G' H',Ext H H'/\Inv3 X pins τ G' H' s'/\IsPart u o/\Q o G') X.xe s
def jJ2:TO3:=fun _ G Q=>Q none G
def jKo (t:TE3):TO3:=fun τ G Q=>t τ G fun x G1=>∃i,x= .int i/\Q (some i) G1
theorem jU1:PO3 X none jJ2:=by
 intro pins s τ G H Q I h
 rw[evalPart_none]
 exact lJd ⟨none,G,H,.refl H,I,.none,h⟩
theorem jQv {e:Expr} {te:TE3} (h:PE3 X e te):PO3 X (some e) (jKo te):=by
 intro pins s τ G H Q I hw
 rw[evalPart_some]
 refine thn (h pins s τ G H _ I hw) fun u s1 w_=>w_.el fun x G1 H1 e1 I1 r_ ⟨i,ex,q⟩=>r_.el fun v rv ru=> ?_
 subst ex
 cases (show v= .int i from rv)
 obtain⟨t,rfl⟩:=ru
 exact⟨some i,G1,H1,e1,I1,.int i t,q⟩
def Sl3 (X:Cx) (r:T->Option Int->Option Int->Gp->VK3->Prop):Prop:=
 ∀(pins:List (Addr×Obj)) (s:Shared) (τ:St3) (G:Gp) (H:Hp) (x:T) (v vl vu:Value) (lo hi:Option Int) (sl:Addr) (Q:VK3),Inv3 X pins τ G H s->RU X.K H x v->s.heap.IsSliceOf sl vl vu .none->IsPart vl lo->IsPart vu hi->r x lo hi G Q->
  ∃T id,typeLookup (.type T) "__getitem__"=pure (some (.builtin id))/\s.TypeIs v T/\wpAny (model X.prog X.w) X.A (getItem v (.ref sl)) (EP3 X pins τ H Q) X.xe s
def tSl (r:T->Option Int->Option Int->Gp->VK3->Prop) (te:TE3) (tl th:TO3):TE3:=fun τ G Q=>te τ G fun x G1=>tl τ G1 fun l G2=>th τ G2 fun u G3=>r x l u G3 Q
theorem jQe {r:T->Option Int->Option Int->Gp->VK3->Prop} {e:Expr} {te:TE3} {lo hi:Option Expr} {tl th:TO3} {pos p2:Pos} (hr:Sl3 X r) (he:PE3 X e te) (hl:PO3 X lo tl) (hu:PO3 X hi th):PE3 X (.Subscript e (.Slice lo hi none p2) pos) (tSl r te tl th):=by
 intro pins s τ G H Q I h
 refine Subscript_ (thn (he pins s τ G H _ I h) fun v s1 w_=>w_.el fun x G1 H1 e1 I1 r1 q1=> ?_)
 refine wpAny_Slice (thn (hl pins s1 τ G1 H1 _ I1 q1) fun vl s2 ⟨l,G2,H2,e2,I2,pl,q2⟩=>thn (hu pins s2 τ G2 H2 _ I2 q2) fun vu s3 ⟨u,G3,H3,e3,⟨σ,I3,hs3,hg3⟩,pu,q3⟩=> ?_)
 rw[evalPart_none]
 refine lJd ?_
 have I4:Inv X pins σ H3 {s3 with heap:=s3.heap.push {cls:= .type "slice",data:= .fields #[vl,vu,.none]} }:=I3.kept (t':=s3.toks) fun b ob q=>lJk _ q
 obtain⟨T0,id,hT,ht,hg⟩:=hr pins {s3 with heap:=s3.heap.push {cls:= .type "slice",data:= .fields #[vl,vu,.none]} } τ G3 H3 x v vl vu l u s3.heap.objs.size Q ⟨σ,I4,hs3,hg3⟩ ((r1.mono e2).mono e3) (Heap.IsSliceOf.new ..) pl pu q3
 show wpAny (model X.prog X.w) X.A (subscriptTail e (.Slice lo hi none p2) v (.ref s3.heap.objs.size)) (EP3 X pins τ H Q) X.xe {s3 with heap:=s3.heap.push {cls:= .type "slice",data:= .fields #[vl,vu,.none]} }
 exact thn (tail_any (ops:=[.ref s3.heap.objs.size,v]) ht hT hg (by with_unfolding_all rfl)) fun _ _ z=>z.ext ((e1.trans e2).trans e3)
def cutT (xs:List T) (lo hi:Option Int):List T:=(xs.drop (HT.sIx xs.length 0 lo)).take (HT.sIx xs.length xs.length hi-HT.sIx xs.length 0 lo)
noncomputable def rSlA:T->Option Int->Option Int->Gp->VK3->Prop:=fun x lo hi G Q=>
 (∃xs,jUf G x=some xs/\∀p,G p=none->Q (.ref p) (gup G p (.lst (cutT xs lo hi))))\/∃xs,x= .tup xs/\Q (.tup (cutT xs lo hi)) G
end
end L3
namespace HT
open PySem PyProof.Rows
theorem getItem_tuple_whole {prog:Program} {w:World} {A:Around} {E:Value->Shared->Prop} {s:Shared} {t sl:Addr} {items:Array Value} {vl vu:Value} {lo hi:Option Int} {Q:Value->Shared->Prop} (ht:IsTup s.heap t items) (hs:s.heap.IsSliceOf sl vl vu .none) (pl:IsPart vl lo) (pu:IsPart vu hi)
  (hw:sIx items.size 0 lo=0/\sIx items.size items.size hi=items.size) (h:Q (.ref t) s):wpAny (model prog w) A (getItem (.ref t) (.ref sl)) Q E s:=by
 obtain⟨os,hos,hcs,hds⟩:=id hs
 have hTs:s.TypeIs (.ref sl) "slice":=⟨os,hos,hcs⟩
 unfold getItem
 try with_reducible refine lKy ?_
 first | refine lJa (lJd ?_) | skip
 refine lJa (wpAny_sequenceKey ht.typeIs (by decide) ?_)
 refine lJa (lQt (name:=Str.ofString "__getitem__") ht.typeIs lV8
  (lKl lV8 ht.typeIs entry_tuple_getitem ?_ (args_tuple_getitem _ _)))
 show wpAny _ _ (Builtin.Tuple.tupleItemsOf (.ref t) >>= _) _ _ s
 refine lJa (tupleItemsOf_ ht ?_)
 refine lJa (lVi hTs ?_)
 rw[lJc (by decide)]
 refine lJa (jUz hs pl pu ?_)
 have hyes:(((sIx items.size 0 lo:Nat):Int) == 0&&(1:Int) == 1&&(sIx items.size items.size hi-sIx items.size 0 lo) == items.size)=true:=by
  rw[hw.1,hw.2];simp
 show wpAny _ _ (if (((sIx items.size 0 lo:Nat):Int) == 0&&(1:Int) == 1&&(sIx items.size items.size hi-sIx items.size 0 lo) == items.size)=true then _ else _) _ _ s
 rw[lJc hyes]
 refine lJa ?_
 unfold Builtin.Tuple.tupleIsExact
 refine lJa (lVi ht.typeIs (lJd ?_))
 rw[lJc (by decide)]
 exact lJa (lVj (lJd ⟨_,rfl,lJd h⟩))
end HT
namespace L3
open PySem PySem.Spec PyProof.Rows L2
section
variable {X:Cx}
theorem Reps.cut {K:PySem.W.Frag} {H:Hp} {xs:List T} {vs:List V} (r:Reps K H xs vs) (lo hi:Option Int):Reps K H (cutT xs lo hi) (cutV vs lo hi):=by
 unfold cutT cutV
 rw[<-r.length]
 exact (r.drop _).take _
theorem kZk {xs:List T} {lo hi:Option Int} (h:HT.sIx xs.length 0 lo=0/\HT.sIx xs.length xs.length hi=xs.length):cutT xs lo hi=xs:=by
 unfold cutT
 rw[h.1,h.2]
 simp
theorem sl_any:Sl3 X rSlA:=by
 rintro pins s τ G H x v vl vu lo hi sl Q ⟨σ,I,hs,hg⟩ ⟨a,ra,rv⟩ hsl pl pu h
 rcases h with ⟨xs,hx,q⟩ | ⟨xs,ex,q⟩
 ·obtain⟨p,vs,e,hq,r⟩:=jVt hg ra hx
  subst e
  obtain⟨T0,id,h1,h2,h3⟩:=qYm pins s σ H (.ref p) v vl vu lo hi sl (up X.K H Q) I rv hsl pl pu ⟨p,vs,rfl,hq,fun l hl=>⟨.ref l,_,.upd (.none hl),hg.lstNew (r.cut lo hi) (.none hl),rfl,q l (hg.fresh hl)⟩⟩
  exact⟨T0,id,h1,h2,thn h3 fun _ _ z=>jVy hs z⟩
 ·subst ex
  obtain⟨p,vs,e,h1,h2⟩:=(show ∃p vs,a= .ref p/\H p=some (.tup vs)/\Reps X.K H xs vs from ra)
  subst e
  by_cases hw:HT.sIx xs.length 0 lo=0/\HT.sIx xs.length xs.length hi=xs.length
  ·cases rv
   obtain⟨its,rv',ht,hz⟩:=I.tuple (.of h1)
   have hlen:its.toArray.size=xs.length:=by rw[lJw,<-rv'.length,h2.length]
   refine⟨"tuple",_,lV8.lookup,ht.typeIs,HT.getItem_tuple_whole ht hsl pl pu (by rw[hlen];exact hw) ?_⟩
   rw[kZk hw] at q
   exact⟨.tup xs,G,H,.refl H,⟨σ,I,hs,hg⟩,⟨.ref p,ra,rfl⟩,q⟩
  ·obtain⟨T0,id,h3,h4,h5⟩:=sl_tup pins s σ H (.ref p) v vl vu lo hi sl (up X.K H Q) I rv hsl pl pu ⟨p,vs,rfl,.of h1,by rw[<-h2.length];exact hw,fun l hl=>⟨.tup (cutT xs lo hi),G,.upd (.none hl),hg.tupNew hl,Rep.tupNew (h2.cut lo hi) hl,q⟩⟩
   exact⟨T0,id,h3,h4,thn h5 fun _ _ z=>jVy hs z⟩
def jVm (ta:TA3):TE3:=fun τ G Q=>ta τ G fun vs G1=>∃j:Int,vs=[.int j]/\ -(2^62)<=j/\j<=2^20/\∀p,G1 p=none->Q (.ref p) (gup G1 p (.lst (rngT 0 j.toNat)))
theorem qUm {K:PySem.W.Frag} {H:Hp} {n:Nat} {vs:List V} (hl:vs.length=n) (h:∀(i:Nat) v,vs[i]? =some v->v= .int (0+i)):Reps K H (rngT 0 n) vs:=by
 have e:vs=(List.range n).map fun (k:Nat)=>V.int (0+k):=by
  apply lK8
  intro i
  cases hv:vs[i]? with
  | none=>
   have:n<=i:=by rw[<-hl];exact List.getElem?_eq_none_iff.mp hv
   simp[this]
  | some v=>
   have hi:i<n:=by rw[<-hl];exact (lJf.mp hv).1
   rw[h i v hv];simp[hi]
 rw[e]
 unfold rngT
 generalize List.range n=l
 induction l with
 | nil=>rfl
 | cons k ks ih=>exact⟨_,_,rfl,rfl,ih⟩
end
section
variable {X:Cx}
theorem kVy {a:Expr} {ta:TA3} {pos p p2 p3:Pos} (hgl:Gl X "list") (hml:X.mg "list"=none) (hgr:Gl X "range") (hmr:X.mg "range"=none) (hc:X.calm=true) (ha:PA3 X [a] ta) (hs:starEach [a] X.env=[(false,eval a X.env)]:=by rfl)
  (ho:starEach [Expr.Call (.Name "range" p2) [a] [] p3] X.env=[(false,eval (.Call (.Name "range" p2) [a] [] p3) X.env)]:=by rfl):
  PE3 X (.Call (.Name "list" p) [.Call (.Name "range" p2) [a] [] p3] [] pos) (jVm ta):=by
 intro pins s τ G H Q I h
 obtain⟨σ0,I0,hs0,hg0⟩:=id I
 refine lYc (jQ6 I0 hgl hml (u:= .type "list") (by rfl) ?_)
 refine lQa (T:="list") ?_ ho rfl
 rw[ho]
 show wpAny _ _ (spliced ((false,eval (.Call (.Name "range" p2) [a] [] p3) X.env)::backTo pos [])) _ _ s
 refine Calls.spliced_cons ?_
 refine Call_ (jQ6 I0 hgr hmr boot_range (lQa (thn (ha p3 pins s τ G H _ I h) fun us s1 w_=>w_.el fun xs G1 H1 e1 i_ r_ ⟨j,e,q1,q2,q⟩=>i_.el fun σ I1 hs1 hg1=>r_.el fun as ras rvs=> ?_) hs rfl))
 subst e
 obtain⟨v,rfl,rv⟩:=jU3 ras
 cases (show v= .int j from rv)
 obtain⟨u,rfl,ru⟩:=rvs.one
 obtain⟨t,rfl⟩:=ru
 refine call_range_1 ?_
 refine Calls.spliced_nil ?_
 have I2:Inv X pins σ H1 {s1 with heap:=s1.heap.push {cls:= .type "range",data:= .fields #[.int 0 s1.toks,.int j t,.int 1 (s1.toks+1)]},toks:=s1.toks+1+1}:=I1.kept fun b o e=>lJk _ e
 refine call_list_range (n:=j.toNat) (I1.ok.hd hc) (IsRange.new ..) (small_one (by omega) (by omega) q1 (by omega)) (by rw[rangeSize_one];split<;>omega) (by omega) fun h' tk acc' c' hk hobj hit=> ?_
 have hf:H1 (s1.heap.push {cls:= .type "range",data:= .fields #[.int 0 s1.toks,.int j t,.int 1 (s1.toks+1)]}).objs.size=none:=I2.hok.fresh (lJh _)
 have hz:acc'.size<=sizeLine:=by rw[hit.1,lKi];omega
 obtain⟨vs,hvs,rr⟩:∃vs:List V,Vals vs acc'.toList/\Reps X.K H1 (rngT 0 j.toNat) vs:=by
  refine⟨(List.range j.toNat).map fun (k:Nat)=>V.int (0+k),?_,qUm (by simp) (fun i v hv=> ?_)⟩
  ·have all:∀(l:List Value) (n0:Nat),(∀(i:Nat) v,l[i]? =some v->∃t,v= .int ((0:Int)+((n0+i:Nat):Int)*1) t)->Vals ((List.range' n0 l.length).map fun (k:Nat)=>V.int (0+k)) l:=by
    intro l
    induction l with
    | nil=>intro n0 _;exact .nil
    | cons v l ih=>
     intro n0 hh
     obtain⟨t,ht⟩:=hh 0 v rfl
     rw[lJ5,List.range'_succ,lJr]
     refine .cons ⟨t,by rw[ht];simp⟩ (ih (n0+1) fun i w hw=> ?_)
     obtain⟨t',ht'⟩:=hh (i+1) w (by simpa using hw)
     exact⟨t',by rw[ht'];congr 1;omega⟩
   have:=all acc'.toList 0 (fun i v hv=>by
    obtain⟨t,ht⟩:=hit.2 i v (by simpa using hv)
    exact⟨t,by rw[ht];simp⟩)
   rw[List.range_eq_range']
   rw[show acc'.toList.length=j.toNat by simpa using hit.1] at this
   exact this
  ·rw[lJq] at hv
   cases e:(List.range j.toNat)[i]? with
   | none=>rw[e] at hv;cases hv
   | some k=>
    rw[e] at hv;cases hv
    have:=lJf.mp e
    obtain⟨h1,h2⟩:=this
    simp at h2;rw[<-h2]
 refine⟨.ref _,_,_,e1.trans (.upd (.none hf)),⟨σ,I2.laid (t':=tk) (o:= .lst vs) hk (lJh _) ⟨by rw[hvs.length];simpa using hz,acc'.toList,c',hvs,by simpa using hobj⟩,hs1.mono (.upd (.none hf)),hg1.lstNew rr (.none hf)⟩,⟨.ref _,rfl,rfl⟩,q _ (hg1.fresh hf)⟩
def insT (xs:List T) (k:Nat) (y:T):List T:=xs.take k++y::xs.drop k
noncomputable def jZv:T->List T->Gp->VK3->Prop:=fun x as G Q=>∃p xs k y,x= .ref p/\as=[.int k,y]/\G p=some (.lst xs)/\0<=k/\k<=xs.length/\xs.length<sizeLine/\Q .non (gup G p (.lst (insT xs k.toNat y)))
theorem kX3:Mt3 X "list.insert" jZv:=by
 rintro pins s τ G H x as v us Q ⟨σ,I,hs,hg⟩ ⟨a,ra,rv⟩ ⟨bs,rbs,rus⟩ ⟨p,xs,k,y,ex,ea,hp,k0,k1,hz,q⟩
 subst ex;subst ea
 cases (show a= .ref p from ra);cases rv
 obtain⟨b1,b2,rfl,r1,r2⟩:=kQq rbs
 cases (show b1= .int k from r1)
 obtain⟨u1,u2,rfl,ru1,ru2⟩:=rus.two
 obtain⟨t,rfl⟩:=ru1
 obtain⟨vs,h1,h2⟩:=hg.lst hp
 obtain⟨z,its,n,r,hl,e⟩:=I.lstM h1
 have hlen:=h2.length
 have hfit:¬ (!Builtin.List.listFitsIndex k)=true:=by
  have h63:=jYk
  rw[fitsIndex_both (by omega) (by omega)]
  exact lJm
 refine lV1 F.slot_list_insert ⟨_,e,rfl⟩ F.entry_list_insert (F.args_list_insert_3 _ _ _) (AutoSeq1.list_insert_list_int_val_1 p its.toArray n k t u2 hfit (by rw[lJw];omega)) ⟨e,?_⟩
 have e2:Ext H (upd H p (.lst (vs.take k.toNat++b2::vs.drop k.toNat))):= .upd (.lst h1)
 refine⟨.non,_,_,e2,⟨σ,I.lset (its':=its.take k.toNat++u2::its.drop k.toNat) h1 e ?_ ((r.take _).append (.cons ru2 (r.drop _))) ?_,hs.mono e2,hg.lstNew (xs:=insT xs k.toNat y) ((h2.take _).append ⟨b2,_,rfl,r2,h2.drop _⟩) (.lst h1)⟩,⟨.non,rfl,rfl⟩,q⟩
 ·have hk:¬ k<0:=by omega
  have hm:min k.toNat its.toArray.size=k.toNat:=by rw[lJw];omega
  simp only[hk,lJ3,hm]
  apply Array.ext'
  simp[Array.toList_extract]
  rw[List.take_of_length_le (Nat.le_of_eq (by simp))]
 ·simp only[lKd,lJ5,lQy,lXm]
  omega
def qJp:T->List T->Gp->VK3->Prop:=fun x as G Q=>∃p xs y,x= .ref p/\as=[y]/\G p=some (.lst xs)/\jU6 y=true/\xs.all jU6=true/\Q (.int (xs.countP fun z=>eqT z y)) G
theorem kUk {K:PySem.W.Frag} {H:Hp} {y:T} {b:V} (ry:Rep K H y b) (fy:jU6 y=true):∀ {xs:List T} {vs:List V} {us:List Value},Reps K H xs vs->Vals vs us->xs.all jU6=true->us.countP (eqU b)=xs.countP fun z=>eqT z y
 | [],_,_,r,q,_=>by cases r;cases q;rfl
 | x::xs,_,_,⟨v,ws,e,r1,r2⟩,q,f=>by
  subst e
  cases q with
  | cons q1 q2=>
   rw[lQd,lJ6] at f
   rw[List.countP_cons,List.countP_cons,kUk ry fy r2 q2 f.2,kYd q1 (jVu r1 f.1),kVv r1 ry f.1 fy]
theorem qY9:Mt3 X "list.count" qJp:=by
 rintro pins s τ G H x as v us Q ⟨σ,I,hs,hg⟩ ⟨a,ra,rv⟩ ⟨bs,rbs,rus⟩ ⟨p,xs,y,ex,ea,hp,fy,fs,q⟩
 subst ex;subst ea
 cases (show a= .ref p from ra);cases rv
 obtain⟨b,rfl,rb⟩:=jU3 rbs
 obtain⟨u,rfl,ru⟩:=rus.one
 obtain⟨vs,h1,h2⟩:=hg.lst hp
 obtain⟨z,its,n,r,hl,e⟩:=I.lstM h1
 have fl:=(jY2 rb fy h2 fs).1
 refine lV1 F.slot_list_count ⟨_,e,rfl⟩ F.entry_list_count (F.args_list_count_2 _ _) (SeqAt.list_countAt p its.toArray n none #[] u (eqU b)) ⟨e,fun w hw=>jUt ru (jVu rb fy) r fl w (by simpa using hw),?_⟩
 refine⟨.int _,G,H,.refl H,⟨σ,I.tok _,hs,hg⟩,⟨.int _,rfl,s.toks,?_⟩,q⟩
 rw[<-kUk rb fy h2 r fs]
def kV4:List T->Option Bool
 | []=>some true
 | .bl b::r=>match kV4 r with
  | some c=>some (b&&c)
  | none=>none
 | _::_=>none
def rAll:List T->Gp->VK3->Prop:=fun as G Q=>∃p xs b,as=[.ref p]/\G p=some (.lst xs)/\kV4 xs=some b/\Q (.bl b) G
theorem kUv:∀ {xs:List T} {b:Bool},kV4 xs=some b->∃bs:List Bool,xs=bs.map T.bl/\b=bs.all (fun x=>x)
 | [],b,h=>by cases h;exact⟨[],rfl,rfl⟩
 | .bl c::r,b,h=>by
  unfold kV4 at h
  cases e:kV4 r with
  | none=>rw[e] at h;cases h
  | some d=>
   rw[e] at h;cases h
   obtain⟨bs,h1,h2⟩:=kUv e
   exact⟨c::bs,by rw[h1];rfl,by rw[h2];rfl⟩
 | .non::_,_,h=>by cases h
 | .int _::_,_,h=>by cases h
 | .str _::_,_,h=>by cases h
 | .tup _::_,_,h=>by cases h
 | .scr _::_,_,h=>by cases h
 | .ref _::_,_,h=>by cases h
 | .ty _::_,_,h=>by cases h
theorem kKt {K:PySem.W.Frag} {H:Hp}:∀ {bs:List Bool} {vs:List V} {us:List Value},Reps K H (bs.map T.bl) vs->Vals vs us->us=bs.map Value.bool
 | [],_,_,h,q=>by cases h;cases q;rfl
 | n::ns,_,_,⟨v,ws,e,r,rs⟩,q=>by
  subst e;cases (show v= .bl n from r)
  cases q with
  | cons q1 q2=>cases q1;rw[kKt rs q2];rfl
theorem kUu:∀(bs:List Bool),bs.all (fun x=>x)=(List.range bs.length).all fun i=>bs.getD i true
 | []=>rfl
 | b::bs=>by
  rw[lQd,kUu bs,lJ5,List.range_succ_eq_map,lQd,List.all_map]
  simp[Function.comp_def,List.getD]
theorem qQq (hc:X.calm=true):Call3 X (.builtin "all") rAll:=by
 rintro pins s τ G H as us Q ⟨σ,I,hs,hg⟩ ⟨bs',rbs,rus⟩ ⟨p,xs,b,e,hp,hb,q⟩
 subst e
 obtain⟨a,rfl,ra⟩:=jU3 rbs
 cases (show a= .ref p from ra)
 obtain⟨u,rfl,ru⟩:=rus.one
 cases ru
 obtain⟨vs,h1,h2⟩:=hg.lst hp
 obtain⟨bs,ex,eb⟩:=kUv hb
 subst ex
 obtain⟨its,rv,pl,hz⟩:=I.list (.of h1)
 have eit:=kKt h2 rv
 subst eit
 refine call_all_walk (lYd pl.isList ?_)
 have hne:p≠s.heap.objs.size:=by obtain⟨o,n,ho,_⟩:=pl;exact lJs (lJi ho)
 refine⟨s.heap.objs.size,[s.heap.objs.size,p],[s.heap.objs.size],(bs.map Value.bool).toArray.size,_,_,fun i=>bs.getD i true,rfl,Walks.list (A:=X.A.in1) (show X.A.in1.handled=none from I.ok.hd hc) s.heap.objs.size p hne (bs.map Value.bool).toArray,⟨⟨_,lJu _ rfl,rfl,rfl⟩,pl.isList.push _⟩,?_,?_⟩
 ·intro i v s' Q' E' hP hQ
  have hP':(bs.map Value.bool)[i]? =some v:=by simpa using hP
  rw[lJq] at hP'
  cases e:bs[i]? with
  | none=>rw[e] at hP';cases hP'
  | some c=>
   rw[e] at hP';cases hP'
   have:bs.getD i true=c:=by simp[List.getD,e]
   have hQ':Q' (bs.getD i true) s':=hQ
   rw[this] at hQ'
   exact lQs hQ'
 ·intro h' tk hk
  have hk2:∀b o,s.heap.get? b=some o->h'.get? b=some o:=fun b o e=>hk b o (by simpa using lJs (lJi e)) (lJk _ e)
  refine⟨.bl b,G,H,.refl H,⟨σ,I.kept hk2,hs,hg⟩,⟨.bl b,rfl,?_⟩,q⟩
  rw[eb,kUu]
  simp
  rfl
end
structure Cal (P:Program) (w:World) (K:PySem.W.Frag) (mg:Str->Option Value) (base:Heap) (k:Nat) (x:Str) (ps:List Str) (sp:Sp3):Prop where
 ex:∃f fd,Fn3 P w K mg base k f fd ps sp/\mg x=some (.ref f)/\PySem.W.keepIn K (.ref f)=true/\Binds K fd ps []
 mono:Mono sp
 len:∀xs G Q,sp xs G Q->xs.length=ps.length
theorem jJ4 {X:Cx} {k:Nat} {ps:List Str} {sp:Sp3} {x:Str} {p pos:Pos} {e:Expr} {es:List Expr} {t:TA3} (C:Cal X.prog X.w X.K X.mg X.base k x ps sp) (hr:Room k X.A) (ha:PA3 X (e::es) t) (hg:Gl X x:=by rfl)
  (hdb:(x == ("__debug__":Str))=false:=by decide) (he:starEach (e::es) X.env=(false,eval e X.env)::starEach es X.env:=by rfl) (hpl:(backTo pos (starEach es X.env)).any (·.1)=false:=by rfl):
  PE3 X (.Call (.Name x p) (e::es) [] pos) (jJp sp t):=by
 intro pins s τ G H Q I h
 obtain⟨f,fd,F,hm,hk,hb⟩:=C.ex
 obtain⟨σ0,I0,hs0,hg0⟩:=id I
 refine lYc (qZe I0 hg hm ?_ hdb)
 refine PySem.W.callWith_K (h₀:=X.base) I0.ok.mod.kin hk (thn (ha pos pins s τ G H _ I h) fun us s1 w_=>w_.el fun xs G1 H1 e1 i_ r_ q=>i_.el fun σ I1 hs1 hg1=>r_.el fun as ras rvs=>⟨I1.kIn,?_⟩) he hpl
 refine thn (run_fn (dvs:=[]) (ds:=[]) (E:=E0) (Q:=up X.K H1 Q) F hr hb .nil pass0 I1 rvs ?_) fun u s' z=>(jVy hs1 z).ext e1
 rw[lV4]
 exact⟨by rw[<-ras.length];exact C.len _ _ _ q,xs,G1,ras,hg1,C.mono _ _ _ _ (fun t G' hq v H' e g r=>⟨t,G',e,g,r,hq⟩) q⟩
def jZu:=jZt
theorem qQp {X:Cx}:Call3 X (.type "list") jZu:=c_list
end L3
namespace L3
open PySem PySem.Spec PyProof.Rows
inductive Res where
 | val (t:T) | newL (xs:List T)
def fin3:Res->Gp->VK3->Prop
 | .val t,G,Q=>Q t G
 | .newL xs,G,Q=>∀p,G p=none->Q (.ref p) (gup G p (.lst xs))
theorem Op3.imp {X:L2.Cx} {f:Value->Value->Sem Value} {r r':R3} (h:Op3 X f r) (i:∀x y G Q,r' x y G Q->r x y G Q):Op3 X f r':=fun pins s τ G H x y v u Q I rx ry q=>h pins s τ G H x y v u Q I rx ry (i x y G Q q)
theorem Ix3.imp {X:L2.Cx} {r r':R3} (h:Ix3 X r) (i:∀x y G Q,r' x y G Q->r x y G Q):Ix3 X r':=fun a b pins s τ G H x y v u Q I rx ry q hs=>h a b pins s τ G H x y v u Q I rx ry (i x y G Q q) hs
theorem Set3.imp {X:L2.Cx} {r r':T->T->T->Gp->(Gp->Prop)->Prop} (h:Set3 X r) (i:∀o j v G Q,r' o j v G Q->r o j v G Q):Set3 X r':=fun pins s τ G H o j v a b c Q I ro rj rv q=>h pins s τ G H o j v a b c Q I ro rj rv (i o j v G Q q)
theorem Sl3.imp {X:L2.Cx} {r r':T->Option Int->Option Int->Gp->VK3->Prop} (h:Sl3 X r) (i:∀x l u G Q,r' x l u G Q->r x l u G Q):Sl3 X r':=fun pins s τ G H x v vl vu lo hi sl Q I rx hs pl pu q=>h pins s τ G H x v vl vu lo hi sl Q I rx hs pl pu (i x lo hi G Q q)
noncomputable def addR (G:Gp):T->T->Option Res
 | .int i,.int j=>some (.val (.int (i+j)))
 | .ref p,.ref q=>match G p,G q with
  | some (.lst xs),some (.lst ys)=>if xs.length+ys.length<=sizeLine then some (.newL (xs++ys)) else none
  | _,_=>none
 | .tup xs,.tup ys=>if xs.length≠0/\xs.length+ys.length<=sizeLine then some (.val (.tup (xs++ys))) else none
 | _,_=>none
def jJr:R3:=fun x y G Q=>∃r,addR G x y=some r/\fin3 r G Q
theorem add_F {x y:T} {G:Gp} {Q:VK3} (h:jJr x y G Q):rAddA x y G Q:=by
 obtain⟨r,hr,q⟩:=h
 unfold addR at hr
 split at hr
 ·cases hr;exact .inl ⟨_,_,rfl,rfl,q⟩
 ·rename_i p q'
  split at hr
  ·rename_i xs ys h1 h2
   split at hr
   ·rename_i hz;cases hr;exact .inr (.inl ⟨p,q',xs,ys,rfl,rfl,h1,h2,hz,q⟩)
   ·cases hr
  ·cases hr
 ·rename_i xs ys
  split at hr
  ·rename_i hz;cases hr;exact .inr (.inr ⟨xs,ys,rfl,rfl,fun z=>hz.1 (by rw[z];rfl),hz.2,q⟩)
  ·cases hr
 ·cases hr
theorem jJx {X:L2.Cx}:Op3 X (binaryOp .Add) jJr:=o_addA.imp fun _ _ _ _=>add_F
noncomputable def mulR (G:Gp):T->T->Option Res
 | .int i,.int j=>some (.val (.int (i*j)))
 | .ref p,.int n=>match G p with
  | some (.lst xs)=>if n.toNat * xs.length<=sizeLine/\n<2^62/\ -(2^62)<n then some (.newL (List.replicate n.toNat xs).flatten) else none
  | _=>none
 | _,_=>none
def mulC:T->T->Prop
 | .int i,.int j=>L2.CMul i j
 | _,_=>True
def jQ4:R3:=fun x y G Q=>∃r,mulR G x y=some r/\mulC x y/\fin3 r G Q
theorem mul_F {x y:T} {G:Gp} {Q:VK3} (h:jQ4 x y G Q):rMulA x y G Q:=by
 obtain⟨r,hr,c,q⟩:=h
 unfold mulR at hr
 split at hr
 ·cases hr;exact .inl ⟨_,_,rfl,rfl,c,q⟩
 ·rename_i p n
  split at hr
  ·rename_i xs h1
   split at hr
   ·rename_i hz;cases hr;exact .inr ⟨p,xs,n,rfl,rfl,h1,hz.1,hz.2.1,hz.2.2,q⟩
   ·cases hr
  ·cases hr
 ·cases hr
theorem jQ5 {X:L2.Cx}:Op3 X (binaryOp .Mult) jQ4:=o_mulA.imp fun _ _ _ _=>mul_F
def ixR (G:Gp) (x y:T):Option T:=match seqT G x with
 | some xs=>match y with
  | .int i=>L2.atI xs i
  | _=>none
 | none=>match dAt G x y with
  | some o=>o
  | none=>none
def rIxF:R3:=fun x y G Q=>∃t,ixR G x y=some t/\Q t G
theorem ix_F' {x y:T} {G:Gp} {Q:VK3} (h:rIxF x y G Q):rIxA x y G Q:=by
 obtain⟨t,ht,q⟩:=h
 unfold ixR at ht
 split at ht
 ·rename_i xs hx
  split at ht
  ·rename_i i;exact .inl ⟨xs,i,t,hx,rfl,ht,q⟩
  ·cases ht
 ·split at ht
  ·rename_i o ho;subst ht;exact .inr ⟨t,ho,q⟩
  ·cases ht
theorem ix_F {X:L2.Cx} (hu:X.A.units+20<cLine):Ix3 X rIxF:=(qZj hu).imp fun _ _ _ _=>ix_F'
noncomputable def setR (G:Gp) (o i v:T):Option Gp:=match o with
 | .ref p=>match G p with
  | some (.lst xs)=>match i with
   | .int k=>match L2.ixN xs.length k with
    | some j=>some (gup G p (.lst (xs.set j v)))
    | none=>none
   | _=>none
  | some (.dct kvs)=>match i with
   | .tup ys=>match jK7 ys with
    | some ks=>if kvs.length<sizeLine then some (gup G p (.dct (putT kvs ks v))) else none
    | none=>none
   | _=>none
  | some (.dck kvs)=>match jVk i with
   | some k=>if kvs.length<sizeLine then some (gup G p (.dck (putT kvs k v))) else none
   | none=>none
  | some (.fdc _)=>none
  | some (.ins _ _)=>none
  | none=>none
 | _=>none
def jQr:T->T->T->Gp->(Gp->Prop)->Prop:=fun o i v G Q=>∃G',setR G o i v=some G'/\Q G'
theorem set_F' {o i v:T} {G:Gp} {Q:Gp->Prop} (h:jQr o i v G Q):rSetA o i v G Q:=by
 obtain⟨G',hr,q⟩:=h
 unfold setR at hr
 split at hr
 ·rename_i p
  split at hr
  ·rename_i xs h1
   split at hr
   ·rename_i k
    split at hr
    ·rename_i j hj;cases hr;exact .inl ⟨p,xs,k,j,rfl,rfl,h1,hj,q⟩
    ·cases hr
   ·cases hr
  ·rename_i kvs h1
   split at hr
   ·rename_i ys
    split at hr
    ·rename_i ks hk
     split at hr
     ·rename_i hz;cases hr;exact .inr (.inl ⟨p,ys,ks,kvs,rfl,rfl,hk,h1,hz,q⟩)
     ·cases hr
    ·cases hr
   ·cases hr
  ·rename_i kvs h1
   split at hr
   ·rename_i k hk
    split at hr
    ·rename_i hz;cases hr;exact .inr (.inr ⟨p,k,kvs,rfl,hk,h1,hz,q⟩)
    ·cases hr
   ·cases hr
  ·cases hr
  ·cases hr
  ·cases hr
 ·cases hr
theorem s_F {X:L2.Cx} (hu:X.A.units+20<cLine):Set3 X jQr:=(s_any hu).imp fun _ _ _ _ _=>set_F'
noncomputable def rLeF:R3:=fun x y G Q=>∃b,(match x,y with
 | .int i,.int j=>some (decide (i<=j))
 | .tup [.int a,.int b],.tup [.int c,.int d]=>some (HT.lexLe [a,b] [c,d])
 | _,_=>none)=some b/\Q (.bl b) G
theorem le_F' {x y:T} {G:Gp} {Q:VK3} (h:rLeF x y G Q):rLeA x y G Q:=by
 obtain⟨b,hb,q⟩:=h
 split at hb
 ·cases hb;exact .inl ⟨_,_,rfl,rfl,q⟩
 ·cases hb;exact .inr ⟨_,_,rfl,rfl,q⟩
 ·cases hb
theorem qU7 {X:L2.Cx} (hu:X.A.units+20<cLine):Op3 X (compareOp .LtE) rLeF:=(o_leA hu).imp fun _ _ _ _=>le_F'
noncomputable def inR (G:Gp) (x y:T):Option Bool:=match seqT G y with
 | some xs=>if jU6 x=true/\xs.all jU6=true then some (inT x xs) else none
 | none=>match dAt G y x with
  | some o=>some o.isSome
  | none=>none
def qUx:R3:=fun x y G Q=>∃b,inR G x y=some b/\Q (.bl b) G
def jUc:R3:=fun x y G Q=>∃b,inR G x y=some b/\Q (.bl (!b)) G
theorem in_F' {x y:T} {G:Gp} {Q:VK3} (h:qUx x y G Q):rInL x y G Q:=by
 obtain⟨b,hb,q⟩:=h
 unfold inR at hb
 split at hb
 ·rename_i xs hx
  split at hb
  ·rename_i hc;cases hb;exact .inl ⟨xs,hx,hc.1,hc.2,q⟩
  ·cases hb
 ·split at hb
  ·rename_i o ho;cases hb;exact .inr ⟨o,ho,q⟩
  ·cases hb
theorem qVa {x y:T} {G:Gp} {Q:VK3} (h:jUc x y G Q):qJm x y G Q:=by
 obtain⟨b,hb,q⟩:=h
 unfold inR at hb
 split at hb
 ·rename_i xs hx
  split at hb
  ·rename_i hc;cases hb;exact .inl ⟨xs,hx,hc.1,hc.2,q⟩
  ·cases hb
 ·split at hb
  ·rename_i o ho;cases hb;exact .inr ⟨o,ho,q⟩
  ·cases hb
theorem o_inFu {X:L2.Cx} (hu:X.A.units+20<cLine):Op3 X (compareOp .In) qUx:=(o_in hu).imp fun _ _ _ _=>in_F'
theorem jZy {X:L2.Cx} (hu:X.A.units+20<cLine):Op3 X (compareOp .NotIn) jUc:=(qY3 hu).imp fun _ _ _ _=>qVa
noncomputable def slR (G:Gp) (x:T) (lo hi:Option Int):Option Res:=match x with
 | .tup xs=>some (.val (.tup (cutT xs lo hi)))
 | .scr xs=>some (.newL (cutT xs lo hi))
 | .ref p=>match G p with
  | some (.lst xs)=>some (.newL (cutT xs lo hi))
  | _=>none
 | _=>none
def rSlF:T->Option Int->Option Int->Gp->VK3->Prop:=fun x lo hi G Q=>∃r,slR G x lo hi=some r/\fin3 r G Q
theorem sl_F' {x:T} {lo hi:Option Int} {G:Gp} {Q:VK3} (h:rSlF x lo hi G Q):rSlA x lo hi G Q:=by
 obtain⟨r,hr,q⟩:=h
 unfold slR at hr
 split at hr
 ·cases hr;exact .inr ⟨_,rfl,q⟩
 ·cases hr;exact .inl ⟨_,rfl,q⟩
 ·split at hr
  ·rename_i xs h1;cases hr;exact .inl ⟨xs,by simp only[jUf,h1,asL],q⟩
  ·cases hr
 ·cases hr
theorem sl_F {X:L2.Cx}:Sl3 X rSlF:=sl_any.imp fun _ _ _ _ _=>sl_F'
end L3
namespace L2
open PySem PySem.Spec PyProof.Rows
def Its (lo c:Int) (n:Nat):It:=⟨fun i _=>i<n,fun i H x H'=>H'=H/\x= .int (lo+i*c),fun i _=>n<=i⟩
theorem kUx {P:Program} {w:World} {K:PySem.W.Frag} {tg:Expr} (it:Addr) (lo c:Int) (n:Nat):Turn P w K tg (Its lo c n) [it] it (fun i h=>IsRangeIter h it (lo+(i:Nat)*c) ((n:Int)-(i:Nat)) c) where
 mem:=by simp
 obj:=fun i h st b hb=>by
  have e:b=it:=by simpa using hb
  subst e
  exact⟨_,st,fun v z=>by
   have z':Data.fields _=Data.cell v:=z
   cases z'⟩
 keep:=fun i h h' st k=>k it (by simp) _ st
 item:=by
  intro X hP hw hK hc i pins s σ H E I hf st hg
  subst hP hw hK
  obtain⟨f0,f1,f2,f3,f4,f5⟩:=hf it (by simp)
  have W:=Walks.range (prog:=X.prog) (w:=X.w) (I.ok.hd hc) it lo c n
  refine W.item i s _ _ hg st fun v h' tk hv st' kk=> ?_
  obtain⟨t,rfl⟩:=hv
  have I1:Inv X pins σ H {s with heap:=h',toks:=tk}:=I.turned (fun b o hb e=>kk b o (by simpa using hb) e) f0 f1 f3 f4 f5
  exact⟨_,rfl,kZh (s:={s with heap:=h',toks:=tk}) (n:="range_iterator") st' rfl rfl (by decide) ⟨.int (lo+i*c),H,I1,⟨t,rfl⟩,⟨rfl,rfl⟩,st',fun b hb=>(hf b hb).1⟩⟩
 done:=by
  intro X hP hw hK hc i pins s σ H E I hf st hg
  subst hP hw hK
  obtain⟨f0,f1,f2,f3,f4,f5⟩:=hf it (by simp)
  exact wpAny_pyNext_range_end (I.ok.hd hc) st (by have:n<=i:=hg;omega) fun h' eb=>⟨rfl,I.turned (t':=s.toks) (fun b o hb e=>eb b o hb e) f0 f1 f3 f4 f5⟩
 self:=fun _ _ _ _ _ st h=>wpAny_pyIter_rangeiter st h
section
variable {X:Cx} {tg:Expr}
theorem qJl {pins:List (Addr×Obj)} {σ:St} {H:Hp} {s:Shared} {R:It->Hp->Prop} {E:Value->Shared->Prop} {lo hi c:Int} {t u v:Tok} {tk:Nat} (I:Inv X pins σ H s) (hsm:Builtin.Range.small lo hi c=true)
  (q:R (Its lo c (Builtin.Range.rangeSize lo hi c).toNat) H):wpAny (model X.prog X.w) X.A (pyIter (.ref s.heap.objs.size)) (PIE X pins σ tg R) E {s with heap:=s.heap.push {cls:= .type "range",data:= .fields #[.int lo t,.int hi u,.int c v]},toks:=tk}:=by
 refine wpAny_pyIter_range (IsRange.new ..) hsm ?_
 have I1:Inv X pins σ H {s with heap:=s.heap.push {cls:= .type "range",data:= .fields #[.int lo t,.int hi u,.int c v]},toks:=tk}:=I.kept fun b o e=>lJk _ e
 refine⟨(s.heap.push {cls:= .type "range",data:= .fields #[.int lo t,.int hi u,.int c v]}).objs.size,[(s.heap.push {cls:= .type "range",data:= .fields #[.int lo t,.int hi u,.int c v]}).objs.size],_,_,H,rfl,
  I1.kept (t':=tk) fun b o e=>lJk _ e,kUx _ lo c (Builtin.Range.rangeSize lo hi c).toNat,?_,fun b hb=> ?_,q⟩
 ·show IsRangeIter _ _ (lo+((0:Nat):Int)*c) ((((Builtin.Range.rangeSize lo hi c).toNat:Nat):Int)-((0:Nat):Int)) c
  rw[<-rangeSize_toNat,show lo+((0:Nat):Int)*c=lo by simp,show Builtin.Range.rangeSize lo hi c-((0:Nat):Int)=Builtin.Range.rangeSize lo hi c by simp]
  exact lJu _ rfl
 ·have e:b=(s.heap.push {cls:= .type "range",data:= .fields #[.int lo t,.int hi u,.int c v]}).objs.size:=by simpa using hb
  subst e
  exact I1.fpOk (lJh _) (I1.hok.fresh (lJh _))
end
end L2
namespace L3
open PySem PySem.Spec PyProof.Rows L2
def rngS (lo c:Int) (n:Nat):List T:=(List.range n).map fun (k:Nat)=>T.int (lo+k*c)
noncomputable def qVs (ta:TA3):TI3:=fun τ G R=>ta τ G fun vs G1=>∃i j c:Int,vs=[.int i,.int j,.int c]/\(c≠0/\c.natAbs<1073741824/\Builtin.Range.small i j c=true)/\R (rngS i c (Builtin.Range.rangeSize i j c).toNat) (fun _=>True) G1
theorem kZd {K:PySem.W.Frag} {H:Hp} (lo c:Int) (n:Nat):uJf K H (Its lo c n) (rngS lo c n) fun _=>True:=by
 intro i H' G e g _
 have hl:(rngS lo c n).length=n:=by simp[rngS]
 refine⟨fun h=>by rw[hl] at h;exact h,fun h=>by rw[hl] at h;exact h,fun hi x H2 ⟨eH,ex⟩=> ?_⟩
 rw[hl] at hi
 subst eH;subst ex
 exact⟨.refl _,g,.int (lo+i*c),by simp[rngS,hi],rfl⟩
theorem qVr {X:Cx} {tg:Expr} {pos:Pos} {a b c:Expr} {ta:TA3} {p:Pos} (hg:Gl X "range") (hm:X.mg "range"=none) (ha:PA3 X [a,b,c] ta) (hs:starEach [a,b,c] X.env=[(false,eval a X.env),(false,eval b X.env),(false,eval c X.env)]:=by rfl) (hs2:starEach [b,c] X.env=[(false,eval b X.env),(false,eval c X.env)]:=by rfl):
  PI3 X tg (.Call (.Name "range" p) [a,b,c] [] pos) (qVs ta):=by
 intro pins s τ G H R I h
 obtain⟨σ,I0,hs0,hg0⟩:=id I
 refine Call_ (jQ6 I0 hg hm boot_range (lQa (thn (ha pos pins s τ G H _ I h) fun us s1 w_=>w_.el fun xs G1 H1 e1 i_ r_ q1=>i_.el fun σ I1 hs1 hg1=>r_.el fun as ras rvs=> ?_) (by rw[hs,hs2]) (by rw[hs2];rfl)))
 obtain⟨i,j,k,e,⟨q1,q2,q3⟩,q⟩:=q1
 subst e
 obtain⟨v,as1,rfl,rv,ras1⟩:=ras
 obtain⟨w,z,rfl,rw',rz⟩:=kQq ras1
 cases (show v= .int i from rv);cases (show w= .int j from rw');cases (show z= .int k from rz)
 cases rvs with
 | cons ru rvs=>
  obtain⟨u',u'',rfl,ru',ru''⟩:=Vals.two rvs
  obtain⟨t,rfl⟩:=ru
  obtain⟨t',rfl⟩:=ru'
  obtain⟨t'',rfl⟩:=ru''
  refine call_range_3 q1 (thn (qJl (tg:=tg) (R:=fun J H'=>J=Its i k (Builtin.Range.rangeSize i j k).toNat/\H'=H1) I1 q3 ⟨rfl,rfl⟩) fun itv s2 z=> ?_) (Or.inl (PyProof.noPylong_small q2))
  obtain⟨it,fp,tn,J,H',ei,I2,T0,st,fk,eJ,eH⟩:=z
  subst eJ;subst eH
  exact⟨it,fp,tn,_,rngS i k (Builtin.Range.rangeSize i j k).toNat,fun _=>True,G1,H',ei,e1,⟨σ,I2,hs1,hg1⟩,T0,st,fk,kZd i k _,q⟩
def Off (cs:List Addr) (g g':Heap):Prop:=∀c,c∉cs->∀o,g.get? c=some o->g'.get? c=some o
theorem Off.then {cs:List Addr} {g g' g'':Heap} (p:Off cs g g') (q:Off cs g' g''):Off cs g g'':=fun c n o e=>q c n o (p c n o e)
theorem Off.ext {cs:List Addr} {c:Addr} {g g':Heap} (h:Heap.ExtBut c g g') (m:c∈cs):Off cs g g':=fun b n o e=>h b o (fun q=>n (q▸m)) e
theorem Off.one {cs:List Addr} {c:Addr} {g g':Heap} (h:Heap.SameBut c g g') (m:c∈cs):Off cs g g':= .ext h.extBut m
theorem Off.new (cs:List Addr) (g:Heap) (o:Obj):Off cs g (g.push o):=fun _ _ _ e=>lJk _ e
theorem Off.at {cs:List Addr} {g g':Heap} (p:Off cs g g') {c:Addr} {o:Obj} (n:c∉cs) (e:g.get? c=some o):g'.get? c=some o:=p c n o e
def kJm (cs:List Addr) (S:Heap->Prop):Prop:=∀g g',Off cs g g'->S g->S g'
def Draw (P:Program) (w:World) (A:Around) (i:Addr) (r:Option Value) (S S':Heap->Prop):Prop:=
 ∀(s:Shared) (Q E:Value->Shared->Prop),S s.heap->
  (∀x g,r=some x->S' g->Heap.SameBut i s.heap g->Q x {s with heap:=g})->
  (∀g e o,r=none->Heap.ExtBut i s.heap g->g.get? e=some o->o.cls= .type "StopIteration"->E (.ref e) {s with heap:=g})->
  wpAny (model P w) A (Builtin.SmallTypes.nextOf (.ref i)) Q E s
def OnTup (i t:Addr) (k:Nat) (xs:Array Value) (h:Heap):Prop:=h.IsTupleIter i t k/\h.IsTuple t xs
theorem OnTup.still {cs:List Addr} {i t:Addr} {k:Nat} {xs:Array Value} (hi:i∉cs) (ht:t∉cs):kJm cs (OnTup i t k xs):=
 fun _ _ p ⟨⟨o,e,c⟩,⟨q,e',c'⟩⟩=>⟨⟨o,p.at hi e,c⟩,⟨q,p.at ht e',c'⟩⟩
theorem jYv {P:Program} {w:World} {A:Around} {i t:Addr} {k:Nat} {xs:Array Value} (hh:A.handled=none) (ne:t≠i):Draw P w A i xs[k]? (OnTup i t k xs) (OnTup i t (k+1) xs):=by
 rintro s Q E ⟨⟨o,ho,hc,hd⟩,q,hq,hqc,n,hn⟩ item stop
 have ty:s.TypeIs (.ref i) "tuple_iterator":=⟨o,ho,hc⟩
 refine lJa (lQt (name:=Str.ofString "__next__") ty F.slot_tuple_iterator_next (lKl F.slot_tuple_iterator_next ty F.entry_tuple_iterator_next ?_ (F.args_tuple_iterator_next_1 _)))
 refine (show wpAny _ _ (field (.ref i) 0 >>= _) _ _ s from lJa (lKp ho hd (x:= .ref t) rfl ?_))
 refine (show wpAny _ _ (if (Value.ref t == Value.none)=true then _ else field (.ref i) 1 >>= _) _ _ s from ?_)
 rw[lJb (by exact lJm)]
 refine lJa (lKp ho hd (x:= .int k 0) rfl (show wpAny _ _ (seqItems? (.ref t) >>= _) _ _ s from lJa (lVh hq hn ?_)))
 cases hx:xs[k]? with
 | some x=>
  simp only[hx,lXd]
  have up:OnTup i t (k+1) xs (s.heap.update i (Obj.mapFields (·.setIfInBounds 1 (rawInt ((k:Int)+1))))):=by
   refine⟨⟨_,lQn _ ho (Obj.isFreed_of_fields (Obj.data_mapFields hd _)),(Obj.cls_mapFields ..).trans hc,?_⟩,q,(lVc ..).extBut t q ne hq,hqc,n,hn⟩
   rw[Obj.data_mapFields hd];simp[rawInt]
  exact lJa (lV3 ho hd (by simp) (lJd ⟨x,rfl,lJd (item x _ hx up (lVc ..))⟩))
 | none=>
  simp only[hx,lXd]
  refine lJa (lVj (lJa (lV3 ho hd (by simp) (show wpAny _ _ (newExc (.type "StopIteration") [] >>= _) _ _ _ from lJa ?_))))
  simp only[newExc,newTuple,raiseNew]
  refine lJa (lKe (lJa (m:=firstArgMember _ _) (lKq (a:=Value.none) (by first | rfl | (simp only[firstArgMember];rfl)) (lKe ?_ (by size_fits)))) (by size_fits))
  refine lJa (wpAny_handled ?_);rw[show A.in1.handled=none from hh]
  exact lJa (lJd (wpAny_throw (stop _ _ _ hx (((lVc ..).extBut.push _).push _) (lJu _ rfl) rfl)))
structure ZipAt (z TI TO i j:Addr):Prop where
 nd:[z,TI,TO,i,j].Nodup
theorem qQ3 {P:Program} {w:World} {A:Around} {z TI TO i j:Addr} {r1 r2:Option Value} {S S' U U':Heap->Prop} {a b:Value} {s:Shared} {Q E:Value->Shared->Prop}
  (D1:Draw P w A i r1 S S') (D2:Draw P w A j r2 U U') (nd:ZipAt z TI TO i j) (s1:kJm [z,TO,j] S) (s1':kJm [z,TO,j] S') (s2:kJm [z,TO,i] U) (s2':kJm [z,TO,i] U')
  (hz:IsZip s.heap z TI TO .none) (hTI:IsPair s.heap TI (.ref i) (.ref j)) (hTO:IsPair s.heap TO a b) (h1:S s.heap) (h2:U s.heap)
  (item:∀x y g,r1=some x->r2=some y->IsZip g z TI TO (rawInt s.heap.objs.size)->IsPair g TO x y->S' g->U' g->IsPair g s.heap.objs.size x y->Off [z,TO,i,j] s.heap g->Q (.ref s.heap.objs.size) {s with heap:=g})
  (stop:∀g e o,(r1=none\/r2=none)->Off [z,TO,i,j] s.heap g->g.get? e=some o->o.cls= .type "StopIteration"->E (.ref e) {s with heap:=g}):
  wpAny (model P w) A (Builtin.«zip.__next__» ⟨[.ref z],[]⟩) (fun f s'=>∃v,f= .done (.ret v)/\Q v s') E s:=by
 have ap:=nd.nd
 simp only[lKm,lJv,lKh,lQk,not_or] at ap
 obtain⟨⟨zTI,zTO,zi,zj⟩,⟨TITO,TIi,TIj⟩,⟨TOi,TOj⟩,ij,_⟩:=ap
 refine (show wpAny _ _ (field (.ref z) 2 >>= _) _ _ _ from lJa (lKp hz rfl (x:= .bool false) rfl (show wpAny _ _ (field (.ref z) 3 >>= _) _ _ _ from lJa (lKp hz rfl (x:= .ref TI) rfl (lJa (lVh hTI rfl ?_))))))
 refine (show wpAny _ _ (Builtin.SmallTypes.ownedTupleIsFree (.ref z) >>= _) _ _ _ from lJa ?_)
 unfold Builtin.SmallTypes.ownedTupleIsFree;refine lJa (lKp hz rfl (x:= .none) rfl (lJd ?_))
 rw[lJc rfl]
 refine lJa (lVj (lJa (lKp hz rfl (x:= .ref TO) rfl (lJa (lVk hz (by simp) fun g1 hz1 b1=>lJa ?_)))))
 replace hz1:IsZip g1 z TI TO .ellipsis:=hz1
 have o1:Off [z,TO,i,j] s.heap g1:= .one b1 (by simp)
 simp only[List.forIn_cons,List.forIn_nil,List.zipIdx_cons,List.zipIdx_nil]
 refine lJa (lJa (wpAny_onRaise (show wpAny _ _ (Builtin.SmallTypes.nextOf (.ref i) >>= _) _ _ _ from lJa (D1 _ _ _ (s1 _ _ (.one b1 (by simp)) h1) (fun x g2 ex S2 b2=>lJd ?_) fun g2 e o en b2 he hc=> ?_))))
 ·have o2:Off [z,TO,i,j] s.heap g2:=o1.then (.one b2 (by simp))
  have hz2:IsZip g2 z TI TO .ellipsis:=b2.extBut _ _ zi hz1
  have hp2:IsPair g2 TO a b:=b2.extBut _ _ TOi (b1.extBut _ _ (Ne.symm zTO) hTO)
  refine lJa (lVh hp2 rfl (lJa (wpAny_updateSeq_pair hp2 fun g3 hp3 b3=>lJa (wpAny_letGo (lJd ?_)))))
  replace hp3:IsPair g3 TO x b:=hp3
  have o3:Off [z,TO,i,j] s.heap g3:=o2.then (.one b3 (by simp))
  have hz3:IsZip g3 z TI TO .ellipsis:=b3.extBut _ _ zTO hz2
  have U3:U g3:=s2 _ _ (((Off.one b1 (by simp)).then (.one b2 (by simp))).then (.one b3 (by simp))) h2
  refine lJa (lJa (wpAny_onRaise (show wpAny _ _ (Builtin.SmallTypes.nextOf (.ref j) >>= _) _ _ _ from lJa (D2 _ _ _ U3 (fun y g4 ey U4 b4=>lJd ?_) fun g4 e o en b4 he hc=> ?_))))
  ·have hp4:IsPair g4 TO x b:=b4.extBut _ _ TOj hp3
   refine lJa (lVh hp4 rfl (lJa (wpAny_updateSeq_pair hp4 fun g5 hp5 b5=>lJa (wpAny_letGo (lJd (lJd ?_))))))
   replace hp5:IsPair g5 TO x y:=hp5
   have o5:Off [z,TO,i,j] s.heap g5:=(o3.then (.one b4 (by simp))).then (.one b5 (by simp))
   have hz5:IsZip g5 z TI TO .ellipsis:=b5.extBut _ _ zTO (b4.extBut _ _ zj hz3)
   have S5:S' g5:=s1' _ _ (((Off.one b3 (by simp)).then (.one b4 (by simp))).then (.one b5 (by simp))) S2
   have U5:U' g5:=s2' _ _ (.one b5 (by simp)) U4
   have n5:g5.objs.size=s.heap.objs.size:=by rw[b5.1,b4.1,b3.1,b2.1,b1.1]
   refine lJa (lVh hp5 rfl (lJa (wpAny_newTuple ?_)))
   refine (show wpAny _ _ (Builtin.SmallTypes.ownedTupleHandOut (.ref z) (.ref g5.objs.size) >>= _) _ _ _ from lJa ?_)
   unfold Builtin.SmallTypes.ownedTupleHandOut;refine lJa (lVk (show IsZip (g5.push {cls:= .type "tuple",data:= .seq #[x,y]}) z TI TO .ellipsis from lJk _ hz5) (by simp) fun g6 hz6 b6=> ?_)
   refine lVk hz6 (by simp) fun g7 hz7 b7=>lJd ⟨_,rfl,?_⟩
   have o7:Off [z] g5 g7:=((Off.new _ _ _).then (.one b6 (by simp))).then (.one b7 (by simp))
   have zl:z<g5.objs.size:=lJi hz5
   have new:IsPair g7 g5.objs.size x y:=b7.extBut _ _ (lQx zl) (b6.extBut _ _ (lQx zl) (lJu _ rfl))
   replace hz7:IsZip g7 z TI TO (rawInt g5.objs.size):=hz7
   show Q (.ref g5.objs.size) _
   rw[n5] at hz7 new ⊢
   have w1:∀ {cs:List Addr},z∈cs->Off cs g5 g7:=fun m c n=>o7 c (by simp only[lJz];exact fun q=>n (q▸m))
   exact item x y g7 ex ey hz7 (o7.at (by simpa using Ne.symm zTO) hp5) (s1' _ _ (w1 (by simp)) S5) (s2' _ _ (w1 (by simp)) U5) new (o5.then (w1 (by simp)))
  ·have hz4:IsZip g4 z TI TO .ellipsis:=b4 _ _ zj hz3
   have ez:e≠z:=fun q=>by subst q;rw[hz4] at he;cases he;simp at hc
   exact lVk hz4 (by simp) fun g5 _ b5=>stop g5 e o (.inr en) ((o3.then (.ext b4 (by simp))).then (.one b5 (by simp))) (b5.extBut _ _ ez he) hc
 ·have hz2:IsZip g2 z TI TO .ellipsis:=b2 _ _ zi hz1
  have ez:e≠z:=fun q=>by subst q;rw[hz2] at he;cases he;simp at hc
  exact lVk hz2 (by simp) fun g3 _ b3=>stop g3 e o (.inl en) ((o1.then (.ext b2 (by simp))).then (.one b3 (by simp))) (b3.extBut _ _ ez he) hc
theorem kXc {P:Program} {w:World} {A:Around} {z TI TO i j:Addr} {r1 r2:Option Value} {S S' U U':Heap->Prop} {a b:Value} {s:Shared} {Q:Option Value->Shared->Prop} {E:Value->Shared->Prop}
  (D1:Draw P w A.in1 i r1 S S') (D2:Draw P w A.in1 j r2 U U') (nd:ZipAt z TI TO i j) (s1:kJm [z,TO,j] S) (s1':kJm [z,TO,j] S') (s2:kJm [z,TO,i] U) (s2':kJm [z,TO,i] U')
  (hz:IsZip s.heap z TI TO .none) (hTI:IsPair s.heap TI (.ref i) (.ref j)) (hTO:IsPair s.heap TO a b) (h1:S s.heap) (h2:U s.heap)
  (item:∀x y g,r1=some x->r2=some y->IsZip g z TI TO (rawInt s.heap.objs.size)->IsPair g TO x y->S' g->U' g->IsPair g s.heap.objs.size x y->Off [z,TO,i,j] s.heap g->Q (some (.ref s.heap.objs.size)) {s with heap:=g})
  (stop:∀g,(r1=none\/r2=none)->Off [z,TO,i,j] s.heap g->Q none {s with heap:=g}):wpAny (model P w) A (pyNext (.ref z)) Q E s:=by
 have ty:s.TypeIs (.ref z) "zip":=⟨_,hz,rfl⟩
 refine lJa (lQ4 (lQt (name:=Str.ofString "__next__") ty F.slot_zip_next (lKl F.slot_zip_next ty F.entry_zip_next ?_ (F.args_zip_next_1 _))))
 refine qQ3 D1 D2 nd s1 s1' s2 s2' hz hTI hTO h1 h2 (fun x y g q1 q2 q3 q4 q5 q6 q7 q8=>lJd (item x y g q1 q2 q3 q4 q5 q6 q7 q8)) fun g e o en f he hc=> ?_
 exact lJa (lVg (T:="StopIteration") (b:=true) ⟨o,he,hc⟩ isSubtype_stop (lJd (stop g en f)))
def itOf (t:Addr):Obj:={cls:= .type "tuple_iterator",data:= .fields #[.ref t,.int 0 0]}
def jX0 (xs:Array Value):Obj:={cls:= .type "tuple",data:= .seq xs}
noncomputable def zips (g:Heap) (t u:Addr):Heap:=
 let g2:=(g.push (itOf t)).push (itOf u)
 let g3:=g2.push (jX0 #[.ref g.objs.size,.ref (g.push (itOf t)).objs.size])
 let g4:=g3.push (jX0 #[.none,.none])
 g4.push {cls:= .type "zip",data:= .fields #[.none,.bool false,.bool false,.ref g2.objs.size,.ref g3.objs.size]}
theorem qYc (t u:Addr) (xs ys:Array Value):
  Meets (Builtin.«zip.__new__» ⟨[.type "zip",.ref t,.ref u],[]⟩) fun _ R s=>s.heap.IsTuple t xs/\s.heap.IsTuple u ys/\R (.ok (.ret (.ref (((((s.heap.push (itOf t)).push (itOf u)).push (jX0 #[.ref s.heap.objs.size,.ref (s.heap.push (itOf t)).objs.size])).push (jX0 #[.none,.none])).objs.size)))) {s with heap:=zips s.heap t u}:=by
 refine .of_wp fun P w A R s ⟨ht,hu,h⟩=> ?_
 obtain⟨g,a1,a2,a3,a4⟩:=s
 have sb:=sub_zip
 have m1:Heap.IsTuple (Shared.heap ⟨g,a1,a2,a3,a4⟩) t xs:=ht
 have m2:Heap.IsTuple (Shared.heap ⟨g.push {cls:= .type "tuple_iterator",data:= .fields #[.ref t,.int 0 0]},a1,a2,a3,a4⟩) u ys:=hu.push _
 wp_walk using wpAny_pyIter_tuple m1,wpAny_pyIter_tuple m2
 exact⟨_,rfl,h⟩
theorem qQ2 {P:Program} {w:World} {A:Around} {s:Shared} {t u:Addr} {xs ys:Array Value} {Q E:Value->Shared->Prop} (ht:s.heap.IsTuple t xs) (hu:s.heap.IsTuple u ys)
  (h:∀g n,n=s.heap.objs.size->IsZip g (n+4) (n+2) (n+3) .none->IsPair g (n+2) (.ref n) (.ref (n+1))->IsPair g (n+3) .none .none->OnTup n t 0 xs g->OnTup (n+1) u 0 ys g->
   (∀c o,s.heap.get? c=some o->g.get? c=some o)->Q (.ref (n+4)) {s with heap:=g}):wpAny (model P w) A (call (.type "zip") [.ref t,.ref u]) Q E s:=by
 refine callType_new F.called_zip (by decide) (F.typeCall_zip_2 _ _) (F.newCall_zip_2 _ _) (fun obj=>F.args_object_init_3 obj _ _) F.entry_zip_new (qYc t u xs ys) ⟨ht,hu,?_⟩
 have hn:∀(g:Heap) (o:Obj),(g.push o).objs.size=g.objs.size+1:=fun _ _=>lXo ..
 have up:∀ {g:Heap} {o q:Obj} {c:Addr},g.get? c=some q->(g.push o).get? c=some q:=fun e=>lJk _ e
 have at':∀(g:Heap) (o:Obj),o.isFreed=false->(g.push o).get? g.objs.size=some o:=fun g o h=>lJu _ h
 have kp:∀c o,s.heap.get? c=some o->(zips s.heap t u).get? c=some o:=fun c o e=>up (up (up (up (up e))))
 obtain⟨q,hq,hr⟩:=ht
 obtain⟨q',hq',hr'⟩:=hu
 have c0:(zips s.heap t u).get? s.heap.objs.size=some (itOf t):=up (up (up (up (at' _ _ rfl))))
 have c1:(zips s.heap t u).get? (s.heap.push (itOf t)).objs.size=some (itOf u):=up (up (up (at' _ _ rfl)))
 have c2:=up (g:=((s.heap.push (itOf t)).push (itOf u)).push (jX0 #[.ref s.heap.objs.size,.ref (s.heap.push (itOf t)).objs.size])) (o:=jX0 #[.none,.none]) (at' ((s.heap.push (itOf t)).push (itOf u)) (jX0 #[.ref s.heap.objs.size,.ref (s.heap.push (itOf t)).objs.size]) rfl)
 have c2':(zips s.heap t u).get? ((s.heap.push (itOf t)).push (itOf u)).objs.size=some (jX0 #[.ref s.heap.objs.size,.ref (s.heap.push (itOf t)).objs.size]):=up c2
 have c3:(zips s.heap t u).get? (((s.heap.push (itOf t)).push (itOf u)).push (jX0 #[.ref s.heap.objs.size,.ref (s.heap.push (itOf t)).objs.size])).objs.size=some (jX0 #[.none,.none]):=up (at' _ _ rfl)
 have c4:(zips s.heap t u).get? ((((s.heap.push (itOf t)).push (itOf u)).push (jX0 #[.ref s.heap.objs.size,.ref (s.heap.push (itOf t)).objs.size])).push (jX0 #[.none,.none])).objs.size=some {cls:= .type "zip",data:= .fields #[.none,.bool false,.bool false,.ref ((s.heap.push (itOf t)).push (itOf u)).objs.size,.ref (((s.heap.push (itOf t)).push (itOf u)).push (jX0 #[.ref s.heap.objs.size,.ref (s.heap.push (itOf t)).objs.size])).objs.size]}:=at' _ _ rfl
 show _/\_
 simp only[hn] at c1 c2' c3 c4 ⊢
 exact⟨⟨_,c4,rfl⟩,h _ _ rfl c4 c2' c3 ⟨⟨_,c0,rfl,rfl⟩,q,kp _ _ hq,hr⟩ ⟨⟨_,c1,rfl,rfl⟩,q',kp _ _ hq',hr'⟩ kp⟩
noncomputable def Itz (K:PySem.W.Frag) (a1 a2:Addr):It:=
 ⟨fun i H=>∃xs ys x y,SqT K H a1 xs/\SqT K H a2 ys/\xs[i]? =some x/\ys[i]? =some y,
  fun i H v H'=>∃p x y,H p=none/\v= .ref p/\(∀xs,SqT K H a1 xs->xs[i]? =some x)/\(∀ys,SqT K H a2 ys->ys[i]? =some y)/\H'=upd H p (.tup [x,y]),
  fun i H=>∃xs ys,SqT K H a1 xs/\SqT K H a2 ys/\(xs.length<=i\/ys.length<=i)⟩
theorem qXi {z TI TO i1 i2 a1 a2:Addr} (D:ZipApart z TI TO i1 i2 a1 a2):ZipAt z TI TO i1 i2:=
 ⟨by simp[D.TIz.symm,D.TOz.symm,D.i1z.symm,D.i2z.symm,D.TITO,D.TIi1,D.TIi2,D.TOi1,D.TOi2,D.i12]⟩
theorem kKn {z TI TO i1 i2 a1 a2:Addr} {k:Nat} {xs:Array Value} (D:ZipApart z TI TO i1 i2 a1 a2):kJm [z,TO,i2] (OnTup i1 a1 k xs):=
 OnTup.still (by simp[D.i1z,D.TOi1.symm,D.i12]) (by simp[D.l1z,D.l1TO,D.l1i2])
theorem kKm {z TI TO i1 i2 a1 a2:Addr} {k:Nat} {xs:Array Value} (D:ZipApart z TI TO i1 i2 a1 a2):kJm [z,TO,i1] (OnTup i2 a2 k xs):=
 OnTup.still (by simp[D.i2z,D.TOi2.symm,D.i12.symm]) (by simp[D.l2z,D.l2TO,D.l2i1])
theorem qQ6 {P:Program} {w:World} {K:PySem.W.Frag} {elts:List Expr} {k:Nat} {pos:Pos} (z TI TO i1 i2 a1 a2:Addr) (D:ZipApart z TI TO i1 i2 a1 a2):
  Turn P w K (.Tuple elts k pos) (Itz K a1 a2) [z,TI,TO,i1,i2] z (fun i h=>IsZip h z TI TO .none/\IsPair h TI (.ref i1) (.ref i2)/\(∃a b,IsPair h TO a b)/\h.IsTupleIter i1 a1 i/\h.IsTupleIter i2 a2 i) where
 mem:=by simp
 obj:=fun i h ⟨hz,hTI,⟨a,b,hTO⟩,h1,h2⟩ c hc=>by
  simp only[lJv,lKh,lQk] at hc
  rcases hc with rfl | rfl | rfl | rfl | rfl
  ·exact⟨_,hz,fun v z=>nomatch (show Data.fields _=Data.cell v from z)⟩
  ·exact⟨_,hTI,fun v z=>nomatch (show Data.seq _ _=Data.cell v from z)⟩
  ·exact⟨_,hTO,fun v z=>nomatch (show Data.seq _ _=Data.cell v from z)⟩
  ·obtain⟨o,e,c,d⟩:=h1;exact⟨o,e,fun v z=>by rw[d] at z;cases z⟩
  ·obtain⟨o,e,c,d⟩:=h2;exact⟨o,e,fun v z=>by rw[d] at z;cases z⟩
 keep:=fun i h h' ⟨hz,hTI,⟨a,b,hTO⟩,h1,h2⟩ kp=>⟨kp z (by simp) _ hz,kp TI (by simp) _ hTI,⟨a,b,kp TO (by simp) _ hTO⟩,h1.at fun o q=>kp i1 (by simp) o q,h2.at fun o q=>kp i2 (by simp) o q⟩
 item:=by
  rintro X hP hw hK hc i pins s σ H E I hf ⟨hz,hTI,⟨a,b,hTO⟩,h1,h2⟩ hg
  subst hP hw hK
  obtain⟨xs,ys,x,y,hq1,hq2,hx,hy⟩:=hg
  obtain⟨its1,rv1,p1,hz1⟩:=I.tuple hq1
  obtain⟨its2,rv2,p2,hz2⟩:=I.tuple hq2
  obtain⟨u1,hu1,ru1⟩:=rv1.get hx
  obtain⟨u2,hu2,ru2⟩:=rv2.get hy
  refine kXc (r1:=its1.toArray[i]?) (r2:=its2.toArray[i]?) (jYv (I.ok.hd hc) D.l1i1) (jYv (I.ok.hd hc) D.l2i2) (qXi D) (kKn D) (kKn D) (kKm D) (kKm D) hz hTI hTO ⟨h1,p1⟩ ⟨h2,p2⟩ (fun x' y' g1 ex ey ho gTO g3 g4 hT hk=> ?_) (fun g en _=> ?_)
  rotate_left
  ·rcases en with e | e
   ·rw[show its1.toArray[i]? =some u1 by simpa using hu1] at e;cases e
   ·rw[show its2.toArray[i]? =some u2 by simpa using hu2] at e;cases e
  obtain rfl:u1=x':=by simpa[hu1] using ex
  obtain rfl:u2=y':=by simpa[hu2] using ey
  refine⟨_,rfl,wpAny_letOwnedTupleGo_zip ho fun g2 gz hs2=> ?_⟩
  have hzl:z<s.heap.objs.size:=lJi hz
  have hp2:∀b o,b∉[z,TI,TO,i1,i2]->s.heap.get? b=some o->g2.get? b=some o:=fun b o hb q=>by
   simp only[lJv,lKh,lQk,not_or] at hb
   exact (hs2.2 b hb.1).trans (hk b (by simp only[lJv,lKh,lQk,not_or];exact⟨hb.1,hb.2.2.1,hb.2.2.2.1,hb.2.2.2.2⟩) o q)
  have hT2:g2.get? s.heap.objs.size=some {cls:= .type "tuple",data:= .seq #[u1,u2]}:=(hs2.2 _ (lQx hzl)).trans hT
  have I2:=kQm (t':=s.toks) (h':=g2) (p:=s.heap.objs.size) (vs:=[x,y]) (us:=[u1,u2]) I hp2 hf (lJh _) ⟨_,hT2,rfl,_,rfl,rfl⟩ (.cons ru1 (.cons ru2 .nil)) (by show 2<=sizeLine;decide)
  refine⟨.ref s.heap.objs.size,_,I2,rfl,⟨_,x,y,I.hok.fresh (lJh _),rfl,fun zs hz=>by rw[I.tuple_inj hz hq1];exact hx,fun zs hz=>by rw[I.tuple_inj hz hq2];exact hy,rfl⟩,
   ⟨gz,(hs2.2 _ D.TIz).trans (hk _ (by simp[D.TIz,D.TITO,D.TIi1,D.TIi2]) _ hTI),⟨_,_,(hs2.2 _ D.TOz).trans gTO⟩,g3.1.at fun o q=>(hs2.2 _ D.i1z).trans q,g4.1.at fun o q=>(hs2.2 _ D.i2z).trans q⟩,fun b hb=> ?_⟩
  have hbs:∃o,s.heap.get? b=some o:=by
   have hbq:=hb
   simp only[lJv,lKh,lQk] at hbq
   rcases hbq with rfl | rfl | rfl | rfl | rfl
   ·exact⟨_,hz⟩
   ·exact⟨_,hTI⟩
   ·exact⟨_,hTO⟩
   ·obtain⟨o,q,_⟩:=h1;exact⟨o,q⟩
   ·obtain⟨o,q,_⟩:=h2;exact⟨o,q⟩
  obtain⟨o,q⟩:=hbs
  rw[jKg (lJs (lJi q))]
  exact (hf b hb).1
 done:=by
  rintro X hP hw hK hc i pins s σ H E I hf ⟨hz,hTI,⟨a,b,hTO⟩,h1,h2⟩ hg
  subst hP hw hK
  obtain⟨xs,ys,hq1,hq2,hx⟩:=hg
  obtain⟨its1,rv1,p1,hz1⟩:=I.tuple hq1
  obtain⟨its2,rv2,p2,hz2⟩:=I.tuple hq2
  have hl1:=rv1.length
  have hl2:=rv2.length
  refine kXc (r1:=its1.toArray[i]?) (r2:=its2.toArray[i]?) (jYv (I.ok.hd hc) D.l1i1) (jYv (I.ok.hd hc) D.l2i2) (qXi D) (kKn D) (kKn D) (kKm D) (kKm D) hz hTI hTO ⟨h1,p1⟩ ⟨h2,p2⟩ (fun x' y' g1 ex ey _ _ _ _ _ _=> ?_) (fun g1 _ hk=>⟨rfl,kZu (t':=s.toks) (fp:=[z,TI,TO,i1,i2]) I (fun b o hb q=> ?_) hf⟩)
  ·have q1:i<its1.length:=by simpa using (lXe.mp ex).1
   have q2:i<its2.length:=by simpa using (lXe.mp ey).1
   omega
  ·exact hk b (fun m=>hb (by simp only[lJv,lKh,lQk] at m ⊢; rcases m with h | h | h | h<;>simp[h])) o q
 self:=fun _ _ _ _ _ ⟨hz,_⟩ h=>wpAny_pyIter_zip hz h
theorem zapart {n a b:Nat} (ha:a<n) (hb:b<n):ZipApart (n+4) (n+2) (n+3) n (n+1) a b:=by
 constructor<;>(show @Ne Nat _ _;omega)
def zipT (xs ys:List T):List T:=(xs.zip ys).map fun p=>T.tup [p.1,p.2]
def iZip (ta:TA3):TI3:=fun τ G R=>ta τ G fun vs G1=>∃xs ys,vs=[.tup xs,.tup ys]/\R (zipT xs ys) (fun _=>True) G1
theorem qZp {X:Cx} {elts:List Expr} {k:Nat} {tpos pos p:Pos} {a b:Expr} {ta:TA3} (hg:Gl X "zip") (hm:X.mg "zip"=none) (hv:bootBuiltins "zip"=some (.type "zip")) (ha:PA3 X [a,b] ta) (hs:starEach [a,b] X.env=[(false,eval a X.env),(false,eval b X.env)]:=by rfl) (hs2:starEach [b] X.env=[(false,eval b X.env)]:=by rfl):
  PI3 X (.Tuple elts k tpos) (.Call (.Name "zip" p) [a,b] [] pos) (iZip ta):=by
 intro pins s τ G H R I h
 obtain⟨σ0,I0,hs0,hg0⟩:=id I
 refine Call_ (jQ6 I0 hg hm hv (lQa (thn (ha pos pins s τ G H _ I h) fun us s1 w_=>w_.el fun xs' G1 H1 e1 i_ r_ q1=>i_.el fun σ I1 hs1 hg1=>r_.el fun as ras rvs=> ?_) (by rw[hs,hs2]) (by rw[hs2];rfl)))
 obtain⟨xs,ys,e,q⟩:=q1
 subst e
 obtain⟨v,w,rfl,rv,rw'⟩:=kQq ras
 obtain⟨u,u',rfl,ru,ru'⟩:=rvs.two
 obtain⟨pa,vs,rfl,hq1,r1⟩:=(show ∃p vs,v= .ref p/\H1 p=some (.tup vs)/\Reps X.K H1 xs vs from rv)
 obtain⟨pb,ws,rfl,hq2,r2⟩:=(show ∃p vs,w= .ref p/\H1 p=some (.tup vs)/\Reps X.K H1 ys vs from rw')
 cases ru;cases ru'
 obtain⟨its1,rv1,p1,hz1⟩:=I1.tuple (.of hq1)
 obtain⟨its2,rv2,p2,hz2⟩:=I1.tuple (.of hq2)
 have hal:pa<s1.heap.objs.size:=by obtain⟨o,ho,_⟩:=p1;exact lJi ho
 have hbl:pb<s1.heap.objs.size:=by obtain⟨o,ho,_⟩:=p2;exact lJi ho
 refine qQ2 (show s1.heap.IsTuple pa its1.toArray from p1) (show s1.heap.IsTuple pb its2.toArray from p2) fun h1 n hn hz hTI hTO hi1 hi2 hk=> ?_
 subst hn
 have I2:Inv X pins σ H1 {s1 with heap:=h1}:=I1.kept (t':=s1.toks) hk
 refine wpAny_pyIter_zip hz ?_
 have fr:∀c∈[s1.heap.objs.size+4,s1.heap.objs.size+2,s1.heap.objs.size+3,s1.heap.objs.size,s1.heap.objs.size+1],FpOk X pins H1 c:=fun c hc=>by
  simp only[lJv,lKh,lQk] at hc
  have hle:s1.heap.objs.size<=c:=by omega
  exact I1.fpOk hle (I1.hok.fresh hle)
 have D:ZipApart (s1.heap.objs.size+4) (s1.heap.objs.size+2) (s1.heap.objs.size+3) s1.heap.objs.size (s1.heap.objs.size+1) pa pb:=zapart hal hbl
 refine⟨s1.heap.objs.size+4,_,_,_,zipT xs ys,fun _=>True,G1,H1,rfl,e1,⟨σ,I2,hs1,hg1⟩,qQ6 _ _ _ _ _ pa pb D,⟨hz,hTI,⟨_,_,hTO⟩,hi1.1,hi2.1⟩,fr,?_,q⟩
 intro i H2 G2 e2 g2 _
 obtain⟨pa',vs',ea,ha',ra'⟩:=(show ∃p vs,V.ref pa= .ref p/\H2 p=some (.tup vs)/\Reps X.K H2 xs vs from Rep.mono e2 _ rv)
 obtain⟨pb',ws',eb,hbq,rb'⟩:=(show ∃p vs,V.ref pb= .ref p/\H2 p=some (.tup vs)/\Reps X.K H2 ys vs from Rep.mono e2 _ rw')
 cases ea;cases eb
 have hl1:=ra'.length
 have hl2:=rb'.length
 have hzl:(zipT xs ys).length=min xs.length ys.length:=by simp[zipT]
 refine⟨fun hi=> ?_,fun hi=>⟨vs',ws',.of ha',.of hbq,by omega⟩,fun hi y H' ⟨pp,x1,x2,hn,ey,hy1,hy2,eH⟩=> ?_⟩
 ·exact⟨vs',ws',vs'[i]'(by omega),ws'[i]'(by omega),.of ha',.of hbq,lJg _,lJg _⟩
 ·subst ey;subst eH
  obtain⟨t1,ht1,rt1⟩:=ra'.get' (hy1 vs' (.of ha'))
  obtain⟨t2,ht2,rt2⟩:=rb'.get' (hy2 ws' (.of hbq))
  have hzi:(zipT xs ys)[i]? =some (.tup [t1,t2]):=by
   unfold zipT
   rw[lJq,show (xs.zip ys)[i]? =some (t1,t2) from lVp.mpr ⟨ht1,ht2⟩];rfl
  exact⟨.upd (.none hn),g2.tupNew hn,_,hzi,Rep.tupNew ⟨_,_,rfl,rt1,_,_,rfl,rt2,rfl⟩ hn⟩
noncomputable def Itv (K:PySem.W.Frag) (a:Addr) (n:Nat):It:=
 ⟨fun i H=>i<n/\∃xs x,SqL K H a xs/\xs.length=n/\xs[n-1-i]? =some x,fun i H x H'=>H'=H/\∀xs,SqL K H a xs->xs[n-1-i]? =some x,fun i _=>n<=i⟩
theorem qQ7 {P:Program} {w:World} {K:PySem.W.Frag} {tg:Expr} (a it:Addr) (n:Nat):Turn P w K tg (Itv K a n) [it] it (fun i h=>i<=n/\h.IsRevIter it a ((n:Int)-1-(i:Nat))) where
 mem:=lX0 _
 obj:=fun i h ⟨_,o,e,c,d⟩ b hb=>by
  obtain rfl:=lJz.mp hb
  exact⟨o,e,fun v z=>by rw[d] at z;cases z⟩
 keep:=fun i h h' ⟨l,st⟩ k=>⟨l,st.at fun o e=>k it (lX0 _) o e⟩
 item:=by
  rintro X hP hw hK hc i pins s σ H E I hf ⟨hl,st⟩ ⟨hi,xs,x,hq,hn,hx⟩
  subst hP hw hK
  obtain⟨its,rv,p,hz⟩:=I.list hq
  obtain⟨u,hu,ru⟩:=rv.get hx
  obtain⟨f0,f1,_,f3,f4,f5⟩:=hf it (lX0 _)
  rw[show (n:Int)-1-(i:Nat)=((n-1-i:Nat):Int) by omega] at st
  refine wpAny_pyNext_rev_item st p.isList (x:=u) (by simpa using hu) fun h' st' sb=> ?_
  rw[show ((n-1-i:Nat):Int)-1=(n:Int)-1-((i+1:Nat):Int) by omega] at st'
  have I1:Inv X pins σ H {s with heap:=h'}:=I.turned (t':=s.toks) (fun b o hb e=>(sb.2 b hb).trans e) f0 f1 f3 f4 f5
  obtain⟨o,e,c,d⟩:=id st'
  exact⟨u,rfl,kZh (s:={s with heap:=h'}) e c d (by decide) ⟨x,H,I1,ru,⟨rfl,fun ys hy=>(I.list_inj hy hq).symm▸hx⟩,⟨hi,st'⟩,fun b hb=>(hf b hb).1⟩⟩
 done:=by
  rintro X hP hw hK hc i pins s σ H E I hf ⟨hl,st⟩ hg
  subst hP hw hK
  have hg':n<=i:=hg
  obtain⟨f0,f1,_,f3,f4,f5⟩:=hf it (lX0 _)
  rw[show (n:Int)-1-(i:Nat)= -1 by omega] at st
  exact wpAny_pyNext_rev_end (I.ok.hd hc) st fun h' eb=>⟨rfl,I.turned (t':=s.toks) (fun b o hb e=>eb b o hb e) f0 f1 f3 f4 f5⟩
 self:=fun _ _ _ _ _ ⟨_,st⟩ h=>wpAny_pyIter_revIter st h
def iRev (ta:TA3):TI3:=fun τ G R=>ta τ G fun vs G1=>∃x xs,vs=[x]/\jUf G1 x=some xs/\R xs.reverse (fun G'=>jUf G' x=some xs) G1
theorem kZg {X:Cx} {tg:Expr} {pos p:Pos} {a:Expr} {ta:TA3} (hg:Gl X "reversed") (hm:X.mg "reversed"=none) (hv:bootBuiltins "reversed"=some (.type "reversed")) (ha:PA3 X [a] ta) (hs:starEach [a] X.env=[(false,eval a X.env)]:=by rfl):
  PI3 X tg (.Call (.Name "reversed" p) [a] [] pos) (iRev ta):=by
 intro pins s τ G H R I h
 obtain⟨σ0,I0,_,_⟩:=id I
 refine Call_ (jQ6 I0 hg hm hv (lQa (thn (ha pos pins s τ G H _ I h) fun us s1 w_=>w_.el fun xs' G1 H1 e1 i_ r_ q1=>i_.el fun σ I1 hs1 hg1=>r_.el fun as ras rvs=> ?_) hs rfl))
 obtain⟨x,xs,e,hx,q⟩:=q1
 subst e
 obtain⟨v,rfl,rv⟩:=jU3 ras
 obtain⟨u,rfl,ru⟩:=rvs.one
 obtain⟨pa,vs,rfl,hq,r⟩:=jVt hg1 rv hx
 cases ru
 obtain⟨its,rvv,pl,hz⟩:=I1.list hq
 have hlen:its.length=xs.length:=by have:=rvv.length;have:=r.length;omega
 refine call_reversed_list pl.isList ?_
 have st:(s1.heap.push (revObj pa (((its.toArray).size:Int)-1))).IsRevIter s1.heap.objs.size pa ((xs.length:Int)-1-((0:Nat):Int)):=⟨_,lJu _ rfl,rfl,by
  show Data.fields #[.ref pa,rawInt (((its.toArray).size:Int)-1)]=_
  rw[show ((its.toArray).size:Int)-1=(xs.length:Int)-1-((0:Nat):Int) by simp[hlen]]⟩
 refine wpAny_pyIter_revIter st ?_
 have fr:∀b∈[s1.heap.objs.size],FpOk X pins H1 b:=fun b hb=>by
  obtain rfl:=lJz.mp hb
  exact I1.fpOk (lJh _) (I1.hok.fresh (lJh _))
 refine⟨s1.heap.objs.size,[s1.heap.objs.size],_,_,xs.reverse,fun G'=>jUf G' x=some xs,G1,H1,rfl,e1,⟨σ,I1.kept (t':=s1.toks) fun b o e=>lJk _ e,hs1,hg1⟩,qQ7 pa _ xs.length,⟨lJy _,st⟩,fr,?_,q⟩
 intro i H2 G2 e2 g2 sty
 obtain⟨pb,ws,eb,h1,h2⟩:=jVt g2 (Rep.mono e2 _ rv) sty
 cases eb
 have hl2:=h2.length
 rw[lX1]
 refine⟨fun hi=>⟨hi,ws,ws[xs.length-1-i]'(by omega),h1,by omega,lJg _⟩,fun hi=>hi,fun hi y H' ⟨eH,hy⟩=> ?_⟩
 subst eH
 obtain⟨t,ht,rt⟩:=h2.get' (hy ws h1)
 exact⟨.refl _,g2,t,by rw[List.getElem?_reverse hi];exact ht,rt⟩
end L3
namespace L3
open PySem
theorem atN {α:Type} {xs:List α} {n:Nat}:L2.atI xs (n:Int)=xs[n]? :=by
 unfold L2.atI L2.ixN
 by_cases h:n<xs.length
 ·simp[h]
 ·simp[h]
theorem at0 {α:Type} {x:α} {xs:List α}:L2.atI (x::xs) 0=some x:=(atN (n:=0)).trans rfl
theorem at1 {α:Type} {x y:α} {xs:List α}:L2.atI (x::y::xs) 1=some y:=(atN (n:=1)).trans rfl
theorem at2 {α:Type} {x y z:α} {xs:List α}:L2.atI (x::y::z::xs) 2=some z:=(atN (n:=2)).trans rfl
theorem atZ {α:Type} {xs:List α} {i:Int} (h:0<=i):L2.atI xs i=xs[i.toNat]? :=by
 obtain⟨n,rfl⟩:=lJ7 h
 simpa using atN
theorem qQu {α:Type} {xs:List α} {y:α}:L2.atI (xs++[y]) (-1)=some y:=by
 unfold L2.atI L2.ixN
 have:¬ (0:Int)<= -1:=by decide
 simp only[this,lJ3]
 rw[lJc (by simp;omega)]
 have e:(-1+((xs++[y]).length:Int)).toNat=xs.length:=by simp;omega
 rw[e];simp
theorem jZ6 {n k:Nat} (h:k<n):L2.ixN n (k:Int)=some k:=by simp[L2.ixN,h]
theorem ix0 {n:Nat}:L2.ixN (n+1) 0=some 0:=jZ6 (k:=0) (by omega)
theorem ix1 {n:Nat}:L2.ixN (n+2) 1=some 1:=jZ6 (k:=1) (by omega)
theorem ix2 {n:Nat}:L2.ixN (n+3) 2=some 2:=jZ6 (k:=2) (by omega)
theorem ix30:L2.ixN 3 0=some 0:=ix0
theorem ix31:L2.ixN 3 1=some 1:=ix1
theorem ix32:L2.ixN 3 2=some 2:=ix2
theorem ixZ {n:Nat} {k:Int} (h0:0<=k) (h:k<n):L2.ixN n k=some k.toNat:=by simp[L2.ixN,h0,h]
theorem qV8 {G:Gp} {i j:Int}:addR G (.int i) (.int j)=some (.val (.int (i+j))):=rfl
theorem jZb {G:Gp} {p q:Addr} {xs ys:List T} (h1:G p=some (.lst xs)) (h2:G q=some (.lst ys)) (hz:xs.length+ys.length<=sizeLine):addR G (.ref p) (.ref q)=some (.newL (xs++ys)):=by simp only[addR,h1,h2,hz,lKw]
theorem qVc {G:Gp} {i j:Int}:mulR G (.int i) (.int j)=some (.val (.int (i*j))):=rfl
theorem qVe {i j:Int}:mulC (.int i) (.int j)=L2.CMul i j:=rfl
theorem qVd {p:Addr} {j:Int}:mulC (.ref p) (.int j)=True:=rfl
theorem qZu {t:T} {G:Gp} {Q:VK3}:fin3 (.val t) G Q=Q t G:=rfl
theorem kJd {xs:List T} {G:Gp} {Q:VK3}:fin3 (.newL xs) G Q=∀p,G p=none->Q (.ref p) (gup G p (.lst xs)):=rfl
theorem qZk {G:Gp} {xs:List T} {i:Int}:ixR G (.tup xs) (.int i)=L2.atI xs i:=rfl
theorem qZl {G:Gp} {xs:List T} {i:Int}:ixR G (.scr xs) (.int i)=L2.atI xs i:=rfl
theorem jJ1 {G:Gp} {p:Addr} {xs:List T} {i:Int} (h:G p=some (.lst xs)):ixR G (.ref p) (.int i)=L2.atI xs i:=by simp only[ixR,seqT,h,asL]
theorem jUa {G:Gp} {p:Addr} {xs:List T} {k:Int} {j:Nat} {v:T} (h:G p=some (.lst xs)) (hj:L2.ixN xs.length k=some j):setR G (.ref p) (.int k) v=some (gup G p (.lst (xs.set j v))):=by simp only[setR,h,hj]
theorem qUf {G:Gp} {xs:List T}:seqT G (.tup xs)=some xs:=rfl
theorem jJn {G:Gp} {p:Addr} {xs:List T} (h:G p=some (.lst xs)):seqT G (.ref p)=some xs:=by simp only[seqT,h,asL]
theorem qXm {G:Gp} {p:Addr} {xs:List T} {k:Int} {v:T} (h:G p=some (.lst xs)):setR G (.ref p) (.int k) v=(L2.ixN xs.length k).map fun j=>gup G p (.lst (xs.set j v)):=by
 cases e:L2.ixN xs.length k with
 | none=>simp only[setR,h,e,Option.map_none]
 | some j=>simp only[setR,h,e,lQz]
theorem qUe {G:Gp} {p:Addr} {xs:List T} {k:Int} {v:T}:setR (gup G p (.lst xs)) (.ref p) (.int k) v=(L2.ixN xs.length k).map fun j=>gup G p (.lst (xs.set j v)):=by
 rw[qXm jJi];simp only[qKx]
theorem qZm {G:Gp} {p:Addr} {xs:List T} {i:Int}:ixR (gup G p (.lst xs)) (.ref p) (.int i)=L2.atI xs i:=jJ1 jJi
theorem qUg {G:Gp} {p:Addr} {xs:List T}:seqT (gup G p (.lst xs)) (.ref p)=some xs:=jJn jJi
def qXg (g:TG3) (tb:TS3) (D:Ends3) (τ:St3) (xs:List T) (stay:Gp->Prop) (G:Gp):Prop:=∃P:Nat->St3->Gp->Prop,P 0 τ G/\(∀i τ G,i<=xs.length->P i τ G->stay G)/\
 (∀i x τ G,xs[i]? =some x->P i τ G->g x τ G fun τ2 G2=>tb {D with nx:=P (i+1),ct:=P (i+1),bk:=D.nx} τ2 G2)/\∀ τ G,P xs.length τ G->D.nx τ G
theorem jJ0 {wi:TI3} {g:TG3} {tb:TS3} {D:Ends3} {τ:St3} {G:Gp}:tFor wi g tb D τ G=wi τ G fun xs stay G1=>qXg g tb D τ xs stay G1:=rfl
def kYl (mask:List Bool) (g:TG3) (tif:TT3) (te:TE3) (τ:St3) (xs:List T) (stay:Gp->Prop) (G:Gp) (Q:VK3):Prop:=kUz mask g tif te τ xs stay G Q
theorem qUa {mask:List Bool} {wi:TI3} {g:TG3} {tif:TT3} {te:TE3} {τ:St3} {G:Gp} {Q:VK3}:jKz mask wi g tif te τ G Q=wi τ G fun xs stay G1=>kYl mask g tif te τ xs stay G1 Q:=rfl
def Sub (G G':Gp):Prop:=∀c o,G c=some o->G' c=some o
theorem Sub.refl (G:Gp):Sub G G:=fun _ _ h=>h
theorem Sub.trans {G G1 G2:Gp} (h:Sub G G1) (h':Sub G1 G2):Sub G G2:=fun c o e=>h' c o (h c o e)
theorem Sub.new {p:Addr} {G:Gp} {o:GO} (hp:G p=none):Sub G (gup G p o):=fun c u e=>by rw[jJv];exact e;rintro rfl;rw[hp] at e;cases e
theorem Sub.over {p:Addr} {G G':Gp} {o:GO} (h:Sub G G') (hp:G p=none):Sub G (gup G' p o):=fun c u e=>by rw[jJv];exact h c u e;rintro rfl;rw[hp] at e;cases e
theorem Sub.none {G G':Gp} {p:Addr} (h:Sub G G') (hp:G' p=none):G p=none:=by
 cases e:G p with
 | none=>rfl
 | some o=>rw[h p o e] at hp;cases hp
theorem jKe {G:Gp} {a p:Addr} {o:GO} (h:gup G a o p=none):p≠a/\G p=none:=by
 by_cases e:p=a
 ·subst e;rw[jJi] at h;cases h
 ·rw[jJv e] at h;exact⟨e,h⟩
theorem jJf {G:Gp} {a p:Addr} {o:GO} (h:G a=some o) (hp:G p=none):a≠p:=by rintro rfl;rw[h] at hp;cases hp
theorem jKs {α β:Type} {enc:α->β} {es:List α} {i:Nat} {x:β} (h:(es.map enc)[i]? =some x):∃e,es[i]? =some e/\x=enc e:=by
 rw[lJq] at h
 cases e1:es[i]? with
 | none=>rw[e1] at h;cases h
 | some e=>rw[e1] at h;exact⟨e,rfl,(lJ4 h).symm⟩
theorem jUy {α:Type} {mask:List Bool} {g:TG3} {tif:TT3} {te:TE3} {τ:St3} {es:List α} {enc:α->T} {stay:Gp->Prop} {G:Gp} {Q:VK3} (f:α->Option T) (hz:es.length<=sizeLine) (hst:∀G',Sub G G'->stay G')
  (h:∀(i:Nat) e,es[i]? =some e->∀G' (K:T->Gp->Prop) (K0:Gp->Prop),Sub G G'->(∀y G4,f e=some y->Sub G' G4->K y G4)->(f e=none->∀G4,Sub G' G4->K0 G4)->g (enc e) (msk mask τ) G' fun τ2 G2=>tif τ2 G2 fun b G3=>if b=true then te τ2 G3 K else K0 G3)
  (hq:∀D G',G D=none->G' D=some (.lst (es.filterMap f))->Sub G G'->Q (.ref D) G'):kYl mask g tif te τ (es.map enc) stay G Q:=by
 intro D hD
 refine⟨fun i acc G'=>acc=(es.take i).filterMap f/\G' D=some (.lst acc)/\Sub G G',⟨by simp,jJi,.new hD⟩,?_,?_,?_⟩
 ·rintro i acc G' hi ⟨ea,eg,hs⟩
  exact⟨hst G' hs,eg⟩
 ·rintro i x acc G' hx0 ⟨ea,eg,hs⟩
  obtain⟨e,hx,rfl⟩:=jKs hx0
  have hi:i<es.length:=(lJf.mp hx).1
  have tk:es.take (i+1)=es.take i++[e]:=by rw[lK4,hx];rfl
  have hlen:acc.length<sizeLine:=by
   have h1:acc.length<=(es.take i).length:=by rw[ea];exact List.length_filterMap_le _ _
   rw[lQy] at h1;omega
  refine h i e hx G' _ _ hs (fun y G4 hy h4=>⟨h4 D _ eg,hlen,?_,jJi,(hs.trans h4).over hD⟩) fun hn G4 h4=>⟨?_,h4 D _ eg,hs.trans h4⟩
  ·rw[tk,lXf,<-ea];simp[hy]
  ·rw[tk,lXf,<-ea];simp[hn]
 ·rintro acc G' ⟨ea,eg,hs⟩
  rw[lJe,lK5] at ea
  rw[ea] at eg
  exact hq D G' hD eg hs
theorem jKt {α:Type} {mask:List Bool} {g:TG3} {tif:TT3} {te:TE3} {τ:St3} {es:List α} {enc:α->T} {stay:Gp->Prop} {G:Gp} {Q:VK3} (f:α->T) (hz:es.length<=sizeLine) (hst:∀G',Sub G G'->stay G')
  (h:∀(i:Nat) e,es[i]? =some e->∀G' (K:T->Gp->Prop) (K0:Gp->Prop),Sub G G'->(∀G4,Sub G' G4->K (f e) G4)->g (enc e) (msk mask τ) G' fun τ2 G2=>tif τ2 G2 fun b G3=>if b=true then te τ2 G3 K else K0 G3)
  (hq:∀D G',G D=none->G' D=some (.lst (es.map f))->Sub G G'->Q (.ref D) G'):kYl mask g tif te τ (es.map enc) stay G Q:=by
 refine jUy (fun e=>some (f e)) hz hst (fun i e he G' K K0 hs hk _=>h i e he G' K K0 hs fun G4 h4=>hk _ G4 rfl h4) fun D G' hD h1 h2=>hq D G' hD ?_ h2
 rw[h1];congr 2;induction es with
 | nil=>rfl
 | cons a as ih=>simp
theorem jKu {G:Gp} {p:Addr} {xs:List T} (h:G p=some (.lst xs)):tyT G "list" (.ref p)=True:=by simp[tyT,h]
theorem qYe {G:Gp} {p:Addr} {xs:List T}:tyT (gup G p (.lst xs)) "list" (.ref p)=True:=jKu jJi
theorem jYf {α:Type} {mask:List Bool} {g:TG3} {tif:TT3} {te:TE3} {τ:St3} {es:List α} {enc:α->T} {stay:Gp->Prop} {G:Gp} {Q:VK3} (f:α->List T) (hz:es.length<=sizeLine) (hst:∀G',Sub G G'->stay G')
  (h:∀(i:Nat) e,es[i]? =some e->∀G' (K:T->Gp->Prop) (K0:Gp->Prop),Sub G G'->(∀p G4,G' p=none->G4 p=some (.lst (f e))->Sub G' G4->K (.ref p) G4)->g (enc e) (msk mask τ) G' fun τ2 G2=>tif τ2 G2 fun b G3=>if b=true then te τ2 G3 K else K0 G3)
  (hq:∀D rs G',G D=none->G' D=some (.lst (rs.map T.ref))->Sub G G'->rs.length=es.length->(D::rs).Nodup->(∀(i:Nat) (r:Addr) (e:α),rs[i]? =some r->es[i]? =some e->G r=none/\G' r=some (.lst (f e)))->Q (.ref D) G'):kYl mask g tif te τ (es.map enc) stay G Q:=by
 intro D hD
 refine⟨fun i acc G'=>∃rs:List Addr,acc=rs.map T.ref/\rs.length=i/\G' D=some (.lst acc)/\Sub G G'/\(D::rs).Nodup/\(∀(i:Nat) (r:Addr) (e:α),rs[i]? =some r->es[i]? =some e->G r=none/\G' r=some (.lst (f e))),⟨[],rfl,rfl,jJi,.new hD,by simp,by simp⟩,?_,?_,?_⟩
 ·rintro i acc G' hi ⟨rs,ea,hl,eg,hs,hn,hr⟩
  exact⟨hst G' hs,eg⟩
 ·rintro i x acc G' hx0 ⟨rs,ea,hl,eg,hs,hn,hr⟩
  obtain⟨e,hx,rfl⟩:=jKs hx0
  have hi:i<es.length:=(lJf.mp hx).1
  have hlen:acc.length<sizeLine:=by rw[ea,lJe];omega
  refine h i e hx G' _ _ hs fun p G4 hp h4 s4=>⟨s4 D _ eg,hlen,rs++[p],by simp[ea],by simp[hl],jJi,(hs.trans s4).over hD,?_,?_⟩
  ·have hDp:D≠p:=jJf eg hp
   have hpr:p∉rs:=by
    intro hm
    obtain⟨j,hj⟩:∃j:Nat,_:=lJ8 hm
    have hjl:j<rs.length:=(lJf.mp hj).1
    have:=(hr j p es[j] hj (lJg (by omega))).2
    rw[hp] at this;cases this
   rw[lKm] at hn
   simp only[lKm,lKc,lJz,not_or,lVq,lKh,not_false_eq_true,lVo,and_true]
   exact⟨⟨hn.1,hDp⟩,hn.2,trivial,fun a ha b hb=>by subst hb;rintro rfl;exact hpr ha⟩
  ·intro j r e' hj he'
   have hjl:j<rs.length+1:=by have:=(lJf.mp hj).1;simpa using this
   by_cases hjr:j<rs.length
   ·rw[lQc hjr] at hj
    obtain⟨q1,q2⟩:=hr j r e' hj he'
    have:r≠D:=by rintro rfl;exact (lKm.mp hn).1 (lJl hj)
    exact⟨q1,by rw[jJv this];exact s4 _ _ q2⟩
   ·have hj2:j=rs.length:=by omega
    subst hj2
    rw[lV7 (lJh _)] at hj
    simp at hj
    subst hj
    rw[hl,hx] at he';cases he'
    exact⟨hs.none hp,by rw[jJv (jJf eg hp).symm];exact h4⟩
 ·rintro acc G' ⟨rs,ea,hl,eg,hs,hn,hr⟩
  rw[ea] at eg
  exact hq D rs G' hD eg hs (by simpa using hl) hn hr
end L3
namespace L3
open PySem PySem.Spec PyProof.Rows L2
section
variable {X:Cx}
end
section
variable {X:Cx}
theorem qQv {K:PySem.W.Frag} {H:Hp} {y:T} {b:V} (ry:Rep K H y b) (fy:jU6 y=true):∀ {xs:List T} {vs:List V} {us:List Value},Reps K H xs vs->Vals vs us->xs.all jU6=true->∀(m:Nat) (x:T) (u:Value),xs[m]? =some x->us[m]? =some u->eqU b u=eqT x y
 | [],_,_,_,_,_=>fun m x u h=>by simp at h
 | x::xs,_,_,⟨v,ws,e,r1,r2⟩,q,f=>by
  subst e
  cases q with
  | cons q1 q2=>
   rw[lQd,lJ6] at f
   intro m z u hz hu
   cases m with
   | zero=>cases hz;cases hu;rw[kYd q1 (jVu r1 f.1),kVv r1 ry f.1 fy]
   | succ m=>exact qQv ry fy r2 q2 f.2 m z u hz hu
noncomputable def qJn:T->List T->Gp->VK3->Prop:=fun x as G Q=>∃(p:Addr) (xs:List T) (y z:T) (j:Nat),x= .ref p/\as=[y]/\G p=some (.lst xs)/\jU6 y=true/\xs.all jU6=true/\xs[j]? =some z/\eqT z y=true/\(∀(m:Nat) (t:T),m<j->xs[m]? =some t->eqT t y=false)/\Q (.int j) G
theorem qY8:Mt3 X "list.index" qJn:=by
 rintro pins s τ G H x as v us Q ⟨σ,I,hs,hg⟩ ⟨a,ra,rv⟩ ⟨bs,rbs,rus⟩ ⟨p,xs,y,z,j,ex,ea,hp,fy,fs,hj,hit,hno,q⟩
 subst ex;subst ea
 cases (show a= .ref p from ra);cases rv
 obtain⟨b,rfl,rb⟩:=jU3 rbs
 obtain⟨u,rfl,ru⟩:=rus.one
 obtain⟨vs,h1,h2⟩:=hg.lst hp
 obtain⟨hz,its,n,r,hl,e⟩:=I.lstM h1
 have fl:=(jY2 rb fy h2 fs).1
 have hlen:its.length=xs.length:=by have:=r.length;have:=h2.length;omega
 have hjl:j<xs.length:=(lJf.mp hj).1
 have hsl:=jYk
 refine lV1 F.slot_list_index ⟨_,e,rfl⟩ F.entry_list_index (F.args_list_index_2 _ _) (SeqAt.list_indexAt p its.toArray n none #[] u (eqU b) j (by simp;omega) (by omega) ?_ ?_) ⟨e,fun w hw=>jUt ru (jVu rb fy) r fl w (by simpa using hw),?_⟩
 ·rw[qQv rb fy h2 r fs j z _ hj (by simp)];exact hit
 ·intro m hm hmj
  have hx:xs[m]? =some xs[m]:=lJg (by omega)
  rw[qQv rb fy h2 r fs m xs[m] _ hx (by simp)];exact hno m _ hmj hx
 ·exact⟨.int _,G,H,.refl H,⟨σ,I.tok _,hs,hg⟩,⟨.int _,rfl,s.toks,rfl⟩,q⟩
end
section
variable {X:Cx}
end
end L3
namespace L3
open PySem PySem.Spec PyProof.Rows L2 MeetsSeq
section
variable {X:Cx}
end
end L3
namespace L3
open PySem PySem.Spec PyProof.Rows L2
section
variable {X:Cx}
end
section
variable {X:Cx}
end
section
variable {P:Program} {w:World} {A:Around} {E:Value->Shared->Prop} {s:Shared} {d:Addr}
end
section
variable {X:Cx}
end
noncomputable def Itl (K:PySem.W.Frag) (a1 a2:Addr):It:=
 ⟨fun i H=>∃xs ys x y,SqL K H a1 xs/\SqL K H a2 ys/\xs[i]? =some x/\ys[i]? =some y,
  fun i H v H'=>∃p x y,H p=none/\v= .ref p/\(∀xs,SqL K H a1 xs->xs[i]? =some x)/\(∀ys,SqL K H a2 ys->ys[i]? =some y)/\H'=upd H p (.tup [x,y]),
  fun i H=>∃xs ys,SqL K H a1 xs/\SqL K H a2 ys/\(xs.length<=i\/ys.length<=i)⟩
section
variable {X:Cx}
theorem jU7:∀ {is:List Int} {us:List Value},Vals (is.map V.int) us->∃ps:List (Int×Tok),us=ps.map (fun p=> .int p.1 p.2)/\ps.map (·.1)=is
 | [],_,.nil=>⟨[],rfl,rfl⟩
 | i::is,_,.cons ⟨t,e⟩ r=>by
  obtain⟨ps,e1,e2⟩:=jU7 r
  subst e1;subst e2;subst e
  exact⟨(i,t)::ps,rfl,rfl⟩
end
section
variable {X:Cx}
end
section
variable {X:Cx}
end
section
variable {X:Cx} {pos:Pos}
end
theorem szle {n:Nat} (h:Nat.ble n 16777216=true):n<=sizeLine:=by rw[PySem.sizeLine_eq];exact Nat.le_of_ble_eq_true h
end L3
namespace L3
theorem xe1 {A0:Type} {σ:Type} {f:A0->σ} {p:A0->Prop} {τ:σ} {C:σ->Prop} (h:∃a0,τ=f a0/\p a0) (k:∀a0,p a0->C (f a0)):C τ:=by
 obtain⟨a0,e,h⟩:=h;rw[e];exact k _ h
theorem xi1 {A0:Type} {σ:Type} {f:A0->σ} {p:A0->Prop} {τ:σ} (a0:A0) (e:τ=f a0) (h:p a0):∃a0,τ=f a0/\p a0:=⟨a0,e,h⟩
theorem xe2 {A0 A1:Type} {σ:Type} {f:A0->A1->σ} {p:A0->A1->Prop} {τ:σ} {C:σ->Prop} (h:∃a0 a1,τ=f a0 a1/\p a0 a1) (k:∀a0 a1,p a0 a1->C (f a0 a1)):C τ:=by
 obtain⟨a0,a1,e,h⟩:=h;rw[e];exact k _ _ h
theorem xi2 {A0 A1:Type} {σ:Type} {f:A0->A1->σ} {p:A0->A1->Prop} {τ:σ} (a0:A0) (a1:A1) (e:τ=f a0 a1) (h:p a0 a1):∃a0 a1,τ=f a0 a1/\p a0 a1:=⟨a0,a1,e,h⟩
theorem xe3 {A0 A1 A2:Type} {σ:Type} {f:A0->A1->A2->σ} {p:A0->A1->A2->Prop} {τ:σ} {C:σ->Prop} (h:∃a0 a1 a2,τ=f a0 a1 a2/\p a0 a1 a2) (k:∀a0 a1 a2,p a0 a1 a2->C (f a0 a1 a2)):C τ:=by
 obtain⟨a0,a1,a2,e,h⟩:=h;rw[e];exact k _ _ _ h
theorem xe4 {A0 A1 A2 A3:Type} {σ:Type} {f:A0->A1->A2->A3->σ} {p:A0->A1->A2->A3->Prop} {τ:σ} {C:σ->Prop} (h:∃a0 a1 a2 a3,τ=f a0 a1 a2 a3/\p a0 a1 a2 a3) (k:∀a0 a1 a2 a3,p a0 a1 a2 a3->C (f a0 a1 a2 a3)):C τ:=by
 obtain⟨a0,a1,a2,a3,e,h⟩:=h;rw[e];exact k _ _ _ _ h
theorem xi4 {A0 A1 A2 A3:Type} {σ:Type} {f:A0->A1->A2->A3->σ} {p:A0->A1->A2->A3->Prop} {τ:σ} (a0:A0) (a1:A1) (a2:A2) (a3:A3) (e:τ=f a0 a1 a2 a3) (h:p a0 a1 a2 a3):∃a0 a1 a2 a3,τ=f a0 a1 a2 a3/\p a0 a1 a2 a3:=⟨a0,a1,a2,a3,e,h⟩
theorem xe5 {A0 A1 A2 A3 A4:Type} {σ:Type} {f:A0->A1->A2->A3->A4->σ} {p:A0->A1->A2->A3->A4->Prop} {τ:σ} {C:σ->Prop} (h:∃a0 a1 a2 a3 a4,τ=f a0 a1 a2 a3 a4/\p a0 a1 a2 a3 a4) (k:∀a0 a1 a2 a3 a4,p a0 a1 a2 a3 a4->C (f a0 a1 a2 a3 a4)):C τ:=by
 obtain⟨a0,a1,a2,a3,a4,e,h⟩:=h;rw[e];exact k _ _ _ _ _ h
theorem xe6 {A0 A1 A2 A3 A4 A5:Type} {σ:Type} {f:A0->A1->A2->A3->A4->A5->σ} {p:A0->A1->A2->A3->A4->A5->Prop} {τ:σ} {C:σ->Prop} (h:∃a0 a1 a2 a3 a4 a5,τ=f a0 a1 a2 a3 a4 a5/\p a0 a1 a2 a3 a4 a5) (k:∀a0 a1 a2 a3 a4 a5,p a0 a1 a2 a3 a4 a5->C (f a0 a1 a2 a3 a4 a5)):C τ:=by
 obtain⟨a0,a1,a2,a3,a4,a5,e,h⟩:=h;rw[e];exact k _ _ _ _ _ _ h
theorem xi6 {A0 A1 A2 A3 A4 A5:Type} {σ:Type} {f:A0->A1->A2->A3->A4->A5->σ} {p:A0->A1->A2->A3->A4->A5->Prop} {τ:σ} (a0:A0) (a1:A1) (a2:A2) (a3:A3) (a4:A4) (a5:A5) (e:τ=f a0 a1 a2 a3 a4 a5) (h:p a0 a1 a2 a3 a4 a5):∃a0 a1 a2 a3 a4 a5,τ=f a0 a1 a2 a3 a4 a5/\p a0 a1 a2 a3 a4 a5:=⟨a0,a1,a2,a3,a4,a5,e,h⟩
theorem xe7 {A0 A1 A2 A3 A4 A5 A6:Type} {σ:Type} {f:A0->A1->A2->A3->A4->A5->A6->σ} {p:A0->A1->A2->A3->A4->A5->A6->Prop} {τ:σ} {C:σ->Prop} (h:∃a0 a1 a2 a3 a4 a5 a6,τ=f a0 a1 a2 a3 a4 a5 a6/\p a0 a1 a2 a3 a4 a5 a6) (k:∀a0 a1 a2 a3 a4 a5 a6,p a0 a1 a2 a3 a4 a5 a6->C (f a0 a1 a2 a3 a4 a5 a6)):C τ:=by
 obtain⟨a0,a1,a2,a3,a4,a5,a6,e,h⟩:=h;rw[e];exact k _ _ _ _ _ _ _ h
theorem xi7 {A0 A1 A2 A3 A4 A5 A6:Type} {σ:Type} {f:A0->A1->A2->A3->A4->A5->A6->σ} {p:A0->A1->A2->A3->A4->A5->A6->Prop} {τ:σ} (a0:A0) (a1:A1) (a2:A2) (a3:A3) (a4:A4) (a5:A5) (a6:A6) (e:τ=f a0 a1 a2 a3 a4 a5 a6) (h:p a0 a1 a2 a3 a4 a5 a6):∃a0 a1 a2 a3 a4 a5 a6,τ=f a0 a1 a2 a3 a4 a5 a6/\p a0 a1 a2 a3 a4 a5 a6:=⟨a0,a1,a2,a3,a4,a5,a6,e,h⟩
theorem xe8 {A0 A1 A2 A3 A4 A5 A6 A7:Type} {σ:Type} {f:A0->A1->A2->A3->A4->A5->A6->A7->σ} {p:A0->A1->A2->A3->A4->A5->A6->A7->Prop} {τ:σ} {C:σ->Prop} (h:∃a0 a1 a2 a3 a4 a5 a6 a7,τ=f a0 a1 a2 a3 a4 a5 a6 a7/\p a0 a1 a2 a3 a4 a5 a6 a7) (k:∀a0 a1 a2 a3 a4 a5 a6 a7,p a0 a1 a2 a3 a4 a5 a6 a7->C (f a0 a1 a2 a3 a4 a5 a6 a7)):C τ:=by
 obtain⟨a0,a1,a2,a3,a4,a5,a6,a7,e,h⟩:=h;rw[e];exact k _ _ _ _ _ _ _ _ h
theorem xi8 {A0 A1 A2 A3 A4 A5 A6 A7:Type} {σ:Type} {f:A0->A1->A2->A3->A4->A5->A6->A7->σ} {p:A0->A1->A2->A3->A4->A5->A6->A7->Prop} {τ:σ} (a0:A0) (a1:A1) (a2:A2) (a3:A3) (a4:A4) (a5:A5) (a6:A6) (a7:A7) (e:τ=f a0 a1 a2 a3 a4 a5 a6 a7) (h:p a0 a1 a2 a3 a4 a5 a6 a7):∃a0 a1 a2 a3 a4 a5 a6 a7,τ=f a0 a1 a2 a3 a4 a5 a6 a7/\p a0 a1 a2 a3 a4 a5 a6 a7:=⟨a0,a1,a2,a3,a4,a5,a6,a7,e,h⟩
theorem xe12 {A0 A1 A2 A3 A4 A5 A6 A7 A8 A9 A10 A11:Type} {σ:Type} {f:A0->A1->A2->A3->A4->A5->A6->A7->A8->A9->A10->A11->σ} {p:A0->A1->A2->A3->A4->A5->A6->A7->A8->A9->A10->A11->Prop} {τ:σ} {C:σ->Prop} (h:∃a0 a1 a2 a3 a4 a5 a6 a7 a8 a9 a10 a11,τ=f a0 a1 a2 a3 a4 a5 a6 a7 a8 a9 a10 a11/\p a0 a1 a2 a3 a4 a5 a6 a7 a8 a9 a10 a11) (k:∀a0 a1 a2 a3 a4 a5 a6 a7 a8 a9 a10 a11,p a0 a1 a2 a3 a4 a5 a6 a7 a8 a9 a10 a11->C (f a0 a1 a2 a3 a4 a5 a6 a7 a8 a9 a10 a11)):C τ:=by
 obtain⟨a0,a1,a2,a3,a4,a5,a6,a7,a8,a9,a10,a11,e,h⟩:=h;rw[e];exact k _ _ _ _ _ _ _ _ _ _ _ _ h
theorem xi12 {A0 A1 A2 A3 A4 A5 A6 A7 A8 A9 A10 A11:Type} {σ:Type} {f:A0->A1->A2->A3->A4->A5->A6->A7->A8->A9->A10->A11->σ} {p:A0->A1->A2->A3->A4->A5->A6->A7->A8->A9->A10->A11->Prop} {τ:σ} (a0:A0) (a1:A1) (a2:A2) (a3:A3) (a4:A4) (a5:A5) (a6:A6) (a7:A7) (a8:A8) (a9:A9) (a10:A10) (a11:A11) (e:τ=f a0 a1 a2 a3 a4 a5 a6 a7 a8 a9 a10 a11) (h:p a0 a1 a2 a3 a4 a5 a6 a7 a8 a9 a10 a11):∃a0 a1 a2 a3 a4 a5 a6 a7 a8 a9 a10 a11,τ=f a0 a1 a2 a3 a4 a5 a6 a7 a8 a9 a10 a11/\p a0 a1 a2 a3 a4 a5 a6 a7 a8 a9 a10 a11:=⟨a0,a1,a2,a3,a4,a5,a6,a7,a8,a9,a10,a11,e,h⟩
theorem ae2 {a0 a1 C:Prop} (h:a0/\a1) (k:a0->a1->C):C:=k h.1 h.2
theorem ae3 {a0 a1 a2 C:Prop} (h:a0/\a1/\a2) (k:a0->a1->a2->C):C:=k h.1 h.2.1 h.2.2
theorem ae4 {a0 a1 a2 a3 C:Prop} (h:a0/\a1/\a2/\a3) (k:a0->a1->a2->a3->C):C:=k h.1 h.2.1 h.2.2.1 h.2.2.2
theorem ae5 {a0 a1 a2 a3 a4 C:Prop} (h:a0/\a1/\a2/\a3/\a4) (k:a0->a1->a2->a3->a4->C):C:=k h.1 h.2.1 h.2.2.1 h.2.2.2.1 h.2.2.2.2
theorem ae6 {a0 a1 a2 a3 a4 a5 C:Prop} (h:a0/\a1/\a2/\a3/\a4/\a5) (k:a0->a1->a2->a3->a4->a5->C):C:=k h.1 h.2.1 h.2.2.1 h.2.2.2.1 h.2.2.2.2.1 h.2.2.2.2.2
theorem ae7 {a0 a1 a2 a3 a4 a5 a6 C:Prop} (h:a0/\a1/\a2/\a3/\a4/\a5/\a6) (k:a0->a1->a2->a3->a4->a5->a6->C):C:=k h.1 h.2.1 h.2.2.1 h.2.2.2.1 h.2.2.2.2.1 h.2.2.2.2.2.1 h.2.2.2.2.2.2
theorem ae8 {a0 a1 a2 a3 a4 a5 a6 a7 C:Prop} (h:a0/\a1/\a2/\a3/\a4/\a5/\a6/\a7) (k:a0->a1->a2->a3->a4->a5->a6->a7->C):C:=k h.1 h.2.1 h.2.2.1 h.2.2.2.1 h.2.2.2.2.1 h.2.2.2.2.2.1 h.2.2.2.2.2.2.1 h.2.2.2.2.2.2.2
end L3
namespace L3
open PySem PySem.Spec PyProof.Rows L2
section
variable {X:Cx}
end
section
variable {X:Cx}
end
section
variable {X:Cx}
end
section
variable {X:Cx}
def qUw:R3:=fun x y G Q=>∃b c,x= .bl b/\y= .bl c/\Q (.bl (!(b == c))) G
theorem o_notB:Op3 X (compareOp .IsNot) qUw:=by
 rintro pins s τ G H x y v u Q I ⟨a,ra,rv⟩ ⟨b,rb,ru⟩ ⟨p,q,ex,ey,h⟩
 subst ex;subst ey
 cases (show a= .bl p from ra);cases (show b= .bl q from rb)
 cases rv;cases ru
 refine (show wpAny _ _ (isSame (.bool p) (.bool q) >>= fun r=>pure (Value.bool (!r))) _ _ s from lJa (wpAny_isSame_plain (by cases p<;>cases q<;>rfl) (lJd ?_)))
 exact⟨.bl (!(p == q)),G,H,.refl H,I,⟨.bl (!(p == q)),rfl,by cases p<;>cases q<;>rfl⟩,h⟩
end
end L3
namespace L3
open PySem
def itr {α:Type} (f:α->α):Nat->α->α
 | 0,a=>a
 | n+1,a=>itr f n (f a)
theorem jK2 {α:Type} (f:α->α):∀(m n:Nat) (a:α),itr f (m+n) a=itr f n (itr f m a)
 | 0,n,a=>by rw[Nat.zero_add];rfl
 | m+1,n,a=>by rw[Nat.add_right_comm];exact jK2 f m n (f a)
theorem jXv {α:Type} (f:α->α) (n:Nat) (a:α):itr f (n+1) a=f (itr f n a):=jK2 f n 1 a
namespace St
open SetTable
theorem getD_at {xs:Array Nat} {k d:Nat} (h:k<xs.size):xs.getD k d=xs[k]:=by simp[Array.getD,h]
theorem qZr (xs:Array Nat) (j:Nat) (hs:∀a b:Nat,a<b->∀(hb:b<xs.size),xs.getD a 0<xs[b]):∀(fuel lo hi:Nat),hi<=xs.size->lo<=hi->hi-lo<=fuel->(∀k,k<lo->xs.getD k 0<j)->(∀k (h:k<xs.size),hi<=k->j<=xs[k])->
  (below.go xs j fuel lo hi)<=xs.size/\(∀k,k<below.go xs j fuel lo hi->xs.getD k 0<j)/\(∀k (h:k<xs.size),below.go xs j fuel lo hi<=k->j<=xs[k])
 | 0,lo,hi,h1,h2,h3,h4,h5=>by
  have e:hi=lo:=by omega
  subst e
  exact⟨h1,h4,h5⟩
 | fuel+1,lo,hi,h1,h2,h3,h4,h5=>by
  unfold below.go
  by_cases c:lo<hi
  ·rw[lJc c]
   have hm:(lo+hi) / 2<xs.size:=by omega
   by_cases d:xs.getD ((lo+hi) / 2) j<j
   ·simp only[d,lKw]
    refine qZr xs j hs fuel _ hi h1 (by omega) (by omega) (fun k hk=> ?_) h5
    rw[getD_at hm] at d
    by_cases e:k=(lo+hi) / 2
    ·subst e;rw[getD_at hm];exact d
    ·exact Nat.lt_trans (hs k _ (by omega) hm) d
   ·simp only[d,lJ3]
    refine qZr xs j hs fuel lo _ (by omega) (by omega) (by omega) h4 fun k h hk=> ?_
    rw[getD_at hm] at d
    by_cases e:k=(lo+hi) / 2
    ·subst e;omega
    ·have:=hs ((lo+hi) / 2) k (by omega) h
     rw[getD_at hm] at this
     omega
  ·rw[lJb c]
   have e:hi=lo:=by omega
   subst e
   exact⟨h1,h4,h5⟩
def Ris (xs:Array Nat):Prop:=xs.toList.Pairwise (· < ·)
theorem Ris.lt {xs:Array Nat} (h:Ris xs) (a b:Nat) (hab:a<b) (hb:b<xs.size):xs.getD a 0<xs[b]:=by
 rw[getD_at (by omega)]
 have:=List.pairwise_iff_getElem.mp h a b (by simpa using (by omega:a<xs.size)) (by simpa using hb) hab
 simpa using this
theorem jY5 {xs:Array Nat} (h:Ris xs) (j:Nat):below xs j<=xs.size/\(∀k,k<below xs j->xs.getD k 0<j)/\(∀k (h:k<xs.size),below xs j<=k->j<=xs[k]):=
 qZr xs j h.lt xs.size 0 xs.size (lJh _) (lJy _) (lJh _) (fun k hk=>absurd hk (lKt _)) fun k h1 h2=>absurd h1 (by omega)
theorem kYj {xs:Array Nat} (h:Ris xs) {i:Nat} (hi:i<xs.size):below xs xs[i]=i:=by
 obtain⟨h1,h2,h3⟩:=jY5 h xs[i]
 rcases Nat.lt_trichotomy (below xs xs[i]) i with c | c | c
 ·have a:=h3 (below xs xs[i]) (by omega) (lJh _)
  have b:=h.lt _ i c hi
  rw[getD_at (by omega)] at b
  omega
 ·exact c
 ·have:=h2 i c
  rw[getD_at hi] at this
  omega
theorem below_next {xs:Array Nat} (h:Ris xs) {i:Nat} (hi:i<xs.size):below xs (xs[i]+1)=i+1:=by
 obtain⟨h1,h2,h3⟩:=jY5 h (xs[i]+1)
 rcases Nat.lt_trichotomy (below xs (xs[i]+1)) (i+1) with c | c | c
 ·have:=h3 i hi (by omega)
  omega
 ·exact c
 ·have a:=h2 (i+1) c
  have hi1:i+1<xs.size:=by omega
  rw[getD_at hi1] at a
  have b:=h.lt i (i+1) (by omega) hi1
  rw[getD_at hi] at b
  omega
theorem below_zero {xs:Array Nat} (h:Ris xs):below xs 0=0:=by
 obtain⟨h1,h2,h3⟩:=jY5 h 0
 rcases Nat.eq_zero_or_pos (below xs 0) with c | c
 ·exact c
 ·exact absurd (h2 0 c) (lKt _)
theorem insertAt_ris {xs:Array Nat} (h:Ris xs) {j:Nat} (hj:j∉xs.toList):Ris (insertAt xs (below xs j) j):=by
 obtain⟨h1,h2,h3⟩:=jY5 h j
 unfold Ris
 rw[SetTable.toList_insertAt,List.pairwise_append,List.pairwise_cons]
 have up:∀b,b∈xs.toList.drop (below xs j)->j<b:=by
  intro b hb
  obtain⟨k,hk,e⟩:=lVd hb
  rw[lXm] at hk
  rw[List.getElem_drop] at e
  have hk':below xs j+k<xs.size:=by simp at hk;omega
  have:=h3 _ hk' (by omega)
  have e':xs[below xs j+k]=b:=by simpa using e
  have ne:b≠j:=fun z=>hj (z▸List.mem_of_mem_drop hb)
  omega
 have dn:∀a,a∈xs.toList.take (below xs j)->a<j:=by
  intro a ha
  obtain⟨k,hk,e⟩:=lVd ha
  rw[lQy] at hk
  rw[List.getElem_take] at e
  have:=h2 k (by omega)
  rw[getD_at (by simp at hk;omega)] at this
  have e':xs[k]'(by simp at hk;omega)=a:=by simpa using e
  omega
 refine⟨List.Pairwise.sublist (List.take_sublist _ _) h,⟨up,List.Pairwise.sublist (List.drop_sublist _ _) h⟩,?_⟩
 intro a ha b hb
 (rcases lJv.mp hb with rfl | hb)
 ·exact dn a ha
 ·exact Nat.lt_trans (dn a ha) (up b hb)
theorem has_nil (j:Nat):has #[] j=false:=rfl
theorem slot_cases {t:SetTable} (hd:t.dummies= #[]) (j:Nat):(t.slot j= .empty/\(Ris t.place->j∉t.place.toList))\/∃i,t.slot j= .live i/\∃h:i<t.place.size,t.place[i]=j/\i=below t.place j:=by
 unfold SetTable.slot
 by_cases c:(t.place[below t.place j]? == some j)=true
 ·right
  refine⟨below t.place j,?_,?_⟩
  ·simp only[c,lKw]
  ·have c':=eq_of_beq c
   obtain⟨h,e⟩:=lXe.mp c'
   exact⟨h,e,rfl⟩
 ·left
  refine⟨?_,fun hr hm=> ?_⟩
  ·rw[hd]
   simp only[c,has_nil,lKg,lJ3]
  ·obtain⟨k,hk,e⟩:=lVd hm
   have hk':k<t.place.size:=by simpa using hk
   have e':t.place[k]=j:=by simpa using e
   apply c
   rw[<-e',kYj hr hk',lQe hk']
   exact beq_self_eq_true _
theorem slot_empty {t:SetTable} (hd:t.dummies= #[]) {j:Nat} (h:j∉t.place.toList):t.slot j= .empty:=by
 rcases slot_cases hd j with c | ⟨i,_,hi,e,_⟩
 ·exact c.1
 ·exact absurd (by rw[<-e];simp) h
theorem slot_live {t:SetTable} (hr:Ris t.place) {i:Nat} (hi:i<t.place.size):t.slot t.place[i]= .live i:=by
 unfold SetTable.slot
 rw[kYj hr hi]
 simp[hi]
theorem kZ8 (mask i:Nat):runEnd mask i-i<=9:=by unfold runEnd;split<;>omega
def kKh (t:SetTable) (p:Probe):Prop:=p.j=p.i/\p.more=runEnd t.mask p.i-p.i
theorem jZa (t:SetTable):∀(m:Nat) (p:Probe),m<=p.more->itr t.advance m p={p with j:=p.j+m,more:=p.more-m}
 | 0,p,_=>by cases p;rfl
 | m+1,p,h=>by
  show itr t.advance m (t.advance p)=_
  have e:t.advance p={p with j:=p.j+1,more:=p.more-1}:=by unfold SetTable.advance;rw[lJc (by omega)]
  rw[e,jZa t m _ (by show m<=p.more-1;omega)]
  simp only[Probe.mk.injEq,and_true,true_and]
  omega
theorem qV7 (t:SetTable) (p:Probe):∃m,m<=p.more+1/\kKh t (itr t.advance m p)/\(itr t.advance m p).i=(leap t.mask p.i p.perturb).1/\(itr t.advance m p).perturb=p.perturb / 32:=by
 refine⟨p.more+1,lJh _,?_⟩
 rw[jXv,jZa t p.more p (lJh _)]
 unfold SetTable.advance
 rw[lJb (by show ¬ p.more-p.more>0;omega)]
 exact⟨⟨rfl,rfl⟩,rfl,rfl⟩
def lp (mask:Nat) (x:Nat×Nat):Nat×Nat:=leap mask x.1 x.2
theorem kJl (t:SetTable):∀(k:Nat) (p:Probe),kKh t p->∃m,m<=10*k/\kKh t (itr t.advance m p)/\((itr t.advance m p).i,(itr t.advance m p).perturb)=itr (lp t.mask) k (p.i,p.perturb)
 | 0,p,h=>⟨0,lJh _,h,rfl⟩
 | k+1,p,h=>by
  obtain⟨m,h1,h2,h3,h4⟩:=qV7 t p
  obtain⟨m',h1',h2',h3'⟩:=kJl t k _ h2
  have hm:p.more<=9:=by rw[h.2];exact kZ8 _ _
  refine⟨m+m',by omega,?_,?_⟩
  ·rw[jK2];exact h2'
  ·rw[jK2,h3',h3,h4];rfl
theorem kVo (mask:Nat):∀(k:Nat) (x:Nat×Nat),(itr (lp mask) k x).2=x.2 / 32^k
 | 0,x=>by simp[itr]
 | k+1,x=>by
  show (itr (lp mask) k (lp mask x)).2=_
  rw[kVo mask k]
  show x.2 / 32 / 32^k=_
  rw[Nat.div_div_eq_div_mul,Nat.pow_succ,lXb]
def five (mask i:Nat):Nat:=(i*5+1)%(mask+1)
theorem kVp (mask:Nat):∀(k i:Nat),itr (lp mask) k (i,0)=(itr (five mask) k i,0)
 | 0,i=>rfl
 | k+1,i=>by
  show itr (lp mask) k (lp mask (i,0))=_
  have e:lp mask (i,0)=(five mask i,0):=by simp[lp,leap,five]
  rw[e];exact kVp mask k _
def orb (mask:Nat):Nat->Nat->List Nat
 | 0,_=>[]
 | n+1,i=>i::orb mask n (five mask i)
theorem qJ0 (mask:Nat):∀(n i k:Nat),k<n->(orb mask n i)[k]? =some (itr (five mask) k i)
 | n+1,i,0,_=>rfl
 | n+1,i,k+1,h=>by
  show (orb mask n (five mask i))[k]? =_
  exact qJ0 mask n _ k (by omega)
theorem kVf (mask:Nat):∀(n i:Nat),(orb mask n i).length=n
 | 0,_=>rfl
 | n+1,i=>by simp[orb,kVf mask n]
theorem qYx {mask n i j:Nat} (h:j∈orb mask n i):∃k,k<n/\itr (five mask) k i=j:=by
 obtain⟨k,hk,e⟩:=lVd h
 rw[kVf] at hk
 refine⟨k,hk,?_⟩
 have:=qJ0 mask n i k hk
 rw[lJg (by rw[kVf];exact hk),e] at this
 (exact (lJ4 this).symm)
def Full (mask:Nat):Prop:=(∀j,j<=mask->∃k,k<=mask/\itr (five mask) k 0=j)/\itr (five mask) (mask+1) 0=0
theorem kVu {mask:Nat} (h:(List.range (mask+1)).all (fun j=>(orb mask (mask+1) 0).contains j)=true) (h0:itr (five mask) (mask+1) 0=0):Full mask:=by
 refine⟨fun j hj=> ?_,h0⟩
 rw[lKk] at h
 have:=h j (lJ0.mpr (by omega))
 obtain⟨k,hk,e⟩:=qYx (lVr.mp this)
 exact⟨k,by omega,e⟩
theorem full7:Full 7:=kVu (by decide +kernel) (by decide +kernel)
theorem full31:Full 31:=kVu (by decide +kernel) (by decide +kernel)
theorem full127:Full 127:=kVu (by decide +kernel) (by decide +kernel)
theorem Full.all {mask:Nat} (h:Full mask) {i j:Nat} (hi:i<=mask) (hj:j<=mask):∃k,k<=mask/\itr (five mask) k i=j:=by
 obtain⟨a,ha,ea⟩:=h.1 i hi
 obtain⟨b,hb,eb⟩:=h.1 j hj
 by_cases c:a<=b
 ·refine⟨b-a,by omega,?_⟩
  rw[<-ea,<-jK2,show a+(b-a)=b by omega,eb]
 ·refine⟨mask+1-a+b,by omega,?_⟩
  rw[<-ea,<-jK2,show a+(mask+1-a+b)=mask+1+b by omega,jK2,h.2,eb]
theorem qQr (h:Int):bits h<2^64:=by
 unfold bits
 have h1:=lVs h (show (2^64:Int)≠0 by decide)
 have h2:=lVt h (show (0:Int)<2^64 by decide)
 omega
theorem kJ3 (t:SetTable) (h:Int):kKh t (t.probeStart h):=⟨rfl,rfl⟩
theorem met {t:SetTable} (hf:Full t.mask) (h:Int) {j:Nat} (hj:j<=t.mask):∃n,n<=10*(t.mask+14)/\(itr t.advance n (t.probeStart h)).j=j:=by
 obtain⟨m,h1,h2,h3⟩:=kJl t 13 _ (kJ3 t h)
 have hp:(itr t.advance m (t.probeStart h)).perturb=0:=by
  have e:=lJ9 Prod.snd h3
  rw[kVo] at e
  refine e.trans (lXp (lKb (qQr h) (by decide)))
 have hi:(itr t.advance m (t.probeStart h)).i<=t.mask:=by
  have e:=lJ9 Prod.fst h3
  rw[jXv] at e
  have:(lp t.mask (itr (lp t.mask) 12 ((t.probeStart h).i,(t.probeStart h).perturb))).1<=t.mask:=by
   unfold lp leap
   exact lVe (lQr _ (Nat.succ_pos _))
  rw[<-e] at this
  exact this
 obtain⟨k,hk,ek⟩:=hf.all hi hj
 obtain⟨m',h1',h2',h3'⟩:=kJl t k _ h2
 refine⟨m+m',by omega,?_⟩
 rw[jK2,h2'.1]
 rw[hp,kVp] at h3'
 exact (lJ9 Prod.fst h3').trans ek
theorem adv_dummy (t:SetTable) (p:Probe):(t.advance p).dummy=p.dummy:=by unfold SetTable.advance;split<;>rfl
def Miss (t:SetTable) (hashAt:Nat->Int) (h:Int) (j:Nat):Prop:=∃i,t.slot j= .live i/\hashAt i≠h
theorem pgo_ok {t:SetTable} (hd:t.dummies= #[]) (hashAt:Nat->Int) (h:Int):∀(n fuel:Nat) (p:Probe),t.slot (itr t.advance n p).j= .empty->n<fuel->p.dummy=none->
  (∃m,m<=n/\t.slot (itr t.advance m p).j= .empty/\(∀k,k<m->Miss t hashAt h (itr t.advance k p).j)/\probe.go t hashAt h fuel p=some (.empty (itr t.advance m p).j none))\/
  (∃m i,m<n/\t.slot (itr t.advance m p).j= .live i/\hashAt i=h/\(∀k,k<m->Miss t hashAt h (itr t.advance k p).j)/\probe.go t hashAt h fuel p=some (.candidate (itr t.advance m p).j i (itr t.advance (m+1) p)))
 | n,0,p,_,hn,_=>absurd hn (lKt _)
 | n,fuel+1,p,he,hn,hp=>by
  rcases slot_cases hd p.j with ⟨c,_⟩ | ⟨i,c,_⟩
  ·left
   refine⟨0,lJy _,c,fun k hk=>absurd hk (lKt _),?_⟩
   unfold probe.go
   rw[c,hp];rfl
  ·by_cases q:hashAt i=h
   ·right
    have n0:n≠0:=by rintro rfl;rw[show itr t.advance 0 p=p from rfl,c] at he;cases he
    refine⟨0,i,by omega,c,q,fun k hk=>absurd hk (lKt _),?_⟩
    unfold probe.go
    simp only[c,q,beq_self_eq_true,lKw]
    rfl
   ·have n0:n≠0:=by rintro rfl;rw[show itr t.advance 0 p=p from rfl,c] at he;cases he
    obtain⟨n',rfl⟩:∃n',n=n'+1:=⟨n-1,by omega⟩
    have e:probe.go t hashAt h (fuel+1) p=probe.go t hashAt h fuel (t.advance p):=by
     conv=>lhs;unfold probe.go
     have q':(hashAt i == h)=false:=by simpa using q
     simp only[c,q',lKg,lJ3]
    have ih:=pgo_ok hd hashAt h n' fuel (t.advance p) he (by omega) (by rw[adv_dummy];exact hp)
    rw[e]
    rcases ih with ⟨m,h1,h2,h3,h4⟩ | ⟨m,i',h1,h2,h3,h4,h5⟩
    ·left
     refine⟨m+1,by omega,h2,fun k hk=> ?_,h4⟩
     cases k with
     | zero=>exact⟨i,c,q⟩
     | succ k=>exact h3 k (by omega)
    ·right
     refine⟨m+1,i',by omega,h2,h3,fun k hk=> ?_,h5⟩
     cases k with
     | zero=>exact⟨i,c,q⟩
     | succ k=>exact h4 k (by omega)
end St
end L3
namespace L3
open PySem
namespace St
open SetTable
theorem fm_congr {α β:Type} {f g:α->Option β}:∀ {l:List α},(∀x,x∈l->f x=g x)->l.filterMap f=l.filterMap g
 | [],_=>rfl
 | a::l,h=>by rw[lQm,lQm,h a (lJ1 ..),fm_congr fun x hx=>h x (lJ2 _ hx)]
theorem jXw {g f:Nat->Option Nat} {j k:Nat} (hf:f j=none) (hg:g j=some k) (he:∀i,i≠j->g i=f i):∀ {l:List Nat},l.Nodup->j∈l->(l.filterMap g).Perm (k::l.filterMap f)
 | [],_,h=>absurd h (lKh)
 | a::l,hn,h=>by
  rw[lKm] at hn
  by_cases e:a=j
  ·subst e
   rw[lXg hg,lYi hf]
   refine List.Perm.cons _ (List.Perm.of_eq (fm_congr fun x hx=>he x ?_))
   rintro rfl;exact hn.1 hx
  ·have ih:=jXw hf hg he hn.2 ((lJv.mp h).resolve_left (fun z=>e z.symm))
   cases q:f a with
   | none=>rw[lYi (by rw[he a e];exact q),lYi q];exact ih
   | some b=>
    rw[lXg (by rw[he a e];exact q),lXg q]
    exact (List.Perm.cons b ih).trans (List.Perm.swap _ _ _)
def jK8 (owner:Array (Option Nat)) (j:Nat):Option Nat:=owner.getD j none
def ChainO (t:SetTable) (owner:Array (Option Nat)) (h:Int) (j:Nat):Prop:=∃n,(itr t.advance n (t.probeStart h)).j=j/\∀k,k<n->jK8 owner (itr t.advance k (t.probeStart h)).j≠none
structure Own (t:SetTable) (hashes:List Int) (owner:Array (Option Nat)) (n:Nat):Prop where
 size:owner.size=t.mask+1
 perm:((List.range (t.mask+1)).filterMap (jK8 owner)).Perm (List.range n)
 chain:∀j i,jK8 owner j=some i->∃h,hashes[i]? =some h/\ChainO t owner h j
theorem qZa {mask:Nat} {x:Nat×Nat} (hx:x.1<=mask):∀(k:Nat),(itr (lp mask) k x).1<=mask
 | 0=>hx
 | k+1=>by
  rw[jXv]
  unfold lp leap
  exact lVe (lQr _ (Nat.succ_pos _))
theorem kU2 {mask i:Nat} (h:i<=mask):runEnd mask i<=mask:=by unfold runEnd;split<;>omega
theorem kZ9 (mask i:Nat):i<=runEnd mask i:=by unfold runEnd;split<;>omega
theorem qK1 {t:SetTable} {owner:Array (Option Nat)} (hz:owner.size=t.mask+1):∀(fuel:Nat) (p:Probe),kKh t p->p.i<=t.mask->∀K,K<fuel->jK8 owner (itr (lp t.mask) K (p.i,p.perturb)).1=none->
  ∃n j,layClean.free t.mask owner fuel p.i p.perturb=some j/\(itr t.advance n p).j=j/\j<=t.mask/\jK8 owner j=none/\∀k,k<n->jK8 owner (itr t.advance k p).j≠none
 | 0,p,_,_,K,hK,_=>absurd hK (lKt _)
 | fuel+1,p,hl,hi,K,hK,he=>by
  have hr:=kU2 hi
  have hg:=kZ9 t.mask p.i
  have sl:∀k,k<runEnd t.mask p.i+1-p.i->((owner.getD (p.i+k) (some 0)).isNone=true↔jK8 owner (p.i+k)=none):=by
   intro k hk
   unfold jK8
   have:p.i+k<owner.size:=by omega
   simp[Array.getD,this]
  have pj:∀k,k<runEnd t.mask p.i+1-p.i->(itr t.advance k p).j=p.i+k:=by
   intro k hk
   rw[jZa t k p (by rw[hl.2];omega)]
   show p.j+k=_
   rw[hl.1]
  unfold layClean.free
  cases q:(List.range (runEnd t.mask p.i+1-p.i)).find? (fun k=>(owner.getD (p.i+k) (some 0)).isNone) with
  | some k=>
   obtain⟨h1,as,bs,h2,h3⟩:=List.find?_eq_some_iff_append.mp q
   have hk:k<runEnd t.mask p.i+1-p.i:=by
    have:k∈List.range (runEnd t.mask p.i+1-p.i):=by rw[h2];simp
    exact lJ0.mp this
   have ha:∀x,x<k->x∈as:=by
    intro x hx
    have e:as.length=k:=by
     have e1:(List.range (runEnd t.mask p.i+1-p.i))[as.length]? =some k:=by rw[h2];simp
     rw[lVu (by have:=lJ9 List.length h2;simp at this;omega)] at e1
     exact lJ4 e1
    have e2:(List.range (runEnd t.mask p.i+1-p.i))[x]? =as[x]? :=by rw[h2,lQc (by omega)]
    rw[lVu (by omega)] at e2
    exact lJl e2.symm
   refine⟨k,p.i+k,rfl,pj k hk,by omega,(sl k hk).mp h1,fun x hx=> ?_⟩
   rw[pj x (by omega)]
   intro z
   have:=h3 x (ha x hx)
   rw[(sl x (by omega)).mpr z] at this
   exact absurd this (by decide)
  | none=>
   have none_:∀k,k<runEnd t.mask p.i+1-p.i->jK8 owner (p.i+k)≠none:=by
    intro k hk z
    have:=List.find?_eq_none.mp q k (lJ0.mpr hk)
    exact this ((sl k hk).mpr z)
   have K0:K≠0:=by
    rintro rfl
    exact none_ 0 (by omega) he
   obtain⟨K',rfl⟩:∃K',K=K'+1:=⟨K-1,by omega⟩
   have hm:p.more=runEnd t.mask p.i-p.i:=hl.2
   have e1:itr t.advance (p.more+1) p={p with j:=(leap t.mask p.i p.perturb).1,more:=runEnd t.mask (leap t.mask p.i p.perturb).1-(leap t.mask p.i p.perturb).1,i:=(leap t.mask p.i p.perturb).1,perturb:=(leap t.mask p.i p.perturb).2}:=by
    rw[jXv,jZa t p.more p (lJh _)]
    unfold SetTable.advance
    rw[lJb (by show ¬ p.more-p.more>0;omega)]
   have hl2:kKh t (itr t.advance (p.more+1) p):=by rw[e1];exact⟨rfl,rfl⟩
   have hi2:(itr t.advance (p.more+1) p).i<=t.mask:=by
    rw[e1];exact lVe (lQr _ (Nat.succ_pos _))
   obtain⟨n,j,g1,g2,g3,g4,g5⟩:=qK1 hz fuel _ hl2 hi2 K' (by omega) (by rw[e1];exact he)
   refine⟨p.more+1+n,j,?_,?_,g3,g4,fun k hk=> ?_⟩
   ·rw[e1] at g1;exact g1
   ·rw[jK2];exact g2
   ·by_cases c:k<p.more+1
    ·rw[pj k (by omega)];exact none_ k (by omega)
    ·have:=g5 (k-(p.more+1)) (by omega)
     rw[<-jK2,show p.more+1+(k-(p.more+1))=k by omega] at this
     exact this
theorem jXk {owner:Array (Option Nat)} {j k:Nat} (hj:j<owner.size) (i:Nat):jK8 (owner.setIfInBounds j (some k)) i=if i=j then some k else jK8 owner i:=by
 unfold jK8
 rw[lX2,lX2,Array.getElem?_setIfInBounds]
 by_cases e:j=i
 ·subst e;simp[hj]
 ·rw[lJb e,lJb (fun z=>e z.symm)]
theorem qK0 {t:SetTable} (hf:Full t.mask) {owner:Array (Option Nat)} {hashes:List Int} {n:Nat} (o:Own t hashes owner n) (hn:n<=t.mask) (h:Int):∃K,K<turns t.mask/\jK8 owner (itr (lp t.mask) K ((t.probeStart h).i,(t.probeStart h).perturb)).1=none:=by
 have hex:∃j,j<=t.mask/\jK8 owner j=none:=by
  apply lQw
  intro q
  have all:∀j,j∈List.range (t.mask+1)->(jK8 owner j).isSome=true:=by
   intro j hj
   cases e:jK8 owner j with
   | none=>exact absurd ⟨j,by have:=lJ0.mp hj;omega,e⟩ q
   | some _=>rfl
  have len:∀l:List Nat,(∀j,j∈l->(jK8 owner j).isSome=true)->(l.filterMap (jK8 owner)).length=l.length:=by
   intro l hl
   induction l with
   | nil=>rfl
   | cons a l ih=>
    obtain⟨b,hb⟩:=lYh.mp (hl a (lJ1 ..))
    rw[lXg hb,lJ5,lJ5,ih fun j hj=>hl j (lJ2 _ hj)]
  have:=o.perm.length_eq
  rw[len _ all,lKn,lKn] at this
  omega
 obtain⟨j,hj,e⟩:=hex
 have hs:(t.probeStart h).i<=t.mask:=lVe (lQr _ (Nat.succ_pos _))
 have h13:=kVo t.mask 13 ((t.probeStart h).i,(t.probeStart h).perturb)
 have z:(t.probeStart h).perturb / 32^13=0:=lXp (lKb (qQr h) (by decide))
 obtain⟨k,hk,ek⟩:=hf.all (qZa (x:=((t.probeStart h).i,(t.probeStart h).perturb)) hs 13) hj
 refine⟨13+k,by unfold turns;omega,?_⟩
 rw[jK2]
 generalize hy:itr (lp t.mask) 13 ((t.probeStart h).i,(t.probeStart h).perturb)=y at h13 ek
 obtain⟨y1,y2⟩:=y
 have y0:y2=0:=h13.trans z
 subst y0
 rw[kVp,ek]
 exact e
theorem qU4 {t:SetTable} (hf:Full t.mask) {owner:Array (Option Nat)} {hashes:List Int} {n:Nat} {h:Int} (o:Own t hashes owner n) (hn:n<t.mask+1) (hh:hashes[n]? =some h) (hn':n<=t.mask):
  ∃j,layClean.free t.mask owner (turns t.mask) (bits h%(t.mask+1)) (bits h)=some j/\Own t hashes (owner.setIfInBounds j (some n)) (n+1):=by
 obtain⟨K,hK,eK⟩:=qK0 hf o hn' h
 have hs:(t.probeStart h).i<=t.mask:=lVe (lQr _ (Nat.succ_pos _))
 obtain⟨m,j,g1,g2,g3,g4,g5⟩:=qK1 o.size (turns t.mask) (t.probeStart h) (kJ3 t h) hs K hK eK
 have hj:j<owner.size:=by rw[o.size];omega
 have grow:∀i,jK8 owner i≠none->jK8 (owner.setIfInBounds j (some n)) i≠none:=by
  intro i hi
  rw[jXk hj]
  split
  ·simp
  ·exact hi
 refine⟨j,g1,by rw[Array.size_setIfInBounds];exact o.size,?_,?_⟩
 ·refine (jXw (f:=jK8 owner) (j:=j) (k:=n) g4 (by rw[jXk hj,lJc rfl]) (fun i hi=>by rw[jXk hj,lJb hi]) (lXq) (lJ0.mpr (by omega))).trans ?_
  rw[lQf (n:=n)]
  exact (List.Perm.cons n o.perm).trans (List.perm_append_singleton n _).symm
 ·intro i x hx
  rw[jXk hj] at hx
  by_cases e:i=j
  ·subst e
   rw[lJc rfl] at hx;cases hx
   exact⟨h,hh,m,g2,fun k hk=>grow _ (g5 k hk)⟩
  ·rw[lJb e] at hx
   obtain⟨h',e1,n',e2,e3⟩:=o.chain i x hx
   exact⟨h',e1,n',e2,fun k hk=>grow _ (e3 k hk)⟩
theorem qJz (t:SetTable) (hashes:List Int):Own t hashes (Array.replicate (t.mask+1) none) 0:=by
 have z:∀j,jK8 (Array.replicate (t.mask+1) none) j=none:=by
  intro j
  unfold jK8
  rw[lX2,Array.getElem?_replicate]
  split<;>rfl
 refine⟨by simp,?_,fun j i h=>by rw[z] at h;cases h⟩
 have:(List.range (t.mask+1)).filterMap (jK8 (Array.replicate (t.mask+1) none))=[]:=by
  rw[List.filterMap_eq_nil_iff];intro j _;exact z j
 rw[this];exact List.Perm.nil
theorem qK2 {t:SetTable} (hf:Full t.mask) (all:List Int) (hn:all.length<=t.mask):∀(l:List Int) (done:List Int) (owner:Array (Option Nat)),all=done++l->Own t all owner done.length->
  ∃owner',l.foldl (fun (acc:Option (Array (Option Nat)×Nat)) h=>do
   let (owner,k) <-acc
   let j <-layClean.free t.mask owner (turns t.mask) (bits h%(t.mask+1)) (bits h)
   pure (owner.setIfInBounds j (some k),k+1)) (some (owner,done.length))=some (owner',all.length)/\Own t all owner' all.length
 | [],done,owner,e,o=>by
  rw[lV4] at e;subst e
  exact⟨owner,rfl,o⟩
 | h::l,done,owner,e,o=>by
  have hlt:done.length<all.length:=by rw[e];simp
  obtain⟨j,h1,o'⟩:=qU4 (h:=h) hf o (by omega) (by rw[e];simp) (by omega)
  have e':all=(done++[h])++l:=by rw[e];simp
  obtain⟨owner',h2,h3⟩:=qK2 hf all hn l (done++[h]) _ e' (by simpa using o')
  refine⟨owner',?_,h3⟩
  rw[lXa]
  have:(do
   let (owner,k) <-some (owner,done.length)
   let j <-layClean.free t.mask owner (turns t.mask) (bits h%(t.mask+1)) (bits h)
   pure (owner.setIfInBounds j (some k),k+1))=some (owner.setIfInBounds j (some done.length),done.length+1):=by
   show (layClean.free t.mask owner (turns t.mask) (bits h%(t.mask+1)) (bits h)).bind _=_
   rw[h1];rfl
  rw[this]
  simpa using h2
theorem kVr {t:SetTable} (hf:Full t.mask) (hashes:Array Int) (hn:hashes.size<=t.mask):∃owner,layClean t.mask hashes=some owner/\Own t hashes.toList owner hashes.size:=by
 obtain⟨owner,h1,h2⟩:=qK2 hf hashes.toList (by simpa using hn) hashes.toList [] _ rfl (qJz t _)
 refine⟨owner,?_,by simpa using h2⟩
 unfold layClean
 rw[<-Array.foldl_toList]
 have h1':=h1
 simp only[lK9] at h1'
 rw[h1'];rfl
def Chain (t:SetTable) (h:Int) (j:Nat):Prop:=∃n,(itr t.advance n (t.probeStart h)).j=j/\∀k,k<n->(itr t.advance k (t.probeStart h)).j∈t.place.toList
structure Good (t:SetTable) (hs:List Int):Prop where
 len:t.place.size=hs.length
 ris:Ris t.place
 dum:t.dummies= #[]
 chain:∀x,x∈t.place.toList.zip hs->Chain t x.2 x.1
theorem laid_ok {mask:Nat} (hf:Full mask) (finger moves:Nat) (led plain:Bool) (hashes:Array Int) (hn:hashes.size<=mask):
  ∃t order,laid mask finger moves led plain hashes=some (t,order)/\t.mask=mask/\t.led=led/\t.plain=plain/\order.toList.Perm (List.range hashes.size)/\Good t (order.toList.filterMap (hashes[·]?)):=by
 let t0:SetTable:={mask:=mask,place:= #[],dummies:= #[],finger:=finger,led:=led,moves:=moves,plain:=plain}
 obtain⟨owner,h1,o⟩:=kVr (t:=t0) hf hashes hn
 have hl:layClean mask hashes=some owner:=h1
 let live:=(List.range (mask+1)).filterMap fun j=>((owner.getD j none).map (j,·))
 refine⟨{mask:=mask,place:=(live.map (·.1)).toArray,dummies:= #[],finger:=finger,led:=led,moves:=moves,plain:=plain},(live.map (·.2)).toArray,?_,rfl,rfl,rfl,?_,?_⟩
 ·unfold laid
  rw[hl];rfl
 ·have e:live.map (·.2)=(List.range (mask+1)).filterMap (jK8 owner):=by
   show ((List.range (mask+1)).filterMap fun j=>(owner.getD j none).map (j,·)).map (·.2)=_
   rw[List.map_filterMap]
   refine fm_congr fun j _=> ?_
   unfold jK8
   cases owner.getD j none<;>rfl
  show (live.map (·.2)).Perm _
  rw[e];exact o.perm
 ·have live_mem:∀j k,(j,k)∈live->jK8 owner j=some k/\j<=mask:=by
   intro j k hm
   obtain⟨j',hj',e⟩:=lVn.mp hm
   obtain⟨k',e1,e2⟩:=lK2.mp e
   cases e2
   exact⟨e1,by have:=lJ0.mp hj';omega⟩
  have mem_place:∀j,j∈live.map (·.1)↔jK8 owner j≠none/\j<=mask:=by
   intro j
   constructor
   ·intro hm
    obtain⟨⟨j',k⟩,h2,rfl⟩:=lJj.mp hm
    obtain⟨h3,h4⟩:=live_mem _ _ h2
    exact⟨by rw[h3];simp,h4⟩
   ·rintro⟨h2,h3⟩
    obtain⟨k,hk⟩:=Option.ne_none_iff_exists'.mp h2
    refine lJj.mpr ⟨(j,k),lVn.mpr ⟨j,lJ0.mpr (by omega),?_⟩,rfl⟩
    show (jK8 owner j).map _=_
    rw[hk];rfl
  have hin:∀k,k∈live.map (·.2)->k<hashes.size:=by
   intro k hk
   obtain⟨⟨j,k'⟩,h2,rfl⟩:=lJj.mp hk
   obtain⟨h',e1,_⟩:=o.chain j k' (live_mem _ _ h2).1
   have:=(lJf.mp e1).1
   simpa using this
  have fm:∀l:List Nat,(∀k,k∈l->k<hashes.size)->∀i:Nat,(l.filterMap (hashes[·]?)).length=l.length/\(l.filterMap (hashes[·]?))[i]? =(l[i]?).bind (hashes[·]?):=by
   intro l
   induction l with
   | nil=>intro _ i;exact⟨rfl,by simp⟩
   | cons a l ih=>
    intro hl i
    have ha:=hl a (lJ1 ..)
    have e:hashes[a]? =some hashes[a]:=lQe ha
    have ih':=ih (fun k hk=>hl k (lJ2 _ hk))
    rw[lXg e]
    refine⟨by rw[lJ5,lJ5,(ih' 0).1],?_⟩
    cases i with
    | zero=>simp[e]
    | succ i=>simpa using (ih' i).2
  refine⟨?_,?_,rfl,?_⟩
  ·show (live.map (·.1)).toArray.size=_
   rw[lJw,lJe]
   have:=(fm (live.map (·.2)) hin 0).1
   rw[lJe] at this
   exact this.symm
  ·show (live.map (·.1)).Pairwise (· < ·)
   rw[List.pairwise_map]
   have:live.Pairwise fun a b=>a.1<b.1:=by
    show ((List.range (mask+1)).filterMap fun j=>(owner.getD j none).map (j,·)).Pairwise _
    rw[List.pairwise_filterMap]
    refine (List.pairwise_lt_range).imp fun {a b} hab x hx y hy=> ?_
    obtain⟨k,_,e⟩:=lK2.mp hx
    obtain⟨k',_,e'⟩:=lK2.mp hy
    rw[<-e,<-e'];exact hab
   exact this
  ·intro x hx
   obtain⟨i,hi,hxe⟩:=lVd hx
   rw[List.getElem_zip] at hxe
   obtain⟨xj,h⟩:=x
   obtain⟨pe,he⟩:=Prod.mk.inj hxe
   have hi':i<live.length:=by rw[List.length_zip] at hi;have:=lKb hi (Nat.min_le_left _ _);simpa using this
   have hh:((live.map (·.2)).filterMap (hashes[·]?))[i]? =some h:=by rw[<-he];exact lJg _
   have pl:live[i].1=xj:=by rw[<-pe];simp
   show Chain _ h xj
   rw[<-pl]
   have e2:=(fm (live.map (·.2)) hin i).2
   have hh':((live.map (·.2)).filterMap (hashes[·]?))[i]? =some h:=hh
   rw[hh',lJq,lJg hi'] at e2
   have e3:hashes[live[i].2]? =some h:=e2.symm
   obtain⟨h3,h4⟩:=live_mem live[i].1 live[i].2 (lQ0 hi')
   obtain⟨h',e4,n,e5,e6⟩:=o.chain _ _ h3
   have:h'=h:=by
    have:hashes.toList[live[i].2]? =some h:=by simpa using e3
    rw[this] at e4;exact (lJ4 e4).symm
   subst this
   refine⟨n,e5,fun k hk=> ?_⟩
   show (itr t0.advance k (t0.probeStart h')).j∈live.map (·.1)
   refine (mem_place _).mpr ⟨e6 k hk,?_⟩
   apply lQw
   intro z
   refine e6 k hk ?_
   unfold jK8
   rw[lX2,lVv (by rw[o.size];show mask+1<=_;omega)]
   rfl
end St
end L3
namespace L3
open PySem PySem.Spec PyProof.Rows L2
def TupKept (h h':Heap):Prop:=∀b o,h.get? b=some o->o.cls= .type "tuple"->h'.get? b=some o
section
variable {prog:Program} {w:World} {K:Type} [DecidableEq K] {c:Nat}
def Stab (V:KeyV prog w K c):Prop:=∀ {h h':Heap} {k:K} {v:Value},TupKept h h'->V.is h k v->V.is h' k v
theorem kYp {V:KeyV prog w K c} (hV:Stab V) {h h':Heap} (kp:TupKept h h') {ks:List K} {vs:List Value} (hi:ItemsV V h ks vs):ItemsV V h' ks vs:=by
 induction hi with
 | nil=>exact .nil
 | cons a _ ih=>exact .cons (hV kp a) ih
theorem kXi {V:KeyV prog w K c} (hV:Stab V):Stab (jUh V):=by
 rintro h h' k v kp ⟨a,o,items,n,rfl,ho,hc,hd,hi⟩
 exact⟨a,o,items,n,rfl,kp a o ho hc,hc,hd,kYp hV kp hi⟩
theorem kXj {V:KeyV prog w K c} (hV:Stab V):Stab (kYo V):=by
 rintro h h' (k | k) v kp hx
 ·exact hx
 ·exact kXi hV kp hx
theorem kZ0:Stab (jYo prog w):=fun _ hx=>hx
theorem jQb {h h':Heap} {k:TKey} {a:Addr} (kp:TupKept h h') (hx:(jJg prog w).is h k a):(jJg prog w).is h' k a:=kXi (kXj (kXj kZ0)) kp hx
theorem TupKept.same {h h':Heap} {a:Addr} {o:Obj} (ho:h.get? a=some o) (hc:o.cls= .type "set") (hs:Heap.SameBut a h h'):TupKept h h':=by
 intro b ob hb hcb
 have ne:b≠a:=by
  rintro rfl
  rw[ho] at hb;cases hb
  rw[hc] at hcb
  exact absurd hcb (by decide)
 exact (hs.2 b ne).trans hb
def HbV (V:KeyV prog w K c) (f:K->Bool):Prop:=∀ {A:Around} {E:Value->Shared->Prop} {s:Shared} {k:K} {v:Value} {Q:Bool->Shared->Prop} (n:Nat),c<=n->f k=true->V.is s.heap k v->Q true s->wpAny (model prog w) A (hashByValue n v) Q E s
def intK:Key->Bool
 | .inl _=>true
 | .inr _=>false
def intS {α:Type} (f:α->Bool):Key ⊕ List α->Bool
 | .inl k=>intK k
 | .inr ks=>ks.all f
def intT:TKey->Bool:=fun ks=>ks.all (intS (intS intK))
theorem qKw:HbV (jYo prog w) intK:=by
 intro A E s k v Q n _ hk hv h
 rcases jJu (show jXa k v=true from hv) with ⟨i,t,_,rfl⟩ | ⟨i,t,rfl,rfl⟩
 ·cases n<;>exact lJd h
 ·cases hk
theorem qX8 {V:KeyV prog w K c} {f:K->Bool} (hV:HbV V f):HbV (jUh V) (fun ks=>ks.all f):=by
 rintro A E s ks v Q n hn hf ⟨a,o,items,m,rfl,ho,hc,hd,hi⟩ h
 obtain⟨n,rfl⟩:∃nn,n=nn+1:=⟨n-1,by omega⟩
 have hT:s.TypeIs (.ref a) "tuple":=⟨o,ho,hc⟩
 unfold hashByValue
 (refine lJa (lQ3 hT F.slot_tuple_hash.lookup ?_))
 refine (show wpAny _ _ (seqItems? (.ref a) >>= _) _ _ s from ?_)
 refine lJa (lVh ho hd (lJa ?_))
 refine (show wpAny _ _ (forIn items _ _) _ _ s from ?_)
 rw[<-lXv]
 refine lVz _ (fun rest r z=>r.1=none/\z=s/\∃left,left.all f=true/\ItemsV V s.heap left rest) _ ?_ ?_ _ _ ⟨rfl,rfl,ks,hf,hi⟩
 ·rintro x rest r z ⟨hr,rfl,left,hfl,hl⟩
  cases hl with
  | cons h1 hl'=>
   rw[lQd,lJ6] at hfl
   refine lJa (hV n (by omega) hfl.1 h1 ?_)
   simp only[lJ3,Bool.not_true,lKg]
   exact lJd ⟨rfl,rfl,_,hfl.2,hl'⟩
 ·rintro⟨r1,r2⟩ z ⟨hr,rfl,_⟩
  simp only at hr;subst hr
  exact lJd h
theorem qX9 {V:KeyV prog w K c} {f:K->Bool} (hV:HbV V f):HbV (kYo V) (intS f):=by
 rintro A E s (k | k) v Q n hn hf hx h
 ·exact qKw n (lJy _) hf hx h
 ·exact qX8 hV n hn hf hx h
theorem qZq {A:Around} {E:Value->Shared->Prop} {s:Shared} {k:TKey} {a:Addr} {Q:Bool->Shared->Prop} (hf:intT k=true) (hx:(jJg prog w).is s.heap k a) (h:Q true s):wpAny (model prog w) A (hashByValue 8 (.ref a)) Q E s:=
 qX8 (qX9 (qX9 qKw)) 8 (by decide) hf hx h
def OcV (V:KeyV prog w K c):Prop:=∀ {A:Around} {E:Value->Shared->Prop} {s:Shared} {k:K} {v:Value} {Q:Bool->Shared->Prop} (n:Nat),c<=n->V.is s.heap k v->Q false s->wpAny (model prog w) A (ofAClassStatement n v) Q E s
theorem qJ8:OcV (jYo prog w):=by
 intro A E s k v Q n _ hv h
 rcases jJu (show jXa k v=true from hv) with ⟨i,t,_,rfl⟩ | ⟨i,t,rfl,rfl⟩<;>(cases n<;>exact lJd h)
theorem qX4 {V:KeyV prog w K c} (hV:OcV V):OcV (jUh V):=by
 rintro A E s ks v Q n hn ⟨a,o,items,m,rfl,ho,hc,hd,hi⟩ h
 obtain⟨n,rfl⟩:∃nn,n=nn+1:=⟨n-1,by omega⟩
 have hT:s.TypeIs (.ref a) "tuple":=⟨o,ho,hc⟩
 unfold ofAClassStatement
 (refine lJa (lVi hT ?_))
 dsimp only
 rw[lJc (by decide)]
 refine lJa (lJd ?_)
 rw[lJb (by decide)]
 refine lJa (lVh ho hd (lJa ?_))
 rw[<-lXv]
 refine lVz _ (fun rest r z=>r.1=none/\z=s/\∃left,ItemsV V s.heap left rest) _ ?_ ?_ _ _ ⟨rfl,rfl,ks,hi⟩
 ·rintro x rest r z ⟨hr,rfl,left,hl⟩
  cases hl with
  | cons h1 hl'=>
   refine lJa (hV n (by omega) h1 ?_)
   rw[lJb (by decide)]
   exact lJd ⟨rfl,rfl,_,hl'⟩
 ·rintro⟨r1,r2⟩ z ⟨hr,rfl,_⟩
  simp only at hr;subst hr
  exact lJd h
theorem qX5 {V:KeyV prog w K c} (hV:OcV V):OcV (kYo V):=by
 rintro A E s (k | k) v Q n hn hx h
 ·exact qJ8 n (lJy _) hx h
 ·exact qX4 hV n hn hx h
theorem qJ7 {A:Around} {E:Value->Shared->Prop} {s:Shared} {k:TKey} {a:Addr} {Q:Bool->Shared->Prop} (hx:(jJg prog w).is s.heap k a) (h:Q false s):wpAny (model prog w) A (ofAClassStatement 8 (.ref a)) Q E s:=
 qX4 (qX5 (qX5 qJ8)) 8 (by decide) hx h
theorem unseen {A:Around} {E:Value->Shared->Prop} {s:Shared} {k:TKey} {a:Addr} {Q:Bool->Shared->Prop} (hx:(jJg prog w).is s.heap k a) {ys:List Value} (hy:∀y,y∈ys->∃k' b,y= .ref b/\(jJg prog w).is s.heap k' b) (h:Q false s):wpAny (model prog w) A (searchCouldBeSeen (.ref a) ys) Q E s:=by
 unfold searchCouldBeSeen
 refine lJa ?_
 refine lVz _ (fun rest r z=>r.1=none/\z=s/\∀y,y∈rest->∃k' b,y= .ref b/\(jJg prog w).is s.heap k' b) _ ?_ ?_ _ _ ⟨rfl,rfl,hy⟩
 ·rintro x rest r z ⟨hr,rfl,hl⟩
  obtain⟨k',b,rfl,hb⟩:=hl x (lJ1 ..)
  have hl':=fun y hy=>hl y (lJ2 _ hy)
  dsimp only
  split
  ·exact lJd ⟨rfl,rfl,hl'⟩
  ·refine lJa ((jJg prog w).quiet hx ?_)
   rw[lJb (by decide)]
   refine lJa ((jJg prog w).quiet hb ?_)
   rw[lJb (by decide)]
   refine lJa (qJ7 hx ?_)
   rw[lJb (by decide)]
   refine lJa (qJ7 hb ?_)
   rw[lJb (by decide)]
   exact lJd ⟨rfl,rfl,hl'⟩
 ·rintro⟨r1,r2⟩ z ⟨hr,rfl,_⟩
  simp only at hr;subst hr
  exact lJd h
end
section
variable {prog:Program} {w:World} {A:Around} {E:Value->Shared->Prop} {s:Shared}
def entS (prog:Program) (w:World) (e:TKey×Addr):Int×Value:=((jJg prog w).hash e.1,.ref e.2)
def hashes (prog:Program) (w:World) (es:List (TKey×Addr)):List Int:=es.map fun e=>(jJg prog w).hash e.1
def MaskOk (mask n:Nat):Prop:=(mask=7/\n<=4)\/(mask=31/\n<=18)\/(mask=127/\n<=76)
theorem MaskOk.full {mask n:Nat} (h:MaskOk mask n):St.Full mask/\n<=mask/\mask%2=1:=by
 rcases h with ⟨rfl,h⟩ | ⟨rfl,h⟩ | ⟨rfl,h⟩
 ·exact⟨St.full7,by omega,rfl⟩
 ·exact⟨St.full31,by omega,rfl⟩
 ·exact⟨St.full127,by omega,rfl⟩
theorem kYz {t:SetTable} {f g:Nat->Int} {h:Int} {p:SetTable.Probe} (e:∀i,f i=g i):t.probe f h p=t.probe g h p:=by rw[funext e]
structure SetD (prog:Program) (w:World) (h:Heap) (a:Addr) (o:Obj) (arr:Array (Int×Value)) (ep:Nat) (t:SetTable) (es:List (TKey×Addr)):Prop where
 get:h.get? a=some o
 exact_:o.ExactSet
 data:o.data= .set arr ep t
 arr_:arr.toList=es.map (entS prog w)
 are:∀e,e∈es->(jJg prog w).is h e.1 e.2
 good:St.Good t (hashes prog w es)
 mask:MaskOk t.mask es.length
 plain:t.plain=true
theorem SetD.size {h:Heap} {a:Addr} {o:Obj} {arr:Array (Int×Value)} {ep:Nat} {t:SetTable} {es:List (TKey×Addr)} (d:SetD prog w h a o arr ep t es):arr.size=es.length:=by
 rw[<-lKj,d.arr_,lJe]
theorem SetD.fits {h:Heap} {a:Addr} {o:Obj} {arr:Array (Int×Value)} {ep:Nat} {t:SetTable} {es:List (TKey×Addr)} (d:SetD prog w h a o arr ep t es):t.fits arr.size=true:=by
 have l:=d.good.len
 unfold hashes at l
 rw[lJe] at l
 obtain⟨_,hm,_⟩:=d.mask.full
 simp only[SetTable.fits,SetTable.fill,d.good.dum,l,d.size,lJ6,beq_iff_eq,lKz]
 exact⟨trivial,by simpa using hm⟩
theorem SetD.state {a:Addr} {o:Obj} {arr:Array (Int×Value)} {ep:Nat} {t:SetTable} {es:List (TKey×Addr)} (d:SetD prog w s.heap a o arr ep t es) {Q:(Array (Int×Value)×Nat×SetTable)->Shared->Prop} (h:Q (arr,ep,t) s):wpAny (model prog w) A (setState a) Q E s:=
 wpAny_setState_of d.get d.data d.fits h
theorem SetD.at {h:Heap} {a:Addr} {o:Obj} {arr:Array (Int×Value)} {ep:Nat} {t:SetTable} {es:List (TKey×Addr)} (d:SetD prog w h a o arr ep t es) {i:Nat} (hi:i<t.place.size):∃e,es[i]? =some e/\arr[i]? =some (entS prog w e):=by
 have l:=d.good.len
 unfold hashes at l
 rw[lJe] at l
 have hi':i<es.length:=by omega
 refine⟨es[i],lJg hi',?_⟩
 rw[<-lQ1,d.arr_,lJq,lJg hi']
 rfl
def Ahead (t:SetTable) (es:List (TKey×Addr)) (k:TKey) (p:SetTable.Probe):Prop:=∃n i b,t.slot (itr t.advance n p).j= .live i/\es[i]? =some (k,b)/\∀m,m<n->t.slot (itr t.advance m p).j≠ .empty
theorem kZ6 {a:Addr} {o:Obj} {arr:Array (Int×Value)} {ep:Nat} {t:SetTable} {es:List (TKey×Addr)} (d:SetD prog w s.heap a o arr ep t es) {k:TKey} {b:Addr} (hk:(jJg prog w).is s.heap k b) (hu:(jJg prog w).room A) {Q:SetFound->Shared->Prop}
  (h1:∀j,t.slot j= .empty->k∉es.map (·.1)->St.Chain t ((jJg prog w).hash k) j->Q (.free j false) s) (h2:k∈es.map (·.1)->Q (.there none) s):∀(n fuel:Nat) (stand:Option SetTable.Probe) (p:SetTable.Probe),stand.getD (t.probeStart ((jJg prog w).hash k))=p->p.dummy=none->t.slot (itr t.advance n p).j= .empty->n<10*SetTable.turns t.mask->n<fuel->
  (k∈es.map (·.1)->Ahead t es k p)->(∃n0,p=itr t.advance n0 (t.probeStart ((jJg prog w).hash k))/\∀m,m<n0->(itr t.advance m (t.probeStart ((jJg prog w).hash k))).j∈t.place.toList)->
  wpAny (model prog w) A (setSearchFrom a (.ref b) ((jJg prog w).hash k) true fuel stand) Q E s:=by
 intro n
 induction n using Nat.strongRecOn with
 | ind n ih=>
 intro fuel stand p hp hdm he hn hfu hA hC
 obtain⟨fuel,rfl⟩:∃f,fuel=f+1:=⟨fuel-1,by omega⟩
 unfold setSearchFrom
 refine lJa (d.state ?_)
 dsimp only
 have gw:t.gaveWay=false:=by
  unfold SetTable.gaveWay
  rw[d.mask.full.2.2];rfl
 rw[gw,lJb (by decide),hp]
 rw[kYz (g:=fun i=>((arr[i]?).map (·.1)).getD 0) ?hsw]
 case hsw=>exact fun i=>rfl
 have hash_at:∀(i:Nat) (k':TKey) (b':Addr),es[i]? =some (k',b')->((arr[i]?).map (·.1)).getD 0=(jJg prog w).hash k':=by
  intro i k' b' e
  have:arr[i]? =some (entS prog w (k',b')):=by rw[<-lQ1,d.arr_,lJq,e];rfl
  rw[this];rfl
 have onway:∀m,(∀q,q<m->St.Miss t (fun i=>((arr[i]?).map (·.1)).getD 0) ((jJg prog w).hash k) (itr t.advance q p).j)->∀q,q<m->(itr t.advance q p).j∈t.place.toList:=by
  intro m hm q hq
  obtain⟨i,hi,_⟩:=hm q hq
  rcases St.slot_cases d.good.dum (itr t.advance q p).j with c | ⟨i',c,hi',e,_⟩
  ·rw[c.1] at hi;cases hi
  ·rw[<-e];simp
 have way:∀m,(∀q,q<m->(itr t.advance q p).j∈t.place.toList)->∃n0,itr t.advance m p=itr t.advance n0 (t.probeStart ((jJg prog w).hash k))/\∀q,q<n0->(itr t.advance q (t.probeStart ((jJg prog w).hash k))).j∈t.place.toList:=by
  intro m hm
  obtain⟨n0,e0,c0⟩:=hC
  refine⟨n0+m,by rw[jK2,e0],fun q hq=> ?_⟩
  by_cases c:q<n0
  ·exact c0 q c
  ·have:=hm (q-n0) (by omega)
   rw[e0,<-jK2,show n0+(q-n0)=q by omega] at this
   exact this
 have ahead:∀m,(∀q,q<m->St.Miss t (fun i=>((arr[i]?).map (·.1)).getD 0) ((jJg prog w).hash k) (itr t.advance q p).j)->∀ {n' i:Nat} {b':Addr},t.slot (itr t.advance n' p).j= .live i->es[i]? =some (k,b')->m<=n':=by
  intro m hm n' i b' hs hi
  apply lQw
  intro z
  obtain⟨i',q1,q2⟩:=hm n' (by omega)
  rw[hs] at q1;cases q1
  exact q2 (hash_at _ _ _ hi)
 rcases St.pgo_ok d.good.dum (fun i=>((arr[i]?).map (·.1)).getD 0) ((jJg prog w).hash k) n (10*SetTable.turns t.mask) p he hn hdm with ⟨m,hm,e1,e2,e3⟩ | ⟨m,i,hm,e1,e2,e3,e4⟩
 ·rw[show t.probe (fun i=>((arr[i]?).map (·.1)).getD 0) ((jJg prog w).hash k) p=_ from e3]
  dsimp only
  refine lJd (h1 _ e1 (fun z=> ?_) ?_)
  ·obtain⟨n',i,b',q1,q2,q3⟩:=hA z
   have:=ahead m e2 q1 q2
   by_cases c:m=n'
   ·subst c;rw[e1] at q1;cases q1
   ·exact q3 m (by omega) e1
  ·obtain⟨n0,w1,w2⟩:=way m (onway m e2)
   exact⟨n0,by rw[w1],w2⟩
 ·rw[show t.probe (fun i=>((arr[i]?).map (·.1)).getD 0) ((jJg prog w).hash k) p=_ from e4]
  dsimp only
  have hi:i<t.place.size/\t.place.toList[i]? =some (itr t.advance m p).j:=by
   rcases St.slot_cases d.good.dum (itr t.advance m p).j with c | ⟨i',c,hi',e,_⟩
   ·rw[c.1] at e1;cases e1
   ·rw[c] at e1;cases e1
    exact⟨hi',by simp[hi',e]⟩
  obtain⟨⟨k',b'⟩,ee,ea⟩:=d.at hi.1
  have hk':(jJg prog w).is s.heap k' b':=d.are _ (lJl ee)
  have rest:∀(R:Unit->Shared->Prop),R () s->True:=fun _ _=>trivial
  have go:wpAny (model prog w) A (do
    let some (_,y):=arr[i]? | unsupported "internal:set-entry"
    let equal <-holding [y] (eqBool y (.ref b))
    let (es',_,t') <-setState a
    if true&&equal then return .there none
    let some same:=(t'.sameMemory t.moves t.mask) | unsupported "set.changed-during-lookup:is-the-new-block-at-the-old-address"
    let still <-match (if same then t'.slot (itr t.advance m p).j else .empty) with
     | .live i'=>match (es'[i']?) with
      | some (_,y')=>do pure (if (<-isSame y' y) then some i' else none)
      | none=>pure none
     | _=>pure none
    match still with
    | none=>rule "set.search.anew"; setSearchFrom a (.ref b) ((jJg prog w).hash k) true fuel none
    | some i'=>if equal then return .there (some i') else setSearchFrom a (.ref b) ((jJg prog w).hash k) true fuel (some (itr t.advance (m+1) p))) Q E s:=by
   rw[ea]
   dsimp only[entS]
   refine lJa (lKy ((jJg prog w).eqBool hu hk' hk ?_))
   refine lJa (d.state ?_)
   dsimp only
   by_cases eq:k'=k
   ·subst eq
    rw[lJc (by simp)]
    exact lJd (h2 (lJj.mpr ⟨_,lJl ee,rfl⟩))
   ·rw[lJb (by simp[eq])]
    rw[show t.sameMemory t.moves t.mask=some true by simp[SetTable.sameMemory]]
    dsimp only
    rw[lJc rfl,e1]
    dsimp only
    rw[ea]
    dsimp only[entS]
    refine lJa (wpAny_isSame_ref_self (lJa (lJd ?_)))
    rw[lJc rfl]
    dsimp only
    rw[lJb (by simp[eq])]
    have ne:∀ {n' i' b''},t.slot (itr t.advance n' p).j= .live i'->es[i']? =some (k,b'')->m+1<=n':=by
     intro n' i' b'' q1 q2
     have:=ahead m e3 q1 q2
     by_cases c:m=n'
     ·subst c
      rw[e1] at q1;cases q1
      rw[ee] at q2
      exact absurd (Prod.mk.inj (lJ4 q2)).1 eq
     ·omega
    refine ih (n-(m+1)) (by omega) fuel (some (itr t.advance (m+1) p)) (itr t.advance (m+1) p) rfl ?_ ?_ (by omega) (by omega) ?_ ?_
    ·have dm:∀q,(itr t.advance q p).dummy=none:=by
      intro q
      induction q with
      | zero=>exact hdm
      | succ q ihq=>rw[jXv,St.adv_dummy];exact ihq
     exact dm _
    ·rw[<-jK2,show m+1+(n-(m+1))=n by omega];exact he
    ·intro z
     obtain⟨n',i',b'',q1,q2,q3⟩:=hA z
     have:=ne q1 q2
     refine⟨n'-(m+1),i',b'',?_,q2,fun q hq=> ?_⟩
     ·rw[<-jK2,show m+1+(n'-(m+1))=n' by omega];exact q1
     ·rw[<-jK2];exact q3 _ (by omega)
    ·refine way (m+1) fun q hq=> ?_
     by_cases c:q<m
     ·exact onway m e3 q c
     ·have:q=m:=by omega
      subst this
      exact lJl hi.2
  split
  ·refine lJa (unseen hk ?_ ?_)
   ·intro y hy
    obtain⟨x,hx,rfl⟩:=lJj.mp hy
    have hx':x∈arr.toList:=by
     have:=(Array.mem_filter.mp (Array.mem_toList_iff.mp hx)).1
     exact Array.mem_toList_iff.mpr this
    rw[d.arr_] at hx'
    obtain⟨e,he',rfl⟩:=lJj.mp hx'
    exact⟨e.1,e.2,rfl,d.are e he'⟩
   ·rw[lJb (by decide)]
    exact go
  ·exact go
theorem SetD.chain {h:Heap} {a:Addr} {o:Obj} {arr:Array (Int×Value)} {ep:Nat} {t:SetTable} {es:List (TKey×Addr)} (d:SetD prog w h a o arr ep t es) {k:TKey} (hk:k∈es.map (·.1)):Ahead t es k (t.probeStart ((jJg prog w).hash k)):=by
 obtain⟨⟨k',b⟩,he,e⟩:=lJj.mp hk
 cases (show k'=k from e)
 obtain⟨i,hi,ei⟩:=lVd he
 have l:=d.good.len
 unfold hashes at l
 rw[lJe] at l
 have hp:i<t.place.size:=by omega
 have hz:(t.place[i],(jJg prog w).hash k)∈t.place.toList.zip (hashes prog w es):=by
  refine lJl (i:=i) ?_
  unfold hashes
  simp[lVp,hp,hi,ei]
 obtain⟨n,h1,h2⟩:=d.good.chain _ hz
 refine⟨n,i,b,?_,by rw[lJg hi,ei],fun m hm=> ?_⟩
 ·rw[h1];exact St.slot_live d.good.ris hp
 ·obtain⟨q,hq,e⟩:=lVd (h2 m hm)
  have hq':q<t.place.size:=by simpa using hq
  have e':t.place[q]=(itr t.advance m (t.probeStart ((jJg prog w).hash k))).j:=by simpa using e
  rw[<-e',St.slot_live d.good.ris hq']
  simp
theorem free_j {t:SetTable} (hd:t.dummies= #[]) (hn:t.place.size<=t.mask):∃j,j<=t.mask/\t.slot j= .empty:=by
 have:∃j,j<=t.mask/\j∉t.place.toList:=by
  apply lQw
  intro q
  have sub:(List.range (t.mask+1)) ⊆ t.place.toList:=by
   intro j hj
   apply lQw
   intro z
   exact q ⟨j,by have:=lJ0.mp hj;omega,z⟩
  have:=lXq.length_le_of_subset sub
  simp at this
  omega
 obtain⟨j,h1,h2⟩:=this
 exact⟨j,h1,St.slot_empty hd h2⟩
theorem kYs {a:Addr} {o:Obj} {arr:Array (Int×Value)} {ep:Nat} {t:SetTable} {es:List (TKey×Addr)} (d:SetD prog w s.heap a o arr ep t es) {k:TKey} {b:Addr} (hk:(jJg prog w).is s.heap k b) (hu:(jJg prog w).room A) {Q:SetFound->Shared->Prop}
  (h1:∀j,t.slot j= .empty->k∉es.map (·.1)->St.Chain t ((jJg prog w).hash k) j->Q (.free j false) s) (h2:k∈es.map (·.1)->Q (.there none) s):wpAny (model prog w) A (setSearch a (.ref b) ((jJg prog w).hash k) true) Q E s:=by
 have l:=d.good.len
 unfold hashes at l
 rw[lJe] at l
 obtain⟨hf,hm,_⟩:=d.mask.full
 obtain⟨j,hj,ej⟩:=free_j (t:=t) d.good.dum (by omega)
 obtain⟨n,hn,en⟩:=St.met hf ((jJg prog w).hash k) hj
 have hm127:t.mask<=127:=by rcases d.mask with ⟨e,_⟩ | ⟨e,_⟩ | ⟨e,_⟩<;>omega
 unfold setSearch
 refine kZ6 d hk hu h1 h2 n 100000 none (t.probeStart ((jJg prog w).hash k)) rfl rfl (by rw[en];exact ej) (by unfold SetTable.turns;omega) (by omega) d.chain ⟨0,rfl,fun m hm=>absurd hm (lKt _)⟩
end
section
variable {prog:Program} {w:World} {A:Around} {E:Value->Shared->Prop} {s:Shared}
theorem kKg {t t':SetTable} (hm:t'.mask=t.mask) (hp:∀j,j∈t.place.toList->j∈t'.place.toList) {h:Int} {j:Nat} (c:St.Chain t h j):St.Chain t' h j:=by
 obtain⟨n,h1,h2⟩:=c
 have ea:t'.advance=t.advance:=by funext p;unfold SetTable.advance;rw[hm]
 have eb:t'.probeStart h=t.probeStart h:=by unfold SetTable.probeStart;rw[hm]
 refine⟨n,by rw[ea,eb];exact h1,fun k hk=> ?_⟩
 rw[ea,eb]
 exact hp _ (h2 k hk)
theorem zipE {α β:Type} {xs:List α} {ys:List β} (hl:xs.length=ys.length) (p:Nat) {x:α} {y:β} {z:α×β} (h:z∈(xs.take p++x::xs.drop p).zip (ys.take p++y::ys.drop p)):z∈xs.zip ys\/z=(x,y):=by
 rw[List.zip_append (by simp[hl]),lXc] at h
 have e1:(xs.take p).zip (ys.take p)=(xs.zip ys).take p:=by rw[lX3,lX3,List.take_zipWith]
 have e2:(xs.drop p).zip (ys.drop p)=(xs.zip ys).drop p:=by rw[lX3,lX3,List.drop_zipWith]
 rw[e1,e2] at h
 (rcases lKc.mp h with h | h)
 ·exact .inl (List.mem_of_mem_take h)
 ·rcases (lJv.mp h) with h | h
  ·exact .inr h
  ·exact .inl (List.mem_of_mem_drop h)
theorem qVw {t:SetTable} {hs:List Int} (g:St.Good t hs) {j:Nat} {h:Int} (he:t.slot j= .empty) (hc:St.Chain t h j):St.Good (t.put j).1 (hs.take (t.put j).2++h::hs.drop (t.put j).2):=by
 have hj:j∉t.place.toList:=by
  rcases St.slot_cases g.dum j with c | ⟨i,c,_⟩
  ·exact c.2 g.ris
  ·rw[c] at he;cases he
 have ep:(t.put j).1.place=SetTable.insertAt t.place (SetTable.below t.place j) j:=rfl
 have mem:∀q,q∈t.place.toList->q∈(t.put j).1.place.toList:=by
  intro q hq
  rw[ep,SetTable.toList_insertAt]
  rw[<-lX4 (SetTable.below t.place j) t.place.toList] at hq
  rcases (lKc.mp hq) with z | z
  ·(exact lKx _ z)
  ·exact lKs _ (lJ2 _ z)
 have hl:=g.len
 refine⟨?_,?_,?_,?_⟩
 ·rw[ep,<-lKj,SetTable.toList_insertAt]
  show _=(hs.take (SetTable.below t.place j)++h::hs.drop (SetTable.below t.place j)).length
  simp[hl]
 ·rw[ep];exact St.insertAt_ris g.ris hj
 ·show (if SetTable.has t.dummies j=true then _ else t.dummies)= #[]
  rw[g.dum,St.has_nil];rfl
 ·intro x hx
  rw[ep,SetTable.toList_insertAt] at hx
  rcases zipE (by simpa using hl) _ hx with z | rfl
  ·exact kKg (t:=t) (t':=(t.put j).1) rfl mem (g.chain x z)
  ·exact kKg (t:=t) (t':=(t.put j).1) rfl mem hc
def putE (p:Nat) (e:TKey×Addr) (es:List (TKey×Addr)):List (TKey×Addr):=es.take p++e::es.drop p
theorem jXp (p:Nat) (e:TKey×Addr) (es:List (TKey×Addr)):(putE p e es).Perm (e::es):=by
 unfold putE
 refine List.perm_middle.trans ?_
 rw[lX4]
theorem qJq {h:Heap} {a:Addr} {o:Obj} {arr:Array (Int×Value)} {ep:Nat} {t:SetTable} (ho:h.get? a=some o) (hd:o.data= .set arr ep t) (arr':Array (Int×Value)) (t':SetTable):
  (h.update a (Obj.putSet arr' t')).get? a=some {o with data:= .set arr' (ep+1) t'}:=by
 have:=lQn (Obj.putSet arr' t') ho (by rw[putSet_of arr' t' hd];rfl)
 rw[putSet_of arr' t' hd] at this;exact this
theorem kJ6 {α:Type} {l:List Nat} {xs:List α} (hp:l.Perm (List.range xs.length)):(l.filterMap (xs[·]?)).Perm xs:=by
 have:=hp.filterMap (fun i=>xs[i]?)
 rw[List.filterMap_getElem?_range_length] at this
 exact this
theorem jXu {α β:Type} (f:α->β) (xs:List α):∀l:List Nat,(l.filterMap (xs[·]?)).map f=l.filterMap ((xs.map f)[·]?)
 | []=>rfl
 | a::l=>by
  rw[lQm,lQm,lJq]
  cases xs[a]? with
  | none=>exact jXu f xs l
  | some x=>rw[lJr,jXu f xs l];rfl
theorem qUp {a:Addr} {o:Obj} {arr:Array (Int×Value)} {ep:Nat} {t:SetTable} {es:List (TKey×Addr)} (ho:s.heap.get? a=some o) (hex:o.ExactSet) (hd:o.data= .set arr ep t) (harr:arr.toList=es.map (entS prog w)) (are:∀e,e∈es->(jJg prog w).is s.heap e.1 e.2) (hf:t.fits arr.size=true) (hpl:t.plain=true) {wanted mask:Nat} (hw:SetTable.sizeAbove wanted-1=mask) (hl:SetTable.sizeAbove wanted<=sizeLine) (hM:MaskOk mask es.length) {Q:Unit->Shared->Prop}
  (h:∀h' o' arr' ep' t' es',Heap.SameBut a s.heap h'->es'.Perm es->t'.led=t.led->SetD prog w h' a o' arr' ep' t' es'->Q () {s with heap:=h'}):wpAny (model prog w) A (setRelay a wanted) Q E s:=by
 have hsz:arr.size=es.length:=by rw[<-lKj,harr,lJe]
 obtain⟨hfull,hle,_⟩:=hM.full
 obtain⟨t',order,e1,e2,e3,e4,e5,e6⟩:=St.laid_ok hfull t.finger (t.movedTo mask) t.led t.plain (arr.map (·.1)) (by rw[Array.size_map,hsz];exact hle)
 have e1':t.relaid (arr.map (·.1)) wanted=some (t',order):=by unfold SetTable.relaid;rw[hw];exact e1
 have hash_:(arr.map (·.1)).toList=hashes prog w es:=by
  rw[Array.toList_map,harr,lJx];rfl
 have po:order.toList.Perm (List.range es.length):=by
  have:=e5
  rw[Array.size_map,hsz] at this
  exact this
 have em:(order.filterMap (arr[·]?)).toList=(order.toList.filterMap (es[·]?)).map (entS prog w):=by
  rw[Array.toList_filterMap,jXu,<-harr]
  exact St.fm_congr fun x _=>by rw[lQ1]
 have pe:(order.toList.filterMap (es[·]?)).Perm es:=kJ6 po
 have sz2:(order.filterMap (arr[·]?)).size=es.length:=by rw[<-lKj,em,lJe,pe.length_eq]
 unfold setRelay
 (refine lJa (wpAny_setState_of ho hd hf ?_))
 dsimp only
 rw[lJb (Nat.not_lt.mpr hl)]
 refine lJa ?_
 refine (show wpAny (model prog w) A (do
  let some (t,order):=t.relaid (arr.map (·.1)) wanted | unsupported "internal:set-table-without-room"
  let es':=order.filterMap (arr[·]?)
  if es'.size != arr.size then unsupported "internal:set-table-lost-an-element"
  pure (es',t)) _ _ _ from ?_)
 rw[e1']
 dsimp only
 rw[lJb (by rw[sz2,hsz];simp)]
 refine lJd ?_
 dsimp only
 refine wpAny_storeSet_of ho hd ?_ (by rw[sz2,<-hsz,lKi];have:=hM;rcases hM with ⟨_,z⟩ | ⟨_,z⟩ | ⟨_,z⟩<;>omega)
 have sb:=lVc s.heap a (Obj.putSet (order.filterMap (arr[·]?)) t')
 have kp:TupKept s.heap _:=TupKept.same ho hex.1 sb
 refine h _ _ _ _ t' (order.toList.filterMap (es[·]?)) sb pe e3 ⟨qJq ho hd _ _,hex,rfl,em,fun e he=>jQb kp (are e (pe.mem_iff.mp he)),?_,?_,e4.trans hpl⟩
 ·have:=e6
  have e7:order.toList.filterMap ((arr.map (·.1))[·]?)=hashes prog w (order.toList.filterMap (es[·]?)):=by
   unfold hashes
   rw[jXu]
   refine St.fm_congr fun x _=> ?_
   rw[<-lQ1,hash_];rfl
  rw[e7] at this
  exact this
 ·rw[pe.length_eq,e2];exact hM
theorem add_ok {a:Addr} {o:Obj} {arr:Array (Int×Value)} {ep:Nat} {t:SetTable} {es:List (TKey×Addr)} (d:SetD prog w s.heap a o arr ep t es) {k:TKey} {b:Addr} (hk:(jJg prog w).is s.heap k b) (hi:intT k=true) (hu:(jJg prog w).room A) (hn:es.length<64) {Q:Bool->Shared->Prop}
  (h1:k∈es.map (·.1)->Q false s)
  (h2:k∉es.map (·.1)->∀h' o' arr' ep' t' es',Heap.SameBut a s.heap h'->es'.Perm ((k,b)::es)->t'.led=t.led->SetD prog w h' a o' arr' ep' t' es'->Q true {s with heap:=h'}):
  wpAny (model prog w) A (setAddHashed a (.ref b) ((jJg prog w).hash k)) Q E s:=by
 unfold setAddHashed
 refine lKy ?_
 unfold setAddHashedIn
 refine lJa (d.state ?_)
 dsimp only
 rw[show byScan (.ref b) arr=false from rfl,lJb (by decide)]
 refine lJa (kYs d hk hu (fun j hj hnk hc=> ?_) fun z=>lJd (h1 z))
 dsimp only
 refine lJa (d.state ?_)
 dsimp only
 have hpl:(t.put j).1.plain=true:=d.plain
 rw[lJc hpl]
 refine lJa (qZq hi hk ?_)
 simp only[↓reduceIte]
 have hsz:=d.size
 have hlen:t.place.size=es.length:=by have l:=d.good.len;unfold hashes at l;rw[lJe] at l;exact l
 have g1:St.Good (t.put j).1 (hashes prog w (putE (t.put j).2 (k,b) es)):=by
  have:=qVw d.good hj hc
  unfold hashes putE
  rw[lK6,lJr,lXh,List.map_drop]
  exact this
 have ae:(SetTable.insertAt arr (t.put j).2 ((jJg prog w).hash k,Value.ref b)).toList=(putE (t.put j).2 (k,b) es).map (entS prog w):=by
  rw[SetTable.toList_insertAt,d.arr_]
  unfold putE
  rw[lK6,lJr,lXh,List.map_drop]
  rfl
 have pl:=(jXp (t.put j).2 (k,b) es).length_eq
 rw[lJ5] at pl
 have asz:(SetTable.insertAt arr (t.put j).2 ((jJg prog w).hash k,Value.ref b)).size=es.length+1:=by
  rw[<-lKj,ae,lJe,pl]
 refine lJa (wpAny_storeSet_of d.get d.data ?_ (by rw[asz,lKi];omega))
 have sb1:=lVc s.heap a (Obj.putSet (SetTable.insertAt arr (t.put j).2 ((jJg prog w).hash k,Value.ref b)) (t.put j).1)
 have kp1:TupKept s.heap _:=TupKept.same d.get d.exact_.1 sb1
 have ob1:=qJq d.get d.data (SetTable.insertAt arr (t.put j).2 ((jJg prog w).hash k,Value.ref b)) (t.put j).1
 have are1:∀e,e∈putE (t.put j).2 (k,b) es->(jJg prog w).is (s.heap.update a (Obj.putSet (SetTable.insertAt arr (t.put j).2 ((jJg prog w).hash k,Value.ref b)) (t.put j).1)) e.1 e.2:=by
  intro e he
  rcases lJv.mp ((jXp _ _ _).mem_iff.mp he) with rfl | he
  ·exact jQb kp1 hk
  ·exact jQb kp1 (d.are e he)
 have fl:(t.put j).1.fill=es.length+1:=by
  have l:=g1.len
  unfold hashes at l
  rw[lJe,pl] at l
  unfold SetTable.fill
  rw[g1.dum,l];rfl
 have mk:(t.put j).1.mask=t.mask:=rfl
 by_cases full:(t.put j).1.tooFull=true
 ·rw[full]
  simp only[Bool.not_false,Bool.and_self,↓reduceIte]
  have full':(es.length+1)*5>=t.mask*3:=by
   unfold SetTable.tooFull at full
   rw[fl,mk] at full
   exact of_decide_eq_true full
  have w1:SetTable.sizeAbove (SetTable.grown (arr.size+1))<=sizeLine/\MaskOk (SetTable.sizeAbove (SetTable.grown (arr.size+1))-1) (putE (t.put j).2 (k,b) es).length:=by
   rw[pl,hsz]
   rcases d.mask with ⟨e,z⟩ | ⟨e,z⟩ | ⟨e,z⟩
   ·have:es.length=4:=by omega
    rw[this];exact⟨by rw[lKi];decide,.inr (.inl ⟨by decide,by omega⟩)⟩
   ·have:es.length=18:=by omega
    rw[this];exact⟨by rw[lKi];decide,.inr (.inr ⟨by decide,by omega⟩)⟩
   ·omega
  have ft:(t.put j).1.fits (SetTable.insertAt arr (t.put j).2 ((jJg prog w).hash k,Value.ref b)).size=true:=by
   have l:=g1.len
   unfold hashes at l
   rw[lJe,pl] at l
   simp only[SetTable.fits,lJ6,beq_iff_eq,lKz]
   refine⟨by rw[asz];exact l,?_⟩
   rw[fl,mk]
   rcases d.mask with ⟨e,z⟩ | ⟨e,z⟩ | ⟨e,z⟩<;>omega
  refine lJa (qUp (s:={s with heap:=s.heap.update a (Obj.putSet (SetTable.insertAt arr (t.put j).2 ((jJg prog w).hash k,Value.ref b)) (t.put j).1)}) ob1 d.exact_ rfl ae are1 ft hpl rfl w1.1 w1.2 fun h' o' arr' ep' t' es' sb2 pe el d'=> ?_)
  exact lJd (h2 hnk h' o' arr' ep' t' es' (sb1.trans sb2) (pe.trans (jXp _ _ _)) el d')
 ·rw[show (t.put j).1.tooFull=false from by simpa using full]
  simp only[Bool.and_false,lKg,↓reduceIte]
  have full':(es.length+1)*5<t.mask*3:=by
   unfold SetTable.tooFull at full
   rw[fl,mk] at full
   simpa using full
  refine lJd (h2 hnk _ _ _ _ (t.put j).1 _ sb1 (jXp _ _ _) rfl ⟨ob1,d.exact_,rfl,ae,are1,g1,?_,hpl⟩)
  rw[pl,mk]
  rcases d.mask with ⟨e,_⟩ | ⟨e,_⟩ | ⟨e,_⟩
  ·exact .inl ⟨e,by omega⟩
  ·exact .inr (.inl ⟨e,by omega⟩)
  ·exact .inr (.inr ⟨e,by omega⟩)
end
section
variable {w:World} {prog:Program}
def bt (w:World):Bool:=w.params.followText "set-order"
structure Put (es kb:List (TKey×Addr)):Prop where
 sub:∀e,e∈es->e∈kb
 all:∀e,e∈kb->e.1∈es.map (·.1)
 nod:(es.map (·.1)).Nodup
theorem Put.old {es kb:List (TKey×Addr)} (p:Put es kb) {e:TKey×Addr} (h:e.1∈es.map (·.1)):Put es (kb++[e]):=by
 refine⟨fun x hx=>lKx _ (p.sub x hx),fun x hx=> ?_,p.nod⟩
 rcases (lKc.mp hx) with z | z
 ·exact p.all x z
 ·rw[lJz.mp z];exact h
theorem Put.new {es es' kb:List (TKey×Addr)} (p:Put es kb) {e:TKey×Addr} (h:e.1∉es.map (·.1)) (hp:es'.Perm (e::es)):Put es' (kb++[e]):=by
 have hm:(es'.map (·.1)).Perm (e.1::es.map (·.1)):=hp.map _
 refine⟨fun x hx=> ?_,fun x hx=> ?_,?_⟩
 ·rcases lJv.mp (hp.mem_iff.mp hx) with rfl | z
  ·exact lKs _ (lJz.mpr rfl)
  ·exact lKx _ (p.sub x z)
 ·refine hm.mem_iff.mpr ?_
  rcases (lKc.mp hx) with z | z
  ·exact lJ2 _ (p.all x z)
  ·rw[lJz.mp z];exact lJ1 ..
 ·exact hm.nodup_iff.mpr (lKm.mpr ⟨h,p.nod⟩)
theorem Put.few {es kb:List (TKey×Addr)} (p:Put es kb) {us:List TKey} (h:∀e,e∈kb->e.1∈us):es.length<=us.length:=by
 have h1:(es.map (·.1)) ⊆ us:=by
  intro k hk
  obtain⟨e,he,rfl⟩:=lJj.mp hk
  exact h e (p.sub e he)
 have:=p.nod.length_le_of_subset h1
 simpa using this
theorem SetD.move {h h':Heap} {a:Addr} {o:Obj} {arr:Array (Int×Value)} {ep:Nat} {t:SetTable} {es:List (TKey×Addr)} (d:SetD prog w h a o arr ep t es) (hg:h'.get? a=some o) (kp:TupKept h h'):SetD prog w h' a o arr ep t es:=
 ⟨hg,d.exact_,d.data,d.arr_,fun e he=>jQb kp (d.are e he),d.good,d.mask,d.plain⟩
def SetIs (prog:Program) (w:World) (h:Heap) (a:Addr) (kb:List (TKey×Addr)):Prop:=∃o arr ep t es,SetD prog w h a o arr ep t es/\Put es kb/\t.led= !bt w
theorem SetIs.move {h h':Heap} {a:Addr} {kb:List (TKey×Addr)} (d:SetIs prog w h a kb) (hg:∀o,h.get? a=some o->h'.get? a=some o) (kp:TupKept h h'):SetIs prog w h' a kb:=by
 obtain⟨o,arr,ep,t,es,d,p,l⟩:=d
 exact⟨o,arr,ep,t,es,d.move (hg o d.get) kp,p,l⟩
section
variable {A:Around} {R:Result->Shared->Prop} {I:Addr} {fp:List Addr} {G:Array GenState->Array GenState->Prop} {n:Nat} {P:Nat->Value->Prop} {St:Nat->Shared->Prop}
theorem kXg {wr:List Addr} {s s':Shared} (hm:Moved wr G s s') (hw:∀b o,b∈wr->s.heap.get? b=some o->o.cls≠ .type "tuple"):TupKept s.heap s'.heap:=by
 intro b o hb hc
 exact hm.heap b o (fun z=>hw b o z hb hc) hb
theorem qUd (W:WalksS prog w A.in1 I fp [I] G n P St) (S:Addr) (hSf:S∉fp) (hIt:∀i s o,St i s->s.heap.get? I=some o->o.cls≠ .type "tuple") (kb:List (TKey×Addr)) (hu:(jJg prog w).room A.in1) (hk:∀e,e∈kb->intT e.1=true)
  (hval:∀i v,P i v->∃e,kb[i]? =some e/\v= .ref e.2) (hn:n=kb.length) {us:List TKey} (hus:us.length<64) (hkus:∀e,e∈kb->e.1∈us):
  ∀(q i:Nat) (s:Shared),n-i=q->i<=n->St i s->(∀e,e∈kb->(jJg prog w).is s.heap e.1 e.2)->SetIs prog w s.heap S (kb.take i)->
   (∀s',Moved (S::[I]) G s s'->SetIs prog w s'.heap S kb->R (.ok (.ret .none)) s')->codeAny (model prog w) A (.builtin "set.update.loop" ⟨[.ref S,.ref I],[]⟩) R s:=by
 have hSw:S∉[I]:=fun h=>hSf (W.sub _ h)
 have hsub:∀b∈[I],b∈S::[I]:=fun b hb=>lJ2 _ hb
 intro q
 induction q with
 | zero=>
  intro i s hq hi hst hks hS hR
  have hin:i=n:=by omega
  subst hin
  refine lQu PyProof.Rows.F.entry_set_update_loop ?_
  rw[lQ2 lX5 _]
  refine (show wpAny _ A.in1 (pyNext (.ref I) >>= _) _ _ s from ?_)
  (refine lJa (W.done s _ _ hst fun s' hm=> ?_))
  refine (show wpAny _ A.in1 (ret Value.none) _ _ s' from ?_)
  refine lJd (hR s' (hm.mono hsub) ?_)
  rw[hn,lK5] at hS
  exact hS.move (fun o e=>hm.heap S o hSw e) (kXg hm fun b o hb e=>by rw[lJz.mp hb] at e;exact hIt _ _ _ hst e)
 | succ q ih=>
  intro i s hq hi hst hks hS hR
  have hlt:i<n:=by omega
  refine lQu PyProof.Rows.F.entry_set_update_loop ?_
  rw[lQ2 lX5 _]
  refine (show wpAny _ A.in1 (pyNext (.ref I) >>= _) _ _ s from ?_)
  (refine lJa (W.item i s _ _ hlt hst fun v s' hP hst' hm=> ?_))
  obtain⟨⟨k,b⟩,he,rfl⟩:=hval i v hP
  have hmem:(k,b)∈kb:=lJl he
  have tk:=kXg hm fun b o hb e=>by rw[lJz.mp hb] at e;exact hIt _ _ _ hst e
  have hS':=hS.move (h':=s'.heap) (fun o e=>hm.heap S o hSw e) tk
  have hks':∀e,e∈kb->(jJg prog w).is s'.heap e.1 e.2:=fun e he=>jQb tk (hks e he)
  refine (show wpAny _ A.in1 (holding [Value.ref b] (setAdd S (.ref b)) >>= _) _ _ s' from ?_)
  (refine lJa (lKy ?_))
  unfold setAdd
  refine lKy ?_
  refine lJa ((jJg prog w).pyHash hu (hks' _ hmem) ?_)
  obtain⟨o,arr,ep,t,es,d,p,l⟩:=hS'
  have hl:=p.few fun e he=>hkus e (List.mem_of_mem_take he)
  have tk1:kb.take (i+1)=kb.take i++[(k,b)]:=by
   rw[lK4,he];rfl
  refine add_ok (s:={s' with toks:=s'.toks+(jJg prog w).draws k}) d (hks' _ hmem) (hk _ hmem) hu (by omega) (fun z=> ?_) (fun z h' o' arr' ep' t' es' sb pe el d'=> ?_)
  ·refine lJd ⟨lQv lX5 _,ih (i+1) _ (by omega) hlt (W.frame _ s' _ _ hst' (Nat.le_add_right _ _) fun b hb o e=>e) hks' ?_ fun s'' hm'' hS''=> ?_⟩
   ·rw[tk1];exact⟨o,arr,ep,t,es,d,p.old z,l⟩
   ·exact hR s'' (Moved.trans W.gtrans ((hm.mono hsub).then_heap (Nat.le_add_right _ _) fun b o hb e=>e) hm'') hS''
  ·have tk2:TupKept s'.heap h':=TupKept.same d.get d.exact_.1 sb
   refine lJd ⟨lQv lX5 _,ih (i+1) _ (by omega) hlt (W.frame _ s' _ _ hst' (Nat.le_add_right _ _) fun b hb o e=> ?_) (fun e he=>jQb tk2 (hks' e he)) ?_ fun s'' hm'' hS''=> ?_⟩
   ·exact (sb.2 b (fun z=>hSf (z▸hb))).trans e
   ·rw[tk1];exact⟨o',arr',ep',t',es',d',p.new z pe,el.trans l⟩
   ·refine hR s'' (Moved.trans W.gtrans ((hm.mono hsub).then_heap (Nat.le_add_right _ _) fun b o hb e=> ?_) hm'') hS''
    exact (sb.2 b (fun z=>hb (by rw[z];exact lJ1 ..))).trans e
end
section
variable {E:Value->Shared->Prop} {s:Shared} {A:Around}
theorem kZ4 {led:Bool} (hl:led= !bt w) {h:Heap}:SetIs prog w (h.push {cls:= .type "set",dict:=none,data:= .set #[] 0 (.fresh 0 0 led)}) h.objs.size []:=by
 refine⟨_,#[],0,_,[],⟨lJu _ rfl,⟨rfl,rfl,rfl⟩,rfl,rfl,fun e he=>absurd he (lKh),⟨rfl,List.Pairwise.nil,rfl,fun x hx=> ?_⟩,.inl ⟨rfl,lJy _⟩,rfl⟩,⟨fun _ h=>h,fun e he=>absurd he (lKh),lVo⟩,hl⟩
 exact absurd hx (by simp[hashes])
theorem qUc (a:Value) {Q₁:Value->Shared->Prop}
  (h:Q₁ (.ref s.heap.objs.size) {s with heap:=s.heap.push {cls:= .type "set",dict:=none,data:= .set #[] 0 (.fresh 0 0 (!bt w))} }):codeAny (model prog w) A (.call (.builtin "set.__new__") ⟨[.type "set",a],[]⟩) (wants Q₁ E) s:=by
 refine codeAny_of_tree ?_
 refine (show wpAny _ A.in1 (do checkBuiltinCall "set.__new__" ⟨[.type "set",a],[]⟩;again (.builtin "set.__new__" ⟨[.type "set",a],[]⟩)) _ _ s from ?_)
 (refine lJa (lKq (F.newCall_set_1 a) (lJd ⟨lQv F.plain_set_new _,lQu F.entry_set_new ?_⟩)))
 (rw[lQ2 F.plain_set_new _])
 (unfold Builtin.«set.__new__» Builtin.Frozenset.newClass)
 have hsub:=sub_set_self
 (obtain⟨hp,g,d,tk,os⟩:=s)
 dsimp only
 wp_walk
 (refine lXu (lJd ?_))
 dsimp only
 simp only[newObj]
 (refine lJa (wpAny_alloc (lJd ?_)))
 exact lJd h
def jV0 (w:World):Obj:={cls:= .type "set",dict:=none,data:= .set #[] 0 (.fresh 0 0 (!bt w))}
set_option maxHeartbeats 3201000 in
theorem kKp {l:Addr} {items:Array Value} {kb:List (TKey×Addr)} {Q:Value->Shared->Prop} (hh:A.handled=none) (hu:A.units+20<cLine) (hl:s.heap.IsList l items) (hi:items.toList=kb.map fun e=> .ref e.2) (hk:∀e,e∈kb->intT e.1=true/\(jJg prog w).is s.heap e.1 e.2) {us:List TKey} (hus:us.length<64) (hkus:∀e,e∈kb->e.1∈us)
  (h:∀(h':Heap) (tk:Nat),SetIs prog w h' s.heap.objs.size kb->(∀b o,s.heap.get? b=some o->h'.get? b=some o)->Q (.ref s.heap.objs.size) {s with heap:=h',toks:=tk}):wpAny (model prog w) A (call (.type "set") [.ref l]) Q E s:=by
 (obtain⟨c,tl,hmro⟩:=lVf.mro)
 (have hmade:=lVf.made)
 have hsub:=lVf.sub
 have hsz:items.size=kb.length:=by rw[<-lKj,hi,lJe]
 (refine wpAny_call (codeAny_of_tree ?_))
 refine (show wpAny _ _ (callAny (.type "set") _) _ _ _ from ?_)
 (refine lJd ⟨Code.quiet_builtin _ (by decide +kernel),lQu F.entry_type_call ?_⟩)
 (rw[Around.under_plain (weight_type_call_type "set" [.ref l] []) rfl])
 (have h1:=lVf.notType)
 (have h2:=lVf.canCreate)
 (have hct:=F.typeCall_set_1 (.ref l))
 (repeat (any_goals (first | assumption | wp_step)))
 refine codeAny_mono (qUc (.ref l) (E:=E) (Q₁:=fun obj s₁=>obj= .ref s.heap.objs.size/\s₁={s with heap:=s.heap.push (jV0 w)}) ⟨rfl,rfl⟩) fun r s₁ hr=> ?_
 cases r with
 | error e=>exact hr
 | ok fl=>
  cases fl with
  | ret obj=>
   obtain⟨rfl,rfl⟩:=hr
   have hS:(s.heap.push (jV0 w)).get? s.heap.objs.size=some (jV0 w):=lJu _ rfl
   have hT:Shared.TypeIs {s with heap:=s.heap.push (jV0 w)} (.ref s.heap.objs.size) "set":=⟨_,hS,rfl⟩
   (have hli:=lVf.init.lookup)
   (have hbi:=lVf.init.bind (.ref s.heap.objs.size))
   (repeat (any_goals (first | assumption | wp_step)))
   refine codeAny_mono (codeAny_call_builtin (R:=wants (fun r s₂=>r= .none/\∃h' tk,s₂={s with heap:=h',toks:=tk}/\SetIs prog w h' s.heap.objs.size kb/\(∀b o,s.heap.get? b=some o->h'.get? b=some o)) E) lVf.init.plain F.entry_set_init (check_set_init_1 hT ?_)) fun r₂ s₂ hr₂=> ?_
   ·(obtain⟨ol,hol,hcl,nl,hdl⟩:=hl)
    (obtain⟨ocls,odict,odata,oslots⟩:=ol)
    simp only at hcl hdl
    subst hcl;subst hdl
    have hol':(s.heap.push (jV0 w)).get? l=some {cls:= .type "list",dict:=odict,data:= .seq items nl,slots:=oslots}:=lJk _ hol
    have hsls:=F.sub_list_set
    (have hslf:=F.sub_list_frozenset)
    (have hne:(Value.type "list" == Value.type "dict")=false:=by decide)
    have hl1:(s.heap.push (jV0 w)).IsList l items:=⟨_,hol',rfl,nl,rfl⟩
    (unfold Builtin.«set.__init__» noKeywords Builtin.Frozenset.updateFrom)
    generalize hPI:pyIter=PI
    unfold jV0 at hS hol' hl1 ⊢
    wp_walk
    subst hPI
    (refine lYd hl1 ?_)
    (refine lJa (wpAny_runValue ?_))
    (have hlS:l<s.heap.objs.size:=lJi hol)
    (have hh3:A.in1.in1.in1.handled=none:=by simp[hh])
    have hneI:l≠(s.heap.push (jV0 w)).objs.size:=by
     (rw[lXo];exact lJs (Nat.lt_succ_of_lt hlS))
    have hSf:s.heap.objs.size∉[(s.heap.push (jV0 w)).objs.size,l]:=by
     rw[lXo];simp only[lJv,lKh,lQk,not_or]
     (exact⟨lJs (Nat.lt_succ_self _),lQx hlS⟩)
    have hval:∀(i:Nat) (v:Value),items[i]? =some v->∃e,kb[i]? =some e/\v= .ref e.2:=by
     intro i v hv
     rw[<-lQ1,hi,lJq] at hv
     obtain⟨e,e1,e2⟩:=lK2.mp hv
     exact⟨e,e1,e2.symm⟩
    have up:∀b o,s.heap.get? b=some o->((s.heap.push (jV0 w)).push {cls:= .type "list_iterator",data:= .fields #[.ref l,.int 0 0]}).get? b=some o:=fun b o e=>lJk _ (lJk _ e)
    refine qUd (A:=A.in1.in1) ((Walks.list hh3 _ l hneI items).toS) s.heap.objs.size hSf ?hIt kb ?hu (fun e he=>(hk e he).1) hval hsz hus hkus (items.size-0) 0 _ (by omega) (lJy _) ⟨⟨_,lJu _ rfl,rfl,rfl⟩,(hl1.push _)⟩ ?hks ?hS0 ?hR
    case hIt=>
     rintro i s2 o2 ⟨⟨o3,e3,c3,_⟩,_⟩ e2
     rw[e3] at e2;cases e2
     rw[c3];decide
    case hu=>
     show A.in1.in1.in1.units+6<cLine
     rw[lQb,lQb,lQb];omega
    case hks=>
     exact fun e he=>jQb (fun b o e _=>up b o e) (hk e he).2
    case hS0=>
     exact (kZ4 (prog:=prog) (w:=w) rfl (h:=s.heap)).move (fun o e=>lJk _ e) fun b o e _=>lJk _ e
    case hR=>
     intro s' hm hS'
     (obtain⟨h',g',d',tk',os'⟩:=s')
     cases (show g'=s.gens from hm.gens)
     cases (show d'=s.drawn from hm.drawn)
     cases (show os'=s.os from hm.os)
     refine (show wpAny _ _ _ _ _ _ from lJd ?_)
     refine (show wpAny _ _ (ret Value.none) _ _ _ from lJd ⟨rfl,h',tk',rfl,hS',fun b o e=> ?_⟩)
     have hb:=lJi e
     refine hm.heap b o ?_ (up b o e)
     simp only[lJv,lKh,lQk,not_or]
     exact⟨lJs hb,by rw[lXo];exact lJs (Nat.lt_succ_of_lt hb)⟩
   ·cases r₂ with
    | error e=>exact hr₂
    | ok fl₂=>
     cases fl₂ with
     | ret r=>
      (obtain⟨rfl,h',tk,rfl,hS',hk'⟩:=hr₂)
      (repeat (any_goals (first | assumption | wp_step)))
      exact h _ _ hS' hk'
     | _=>exact hr₂.elim
  | _=>exact hr.elim
end
end
namespace Si
theorem own:Manifest.owners.lookup (String.ofList ['r','o','t','a','r','e','t','i','_','t','e','s'].reverse)=some Manifest.sig_set_iterator:=by kernel_rfl
theorem slot_next:Slot "set_iterator" "__next__" "set_iterator.__next__":=
 .of (owner:="set_iterator") (n:="__next__") (by rw[lQ5,lQ6];kernel_rfl) (by decide +kernel) (by decide +kernel) (by decide +kernel) (by first | exact .inl (by decide +kernel) | exact .inr (by decide +kernel)) (by rw[lQ7];kernel_rfl)
theorem entry_next:entryFor table "set_iterator.__next__"=some Builtin.«set_iterator.__next__» :=entryFor_of_tree (by kernel_rfl)
theorem args_next (a:Value):argsOk "set_iterator.__next__" ⟨[a],[]⟩:=by
 unfold argsOk;rw[signature?_of (id:="set_iterator.__next__") (n:=['_','_','t','x','e','n','_','_']) (o:=['r','o','t','a','r','e','t','i','_','t','e','s']) (by kernel_rfl) own];kernel_rfl
theorem entry_iter:entryFor table "set.__iter__"=some Builtin.«frozenset.__iter__» :=entryFor_alias (id':="frozenset.__iter__") (by kernel_rfl) rfl (by decide +kernel) (by kernel_rfl)
theorem slot_iter:Slot "set_iterator" "__iter__" "set_iterator.__iter__":=
 .of (owner:="set_iterator") (n:="__iter__") (by rw[lQ5,lQ6];kernel_rfl) (by decide +kernel) (by decide +kernel) (by decide +kernel) (by first | exact .inl (by decide +kernel) | exact .inr (by decide +kernel)) (by rw[lQ7];kernel_rfl)
theorem entry_it:entryFor table "set_iterator.__iter__"=some Builtin.«dict_keyiterator.__iter__» :=entryFor_alias (id':="dict_keyiterator.__iter__") (by kernel_rfl) rfl (by decide +kernel) (by kernel_rfl)
theorem args_it (a:Value):argsOk "set_iterator.__iter__" ⟨[a],[]⟩:=by
 unfold argsOk;rw[signature?_of (id:="set_iterator.__iter__") (n:=['_','_','r','e','t','i','_','_']) (o:=['r','o','t','a','r','e','t','i','_','t','e','s']) (by kernel_rfl) own];kernel_rfl
end Si
section
variable {prog:Program} {w:World} {A:Around} {E:Value->Shared->Prop} {s:Shared}
theorem SetD.stateB {h0:Heap} {S:Addr} {o:Obj} {arr:Array (Int×Value)} {ep:Nat} {t:SetTable} {es:List (TKey×Addr)} (d:SetD prog w h0 S o arr ep t es) (hg:s.heap.get? S=some o) {Q:(Array (Int×Value)×Nat×SetTable)->Shared->Prop} (h:Q (arr,ep,t) s):wpAny (model prog w) A (setState S) Q E s:=
 wpAny_setState_of hg d.data d.fits h
theorem qVo {S:Addr} {o:Obj} {arr:Array (Int×Value)} {ep:Nat} {t:SetTable} {es:List (TKey×Addr)} (d:SetD prog w s.heap S o arr ep t es) {Q:Value->Shared->Prop}
  (hQ:Q (.ref s.heap.objs.size) {s with heap:=s.heap.push {cls:= .type "set_iterator",data:= .fields #[.int 0 0,.int 0 0,.ref S,.int es.length 0,.int ep 0]} }):wpAny (model prog w) A (pyIter (.ref S)) Q E s:=by
 have hT:s.TypeIs (.ref S) "set":=⟨o,d.get,d.exact_.1⟩
 refine lYe hT PySem.F.slot_set_iter (lKl PySem.F.slot_set_iter hT Si.entry_iter ?_ (PySem.F.args_set_iter_1 _))
 unfold Builtin.«frozenset.__iter__» Builtin.Frozenset.slot0 slotArgs
 (simp only[List.isEmpty_nil,Bool.not_true,lKg,↓reduceIte,bind_assoc,lK9,bne_self_eq_false])
 (unfold Builtin.Frozenset.addrOf Builtin.Frozenset.sizeOf)
 refine lJa (lJd ?_)
 try dsimp only
 refine lJa (lJd ?_)
 simp only[setEntries,setDrawn,bind_assoc]
 refine lJa (d.state ?_)
 refine lJa (lJd (lJa (lJd (lJa (d.state ?_)))))
 dsimp only[setsByText]
 refine lJa (lJa (lXu (lJd (lJa (lJd ?_)))))
 rw[lJb (fun z=> ?_)]
 ·(refine lJa (lJd ?_))
  unfold setEpoch
  refine lJa (lJa (d.state (lJd ?_)))
  refine lJa (lKe (lJd ⟨_,rfl,"set_iterator",_,⟨_,lJu _ rfl,rfl⟩,Si.slot_next.lookup,?_⟩))
  have:=d.size
  simpa[rawInt,this] using hQ
 ·have z':(!(w.params.followText "set-order")&&(!t.plain&&decide (arr.size>1)))=true:=z
  rw[d.plain] at z'
  simp at z'
theorem kKd {α:Type}:∀ {l:List α} {i:Nat} (h:i<l.length),(l[i]::l.eraseIdx i).Perm l
 | a::l,0,_=> .refl _
 | a::l,i+1,h=>by
  have hi:i<l.length:=by simpa using h
  exact (List.Perm.swap _ _ _).trans (List.Perm.cons a (kKd hi))
theorem qJx {α:Type} (next:Nat->Nat):∀(fuel k:Nat) (left:List α) (out:Array α),fuel=left.length->(pickOrder.go next fuel k left out).toList.Perm (out.toList++left)
 | 0,k,left,out,h=>by
  have:left=[]:=List.eq_nil_of_length_eq_zero h.symm
  subst this
  rw[lV4];exact .refl _
 | fuel+1,k,left,out,h=>by
  have hl:next k%left.length<left.length:=lQr _ (by omega)
  unfold pickOrder.go
  rw[lJg hl]
  dsimp only
  refine (qJx next fuel (k+1) _ _ (by rw[List.length_eraseIdx_of_lt hl];omega)).trans ?_
  rw[Array.toList_push,lXy]
  (refine List.Perm.append_left _ ?_)
  rw[List.singleton_append]
  exact kKd hl
theorem qJw {α:Type} (next:Nat->Nat) (xs:Array α):(pickOrder next xs).toList.Perm xs.toList:=by
 have:=qJx next xs.size 0 xs.toList #[] (by simp)
 rw[show (#[]:Array α).toList++xs.toList=xs.toList from rfl] at this
 exact this
def ordS (w:World) (S:Addr) (ep:Nat) (arr:Array (Int×Value)):Array (Int×Value):=if bt w=true then pickOrder (w.params.setOrder S ep) arr else arr
theorem jXr (w:World) (S:Addr) (ep:Nat) (arr:Array (Int×Value)):(ordS w S ep arr).toList.Perm arr.toList:=by
 unfold ordS
 split
 ·exact qJw _ _
 ·exact .refl _
def jVw (w:World) (t:SetTable) (i:Nat):Nat:=if bt w=true then 0 else if i=0 then 0 else t.place.getD (i-1) 0+1
theorem kZm {t:SetTable} {hs:List Int} (g:St.Good t hs) (hb:bt w=false) {i:Nat} (hi:i<=t.place.size):SetTable.below t.place (jVw w t i)=i:=by
 unfold jVw
 rw[hb,lJb (by decide)]
 by_cases c:i=0
 ·subst c;exact St.below_zero g.ris
 ·rw[lJb c,St.getD_at (by omega),St.below_next g.ris (by omega)]
  omega
theorem kJ5 {h0:Heap} {S:Addr} {o:Obj} {arr:Array (Int×Value)} {ep:Nat} {t:SetTable} {es:List (TKey×Addr)} (d:SetD prog w h0 S o arr ep t es) (hg:s.heap.get? S=some o) (hl:t.led= !bt w) {i:Nat} (hi:i<=arr.size) {Q:Option (Value×Nat)->Shared->Prop}
  (hQ:Q (((ordS w S ep arr)[i]?).map fun e=>(e.2,jVw w t (i+1))) s):wpAny (model prog w) A (setNext S (jVw w t i) i ep) Q E s:=by
 have hp:t.place.size=arr.size:=by
  have l:=d.good.len
  unfold hashes at l
  rw[lJe] at l
  rw[l,d.size]
 unfold setNext
 refine lJa (d.stateB hg ?_)
 dsimp only[setsByText]
 (refine lJa (lJa (lXu (lJd ?_))))
 refine (show wpAny _ _ (if bt w=true then _ else _) _ _ _ from ?_)
 cases hb:bt w with
 | true=>
  rw[lJc rfl,lJb (by simp)]
  unfold setWalk
  refine lJa (lJa (d.stateB hg ?_))
  dsimp only[setsByText]
  (refine lJa (lJa (lXu (lJd ?_))))
  refine (show wpAny _ _ (if bt w=true then _ else _) _ _ _ from ?_)
  rw[hb,lJc rfl]
  refine lJa (lXu (lJd (lJd ?_)))
  have e1:jVw w t i=jVw w t (i+1):=by unfold jVw;rw[hb];rfl
  unfold ordS at hQ
  rw[hb,lJc rfl,<-e1] at hQ
  exact hQ
 | false=>
  rw[lJb (by decide)]
  rw[lJb (fun z=> ?_)]
  ·refine lJa (m:=(if (!t.led&& !arr.isEmpty)=true then unsupported "set:maker-not-led" else pure ())) ?_
   rw[hl,hb]
   simp only[Bool.not_false,Bool.not_true,Bool.false_and,lKg,↓reduceIte]
   (refine lJd (lJd ?_))
   rw[kZm d.good hb (by omega)]
   unfold ordS at hQ
   rw[hb,lJb (by decide)] at hQ
   by_cases c:i<arr.size
   ·have hi':i<t.place.size:=by omega
    rw[lQe c,lQe hi']
    rw[lQe c] at hQ
    dsimp only
    have e1:jVw w t (i+1)=t.place[i]+1:=by
     unfold jVw
     rw[hb,lJb (by decide),lJb (by omega),Nat.add_sub_cancel,St.getD_at hi']
    rw[e1] at hQ
    exact hQ
   ·rw[lVv (by omega)]
    rw[lVv (by omega)] at hQ
    exact hQ
  ·have z':(!t.plain&&decide (arr.size>1))=true:=z
   rw[d.plain] at z'
   simp at z'
def kZe (S:Addr) (ep n slot i:Nat):Obj:={cls:= .type "set_iterator",dict:=none,data:= .fields #[.int slot 0,.int i 0,.ref S,.int n 0,.int ep 0],slots:= #[]}
theorem qVb {h0:Heap} {S I:Addr} {o:Obj} {arr:Array (Int×Value)} {ep:Nat} {t:SetTable} {es:List (TKey×Addr)} (d:SetD prog w h0 S o arr ep t es) (hl:t.led= !bt w) (hg:s.heap.get? S=some o) {i:Nat} (hI:s.heap.get? I=some (kZe S ep arr.size (jVw w t i) i)) {e:Int×Value} (he:(ordS w S ep arr)[i]? =some e) {Q:Option Value->Shared->Prop}
  (hQ:∀h',Heap.SameBut I s.heap h'->h'.get? I=some (kZe S ep arr.size (jVw w t (i+1)) (i+1))->Q (some e.2) {s with heap:=h'}):wpAny (model prog w) A (pyNext (.ref I)) Q E s:=by
 have hT:s.TypeIs (.ref I) "set_iterator":=⟨_,hI,rfl⟩
 have hsz:(ordS w S ep arr).size=arr.size:=by rw[<-lKj,(jXr w S ep arr).length_eq,lKj]
 have hi:i<arr.size:=by have:=(lXe.mp he).1;omega
 unfold pyNext
 refine lJa (lQ4 (lQt (name:=Str.ofString "__next__") hT Si.slot_next (lKl Si.slot_next hT Si.entry_next ?_ (Si.args_next _))))
 unfold Builtin.«set_iterator.__next__»
 refine lJa (lJd ?_)
 refine lJa (lXk hI rfl ?_)
 dsimp only
 unfold setEntries
 refine lJa (lJa (d.stateB hg (lJd ?_)))
 dsimp only
 rw[lJb (by simp)]
 simp only[lXd]
 refine lJa (kJ5 d hg hl (lVm hi) ?_)
 rw[he]
 dsimp only[Option.map_some]
 refine lJa (lVk hI (by simp) fun h1 e1 sb1=> ?_)
 refine lJa (lVk (s:={s with heap:=h1}) e1 (by simp) fun h2 e2 sb2=> ?_)
 refine lJd ⟨_,rfl,lJd (hQ h2 (sb1.trans sb2) ?_)⟩
 simpa[rawInt,kZe] using e2
theorem qZw {h0:Heap} {S I:Addr} {o:Obj} {arr:Array (Int×Value)} {ep:Nat} {t:SetTable} {es:List (TKey×Addr)} (d:SetD prog w h0 S o arr ep t es) (hl:t.led= !bt w) (hh:A.handled=none) (hg:s.heap.get? S=some o) (hI:s.heap.get? I=some (kZe S ep arr.size (jVw w t arr.size) arr.size)) {Q:Option Value->Shared->Prop}
  (hQ:∀h',Heap.ExtBut I s.heap h'->Q none {s with heap:=h'}):wpAny (model prog w) A (pyNext (.ref I)) Q E s:=by
 have hT:s.TypeIs (.ref I) "set_iterator":=⟨_,hI,rfl⟩
 have hsz:(ordS w S ep arr).size=arr.size:=by rw[<-lKj,(jXr w S ep arr).length_eq,lKj]
 unfold pyNext
 refine lJa (lQ4 (lQt (name:=Str.ofString "__next__") hT Si.slot_next (lKl Si.slot_next hT Si.entry_next ?_ (Si.args_next _))))
 unfold Builtin.«set_iterator.__next__»
 refine lJa (lJd ?_)
 refine lJa (lXk hI rfl ?_)
 dsimp only
 unfold setEntries
 refine lJa (lJa (d.stateB hg (lJd ?_)))
 dsimp only
 rw[lJb (by simp)]
 simp only[lXd]
 refine lJa (kJ5 d hg hl (lJh _) ?_)
 rw[lVv (by omega)]
 dsimp only[Option.map_none]
 refine lJa (lVk hI (by simp) fun h1 e1 sb1=> ?_)
 refine (show wpAny _ _ (newExc (.type "StopIteration") [] >>= _) _ _ _ from lJa ?_)
 simp only[newExc,newTuple];refine lJa (lKe ?_ (by size_fits));refine lJa (m:=firstArgMember _ _) (lKq (a:=Value.none) (by first | rfl | (simp only[firstArgMember];rfl)) (lKe ?_ (by size_fits)))
 simp only[raiseNew];refine lJa (wpAny_handled ?_);rw[show A.in1.handled=none from hh];refine lJa (lJd (wpAny_throw ?_))
 exact lJa (lVg (T:="StopIteration") (b:=true) ⟨_,lJu _ rfl,rfl⟩ isSubtype_stop (lJd (hQ _ ((sb1.extBut.push _).push _))))
theorem kZs {h0:Heap} {S I:Addr} {o:Obj} {arr:Array (Int×Value)} {ep:Nat} {t:SetTable} {es:List (TKey×Addr)} (d:SetD prog w h0 S o arr ep t es) (hl:t.led= !bt w) (hh:A.handled=none) (hIS:I≠S):
  WalksS prog w A I [I,S] [I] (fun a b=>b=a) arr.size (fun i v=>((ordS w S ep arr)[i]?).map (·.2)=some v) (fun i s=>s.heap.get? S=some o/\s.heap.get? I=some (kZe S ep arr.size (jVw w t i) i)) where
 sub:=fun b hb=>by rw[lJz.mp hb];exact lJ1 ..
 grefl:=fun _=>rfl
 gtrans:=fun _ _ _ h1 h2=>(h2.trans h1)
 frame:=fun i s h' _ st _ hk=>⟨hk S (by simp) _ st.1,hk I (by simp) _ st.2⟩
 item:=by
  intro i s Q E hi st hQ
  have hsz:(ordS w S ep arr).size=arr.size:=by rw[<-lKj,(jXr w S ep arr).length_eq,lKj]
  refine qVb d hl st.1 st.2 (e:=(ordS w S ep arr)[i]) (lQe (by omega)) fun h' sb e=> ?_
  refine hQ _ _ (by rw[lQe (by omega)];rfl) ⟨(sb.2 S (fun z=>hIS z.symm)).trans st.1,e⟩ ⟨fun b ob hb e=> ?_,rfl,rfl,rfl,lJh _⟩
  exact (sb.2 b (fun z=>hb (lJz.mpr z))).trans e
 done:=by
  intro s Q E st hQ
  refine qZw d hl hh st.1 st.2 fun h' eb=>hQ _ ⟨fun b ob hb e=> ?_,rfl,rfl,rfl,lJh _⟩
  exact eb b ob (fun z=>hb (lJz.mpr z)) e
 self:=by
  intro i s Q E st hQ
  have hT:s.TypeIs (.ref I) "set_iterator":=⟨_,st.2,rfl⟩
  refine lYe hT Si.slot_iter (lKl Si.slot_iter hT Si.entry_it ?_ (Si.args_it _))
  exact (show wpAny _ _ (ret (.ref I)) _ _ s from lJd ⟨_,rfl,"set_iterator",_,hT,Si.slot_next.lookup,hQ⟩)
theorem qVu {S:Addr} {o:Obj} (hg:s.heap.get? S=some o) (hc:o.cls= .type "set") {Q:Bool->Shared->Prop} (h:Q false s):wpAny (model prog w) A (Builtin.List.listLengthHint (.ref S)) Q E s:=by
 have hT:s.TypeIs (.ref S) "set":=⟨o,hg,hc⟩
 (unfold Builtin.List.listLengthHint)
 refine lJa (lQ3 hT PySem.F.slot_set_len.lookup ?_)
 generalize hn:("set.__len__":String)=nm
 wp_delta
 rw[show splitId nm=some ("set","__len__") by subst hn;decide +kernel];subst hn
 refine lJa (lVg (T:="set") (b:=true) hT (by rw[lQ7];kernel_rfl) (lXl (fun z=>absurd z (by decide)) fun _=> ?_))
 refine lXl (fun _=> ?_) fun z=>absurd (by decide +kernel) z
 exact lJa (lVi hT (lJd h))
theorem kZj {R:Result->Shared->Prop} {S L:Addr} {o:Obj} {arr:Array (Int×Value)} {ep:Nat} {t:SetTable} {es:List (TKey×Addr)} (d:SetD prog w s.heap S o arr ep t es) (hl:t.led= !bt w) (hh:A.handled=none) (res:Value) (c0:Nat)
  (hL:s.heap.get? L=some {cls:= .type "list",data:= .seq #[] c0}) (hLS:L≠S)
  (hR:∀(g:Heap) (tk:Nat) (acc:Array Value) (c':Nat),(∀b ob,b≠L->s.heap.get? b=some ob->g.get? b=some ob)->g.get? L=some {cls:= .type "list",dict:=none,data:= .seq acc c',slots:= #[]}->ItemsOf (fun i v=>((ordS w S ep arr)[i]?).map (·.2)=some v) acc arr.size->R (.ok (.ret res)) {s with heap:=g,toks:=tk}):
  wpAny (model prog w) A.in1 (Builtin.List.listExtendWith (.ref L) (.ref S) res) (fun fin z=>match fin with | .done f=>R (.ok f) z | .again c'=>c'.quiet=true/\codeAny (model prog w) A c' R z) (fun e z=>R (.error e) z) s:=by
 have hT:s.TypeIs (.ref S) "set":=⟨o,d.get,d.exact_.1⟩
 have hIS:s.heap.objs.size≠S:=lQx (lJi d.get)
 have hIL:L≠s.heap.objs.size:=lJs (lJi hL)
 have hSf:L∉[s.heap.objs.size,S]:=by simp[hIL,hLS]
 have asz:arr.size<=sizeLine:=by
  rw[d.size,lKi]
  rcases d.mask with ⟨_,z⟩ | ⟨_,z⟩ | ⟨_,z⟩<;>omega
 (unfold Builtin.List.listExtendWith)
 (refine lJa (lVi hT ?_))
 have z1:Builtin.List.listSameRef (.ref L) (.ref S)=false:=by simp[Builtin.List.listSameRef,hLS]
 have z2:(Value.type "set" == Value.type "list")=false:=by decide
 have z3:(Value.type "set" == Value.type "tuple")=false:=by decide
 simp only[z1,z2,z3,Bool.or_false,lKg,lJ3]
 refine lJa (qVo d ?_)
 refine lJa (lKy (qVu (o:=o) (lJk _ d.get) d.exact_.1 ?_))
 refine lXl (fun _=> ?_) fun z=>absurd (by decide +kernel) z
 refine lJa (lVj ?_)
 generalize hg1:s.heap.push {cls:=Value.type "set_iterator",data:=Data.fields #[Value.int 0 0,Value.int 0 0,Value.ref S,Value.int (es.length:Int) 0,Value.int (ep:Int) 0]}=h1
 have hI1:h1.get? s.heap.objs.size=some (kZe S ep arr.size (jVw w t 0) 0):=by
  rw[<-hg1,d.size,show jVw w t 0=0 by unfold jVw;split<;>rfl]
  exact lJu _ rfl
 have up:∀b ob,s.heap.get? b=some ob->h1.get? b=some ob:=fun b ob e=>by rw[<-hg1];exact lJk _ e
 have hL1:=up L _ hL
 refine lJa ?_
 refine (show wpAny _ A.in1 (updateSeq L (·.push .none) >>= fun _=>updateSeq L (·.pop)) _ _ {s with heap:=h1} from ?_)
 refine lJa (wpAny_updateSeq hL1 rfl ?_)
 have hL2:=lQn (Obj.mapSeq (·.push Value.none)) hL1 rfl
 refine wpAny_updateSeq (s:={s with heap:=h1.update L (Obj.mapSeq (·.push Value.none))}) hL2 rfl ?_
 have hL3:=lQn (Obj.mapSeq (·.pop)) hL2 rfl
 have oth:∀b ob,b≠L->h1.get? b=some ob->((h1.update L (Obj.mapSeq (·.push Value.none))).update L (Obj.mapSeq (·.pop))).get? b=some ob:=
  fun b ob hb e=>(lV9 _ _ (Ne.symm hb)).trans ((lV9 _ _ (Ne.symm hb)).trans e)
 refine lJd ⟨lQv F.plain_extend_loop _,?_⟩
 refine codeAny_extend_loopS (kZs (A:=A.in1) d hl hh hIS) asz L hSf res arr.size 0 _ #[] _ rfl (lJy _) ⟨oth S o (Ne.symm hLS) (up S o d.get),oth _ _ (Ne.symm hIL) hI1⟩ hL3 (ItemsOf.nil _) fun z acc c' hm hL' hacc=> ?_
 rw[Moved.eq_with hm]
 refine hR z.heap z.toks acc c' (fun b ob hb e=>hm.heap b ob ?_ (oth b ob hb (up b ob e))) hL' hacc
 simp only[lJv,lKh,lQk,not_or]
 exact⟨hb,lJs (lJi e)⟩
theorem kV2 {S:Addr} {o:Obj} {arr:Array (Int×Value)} {ep:Nat} {t:SetTable} {es:List (TKey×Addr)} (d:SetD prog w s.heap S o arr ep t es) (hl:t.led= !bt w) (hh:A.handled=none) {Q:List Value->Shared->Prop}
  (hQ:∀(g:Heap) (tk:Nat) (acc:List Value),(∀b ob,s.heap.get? b=some ob->g.get? b=some ob)->s.heap.objs.size<g.objs.size->acc.Perm (es.map fun e=> .ref e.2)->Q acc {s with heap:=g,toks:=tk}):wpAny (model prog w) A (collect (.ref S)) Q E s:=by
 have hLS:s.heap.objs.size≠S:=lQx (lJi d.get)
 have key:∀R:Result->Shared->Prop,(∀(g:Heap) (tk:Nat) (acc:Array Value) (c':Nat),(∀b ob,s.heap.get? b=some ob->g.get? b=some ob)->g.get? s.heap.objs.size=some {cls:= .type "list",dict:=none,data:= .seq acc c',slots:= #[]}->ItemsOf (fun i v=>((ordS w S ep arr)[i]?).map (·.2)=some v) acc arr.size->R (.ok (.ret (.ref s.heap.objs.size))) {s with heap:=g,toks:=tk})->
   codeAny (model prog w) A (.builtin "proto.collect" ⟨[.ref S],[]⟩) R s:=by
  intro R hR
  refine lQu F.entry_proto_collect ?_
  (rw[lQ2 F.plain_proto_collect _])
  refine (show wpAny _ A.in1 (newList [] >>= fun l=>again (.builtin "list.__iadd__" ⟨[l,.ref S],[]⟩)) _ _ s from lJa (lKe (lJd ⟨lQv lX6 _,lQu F.entry_list_iadd ?_⟩)))
  (rw[lQ2 lX6 _])
  have hS1:(s.heap.push {cls:= .type "list",data:= .seq ([]:List Value).toArray}).get? s.heap.objs.size=some {cls:= .type "list",data:= .seq ([]:List Value).toArray}:=lJu _ rfl
  have d1:SetD prog w (s.heap.push {cls:= .type "list",data:= .seq ([]:List Value).toArray}) S o arr ep t es:=d.move (lJk _ d.get) fun b ob e _=>lJk _ e
  exact kZj (A:=A) (R:=R) (s:={s with heap:=s.heap.push {cls:= .type "list",data:= .seq ([]:List Value).toArray} }) d1 hl hh (.ref s.heap.objs.size) 0 hS1 hLS fun g tk acc c' kp hL' hacc=>hR g tk acc c' (fun b ob e=>kp b ob (lJs (lJi e)) (lJk _ e)) hL' hacc
 unfold collect
 refine lJa (wpAny_runValue (key _ fun g tk acc c' kp hL' hacc=>(show wpAny _ A (load s.heap.objs.size >>= _) _ _ _ from lJa (wpAny_load hL' (lJd (hQ g tk acc.toList kp (lJi hL') ?_))))))
 have e1:acc.toList=(ordS w S ep arr).toList.map (·.2):=by
  have hsz:(ordS w S ep arr).size=arr.size:=by rw[<-lKj,(jXr w S ep arr).length_eq,lKj]
  apply lK8
  intro i
  rw[lJq,lQ1,lQ1]
  by_cases hi:i<acc.size
  ·have:=hacc.2 i acc[i] (lQe hi)
   rw[lQe hi]
   exact this.symm
  ·rw[lVv (by omega),lVv (by rw[hsz,<-hacc.1];omega)]
   rfl
 rw[e1]
 refine ((jXr w S ep arr).map _).trans ?_
 rw[d.arr_,lJx]
 exact .refl _
end
end L3
namespace L3
open PySem PySem.Spec PyProof.Rows L2
noncomputable def lexLt {K:Type} [DecidableEq K] (lt:K->K->Option Bool):List K->List K->Option Bool
 | [],[]=>some false
 | [],_::_=>some true
 | _::_,[]=>some false
 | x::xs,y::ys=>if x=y then lexLt lt xs ys else lt x y
def ltI:Key->Key->Option Bool
 | .inl i,.inl j=>some (decide (i<j))
 | _,_=>none
def ltS {K:Type} [DecidableEq K] (lt:K->K->Option Bool):Key ⊕ List K->Key ⊕ List K->Option Bool
 | .inl x,.inl y=>ltI x y
 | .inr x,.inr y=>lexLt lt x y
 | _,_=>none
def ltK:TKey->TKey->Option Bool:=lexLt (ltS (ltS ltI))
section
variable {prog:Program} {w:World} {K:Type} [DecidableEq K] {c:Nat}
def LtV (V:KeyV prog w K c) (lt:K->K->Option Bool):Prop:=∀ {A:Around} {E:Value->Shared->Prop} {s:Shared} {x y:K} {u v:Value} {b:Bool} {Q:Value->Shared->Prop},A.units+c<cLine->V.is s.heap x u->V.is s.heap y v->lt x y=some b->Q (.bool b) s->wpAny (model prog w) A (compareOp .Lt u v) Q E s
theorem qKi:LtV (jYo prog w) ltI:=by
 intro A E s x y u v b Q _ hx hy hl h
 rcases jJu (show jXa x u=true from hx) with ⟨i,t,rfl,rfl⟩ | ⟨i,t,rfl,rfl⟩
 ·rcases jJu (show jXa y v=true from hy) with ⟨j,t',rfl,rfl⟩ | ⟨j,t',rfl,rfl⟩
  ·cases hl
   exact PyProof.Rows.lt_int h
  ·cases hl
 ·cases hl
open PySem.SeqAt in
open PySem.AutoSeq1 (wpAny_loadPart') in
open PySem.MeetsSeq PySem.MeetsSeq2 PySem.MeetsSeq3 in
theorem lt_tup {V:KeyV prog w K c} {lt:K->K->Option Bool} (hV:LtV V lt):LtV (jUh V) (lexLt lt):=by
 rintro A E s x y u v b Q hu ⟨a1,o1,its1,n1,rfl,ho1,hc1,hd1,hi1⟩ ⟨a2,o2,its2,n2,rfl,ho2,hc2,hd2,hi2⟩ hl h
 obtain⟨cls,dd,data,sl⟩:=o1
 obtain⟨cls2,dd2,data2,sl2⟩:=o2
 simp only at hc1 hd1 hc2 hd2
 subst hc1 hd1 hc2 hd2
 have hT1:s.TypeIs (.ref a1) "tuple":=⟨_,ho1,rfl⟩
 have hT2:s.TypeIs (.ref a2) "tuple":=⟨_,ho2,rfl⟩
 refine (show wpAny _ _ (richCompare .Lt (.ref a1) (.ref a2)) _ _ s from wpAny_richCompare_same_room hT1 hT2 PySem.F.slot_tuple_lt (lKl PySem.F.slot_tuple_lt hT1 PySem.F.entry_tuple_lt ?_ (PySem.F.args_tuple_lt_2 _ _)) (by omega))
 have f2:=AutoSeq1.sub_tuple_tuple
 (obtain⟨hp,g,d,tk,os⟩:=s)
 have z1:its1.size=x.length:=by rw[hi1.length];simp
 have z2:its2.size=y.length:=by rw[hi2.length];simp
 wp_walk using wpAny_loadPart' ho1,wpAny_loadPart' ho2,wpAny_forIn_list _ (fun rest bb s'=>bb.1=none/\s'=⟨hp,g,d,tk,os⟩/\∃(vs ws:List Value) (x' y':List K),rest=vs.zip ws/\ItemsV V hp x' vs/\ItemsV V hp y' ws/\x'.length+its2.size=y'.length+its1.size/\lexLt lt x' y'=some b) _
 case turn=>
  rintro⟨p,q⟩ rest bb s' ⟨hb',rfl,vs,ws,x',y',hz,hv1,hv2,hlen,hR⟩
  cases hv1 with
  | nil=>rw[List.zip_nil_left] at hz;cases hz
  | @cons k1 v1 ks1 vs1 h1 hv1'=>
   cases hv2 with
   | nil=>rw[List.zip_nil_right] at hz;cases hz
   | @cons k2 v2 ks2 vs2 h2 hv2'=>
    rw[lXc] at hz
    injection hz with hyx hrest
    injection hyx with hy hx
    subst hy hx
    simp only[lJ5] at hlen
    have he:=V.eqAt (A:=A.in1) (s:=⟨hp,g,d,tk,os⟩) (by rw[lQb];omega) h1 h2
    refine lJa (he prog w _ _ ?_)
    by_cases e:k1=k2
    ·have hR':lexLt lt ks1 ks2=some b:=by
      have:=hR
      unfold lexLt at this
      rw[lJc e] at this;exact this
     rw[lJn e]
     wp_walk
     exact⟨rfl,rfl,_,_,_,_,hrest,hv1',hv2',by omega,hR'⟩
    ·have hR':lt k1 k2=some b:=by
      have:=hR
      unfold lexLt at this
      rw[lJb e] at this;exact this
     rw[lJo e]
     have hri:∀ {Q':Value->Shared->Prop} {E':Value->Shared->Prop},Q' (.bool b) ⟨hp,g,d,tk,os⟩->wpAny (model prog w) A.in1 (richCompare .Lt p q) Q' E' ⟨hp,g,d,tk,os⟩:=fun hq=>(hV (A:=A.in1) (s:=⟨hp,g,d,tk,os⟩) (by rw[lQb];omega) h1 h2 hR' hq:wpAny (model prog w) A.in1 (compareOp .Lt p q) _ _ _)
     wp_walk using hri
     exact⟨_,rfl,(fun z=>nomatch z),h⟩
 case fin=>
  rintro⟨b1,b2⟩ s' ⟨hb',rfl,vs,ws,x',y',hz,hv1,hv2,hlen,hR⟩
  simp only at hb'
  subst hb'
  have hv:b=decide (its1.size<its2.size):=by
   cases hv1 with
   | nil=>
    cases hv2 with
    | nil=>simp only[lK9] at hlen;cases hR;exact (lJo (by omega)).symm
    | cons _ _=>simp only[lK9,lJ5] at hlen;cases hR;exact (lJn (by omega)).symm
   | cons _ hv1'=>
    cases hv2 with
    | nil=>simp only[lK9,lJ5] at hlen;cases hR;exact (lJo (by omega)).symm
    | cons _ _=>rw[lXc] at hz;cases hz
  wp_walk
  refine⟨_,rfl,(fun z=>nomatch z),?_⟩
  simpa[Builtin.Tuple.tupleCompareSizes,<-hv] using h
 case h=>
  exact⟨rfl,rfl,its1.toList,its2.toList,x,y,rfl,hi1,hi2,by omega,hl⟩
theorem qX7 {V:KeyV prog w K c} {lt:K->K->Option Bool} (hV:LtV V lt):LtV (kYo V) (ltS lt):=by
 rintro A E s (x | x) (y | y) u v b Q hu hx hy hl h
 ·exact qKi (by omega) hx hy hl h
 ·cases hl
 ·cases hl
 ·exact lt_tup hV hu hx hy hl h
end
end L3
namespace L3
open PySem PySem.Spec PyProof.Rows L2 PySem.W
def Rn {α:Type} (n:Nat) (lt:Nat->Nat->Bool):KasT α->(α->Prop)->Prop
 | .ret a,Q=>Q a
 | .ask i j k,Q=>i<n/\j<n/\Rn n lt (k (lt i j)) Q
theorem Rn.mono {α:Type} {n:Nat} {lt:Nat->Nat->Bool} {Q Q':α->Prop} (hq:∀a,Q a->Q' a):∀ {t:KasT α},Rn n lt t Q->Rn n lt t Q'
 | .ret a,h=>hq a h
 | .ask i j k,h=>⟨h.1,h.2.1,Rn.mono hq (t:=k (lt i j)) h.2.2⟩
theorem Rn.bind {α β:Type} {n:Nat} {lt:Nat->Nat->Bool} {f:α->KasT β} {Q:β->Prop}:∀ {t:KasT α},Rn n lt t (fun a=>Rn n lt (f a) Q)->Rn n lt (t.bind f) Q
 | .ret a,h=>h
 | .ask i j k,h=>⟨h.1,h.2.1,Rn.bind (t:=k (lt i j)) h.2.2⟩
theorem Rn.wp {α:Type} {n:Nat} {lt:Nat->Nat->Bool} {cmp:Nat->Nat->(Bool->Shared->Prop)->Shared->Prop} {s:Shared} {Q:α->Prop} {R:α->Shared->Prop} (hc:∀i j C,i<n->j<n->C (lt i j) s->cmp i j C s) (hr:∀a,Q a->R a s):∀ {t:KasT α},Rn n lt t Q->t.kasWp cmp R s
 | .ret a,h=>hr a h
 | .ask i j k,h=>hc i j _ h.1 h.2.1 (Rn.wp hc hr (t:=k (lt i j)) h.2.2)
section
variable {n:Nat} {lt:Nat->Nat->Bool}
def Pm (n:Nat) (p:Array Nat):Prop:=p.toList.Perm (List.range n)
theorem Pm.bd {p:Array Nat} (h:Pm n p) (hn:0<n) (i:Nat):p.getD i 0<n:=by
 by_cases c:i<p.size
 ·have e:p.getD i 0=p[i]:=by simp[Array.getD,c]
  rw[e]
  have:p[i]∈List.range n:=h.mem_iff.mp (by simp)
  exact lJ0.mp this
 ·have e:p.getD i 0=0:=by simp[Array.getD,c]
  rw[e];exact hn
theorem Pm.rev {p:Array Nat} (h:Pm n p) (i j:Nat):Pm n (kas_rev p i j):=(Array.perm_iff_toList_perm.mp (mirror_perm p i j _)).trans h
theorem Pm.bub {p:Array Nat} (h:Pm n p) (i j:Nat):Pm n (bubble p i j):=(Array.perm_iff_toList_perm.mp (bubble_perm p i j)).trans h
theorem qQx {p:Array Nat} (hp:Pm n p) (hn:0<n):∀(f a:Nat),Rn n lt (kas_asc p f a) (fun _=>True)
 | 0,_=>True.intro
 | f+1,a=>by
  refine⟨hp.bd hn _,hp.bd hn _,?_⟩
  dsimp only
  split
  ·exact True.intro
  ·exact qQx hp hn f (a+1)
theorem kQf (hn:0<n):∀(f:Nat) (p:Array Nat) (a q:Nat),Pm n p->Rn n lt (kas_desc f p a q) (fun r=>Pm n r.1)
 | 0,_,_,_,hp=>hp
 | f+1,p,a,q,hp=>by
  refine⟨hp.bd hn _,hp.bd hn _,?_⟩
  dsimp only
  split
  ·split
   ·exact kQf hn f _ _ _ (hp.rev _ _)
   ·exact kQf hn f p _ _ hp
  ·refine⟨hp.bd hn _,hp.bd hn _,?_⟩
   dsimp only
   split
   ·exact hp
   ·exact kQf hn f p _ _ hp
theorem kZx {p:Array Nat} (hp:Pm n p) (hn:0<n) (m:Nat):Rn n lt (kas_tail3 m n p) (fun r=>Pm n r.2):=by
 unfold kas_tail3
 exact Rn.bind ((qQx (hp.rev 0 m) hn _ _).mono fun _ _=>hp.rev 0 m)
theorem qJy {p:Array Nat} (hp:Pm n p) (hn:0<n) (m:Nat):Rn n lt (kas_descPart m n p) (fun r=>Pm n r.2):=by
 unfold kas_descPart
 refine Rn.bind ((kQf hn _ p _ 0 hp).mono fun r hr=> ?_)
 split
 ·exact kZx (hr.rev _ _) hn _
 ·exact kZx hr hn _
theorem qV4 {p:Array Nat} (hp:Pm n p) (hn:0<n):Rn n lt (kas_count n p) (fun r=>Pm n r.2):=by
 unfold kas_count
 refine Rn.bind ((qQx hp hn _ _).mono fun m _=> ?_)
 split
 ·exact hp
 ·split
  ·refine⟨hp.bd hn _,hp.bd hn _,?_⟩
   dsimp only
   split
   ·exact hp
   ·exact qJy (hp.rev _ _) hn m
  ·exact qJy hp hn m
theorem kK7 {p:Array Nat} (hp:Pm n p) (hn:0<n) (k:Nat):∀(f l r:Nat),Rn n lt (kas_place p k f l r) (fun _=>True)
 | 0,_,_=>True.intro
 | f+1,l,r=>by
  unfold kas_place
  split
  ·exact True.intro
  ·refine⟨hp.bd hn _,hp.bd hn _,?_⟩
   dsimp only
   split
   ·exact kK7 hp hn k f _ _
   ·exact kK7 hp hn k f _ _
theorem qYa (hn:0<n):∀(f:Nat) (p:Array Nat) (k:Nat),Pm n p->Rn n lt (kas_bin f p k) (Pm n)
 | 0,_,_,hp=>hp
 | f+1,p,k,hp=>by
  unfold kas_bin
  exact Rn.bind ((kK7 hp hn k _ _ _).mono fun l _=>qYa hn f _ (k+1) (hp.bub k (k-l)))
theorem qYl (hn:0<n):Rn n lt (kas_sort n) (Pm n):=by
 unfold kas_sort
 refine Rn.bind ((qV4 (List.Perm.refl _) hn).mono fun r hr=> ?_)
 split
 ·exact qYa hn _ _ _ hr
 ·exact hr
end
def kUc:TKey->Bool->Prop
 | .inl _::_,b=>b=true
 | .inr _::_,b=>b=false
 | [],_=>False
section
variable {prog:Program} {w:World} {A:Around} {E:Value->Shared->Prop} {s:Shared}
theorem qKp {Q:Bool->Shared->Prop} {b:Bool} {n1 n2:Nat} {c:Bool} (hu:A.units+6<cLine) (hq:Q c s):∀(i:Nat) (x y:TKey) (vs ws:List Value),ItemsV (vk2 prog w) s.heap x vs->ItemsV (vk2 prog w) s.heap y ws->x.length+n2=y.length+n1->lexLt (ltS (ltS ltI)) x y=some c->((b&&i == 0)=true->(∀k,k∈x->i=0->x.head? =some k->∃z,k= .inl z)/\(∀k,k∈y->i=0->y.head? =some k->∃z,k= .inl z))->
  KatLex prog w A b (decide (n1<n2)) Q (vs.zip ws) i s:=by
 intro i x y vs ws hx
 induction hx generalizing i y ws with
 | nil=>
  intro hy hn hl _
  cases hy with
  | nil=>
   simp only[lK9] at hn
   cases hl
   refine kat_nil ?_
   rw[lJo (by omega)];exact hq
  | cons _ _=>
   simp only[lK9,lJ5] at hn
   cases hl
   refine kat_nil ?_
   rw[lJn (by omega)];exact hq
 | @cons k1 v1 ks1 vs1 h1 t1 ih=>
  intro hy hn hl hb
  cases hy with
  | nil=>
   simp only[lK9,lJ5] at hn
   cases hl
   refine kat_nil ?_
   rw[lJo (by omega)];exact hq
  | @cons k2 v2 ks2 vs2 h2 t2=>
   simp only[lJ5] at hn
   rw[lXc]
   refine kat_cons (((vk2 prog w).eqAt (by omega) h1 h2) prog w _ _ ?_)
   unfold lexLt at hl
   by_cases e:k1=k2
   ·rw[lJc e] at hl
    rw[lJn e]
    refine kat_yes (ih (i+1) _ _ t2 (by omega) hl fun z=> ?_)
    simp at z
   ·rw[lJb e] at hl
    rw[lJo e]
    refine kat_no ?_
    cases q:(b&&i == 0) with
    | false=>exact kat_one _ _ (qX7 (qX7 qKi) (by omega) h1 h2 hl hq)
    | true=>
     have hi:i=0:=by simp at q;exact q.2
     obtain⟨z1,z2⟩:=hb q
     obtain⟨a,rfl⟩:=z1 k1 (lJ1 ..) hi rfl
     obtain⟨a',rfl⟩:=z2 k2 (lJ1 ..) hi rfl
     rcases jJu (show jXa a v1=true from h1) with ⟨p,t,rfl,rfl⟩ | ⟨p,t,rfl,rfl⟩
     ·rcases jJu (show jXa a' v2=true from h2) with ⟨p',t',rfl,rfl⟩ | ⟨p',t',rfl,rfl⟩
      ·cases hl
       exact oneLt_int hq
      ·cases hl
     ·cases hl
theorem ask_ok {b:Bool} {x y:TKey} {a1 a2:Addr} {c:Bool} {Q:Bool->Shared->Prop} (hu:A.units+6<cLine) (h1:(jJg prog w).is s.heap x a1) (h2:(jJg prog w).is s.heap y a2) (hl:ltK x y=some c) (hx:kUc x b) (hy:kUc y b) (hq:Q c s):wpAny (model prog w) A (keyLt' (tuples' b) (.ref a1) (.ref a2)) Q E s:=by
 obtain⟨p1,o1,its1,n1,e1,ho1,hc1,hd1,hi1⟩:=(show kJp _ _ _ _ from h1)
 obtain⟨p2,o2,its2,n2,e2,ho2,hc2,hd2,hi2⟩:=(show kJp _ _ _ _ from h2)
 cases e1;cases e2
 refine kat_lt ho1 hd1 ho2 hd2 (qKp hu hq 0 x y _ _ hi1 hi2 ?_ hl fun z=> ?_)
 ·have l1:=hi1.length
  have l2:=hi2.length
  simp at l1 l2
  omega
 ·have hb:b=true:=by simpa using z
  subst hb
  refine⟨fun k _ _ hk=> ?_,fun k _ _ hk=> ?_⟩
  ·match x,hx,hk with
   | .inl u::_,_,e=>cases e;exact⟨u,rfl⟩
  ·match y,hy,hk with
   | .inl u::_,_,e=>cases e;exact⟨u,rfl⟩
def tyOf (b:Bool):Value:=if b=true then .type "int" else .type "tuple"
theorem kQ9 {b:Bool}:∀(es:List (TKey×Addr)),(∀e,e∈es->(jJg prog w).is s.heap e.1 e.2/\kUc e.1 b/\intT e.1=true)->∃fs,KatTups s.heap (es.map fun e=> .ref e.2) fs/\fs.length=es.length/\∀v,v∈fs->Looks (model prog w) s.heap (typeOf v) (tyOf b)
 | [],_=>⟨[],.nil,rfl,fun v hv=>absurd hv (lKh)⟩
 | (k,a)::es,h=>by
  obtain⟨fs,t,l,hf⟩:=kQ9 es fun e he=>h e (lJ2 _ he)
  obtain⟨h1,h2,h3⟩:=h (k,a) (lJ1 ..)
  obtain⟨p1,o1,its1,n1,e1,ho1,hc1,hd1,hi1⟩:=(show kJp _ _ _ _ from h1)
  cases e1
  match k,h2,h3,hi1 with
  | .inl u::ks,hb,h3,hi=>
   cases (show b=true from hb)
   generalize hits:its1.toList=its at hi
   cases hi with
   | @cons _ v _ vs hv ht=>
    refine⟨v::fs,.cons ho1 hc1 hd1 (by rw[<-lQ1,hits];rfl) t,by simp[l],fun x hx=> ?_⟩
    (rcases lJv.mp hx with rfl | hx)
    ·rcases jJu (show jXa u x=true from hv) with ⟨i,tk,_,rfl⟩ | ⟨i,tk,rfl,rfl⟩
     ·exact Looks.of_pure rfl
     ·simp[intT,intS,intK] at h3
    ·exact hf x hx
  | .inr u::ks,hb,h3,hi=>
   cases (show b=false from hb)
   generalize hits:its1.toList=its at hi
   cases hi with
   | @cons _ v _ vs hv ht=>
    obtain⟨p2,o2,its2,n2,e2,ho2,hc2,hd2,hi2⟩:=(show kJp _ _ u v from hv)
    subst e2
    refine⟨.ref p2::fs,.cons ho1 hc1 hd1 (by rw[<-lQ1,hits];rfl) t,by simp[l],fun x hx=> ?_⟩
    (rcases lJv.mp hx with rfl | hx)
    ·have:=(Looks.ld (M:=model prog w) (part:=none) ho2).andThen (f:=fun o=>pure o.cls) .now
     rw[hc2] at this
     exact this
    ·exact hf x hx
theorem qZh {b:Bool} {es:List (TKey×Addr)} (h:∀e,e∈es->(jJg prog w).is s.heap e.1 e.2/\kUc e.1 b/\intT e.1=true) (hne:0<es.length) {Q:SortKind->Shared->Prop} (hq:Q (tuples' b) s):wpAny (model prog w) A (keyKind' (List.toArray (es.map fun e=>Value.ref e.2))) Q E s:=by
 obtain⟨fs,t,l,hf⟩:=kQ9 es h
 refine kat_kind (T:=tyOf b) t (by omega) hf (by cases b<;>decide) ?_
 rw[show (tyOf b != Value.type "tuple")=b by cases b<;>decide]
 exact hq
theorem kZ2 {a n:Nat} {b:Bool} {es:List (TKey×Addr)} (ho:s.heap.get? a=some (seqObj "list" (List.toArray (es.map fun e=>Value.ref e.2)) n)) (hu:A.units+6<cLine) (h:∀e,e∈es->(jJg prog w).is s.heap e.1 e.2/\kUc e.1 b/\intT e.1=true) (hlt:∀e,e∈es->∀e',e'∈es->(ltK e.1 e'.1).isSome=true) (h64:es.length<64) {P:PySem.Fin->Shared->Prop}
  (k:∀(es':List (TKey×Addr)) (h':Heap) (c:Nat),es'.Perm es->h'.get? a=some (seqObj "list" (List.toArray (es'.map fun e=>Value.ref e.2)) c)->(∀p o,p≠a->s.heap.get? p=some o->h'.get? p=some o)->P (.done (.ret .none)) {s with heap:=h'}):wpAny (model prog w) A (Builtin.«list.sort» ⟨[.ref a],[]⟩) P E s:=by
 (have ha:a<s.heap.objs.size:=lJi ho)
 have hlen:(es.map fun e=>Value.ref e.2).length=es.length:=lJe ..
 rw[list_sort_plain]
 (refine lJa (listItems_at ho rfl ?_))
 refine lJa (listUpdate_at ho rfl ?_ (by rw[lJw,hlen,lKi];omega) (lJy _))
 (obtain⟨e1,ho1⟩:∃e1,(s.heap.update a (Obj.mapSeq fun _=>(#[]:Array Value))).get? a=some (seqObj "list" #[] e1):=⟨_,get?_update_seq ho fun _=> #[]⟩)
 (refine lJa (seqEpoch_at ho1 rfl ?_))
 refine lJa (wpAny_newTuple ?_ (by show (es.map fun e=>Value.ref e.2).length<=_;rw[hlen,lKi];omega))
 (refine lJa (wpAny_newList ?_ (lJy _)))
 refine lKy ?_
 generalize hg:((s.heap.update a (Obj.mapSeq fun _=>(#[]:Array Value))).push (seqObj "tuple" (List.toArray (es.map fun e=>Value.ref e.2)) 0)).push (seqObj "list" #[] 0)=h1
 refine (show wpAny (model prog w) A _ P E {s with heap:=h1} from ?_)
 have oth:∀p o,p≠a->s.heap.get? p=some o->h1.get? p=some o:=by
  intro p o hp e
  rw[<-hg]
  exact lJk _ (lJk _ ((lX7 _ _ _ _ hp).trans e))
 have ho6:h1.get? a=some (seqObj "list" #[] e1):=by
  rw[<-hg]
  exact lJk _ (lJk _ ho1)
 have tk:TupKept s.heap h1:=by
  intro p o e hc
  refine oth p o ?_ e
  rintro rfl
  rw[ho] at e;cases e
  exact absurd hc (show ¬ Value.type "list"=Value.type "tuple" by decide)
 have hk1:∀e,e∈es->(jJg prog w).is h1 e.1 e.2/\kUc e.1 b/\intT e.1=true:=fun e he=>⟨jQb tk (h e he).1,(h e he).2⟩
 have fin:∀(out:List (TKey×Addr)),out.Perm es->∀st':SortSt,(arrOf st').map (·.2)=List.toArray (out.map fun e=>Value.ref e.2)->failedOf st'=none->
   wpAny (model prog w) A (do
    let touched:=(<-seqEpoch a) != e1
    Builtin.List.listUpdate (.ref a) fun _=>(arrOf st').map (·.2)
    if let some e:=failedOf st' then rule "list.sort.comparison-raised"; throw e
    if (touched) then rule "list.sort.modified"; raiseError "ValueError" "list modified during sort"
    ret .none) P E {s with heap:=h1}:=by
  intro out hp st' hout hf
  rw[hout,hf]
  have hol:out.length=es.length:=hp.length_eq
  refine lJa (seqEpoch_at (s:={s with heap:=h1}) ho6 rfl ?_)
  refine lJa (listUpdate_at (s:={s with heap:=h1}) ho6 rfl ?_ (lJy _) (by rw[lJw,lJe,hol,lKi];omega))
  (simp only[bne_self_eq_false,lKg,lJ3])
  refine lJd (k out _ _ hp (get?_update_seq ho6 fun _=>List.toArray (out.map fun e=>Value.ref e.2)) fun p o hpa e=>(lX7 _ _ _ _ hpa).trans (oth p o hpa e))
 dsimp only
 by_cases h2:(List.toArray (es.map fun e=>Value.ref e.2)).size<2
 ·rw[lJc h2,lJc h2]
  refine lJa (lJd ?_)
  rw[StateT.run_pure]
  refine lJa (lJd ?_)
  refine fin es (.refl _) _ ?_ rfl
  ·apply Array.toList_inj.mp
   show (((List.toArray (es.map fun e=>Value.ref e.2)).zip (List.toArray (es.map fun e=>Value.ref e.2))).map (·.2)).toList=_
   rw[Array.toList_map,ksk_zip,List.map_snd_zip (lJh _)]
 ·rw[lJb h2,lJb h2]
  rw[lJw,hlen] at h2
  refine lJa (qZh (s:={s with heap:=h1}) hk1 (by omega) ?_)
  have at_:∀i,i<es.length->∃e,e∈es/\es[i]? =some e/\(es.map fun e=>Value.ref e.2).getD i Value.none= .ref e.2:=by
   intro i hi
   refine⟨es[i],lQ0 hi,lJg hi,?_⟩
   simp[hi]
  let lt:Nat->Nat->Bool:=fun i j=>match es[i]?,es[j]? with
   | some x,some y=>ltK x.1 y.1 == some true
   | _,_=>false
  have lt_eq:∀(i j:Nat) (x y:TKey×Addr),es[i]? =some x->es[j]? =some y->lt i j=(ltK x.1 y.1 == some true):=by
   intro i j x y h1 h2
   show (match es[i]?,es[j]? with | some x,some y=>ltK x.1 y.1 == some true | _,_=>false)=_
   rw[h1,h2]
  refine lJa (lQj (kat_run (prog:=prog) (w:=w) (A:=A) (κ:=tuples' b) (vs:=es.map fun e=>Value.ref e.2) (ks:=es.map fun e=>Value.ref e.2) (s:={s with heap:=h1}) (Q:=fun st' s'=>s'={s with heap:=h1}/\∃p:Array Nat,Pm es.length p/\arrOf st'=p.map (kas_item ((List.toArray (es.map fun e=>Value.ref e.2)).zip (List.toArray (es.map fun e=>Value.ref e.2))))/\failedOf st'=none) (G:=fun p s'=>s'={s with heap:=h1}/\Pm es.length p)
   rfl (by rw[hlen];omega) (by rw[hlen];exact h64) (fun p st' s' a1 a2 a3 a4=>⟨a4.1,p,a4.2,a2,a3⟩) ?_) ?_ fun _ _ x=>x)
  ·rw[hlen]
   refine Rn.wp (n:=es.length) (lt:=lt) (Q:=Pm es.length) (fun i j C hi hj hC=> ?_) (fun p hp=>⟨rfl,hp⟩) (qYl (by omega))
   obtain⟨x,mx,ex,vx⟩:=at_ i hi
   obtain⟨y,my,ey,vy⟩:=at_ j hj
   obtain⟨c,hc⟩:=lYh.mp (hlt x mx y my)
   unfold kas_ask
   rw[vx,vy]
   refine ask_ok (s:={s with heap:=h1}) hu (hk1 x mx).1 (hk1 y my).1 hc (hk1 x mx).2.1 (hk1 y my).2.1 ?_
   rw[lt_eq _ _ _ _ ex ey,hc] at hC
   cases c<;>exact hC
  ·rintro⟨⟨⟩,st'⟩ s' ⟨rfl,p,hp,har,hf⟩
   have hout:=kat_snds (ks:=es.map fun e=>Value.ref e.2) (vs:=es.map fun e=>Value.ref e.2) rfl har
   have pe:(p.toList.filterMap (es[·]?)).Perm es:=kJ6 hp
   have ge:∀l:List Nat,(∀i,i∈l->i<es.length)->l.map (fun i=>(es.map fun e=>Value.ref e.2).getD i Value.none)=(l.filterMap (es[·]?)).map fun e=>Value.ref e.2:=by
    intro l hl
    induction l with
    | nil=>rfl
    | cons i l ih=>
     obtain⟨x,mx,ex,vx⟩:=at_ i (hl i (lJ1 ..))
     rw[lXg ex,lJr,lJr,vx,ih fun j hj=>hl j (lJ2 _ hj)]
   refine fin (p.toList.filterMap (es[·]?)) pe st' ?_ hf
   ·rw[hout,ge p.toList fun i hi=>lJ0.mp (hp.mem_iff.mp hi)]
end
theorem kVe {α β:Type} {f:α->β} {l l':List β} (h:l.Perm l'):∀es:List α,l'=es.map f->∃es':List α,es'.Perm es/\l=es'.map f:=by
 induction h with
 | nil=>intro es e;cases es with | nil=>exact⟨[],.refl _,rfl⟩ | cons _ _=>cases e
 | cons x _ ih=>
  intro es e
  cases es with
  | nil=>cases e
  | cons a es=>
   rw[lJr,lVw] at e
   obtain⟨es',h1,h2⟩:=ih es e.2
   exact⟨a::es',h1.cons a,by rw[lJr,e.1,h2]⟩
 | swap x y l=>
  intro es e
  match es,e with
  | a::b::es,e=>
   rw[lJr,lJr,lVw,lVw] at e
   exact⟨b::a::es,.swap _ _ _,by rw[lJr,lJr,e.1,e.2.1,e.2.2]⟩
 | trans _ _ ih1 ih2=>
  intro es e
  obtain⟨es',h1,h2⟩:=ih2 es e
  obtain⟨es'',h3,h4⟩:=ih1 es' h2
  exact⟨es'',h3.trans h1,h4⟩
section
variable {prog:Program} {w:World} {A:Around} {E:Value->Shared->Prop} {s:Shared}
theorem kYq {S:Addr} {b:Bool} {kb:List (TKey×Addr)} (hS:SetIs prog w s.heap S kb) (hh:A.handled=none) (hu:A.units+20<cLine) (h:∀e,e∈kb->kUc e.1 b/\intT e.1=true) (hlt:∀e,e∈kb->∀e',e'∈kb->(ltK e.1 e'.1).isSome=true) {us:List TKey} (hus:us.length<64) (hkus:∀e,e∈kb->e.1∈us) {Q:Value->Shared->Prop}
  (k:∀(es:List (TKey×Addr)) (h':Heap) (tk:Nat) (D c:Nat),Put es kb->s.heap.objs.size<=D->h'.get? D=some (seqObj "list" (List.toArray (es.map fun e=>Value.ref e.2)) c)->(∀p o,s.heap.get? p=some o->h'.get? p=some o)->Q (.ref D) {s with heap:=h',toks:=tk}):
  wpAny (model prog w) A (call (.builtin "sorted") [.ref S]) Q E s:=by
 obtain⟨o,arr,ep,t,es,d,p,l⟩:=hS
 have el:es.length<64:=Nat.lt_of_le_of_lt (p.few hkus) hus
 (refine Calls.call_function_entry kind_sorted plain_sorted entry_sorted (args_sorted1 _) ?_)
 unfold Builtin.«sorted»
 (refine lJa (m:=checkCount "sorted" 1 1 _) (lJd ?_))
 refine lJa (kV2 (A:=A.in1) d l (by simpa using hh) fun g tk acc kp big pe=> ?_)
 obtain⟨es2,pe2,rfl⟩:=kVe pe es rfl
 have l2:es2.length=es.length:=pe2.length_eq
 refine lJa (wpAny_newList ?_ (by rw[lJe,lKi];omega))
 have hoL:(g.push (seqObj "list" (List.toArray (es2.map fun e=>Value.ref e.2)) 0)).get? g.objs.size=some (seqObj "list" (List.toArray (es2.map fun e=>Value.ref e.2)) 0):=lJu _ rfl
 refine lJa (lKy (lKl slot_list_sort ⟨_,hoL,rfl⟩ entry_list_sort ?_ (args_list_sort _)))
 have hsub:∀e,e∈es2->e∈kb:=fun e he=>p.sub e (pe2.mem_iff.mp he)
 refine kZ2 (s:={s with heap:=g.push (seqObj "list" (List.toArray (es2.map fun e=>Value.ref e.2)) 0),toks:=tk}) (b:=b) hoL (by rw[lQb,lQb];omega) (fun e he=> ?_) (fun e he e' he'=>hlt e (hsub e he) e' (hsub e' he')) (by omega) fun es' h' c pe' hD oth=> ?_
 ·exact⟨jQb (fun b ob e _=>lJk _ (kp b ob e)) (d.are e (pe2.mem_iff.mp he)),h e (hsub e he)⟩
 ·refine⟨_,rfl,lJd ⟨_,rfl,k es' h' tk _ c ?_ (lVm big) hD fun q ob e=>oth q ob ?_ (lJk _ (kp q ob e))⟩⟩
  ·have pp:=pe'.trans pe2
   exact⟨fun e he=>p.sub e (pp.mem_iff.mp he),fun e he=>(pp.map (·.1)).mem_iff.mpr (p.all e he),(pp.map _).nodup_iff.mpr p.nod⟩
  ·exact lJs (lKb (lJi e) (lVm big))
end
theorem jZ5 {x y:T} {k:Key} (h1:jVk x=some k) (h2:jVk y=some k):x=y:=by
 cases x<;>cases h1<;>(cases y<;>cases h2;rfl)
theorem jY9 {κ:Type} {f:T->Option κ} (hf:∀x y k,f x=some k->f y=some k->x=y):∀ {xs ys:List T} {ks:List κ},allK f xs=some ks->allK f ys=some ks->xs=ys
 | [],[],_,_,_=>rfl
 | [],y::ys,_,h1,h2=>by
  cases h1
  unfold allK at h2
  cases e1:f y<;>cases e2:allK f ys<;>rw[e1,e2] at h2<;>cases h2
 | x::xs,[],_,h1,h2=>by
  cases h2
  unfold allK at h1
  cases e1:f x<;>cases e2:allK f xs<;>rw[e1,e2] at h1<;>cases h1
 | x::xs,y::ys,ks,h1,h2=>by
  unfold allK at h1 h2
  cases e1:f x with
  | none=>rw[e1] at h1;cases h1
  | some k1=>
   cases e2:allK f xs with
   | none=>rw[e1,e2] at h1;cases h1
   | some k2=>
    rw[e1,e2] at h1;cases h1
    cases e3:f y with
    | none=>rw[e3] at h2;cases h2
    | some k3=>
     cases e4:allK f ys with
     | none=>rw[e3,e4] at h2;cases h2
     | some k4=>
      rw[e3,e4] at h2;cases h2
      rw[hf _ _ _ e1 e3,jY9 hf e2 e4]
theorem qVn (x y:T) (k:K1) (h1:key1 x=some k) (h2:key1 y=some k):x=y:=by
 cases k with
 | inl k=>
  have f:∀z:T,key1 z=some (.inl k)->jVk z=some k:=by
   intro z hz
   cases z with
   | tup ts=>
    obtain⟨_,_,e⟩:=lK2.mp (show (allK jVk ts).map Sum.inr=some (Sum.inl k) from hz)
    cases e
   | int i=>cases hz;rfl
   | str i=>cases hz;rfl
   | _=>cases hz
  exact jZ5 (f x h1) (f y h2)
 | inr ks=>
  have f:∀z:T,key1 z=some (.inr ks)->∃ts,z= .tup ts/\allK jVk ts=some ks:=by
   intro z hz
   cases z with
   | tup ts=>
    obtain⟨k',h,e⟩:=lK2.mp (show (allK jVk ts).map Sum.inr=some (Sum.inr ks) from hz)
    cases e
    exact⟨ts,rfl,h⟩
   | _=>cases hz
  obtain⟨t1,rfl,e1⟩:=f x h1
  obtain⟨t2,rfl,e2⟩:=f y h2
  rw[jY9 (fun _ _ _=>jZ5) e1 e2]
theorem qVl (x y:T) (k:K2) (h1:key2 x=some k) (h2:key2 y=some k):x=y:=by
 cases k with
 | inl k=>
  have f:∀z:T,key2 z=some (.inl k)->jVk z=some k:=by
   intro z hz
   cases z with
   | tup ts=>
    obtain⟨_,_,e⟩:=lK2.mp (show (allK key1 ts).map Sum.inr=some (Sum.inl k) from hz)
    cases e
   | int i=>cases hz;rfl
   | str i=>cases hz;rfl
   | _=>cases hz
  exact jZ5 (f x h1) (f y h2)
 | inr ks=>
  have f:∀z:T,key2 z=some (.inr ks)->∃ts,z= .tup ts/\allK key1 ts=some ks:=by
   intro z hz
   cases z with
   | tup ts=>
    obtain⟨k',h,e⟩:=lK2.mp (show (allK key1 ts).map Sum.inr=some (Sum.inr ks) from hz)
    cases e
    exact⟨ts,rfl,h⟩
   | _=>cases hz
  obtain⟨t1,rfl,e1⟩:=f x h1
  obtain⟨t2,rfl,e2⟩:=f y h2
  rw[jY9 qVn e1 e2]
theorem kY9 {xs ys:List T} {k:TKey} (h1:jK7 xs=some k) (h2:jK7 ys=some k):xs=ys:=jY9 qVl h1 h2
def SKey (b:Bool) (ts:List T) (k:TKey):Prop:=jK7 ts=some k/\kUc k b/\intT k=true
theorem jQi {K:PySem.W.Frag} {H:Hp} {b:Bool}:∀ {tks:List (List T×TKey)} {vs:List V} {its:List Value},(∀e,e∈tks->SKey b e.1 e.2)->Reps K H (tks.map fun e=> .tup e.1) vs->Vals vs its->
  ∃tb:List ((List T×TKey)×Addr),tb.map (·.1)=tks/\vs=tb.map (fun e=> .ref e.2)/\its=tb.map (fun e=>Value.ref e.2)/\∀e,e∈tb->TKeyAt H e.1.2 e.2/\Rep K H (.tup e.1.1) (.ref e.2)
 | [],_,_,_,r,v=>by
  cases (show _=[] from r)
  cases v
  exact⟨[],rfl,rfl,rfl,fun e he=>absurd he (lKh)⟩
 | (ts,k)::tks,_,its,hk,⟨v,ws,e,r1,r2⟩,vv=>by
  subst e
  cases vv with
  | @cons _ u _ us hr hrs=>
  obtain⟨tb,h1,h2,h3,h4⟩:=jQi (fun e he=>hk e (lJ2 _ he)) r2 hrs
  obtain⟨a,vs',e,ha,hrep⟩:=(show ∃a vs',v= .ref a/\H a=some (.tup vs')/\Reps K H ts vs' from r1)
  subst e
  cases (show u=Value.ref a from hr)
  refine⟨((ts,k),a)::tb,by rw[lJr,h1],by rw[lJr,h2],by rw[lJr,h3],fun e he=> ?_⟩
  (rcases lJv.mp he with rfl | he)
  ·exact⟨jQ1 (hk _ (lJ1 ..)).1 ha hrep,r1⟩
  ·exact h4 e he
theorem qJv {tb:List ((List T×TKey)×Addr)}:∀(es:List (TKey×Addr)),(∀e,e∈es->e∈tb.map fun x=>(x.1.2,x.2))->∃tb':List ((List T×TKey)×Addr),tb'.map (fun x=>(x.1.2,x.2))=es/\∀e,e∈tb'->e∈tb
 | [],_=>⟨[],rfl,fun e he=>absurd he (lKh)⟩
 | e::es,h=>by
  obtain⟨tb',h1,h2⟩:=qJv es fun x hx=>h x (lJ2 _ hx)
  obtain⟨x,hx,ex⟩:=lJj.mp (h e (lJ1 ..))
  refine⟨x::tb',by rw[lJr,h1,ex],fun y hy=> ?_⟩
  (rcases lJv.mp hy with rfl | hy)
  ·exact hx
  ·exact h2 y hy
theorem qJh {K:PySem.W.Frag} {H:Hp}:∀(tb:List ((List T×TKey)×Addr)),(∀e,e∈tb->Rep K H (.tup e.1.1) (.ref e.2))->Reps K H (tb.map fun e=> .tup e.1.1) (tb.map fun e=>V.ref e.2)
 | [],_=>rfl
 | e::tb,h=>⟨_,_,rfl,h e (lJ1 ..),qJh tb fun x hx=>h x (lJ2 _ hx)⟩
theorem kJ2:∀(bs:List ((List T×TKey)×Addr)),Vals (bs.map fun e=>V.ref e.2) (bs.map fun e=>Value.ref e.2)
 | []=> .nil
 | e::bs=> .cons rfl (kJ2 bs)
section
variable {X:Cx}
structure Rising (xs ys:List T) (kys:List (List T×TKey)):Prop where
 eq:ys=kys.map fun e=> .tup e.1
 keys:∀e,e∈kys->jK7 e.1=some e.2
 mem:∀t,t∈ys↔t∈xs
noncomputable def qYi (ta:TA3):TE3:=fun τ G Q=>ta τ G fun vs G1=>∃(x:T) (b:Bool) (tks:List (List T×TKey)),vs=[x]/\jUf G1 x=some (tks.map fun e:List T×TKey=> .tup e.1)/\(∃us:List TKey,us.length<64/\∀e,e∈tks->e.2∈us)/\(∀e,e∈tks->SKey b e.1 e.2)/\(∀e,e∈tks->∀e',e'∈tks->(ltK e.2 e'.2).isSome=true)/\
 ∀(p:Addr) (ys:List T) (kys:List (List T×TKey)),G1 p=none->Rising (tks.map fun e=> .tup e.1) ys kys->Q (.ref p) (gup G1 p (.lst ys))
theorem e_sset {pos pos' p p':Pos} {a:Expr} {ta:TA3} (hc:X.calm=true) (hu:X.A.units+20<cLine) (hl:Gl X "sorted") (hlm:X.mg "sorted"=none) (hlv:bootBuiltins "sorted"=some (.builtin "sorted")) (hg:Gl X "set") (hm:X.mg "set"=none) (hv:bootBuiltins "set"=some (.type "set")) (ha:PA3 X [a] ta) (hs:starEach [a] X.env=[(false,eval a X.env)]:=by rfl)
  (hs':starEach [Expr.Call (.Name "set" p) [a] [] pos] X.env=[(false,eval (.Call (.Name "set" p) [a] [] pos) X.env)]:=by rfl):
  PE3 X (.Call (.Name "sorted" p') [.Call (.Name "set" p) [a] [] pos] [] pos') (qYi ta):=by
 intro pins s τ G H Q I h
 obtain⟨σ,I0,_,_⟩:=id I
 refine Call_ (jQ6 I0 hl hlm hlv (PyProof.Rows.callWith_builtin1 ?_ hs' rfl))
 rw[hs']
 refine Calls.spliced_cons (Call_ (jQ6 I0 hg hm hv (lQa (thn (ha pos pins s τ G H _ I h) fun us s1 w_=>w_.el fun ys G1 H1 e1 i_ r_ q1=>i_.el fun σ1 I1 hs1 hg1=>r_.el fun as ras rvs=> ?_) hs rfl)))
 obtain⟨x,b,tks,e,hx,⟨us,hus,hkus⟩,hk,hlt,q⟩:=q1
 subst e
 obtain⟨v,rfl,rv⟩:=jU3 ras
 obtain⟨u,rfl,ru⟩:=rvs.one
 obtain⟨pa,vs,rfl,hq,r⟩:=jVt hg1 rv hx
 cases ru
 obtain⟨its,rvv,pl,hz⟩:=I1.list hq
 obtain⟨tb,t1,t2,t3,t4⟩:=jQi hk r rvv
 have tl:tb.length=tks.length:=by rw[<-t1,lJe]
 have hmem:∀e,e∈tb->e.1∈tks:=fun e he=>by rw[<-t1];exact lJj.mpr ⟨e,he,rfl⟩
 have hkb:∀e,e∈(tb.map fun e=>(e.1.2,e.2))->e.1∈us:=by
  intro e he
  obtain⟨y,hy,rfl⟩:=lJj.mp he
  exact hkus _ (hmem y hy)
 refine kKp (kb:=tb.map fun e=>(e.1.2,e.2)) (I1.ok.hd hc) hu pl.isList (by rw[List.toList_toArray,t3,lJx];rfl) (fun e he=> ?_) hus hkb fun h2 tk2 hS kp2=> ?_
 ·obtain⟨y,hy,rfl⟩:=lJj.mp he
  exact⟨(hk _ (hmem y hy)).2.2,jYl I1.hok (t4 y hy).1⟩
 refine Calls.spliced_nil ?_
 refine kYq (s:={s1 with heap:=h2,toks:=tk2}) (b:=b) hS (I1.ok.hd hc) hu (fun e he=> ?_) (fun e he e' he'=> ?_) hus hkb fun es h3 tk3 D c hp hD hoD kp3=> ?_
 ·obtain⟨y,hy,rfl⟩:=lJj.mp he
  exact (hk _ (hmem y hy)).2
 ·obtain⟨y,hy,rfl⟩:=lJj.mp he
  obtain⟨y',hy',rfl⟩:=lJj.mp he'
  exact hlt _ (hmem y hy) _ (hmem y' hy')
 obtain⟨tb',p1,p2⟩:=qJv es fun e he=>hp.sub e he
 have kp:∀b o,s1.heap.get? b=some o->h3.get? b=some o:=fun b o e=>kp3 b o (kp2 b o e)
 have hD1:s1.heap.objs.size<=D:=by
  obtain⟨o,_,_,_,_,d,_⟩:=hS
  exact lKf (lVm (lJi d.get)) hD
 have fr:=I1.hok.fresh hD1
 have es_len:tb'.length<=us.length:=by
  have:=hp.few hkb
  rw[<-p1,lJe] at this
  exact this
 have I3:=I1.laid (a:=D) (o:= .lst (tb'.map fun e=>V.ref e.2)) (h':=h3) (t':=tk3) kp hD1 ⟨by rw[lJe,lKi];omega,tb'.map fun e=>Value.ref e.2,c,kJ2 tb',by rw[<-p1,lJx] at hoD;exact hoD⟩
 have ext:Ext H1 (upd H1 D (.lst (tb'.map fun e=>V.ref e.2))):= .upd (.none fr)
 refine⟨.ref D,_,_,e1.trans ext,⟨σ1,I3,hs1.mono ext,hg1.lstNew (qJh tb' fun e he=>(t4 e (p2 e he)).2) (.none fr)⟩,⟨.ref D,rfl,rfl⟩,?_⟩
 refine q D _ (tb'.map (·.1)) (hg1.fresh fr) ⟨by rw[lJx];rfl,fun e he=> ?_,fun t=>⟨fun ht=> ?_,fun ht=> ?_⟩⟩
 ·obtain⟨y,hy,rfl⟩:=lJj.mp he
  exact (hk _ (hmem y (p2 y hy))).1
 ·obtain⟨y,hy,rfl⟩:=lJj.mp ht
  exact lJj.mpr ⟨y.1,hmem y (p2 y hy),rfl⟩
 ·obtain⟨y,hy,rfl⟩:=lJj.mp ht
  rw[<-t1] at hy
  obtain⟨z,hz',rfl⟩:=lJj.mp hy
  have:=hp.all (z.1.2,z.2) (lJj.mpr ⟨z,hz',rfl⟩)
  rw[<-p1,lJx] at this
  obtain⟨z',hz'',ez⟩:=lJj.mp this
  have ek:z'.1.2=z.1.2:=ez
  refine lJj.mpr ⟨z',hz'',?_⟩
  have k1:=(hk _ (hmem z' (p2 z' hz''))).1
  have k2:=(hk _ (hmem z hz')).1
  rw[ek] at k1
  rw[kY9 k1 k2]
end
end L3
namespace L3
open PySem PySem.Spec PyProof.Rows L2
section
variable {X:Cx}
theorem jYj {P:Program} {w:World} {K:PySem.W.Frag} {H:Hp} {h:Heap} (ok:HOk P w H h):∀ {kys:List (List T×TKey)} {vs:List V} {its:List Value},(∀e,e∈kys->jK7 e.1=some e.2)->Reps K H (kys.map fun e=> .tup e.1) vs->Vals vs its->∀(i:Nat) (u:Value),its[i]? =some u->∃e b,kys[i]? =some e/\u= .ref b/\(jJg P w).is h e.2 b
 | [],_,_,_,r,v,i,u,hu=>by
  cases (show _=[] from r);cases v;simp at hu
 | e::kys,_,_,hk,⟨v,ws,ev,r1,r2⟩,vv,i,u,hu=>by
  subst ev
  cases vv with
  | @cons _ u0 _ us hr hrs=>
  cases i with
  | zero=>
   cases hu
   obtain⟨a,vs',ea,ha,hrep⟩:=(show ∃a vs',v= .ref a/\H a=some (.tup vs')/\Reps K H e.1 vs' from r1)
   subst ea
   exact⟨e,a,rfl,hr,jYl ok (jQ1 (hk e (lJ1 ..)) ha hrep)⟩
  | succ i=>exact jYj ok (fun x hx=>hk x (lJ2 _ hx)) r2 hrs i u hu
noncomputable def kVc:T->List T->Gp->VK3->Prop:=fun x as G Q=>∃(p:Addr) (kys:List (List T×TKey)) (ys:List T) (k:TKey) (j:Nat),x= .ref p/\as=[.tup ys]/\G p=some (.lst (kys.map fun e=> .tup e.1))/\(∀e,e∈kys->jK7 e.1=some e.2)/\jK7 ys=some k/\(kys.map (·.2))[j]? =some k/\(∀m,m<j->(kys.map (·.2))[m]? ≠some k)/\Q (.int j) G
theorem qVg (hu:X.A.units+20<cLine):Mt3 X "list.index" kVc:=by
 rintro pins s τ G H x as v us Q ⟨σ,I,hs,hg⟩ ⟨a,ra,rv⟩ ⟨bs,rbs,rus⟩ ⟨p,kys,ys,k,j,ex,ea,hp,hks,hk,hj,hno,q⟩
 subst ex;subst ea
 cases (show a= .ref p from ra);cases rv
 obtain⟨b,rfl,rb⟩:=jU3 rbs
 obtain⟨u,rfl,ru⟩:=rus.one
 obtain⟨vs,h1,h2⟩:=hg.lst hp
 obtain⟨hz,its,n,r,hl,e⟩:=I.lstM h1
 obtain⟨qa,vs',eb,hqa,hrep⟩:=(show ∃qa vs',b= .ref qa/\H qa=some (.tup vs')/\Reps X.K H ys vs' from rb)
 subst eb
 cases (show u=Value.ref qa from ru)
 have hkq:(jJg X.prog X.w).is s.heap k qa:=jYl I.hok (jQ1 hk hqa hrep)
 have at_:=jYj (P:=X.prog) (w:=X.w) I.hok hks h2 r
 have hlen:its.length=kys.length:=by have:=r.length;have:=h2.length;rw[lJe] at this;omega
 have hjl:j<kys.length:=by have:=(lJf.mp hj).1;rw[lJe] at this;exact this
 have hsl:=jYk
 let ef:Value->Bool:=fun w=> @decide (∃b,w= .ref b/\(jJg X.prog X.w).is s.heap k b) (Classical.propDecidable _)
 have ef_at:∀(i:Nat) (w:Value),its[i]? =some w->∃e b,kys[i]? =some e/\w= .ref b/\(jJg X.prog X.w).is s.heap e.2 b/\ef w=decide (e.2=k):=by
  intro i w hw
  obtain⟨e,b,e1,e2,e3⟩:=at_ i w hw
  refine⟨e,b,e1,e2,e3,?_⟩
  by_cases c:e.2=k
  ·rw[lJn c]
   exact @decide_eq_true _ (Classical.propDecidable _) ⟨b,e2,c▸e3⟩
  ·rw[lJo c]
   refine @decide_eq_false _ (Classical.propDecidable _) ?_
   rintro⟨b',e4,e5⟩
   rw[e2] at e4;cases e4
   exact c ((jJg X.prog X.w).inj e3 e5)
 refine lV1 F.slot_list_index ⟨_,e,rfl⟩ F.entry_list_index (F.args_list_index_2 _ _) (SeqAt.list_indexAt p its.toArray n none #[] (.ref qa) ef j (by simp;omega) (by omega) ?_ ?_) ⟨e,fun w hw=> ?_,?_⟩
 ·obtain⟨e,b,e1,_,_,e4⟩:=ef_at j its[j] (lJg (by omega))
  rw[lJq,e1] at hj
  have:e.2=k:=by simpa using hj
  rw[lJn this] at e4
  simpa using e4
 ·intro m hm hmj
  have hm':m<its.length:=by simpa using hm
  obtain⟨e,b,e1,_,_,e4⟩:=ef_at m its[m] (lJg hm')
  have:=hno m hmj
  rw[lJq,e1] at this
  have ne:e.2≠k:=fun z=>this (by rw[<-z];rfl)
  rw[lJo ne] at e4
  simpa using e4
 ·obtain⟨i,hi,ei⟩:=lVd (show w∈its by simpa using hw)
  obtain⟨e,b,e1,e2,e3,e4⟩:=ef_at i w (by rw[lJg hi,ei])
  rw[e4,e2]
  exact (jUh (vk2 X.prog X.w)).eqAt (by rw[lQb];omega) e3 hkq
 ·exact⟨.int _,G,H,.refl H,⟨σ,I.tok _,hs,hg⟩,⟨.int _,rfl,s.toks,rfl⟩,q⟩
end
section
variable {X:Cx}
end
section
variable {X:Cx}
theorem jZw (l:List Int):∀j,preSum (fun i=>l.getD i 0) j=(l.take j).sum
 | 0=>by simp[preSum]
 | j+1=>by
  rw[preSum,jZw l j,lK4,List.sum_append]
  congr 1
  (rw[lYj])
  cases l[j]? <;>simp
theorem qJt (ps:List (Int×Tok)):preSum (numAt ps.toArray) ps.toArray.size=(ps.map (·.1)).sum:=by
 have h:numAt ps.toArray=fun i=>(ps.map (·.1)).getD i 0:=by
  funext i
  simp[numAt,List.getD]
 rw[h,jZw,List.take_of_length_le (by simp)]
theorem qQm (hc:X.calm=true):kQl X (.builtin "sum") (fun xs H Q=>∃(p:Addr) (is:List Int),xs=[.ref p]/\SqL X.K H p (is.map V.int)/\Q (.int is.sum) H):=by
 intro pins s σ H xs us Q I r h
 obtain⟨p,is,rfl,hx,q⟩:=h
 obtain⟨u,rfl,ru⟩:=kUw r
 cases ru
 obtain⟨its,r',pl,hz⟩:=I.list hx
 obtain⟨ps,e1,e2⟩:=jU7 r'
 subst e1
 have eI:(ps.map (fun p=>Value.int p.1 p.2)).toArray=intItems ps.toArray:=by simp[intItems]
 refine sum_intListG (xs:=ps.toArray) (I.ok.hd hc) (eI▸pl.isList) fun h' tk t' k=> ?_
 rw[qJt,e2]
 exact⟨.int _,H,I.kept k,⟨t',rfl⟩,q⟩
def qUu:List T->Gp->VK3->Prop:=fun xs G Q=>∃(p:Addr) (is:List Int),xs=[.ref p]/\G p=some (.lst (is.map T.int))/\Q (.int is.sum) G
theorem c_sumE (hc:X.calm=true):Call3 X (.builtin "sum") qUu:=
 Call3.of (qQm hc) fun H G xs as Q hg ra ⟨p,is,e,hG,q⟩=>by
  subst e
  obtain⟨v,rfl,rv⟩:=jU3 ra
  cases (show v= .ref p from rv)
  obtain⟨vs,h1,h2⟩:=hg.lst hG
  have e:=jQ3 h2
  subst e
  exact⟨p,is,rfl,.of h1,⟨.int _,G,.refl H,hg,rfl,q⟩⟩
end
section
variable {X:Cx}
def rAny:List T->Gp->VK3->Prop:=fun xs G Q=>∃(p:Addr) (bs:List Bool),xs=[.ref p]/\G p=some (.lst (bs.map T.bl))/\Q (.bl (bs.any fun x=>x)) G
theorem kUt:∀(bs:List Bool),bs.any (fun x=>x)=(List.range bs.length).any fun i=>bs.getD i false
 | []=>rfl
 | b::bs=>by
  rw[lK1,kUt bs,lJ5,List.range_succ_eq_map,lK1,List.any_map]
  simp[Function.comp_def,List.getD]
theorem c_any (hc:X.calm=true):Call3 X (.builtin "any") rAny:=by
 rintro pins s τ G H as us Q ⟨σ,I,hs,hg⟩ ⟨bs',rbs,rus⟩ ⟨p,bs,e,hp,q⟩
 subst e
 obtain⟨a,rfl,ra⟩:=jU3 rbs
 cases (show a= .ref p from ra)
 obtain⟨u,rfl,ru⟩:=rus.one
 cases ru
 obtain⟨vs,h1,h2⟩:=hg.lst hp
 obtain⟨its,rv,pl,hz⟩:=I.list (.of h1)
 have eit:=kKt h2 rv
 subst eit
 have hne:p≠s.heap.objs.size:=by obtain⟨o,n,ho,_⟩:=pl;exact lJs (lJi ho)
 have hw:=Walks.list (prog:=X.prog) (w:=X.w) (A:=X.A.in1) (show X.A.in1.handled=none from I.ok.hd hc) s.heap.objs.size p hne (bs.map Value.bool).toArray
 refine call_any_walk (lYd pl.isList ⟨_,_,[s.heap.objs.size],_,_,_,fun i=>bs.getD i false,rfl,hw,⟨⟨_,lJu _ rfl,rfl,rfl⟩,pl.isList.push _⟩,?_,?_⟩)
 ·intro i v s' Q' E' hP hQ
  have hP':(bs.map Value.bool)[i]? =some v:=by simpa using hP
  rw[lJq] at hP'
  cases e:bs[i]? with
  | none=>rw[e] at hP';cases hP'
  | some c=>
   rw[e] at hP';cases hP'
   have:bs.getD i false=c:=by simp[List.getD,e]
   have hQ':Q' (bs.getD i false) s':=hQ
   rw[this] at hQ'
   exact lQs hQ'
 ·intro h' tk hk
  have hk2:∀b o,s.heap.get? b=some o->h'.get? b=some o:=fun b o e=>hk b o (by simpa using lJs (lJi e)) (lJk _ e)
  refine⟨.bl _,G,H,.refl H,⟨σ,I.kept hk2,hs,hg⟩,⟨.bl _,rfl,?_⟩,q⟩
  rw[kUt]
  simp
  rfl
end
section
variable {P:Program} {w:World} {A:Around} {E:Value->Shared->Prop} {s:Shared} {d it:Addr} {o:Obj} {es:Array DictEntry} {ep i:Nat}
theorem kZc {Q:Value->Shared->Prop} (hd:(d == sysModules)=false) (ho:s.heap.get? d=some o) (hc:o.ExactDict) (hx:o.data= .dict es ep)
  (hQ:Q (.ref s.heap.objs.size) {s with heap:=s.heap.push {cls:= .type "dict_keyiterator",data:= .fields #[.ref d,.int 0 0,.int es.size 0,.int ep 0]} }):wpAny (model P w) A (pyIter (.ref d)) Q E s:=by
 have hT:s.TypeIs (.ref d) "dict":=⟨o,ho,hc.1⟩
 refine lYe hT PySem.F.slot_dict_iter (lKl PySem.F.slot_dict_iter hT PySem.F.entry_dict_iter ?_ (PySem.F.args_dict_iter_1 _));unfold Builtin.«dict.__iter__»
 refine lJa ?_;unfold Builtin.Dict.dictSlotNone;refine lJa (wpAny_notOrdered_dict hT ?_)
 refine (show wpAny _ _ (pure (Value.ref d)) _ _ s from lJd ?_);refine (show wpAny _ _ (Builtin.Dict.showsAll d >>= _) _ _ s from ?_)
 unfold Builtin.Dict.showsAll;rw[lJb (by rw[hd];exact lJm)];refine lJa (lJd (lJa (wpAny_dictEntries ho hx (lJa (wpAny_dictEpoch ho hx ?_)))))
 exact lJa (lKe (lJd ⟨_,rfl,"dict_keyiterator",_,⟨_,lJu _ rfl,rfl⟩,lXr.lookup,by simpa[rawInt] using hQ⟩))
theorem kY5 {e:DictEntry} {Q:Option Value->Shared->Prop} (hit:s.heap.IsKeyIter it d i es.size ep) (ho:s.heap.get? d=some o) (hx:o.data= .dict es ep) (hi:es[i]? =some e)
  (hQ:∀h',h'.IsKeyIter it d (i+1) es.size ep->Heap.SameBut it s.heap h'->Q (some e.key) {s with heap:=h'}):wpAny (model P w) A (pyNext (.ref it)) Q E s:=by
 obtain⟨oi,hoi,hci,hdi⟩:=id hit
 unfold pyNext;refine lJa (lQ4 (lQt (name:=Str.ofString "__next__") hit.typeIs lXr (lKl lXr hit.typeIs PySem.F.entry_dict_keyiterator_next ?_ (PySem.F.args_dict_keyiterator_next_1 _))))
 refine lJa (lJd (lJa (lJa ?_)))
 first | refine lJa (lYf hit.typeIs (lJd (lJa (lXk hoi hdi ?_)))) | refine lJa (lYg hit.typeIs (lJd (lJa (lXk hoi hdi ?_))))
 simp only[show Builtin.Dict_items.ownsTuple "dict_keyiterator"=false by decide,lKg,lJ3]
 refine (show wpAny _ _ (if (Value.ref d == Value.none)=true then _ else _) _ _ s from ?_);rw[lJb (show ¬ ((Value.ref d == Value.none)=true) from lJm)]
 refine lJa (lJd (lJa (wpAny_dictEntries ho hx ?_)));rw[lJb (by simp)];refine lJa (lJd (lJa (wpAny_dictEpoch ho hx ?_)));rw[lJb (by simp)];refine lJd ?_
 simp only[show ¬ ((i:Int)<0) from by omega,lJ3,lXd,hi];refine lJa ?_
 first | refine lJa (lYf hit.typeIs (lJd (lJa (wpAny_isOneOf_keyiter hit.typeIs ?_)))) | refine lJa (lYg hit.typeIs (lJd (lJa (wpAny_isOneOf_keyiter hit.typeIs ?_))))
 refine (show wpAny _ _ (setField (.ref it) 1 (rawInt ((i:Int)+1)) >>= _) _ _ s from lJa (lV3 hoi hdi (by simp) ?_))
 have hit':(s.heap.update it (Obj.mapFields (·.setIfInBounds 1 (rawInt ((i:Int)+1))))).IsKeyIter it d (i+1) es.size ep:=⟨_,lQn _ hoi (Obj.isFreed_of_fields (Obj.data_mapFields hdi _)),(Obj.cls_mapFields ..).trans hci,by rw[Obj.data_mapFields hdi];simp[rawInt]⟩
 refine lJa (lKy (lJa (wpAny_isOneOf_keyiter (s:={s with heap:=s.heap.update it (Obj.mapFields (·.setIfInBounds 1 (rawInt ((i:Int)+1))))}) hit'.typeIs ?_)))
 exact (show wpAny _ _ (pure e.key) _ _ _ from lJd (lJd ⟨_,rfl,lJd (hQ _ hit' (lVc ..))⟩))
theorem qK9 {Q:Option Value->Shared->Prop} (hh:A.handled=none) (hit:s.heap.IsKeyIter it d i es.size ep) (ho:s.heap.get? d=some o) (hx:o.data= .dict es ep) (hi:es.size<=i)
  (hQ:∀h',Heap.ExtBut it s.heap h'->Q none {s with heap:=h'}):wpAny (model P w) A (pyNext (.ref it)) Q E s:=by
 obtain⟨oi,hoi,hci,hdi⟩:=id hit
 unfold pyNext;refine lJa (lQ4 (lQt (name:=Str.ofString "__next__") hit.typeIs lXr (lKl lXr hit.typeIs PySem.F.entry_dict_keyiterator_next ?_ (PySem.F.args_dict_keyiterator_next_1 _))))
 refine lJa (lJd (lJa (lJa ?_)))
 first | refine lJa (lYf hit.typeIs (lJd (lJa (lXk hoi hdi ?_)))) | refine lJa (lYg hit.typeIs (lJd (lJa (lXk hoi hdi ?_))))
 simp only[show Builtin.Dict_items.ownsTuple "dict_keyiterator"=false by decide,lKg,lJ3]
 refine (show wpAny _ _ (if (Value.ref d == Value.none)=true then _ else _) _ _ s from ?_);rw[lJb (show ¬ ((Value.ref d == Value.none)=true) from lJm)]
 refine lJa (lJd (lJa (wpAny_dictEntries ho hx ?_)));rw[lJb (by simp)];refine lJa (lJd (lJa (wpAny_dictEpoch ho hx ?_)));rw[lJb (by simp)];refine lJd ?_
 simp only[show ¬ ((i:Int)<0) from by omega,lJ3,lXd,lVv hi];refine lJa ?_
 first | refine (lJa (lYf hit.typeIs (lJd ?_))) | refine lJa (lYg hit.typeIs (lJd ?_))
 refine (show wpAny _ _ (setField (.ref it) 0 .none >>= _) _ _ s from lJa (lV3 hoi hdi (by simp) ?_));refine (show wpAny _ _ (newExc (.type "StopIteration") [] >>= _) _ _ _ from lJa ?_)
 simp only[newExc,newTuple];refine lJa (lKe ?_ (by size_fits));refine lJa (m:=firstArgMember _ _) (lKq (a:=Value.none) (by first | rfl | (simp only[firstArgMember];rfl)) (lKe ?_ (by size_fits)))
 simp only[raiseNew];refine lJa (wpAny_handled ?_);rw[show A.in1.handled=none from hh];refine lJa (lJd (wpAny_throw ?_))
 exact lJa (lVg (T:="StopIteration") (b:=true) ⟨_,lJu _ rfl,rfl⟩ isSubtype_stop (lJd (hQ _ (((lVc ..).extBut.push _).push _))))
end
section
variable {X:Cx}
theorem kZa {K:PySem.W.Frag} {H:Hp} {x:T} {a:V} {k:Key} (h:jVk x=some k) (r:a=kV k):Rep K H x a:=by
 subst r
 cases x with
 | int i=>cases h;exact rfl
 | str i=>cases h;exact rfl
 | _=>cases h
theorem jXz {K:PySem.W.Frag} {H:Hp} {κ:Type} {f:T->Option κ} {R:κ->V->Prop} (hf:∀x k a,f x=some k->R k a->Rep K H x a):∀(xs:List T) {vs:List V} {ks:List κ},allK f xs=some ks->Paired R ks vs->Reps K H xs vs
 | [],_,_,h,r=>by cases h;cases r;exact rfl
 | x::xs,_,ks,h,r=>by
  unfold allK at h
  cases e1:f x with
  | none=>rw[e1] at h;cases h
  | some k=>
   cases e2:allK f xs with
   | none=>rw[e1,e2] at h;cases h
   | some ks'=>
    rw[e1,e2] at h;cases h
    cases r with
    | cons r1 r2=>exact⟨_,_,rfl,hf _ _ _ e1 r1,jXz hf xs e2 r2⟩
theorem qKo {K:PySem.W.Frag} {H:Hp} (x:T) (k:K1) (a:V) (h:key1 x=some k) (r:Rk1 H k a):Rep K H x a:=by
 cases x with
 | tup ts=>
  obtain⟨ks,h1,rfl⟩:=lK2.mp (show (allK jVk ts).map Sum.inr=some k from h)
  obtain⟨p,vs,e,h3,h4⟩:=(show ∃p vs,a= .ref p/\H p=some (.tup vs)/\Paired (fun k v=>v=kV k) ks vs from r)
  exact⟨p,vs,e,h3,jXz (fun x k a h r=>kZa h r) _ h1 h4⟩
 | int i=>cases h;exact r
 | str i=>cases h;exact r
 | _=>cases h
theorem qKn {K:PySem.W.Frag} {H:Hp} (x:T) (k:K2) (a:V) (h:key2 x=some k) (r:Rk2 H k a):Rep K H x a:=by
 cases x with
 | tup ts=>
  obtain⟨ks,h1,rfl⟩:=lK2.mp (show (allK key1 ts).map Sum.inr=some k from h)
  obtain⟨p,vs,e,h3,h4⟩:=(show ∃p vs,a= .ref p/\H p=some (.tup vs)/\Paired (Rk1 H) ks vs from r)
  exact⟨p,vs,e,h3,jXz qKo _ h1 h4⟩
 | int i=>cases h;exact r
 | str i=>cases h;exact r
 | _=>cases h
theorem jX8 {α β:Type} {F:α->β->Prop}:∀ {l:List α} {m:List β} {i:Nat} {x:α},Paired F l m->l[i]? =some x->∃y,m[i]? =some y/\F x y
 | _,_,_,_,.nil,h=>by simp at h
 | _,_,0,_,.cons r t,h=>by cases h;exact⟨_,rfl,r⟩
 | _,_,i+1,_,.cons r t,h=>jX8 (i:=i) t h
noncomputable def Itd (d:Addr) (ob:Obj) (ws:List (TKey×V)):It:=
 ⟨fun i H=>H d=some (.frz ob (.dT ws))/\i<ws.length,fun i H x H'=>H'=H/\∃b kv,ws[i]? =some kv/\x= .ref b/\TKeyAt H kv.1 b,fun i H=>H d=some (.frz ob (.dT ws))/\ws.length<=i⟩
theorem fd_at {X:Cx} {pins:List (Addr×Obj)} {σ:L2.St} {H:Hp} {s:Shared} {d:Addr} {ob:Obj} {ws:List (TKey×V)} {es:Array DictEntry} {ep:Nat} (I:Inv X pins σ H s) (h:H d=some (.frz ob (.dT ws))) (hx:ob.data= .dict es ep):
  s.heap.get? d=some ob/\es.size=ws.length/\∀(i:Nat) (e:DictEntry),es[i]? =some e->∃b kv,ws[i]? =some kv/\e.key= .ref b/\TKeyAt H kv.1 b:=by
 obtain⟨ho,z,hd,xs,rel,o,es',ep',ho',hc,hx',he,hn⟩:=(show s.heap.get? d=some ob/\ObjOk X.prog X.w H s.heap d (.dT ws) from I.hok d _ h)
 rw[ho] at ho';cases ho'
 rw[hx] at hx';cases hx'
 have l1:es.size=ws.length:=by
  have a1:=lJ9 List.length he
  have a2:=lV5 rel
  simp at a1;omega
 refine⟨ho,l1,fun i e hi=> ?_⟩
 have hil:i<ws.length:=by rw[<-l1];exact (lXe.mp hi).1
 obtain⟨q,h1,h2,h3,h4⟩:=jX8 rel (lJg hil)
 have:=entry_at he i
 rw[hi,h1] at this
 cases this
 exact⟨q.2.1,ws[i],lJg hil,rfl,h3⟩
theorem qYf {P:Program} {w:World} {K:PySem.W.Frag} {tg:Expr} (d it:Addr) {ob:Obj} {ws:List (TKey×V)} {es:Array DictEntry} {ep:Nat} (hx:ob.data= .dict es ep):Turn P w K tg (Itd d ob ws) [it] it (fun i h=>h.IsKeyIter it d i es.size ep) where
 mem:=by simp
 obj:=fun i h st b hb=>by
  have e:b=it:=by simpa using hb
  subst e
  obtain⟨o,e,c,dd⟩:=st
  exact⟨o,e,fun v z=>by rw[dd] at z;cases z⟩
 keep:=fun i h h' st k=>st.at fun o e=>k it (by simp) o e
 item:=by
  intro X hP hw hK hc i pins s σ H E I hf st hg
  subst hP hw hK
  obtain⟨hH,hi⟩:=hg
  obtain⟨ho,l1,hat⟩:=fd_at I hH hx
  have he:es[i]? =some (es[i]'(by omega)):=lQe _
  obtain⟨b,kv,h1,h2,h3⟩:=hat i _ he
  obtain⟨f0,f1,f2,f3,f4,f5⟩:=hf it (by simp)
  refine kY5 st ho hx he fun h' st' sb=> ?_
  have I1:Inv X pins σ H {s with heap:=h'}:=I.turned (t':=s.toks) (fun b o hb e=>(sb.2 b hb).trans e) f0 f1 f3 f4 f5
  obtain⟨o,e,c,dd⟩:=id st'
  rw[h2]
  exact⟨_,rfl,kZh (s:={s with heap:=h'}) e c dd (by decide) ⟨.ref b,H,I1,rfl,⟨rfl,b,kv,h1,rfl,h3⟩,st',fun b hb=>(hf b hb).1⟩⟩
 done:=by
  intro X hP hw hK hc i pins s σ H E I hf st hg
  subst hP hw hK
  obtain⟨hH,hi⟩:=hg
  obtain⟨ho,l1,hat⟩:=fd_at I hH hx
  obtain⟨f0,f1,f2,f3,f4,f5⟩:=hf it (by simp)
  exact qK9 (I.ok.hd hc) st ho hx (by omega) fun h' eb=>⟨rfl,I.turned (t':=s.toks) (fun b o hb e=>eb b o hb e) f0 f1 f3 f4 f5⟩
 self:=fun _ _ _ _ _ st h=>wpAny_pyIter_keyiter st h
noncomputable def iFd (tl:TE3):TI3:=fun τ G R=>tl τ G fun x G1=>∃(p:Addr) (kvs:List (TKey×T)) (yss:List (List T)),x= .ref p/\G1 p=some (.dct kvs)/\yss.map jK7=kvs.map (fun kv=>some kv.1)/\R (yss.map T.tup) (fun _=>True) (gup G1 p (.fdc kvs))
theorem i_fd {l tg:Expr} {tl:TE3} (hl:PE3 X l tl):PI3 X tg l (iFd tl):=by
 intro pins s τ G H R I h
 refine thn (hl pins s τ G H _ I h) fun v s1 w_=>w_.el fun x G1 H1 e1 i_ r_ ⟨p,kvs,yss,ex,hG,hy,q⟩=>i_.el fun σ I1 hs1 hg1=>r_.el fun a ra rv=> ?_
 subst ex
 cases (show a= .ref p from ra);cases rv
 obtain⟨ws,h1,h2⟩:=(show ∃ws,H1 p=some (.dT ws)/\PKV X.K H1 kvs ws from hg1 p _ hG)
 obtain⟨z,hd,xs,rel,o,es,ep,ho,hc,hx,he,hn⟩:=(show ObjOk X.prog X.w H1 s1.heap p (.dT ws) from I1.hok p _ h1)
 refine kZc hd ho hc hx ?_
 have rel':KT (upd H1 p (.frz o (.dT ws))) ws xs:=KT.keeps rel fun b' ys' ec=>by rw[jKg (ne_of ec h1 (fun z=>nomatch z))];exact ec
 have I2:Inv X pins σ (upd H1 p (.frz o (.dT ws))) {s1 with heap:=s1.heap,toks:=s1.toks}:=kV0 (t':=s1.toks) I1 (by rw[h1];exact True.intro) (Heap.SameBut.refl _ _) ⟨o,ho⟩ ⟨ho,z,hd,xs,rel',o,es,ep,ho,hc,hx,he,hn⟩
 have ext:Ext H1 (upd H1 p (.frz o (.dT ws))):= .upd (.dT h1)
 have fpk:∀b∈[s1.heap.objs.size],FpOk X pins (upd H1 p (.frz o (.dT ws))) b:=fun b hb=>by
  have e:b=s1.heap.objs.size:=by simpa using hb
  subst e
  exact I2.fpOk (lJh _) (I2.hok.fresh (lJh _))
 refine⟨s1.heap.objs.size,[s1.heap.objs.size],_,_,yss.map T.tup,fun _=>True,_,_,rfl,e1.trans ext,⟨σ,I2.kept (t':=s1.toks) fun b o e=>lJk _ e,hs1.mono ext,hg1.upd (.dT h1) (go:= .fdc kvs) ⟨o,ws,jQa,h2.mono ext⟩⟩,qYf p _ (ob:=o) (ws:=ws) hx,⟨_,lJu _ rfl,rfl,rfl⟩,fpk,?_,q⟩
 intro i H2 G2 e2 g2 _
 have hH2:=e2.frz p o (.dT ws) jQa
 have hlen:yss.length=ws.length:=by
  have a1:=lJ9 List.length hy
  rw[lJe,lJe] at a1
  have a2:=h2.length
  omega
 rw[lJe]
 refine⟨fun hi=>⟨hH2,by omega⟩,fun hi=>⟨hH2,by omega⟩,fun hi y H' ⟨eH,b,kv,g1,g2',g3⟩=> ?_⟩
 subst eH;subst g2'
 refine⟨.refl _,g2,.tup (yss[i]'hi),by rw[lJq,lJg hi];rfl,?_⟩
 have hk:i<kvs.length:=by have:=h2.length;omega
 obtain⟨w',k1,k2,_⟩:=jX8 h2 (lJg hk)
 rw[g1] at k1;cases k1
 have hyi:=lJ9 (fun l=>l[i]?) hy
 simp only[lJq,lJg hi,lJg hk,lQz,lXs] at hyi
 obtain⟨vs,t1,t2⟩:=g3
 rw[k2] at hyi
 exact⟨b,vs,rfl,t1,jXz qKn _ hyi t2⟩
end
section
variable {X:Cx} {cn f m:Str} {pos pos' apos p:Pos} {e o value:Expr} {es:List Expr} {ta tv:TE3} {t:TA3} {k:Nat} {ps:List Str} {sp:Sp3}
end
section
variable {X:Cx}
end
section
variable {X:Cx}
end
section
variable {P:Program} {w:World} {d:Addr}
end
section
variable {X:Cx}
end
theorem rt_init:Slot "reversed" "__init__" "object.__init__":=
 .of (n:="__init__") (owner:="object") (by rw[lQ5,lQ6];kernel_rfl) (by decide +kernel) (by decide +kernel) (by decide +kernel)
  (by first | exact .inl (by decide +kernel) | exact .inr (by decide +kernel)) (by rw[lQ7];kernel_rfl)
theorem rt_next:Slot "reversed" "__next__" "reversed.__next__":=
 .of (owner:="reversed") (n:="__next__") (by rw[lQ5,lQ6];kernel_rfl) (by decide +kernel) (by decide +kernel) (by decide +kernel)
  (by first | exact .inl (by decide +kernel) | exact .inr (by decide +kernel)) (by rw[lQ7];kernel_rfl)
theorem qJd:TypeCalled "reversed" "reversed.__new__" "object.__init__":=
 ⟨by decide +kernel,F.create_reversed,⟨_,_,F.mro_reversed⟩,F.made_reversed,F.plain_reversed_new,F.sub_reversed_self,rt_init⟩
theorem qUh:typeLookup (.type "tuple") "__reversed__"=pure none:=by rw[lQ5,lQ6];kernel_rfl
def jZd (l:Addr) (i:Int):Obj:={cls:= .type "reversed",data:= .fields #[.ref l,rawInt i]}
def IsTRev (h:Heap) (a l:Addr) (i:Int):Prop:=∃o,h.get? a=some o/\o.cls= .type "reversed"/\o.data= .fields #[.ref l,rawInt i]
section
variable {prog:Program} {w:World} {A:Around} {E:Value->Shared->Prop} {s:Shared}
theorem rt_new {l:Addr} {items:Array Value} {Q₁:Value->Shared->Prop} (hl:IsTup s.heap l items) (hz:items.size<=sizeLine)
  (h:∀t,Q₁ (.ref s.heap.objs.size) {s with heap:=s.heap.push (jZd l ((items.size:Int)-1)),toks:=t}):codeAny (model prog w) A (.call (.builtin "reversed.__new__") ⟨[.type "reversed",.ref l],[]⟩) (wants Q₁ E) s:=by
 refine codeAny_of_tree ?_
 refine (show wpAny _ A.in1 (do checkBuiltinCall "reversed.__new__" ⟨[.type "reversed",.ref l],[]⟩;again (.builtin "reversed.__new__" ⟨[.type "reversed",.ref l],[]⟩)) _ _ s from ?_)
 (refine lJa (lKq (F.newCall_reversed_1 _) (lJd ⟨lQv F.plain_reversed_new _,lQu F.entry_reversed_new ?_⟩)))
 (rw[lQ2 F.plain_reversed_new _])
 (unfold Builtin.«reversed.__new__»)
 (refine lJa (lKq (newClass_reversed _) ?_))
 try dsimp only
 (refine lJa (lKq (a:=()) (by first | rfl | kernel_rfl) ?_))
 (refine lJa (lKq (a:=()) (by first | rfl | kernel_rfl) ?_))
 try dsimp only
 have ty:s.TypeIs (.ref l) "tuple":=hl.typeIs
 refine lJa (lQ3 ty qUh ?_)
 try dsimp only
 refine lJa (show wpAny _ _ (isInstance (Value.ref l) (.type "dict") >>= _) _ _ s from lJa (lVg ty (b:=false) (by rw[lQ7];kernel_rfl) ?_))
 refine (show wpAny _ _ (specialOf (Value.ref l) "__getitem__" >>= _) _ _ s from lJa (lQ3 ty slot_tuple_getitem.lookup ?_))
 refine (show wpAny _ _ (if List.contains _ _=true then pure true else _) _ _ s from ?_)
 rw[lJc (by decide +kernel)]
 refine lJd ?_
 rw[lJb (by decide)]
 refine lJa (len_tuple hl (by have:=lKi;omega) ?_)
 refine lJa (lKq (a:=some (items.size:Int)) (by first | rfl | kernel_rfl) ?_)
 try dsimp only
 unfold Builtin.SmallTypes.newRecord
 exact lJa (lKe (lJd (h _)))
theorem jYg {l:Addr} {items:Array Value} {Q:Value->Shared->Prop} (hl:IsTup s.heap l items) (hz:items.size<=sizeLine)
  (h:∀t,Q (.ref s.heap.objs.size) {s with heap:=s.heap.push (jZd l ((items.size:Int)-1)),toks:=t}):wpAny (model prog w) A (call (.type "reversed") [.ref l]) Q E s:=by
 refine callType_codes (Q₁:=fun obj z=>∃t,obj= .ref s.heap.objs.size/\z={s with heap:=s.heap.push (jZd l ((items.size:Int)-1)),toks:=t}) qJd (F.typeCall_reversed_1 _) F.entry_object_init (rt_new hl hz fun t=>⟨t,rfl,rfl⟩) ?_
 rintro obj z ⟨t,rfl,rfl⟩
 have ty:({s with heap:=s.heap.push (jZd l ((items.size:Int)-1)),toks:=t}:Shared).TypeIs (.ref s.heap.objs.size) "reversed":=⟨_,lJu _ rfl,rfl⟩
 exact⟨ty,F.args_object_init_2 _ _,object_init_meets rt_init.lookup F.made_reversed (by decide) prog w A.in1 _ _ ⟨ty,rfl,h t⟩⟩
theorem IsTRev.typeIs {a l:Addr} {i:Int} (x:IsTRev s.heap a l i):s.TypeIs (.ref a) "reversed":=let ⟨o,ho,hc,_⟩:=x;⟨o,ho,hc⟩
theorem IsTRev.at {h h':Heap} {a l:Addr} {i:Int} (x:IsTRev h a l i) (e:∀o,h.get? a=some o->h'.get? a=some o):IsTRev h' a l i:=let ⟨o,ho,r⟩:=x;⟨o,e _ ho,r⟩
theorem kKq:Manifest.owners.lookup (String.ofList ['d','e','s','r','e','v','e','r'].reverse)=some Manifest.sig_reversed:=by kernel_rfl
theorem qJe (a:Value):argsOk "reversed.__next__" ⟨[a],[]⟩:=by
 unfold argsOk;rw[signature?_of (id:="reversed.__next__") (n:=['_','_','t','x','e','n','_','_']) (o:=['d','e','s','r','e','v','e','r']) (by kernel_rfl) kKq];kernel_rfl
theorem kXn:entryFor table "reversed.__next__"=some Builtin.«reversed.__next__» :=entryFor_of_tree (by kernel_rfl)
theorem kQp {it l:Addr} {i:Nat} {items:Array Value} {x:Value} {Q:Option Value->Shared->Prop} (hit:IsTRev s.heap it l (i:Int)) (hl:IsTup s.heap l items) (hz:items.size<=sizeLine) (hx:items[i]? =some x)
  (hQ:∀h' t,IsTRev h' it l ((i:Int)-1)->Heap.SameBut it s.heap h'->Q (some x) {s with heap:=h',toks:=t}):wpAny (model prog w) A (pyNext (.ref it)) Q E s:=by
 (obtain⟨o,ho,hc,hd⟩:=id hit)
 unfold pyNext
 refine lJa (lQ4 (lQt (name:=Str.ofString "__next__") hit.typeIs rt_next (lKl rt_next hit.typeIs kXn ?_ (qJe _))))
 unfold Builtin.«reversed.__next__»
 (refine lJa (lKq (a:=(Value.ref it,[])) rfl ?_))
 try dsimp only
 (refine lJa (lKp ho hd (x:= .ref l) rfl ?_))
 (refine lJa (lKp ho hd (x:=rawInt (i:Int)) rfl ?_))
 refine (show wpAny _ _ (if (i:Int)<0 then _ else _) _ _ s from ?_)
 rw[lJb (by omega)]
 have ty:s.TypeIs (.ref l) "tuple":=hl.typeIs
 refine lJa (lQ3 ty slot_tuple_getitem.lookup ?_)
 rw[lJb (by decide)]
 have hi:i<items.size:=(lXe.mp hx).1
 have hsl:=lKi
 refine lJa (wpAny_mkInt (lJa (lQ4 (getItem_tuple (s:={s with toks:=s.toks+1}) hl (by omega) (by omega) (j:=i) (by unfold seqIndex?; simp;omega) hx ?_))))
 try dsimp only
 (refine lJa (lKp ho hd (x:=rawInt (i:Int)) rfl ?_))
 refine (show wpAny _ _ (setField (.ref it) 1 (rawInt ((i:Int)-1)) >>= _) _ _ _ from lJa (lV3 ho hd (by simp) ?_))
 refine lJd ⟨x,rfl,lJd (hQ _ _ ?_ (lVc ..))⟩
 exact⟨_,lQn _ ho (Obj.isFreed_of_fields (Obj.data_mapFields hd _)),(Obj.cls_mapFields ..).trans hc,by rw[Obj.data_mapFields hd];simp⟩
theorem kU3 {it l:Addr} {Q:Option Value->Shared->Prop} (hh:A.handled=none) (hit:IsTRev s.heap it l (-1)) (hQ:∀h',Heap.ExtBut it s.heap h'->Q none {s with heap:=h'}):wpAny (model prog w) A (pyNext (.ref it)) Q E s:=by
 (obtain⟨o,ho,hc,hd⟩:=id hit)
 unfold pyNext
 refine lJa (lQ4 (lQt (name:=Str.ofString "__next__") hit.typeIs rt_next (lKl rt_next hit.typeIs kXn ?_ (qJe _))))
 unfold Builtin.«reversed.__next__»
 (refine lJa (lKq (a:=(Value.ref it,[])) rfl ?_))
 try dsimp only
 (refine lJa (lKp ho hd (x:= .ref l) rfl ?_))
 (refine lJa (lKp ho hd (x:=rawInt (-1)) rfl ?_))
 refine (show wpAny _ _ (if (-1:Int)<0 then _ else _) _ _ s from ?_)
 rw[lJc (by decide)]
 refine lJa (lVj ?_)
 refine lJa (show wpAny _ _ (setField (.ref it) 1 (rawInt (-1)) >>= _) _ _ s from lJa (lV3 ho hd (by simp) ?_))
 have ho':=lQn (h:=s.heap) (Obj.mapFields (·.setIfInBounds 1 (rawInt (-1)))) ho (Obj.isFreed_of_fields (Obj.data_mapFields hd _))
 refine (show wpAny _ _ (setField (.ref it) 0 .none) _ _ _ from lV3 ho' (Obj.data_mapFields hd _) (by simp) ?_)
 refine (show wpAny _ _ (Builtin.SmallTypes.stopIteration >>= _) _ _ _ from lJa ?_)
 refine (show wpAny _ _ (newExc (.type "StopIteration") [] >>= _) _ _ _ from lJa ?_)
 simp only[newExc,newTuple]
 (refine lJa (lKe ?_ (by size_fits)))
 refine lJa (m:=firstArgMember _ _) (lKq (a:=Value.none) (by first | rfl | (simp only[firstArgMember];rfl)) (lKe ?_ (by size_fits)))
 simp only[raiseNew]
 (refine lJa (wpAny_handled ?_))
 (rw[show A.in1.handled=none from hh])
 (refine lJa (lJd (wpAny_throw ?_)))
 refine lJa (lVg (T:="StopIteration") (b:=true) ⟨_,lJu _ rfl,rfl⟩ isSubtype_stop (lJd (hQ _ fun b o hb e=> ?_)))
 exact lJk _ (lJk _ ((lX7 _ _ _ _ hb).trans ((lX7 _ _ _ _ hb).trans e)))
theorem qJb:Slot "reversed" "__iter__" "reversed.__iter__":=
 .of (owner:="reversed") (n:="__iter__") (by rw[lQ5,lQ6];kernel_rfl) (by decide +kernel) (by decide +kernel) (by decide +kernel)
  (by first | exact .inl (by decide +kernel) | exact .inr (by decide +kernel)) (by rw[lQ7];kernel_rfl)
theorem qUi (a:Value):argsOk "reversed.__iter__" ⟨[a],[]⟩:=by
 unfold argsOk;rw[signature?_of (id:="reversed.__iter__") (n:=['_','_','r','e','t','i','_','_']) (o:=['d','e','s','r','e','v','e','r']) (by kernel_rfl) kKq];kernel_rfl
theorem qJc:entryFor table "reversed.__iter__"=some Builtin.«dict_keyiterator.__iter__» :=
 entryFor_alias (id':="dict_keyiterator.__iter__") (by kernel_rfl) (by first | rfl | decide +kernel | (unfold String.splitOn;simp +decide [String.splitOnAux])) (by decide +kernel) (by kernel_rfl)
theorem qJa {it l:Addr} {i:Int} {Q:Value->Shared->Prop} (hit:IsTRev s.heap it l i) (h:Q (.ref it) s):wpAny (model prog w) A (pyIter (.ref it)) Q E s:=by
 refine lYe hit.typeIs qJb (lKl qJb hit.typeIs qJc ?_ (qUi _))
 exact (show wpAny _ _ (ret (.ref it)) _ _ s from lJd ⟨_,rfl,"reversed",_,hit.typeIs,rt_next.lookup,h⟩)
end
theorem qJg:typeLookup (.type "reversed") "__len__"=pure none:=by rw[lQ5,lQ6];kernel_rfl
theorem kYt:typeLookup (.type "reversed") "__length_hint__"=pure (some (.builtin "reversed.__length_hint__")):=by rw[lQ5,lQ6];kernel_rfl
theorem rl_slot:Slot "reversed" "__length_hint__" "reversed.__length_hint__":=
 .of (owner:="reversed") (n:="__length_hint__") (by rw[lQ5,lQ6];kernel_rfl) (by decide +kernel) (by decide +kernel) (by decide +kernel)
  (by first | exact .inl (by decide +kernel) | exact .inr (by decide +kernel)) (by rw[lQ7];kernel_rfl)
theorem qYs (a:Value):argsOk "reversed.__length_hint__" ⟨[a],[]⟩:=by
 unfold argsOk;rw[signature?_of (id:="reversed.__length_hint__") (n:=['_','_','t','n','i','h','_','h','t','g','n','e','l','_','_']) (o:=['d','e','s','r','e','v','e','r']) (by kernel_rfl) kKq];kernel_rfl
theorem qUl:entryFor table "reversed.__length_hint__"=some Builtin.«reversed.__length_hint__» :=entryFor_of_tree (by kernel_rfl)
section
variable {P:Program} {w:World} {A:Around} {E:Value->Shared->Prop} {s:Shared} {it l:Addr} {xs:Array Value}
theorem qYr {Q:Value->Shared->Prop} (hi:IsTRev s.heap it l ((xs.size:Int)-1)) (hl:IsTup s.heap l xs) (hz:xs.size<=sizeLine) (h:∀t u,Q (.int (xs.size:Int) t) {s with toks:=u}):wpAny (model P w) A (call (.builtin "reversed.__length_hint__") [.ref it]) Q E s:=by
 obtain⟨o,ho,hc,hd⟩:=id hi
 have hsl:=lKi
 refine lKl rl_slot hi.typeIs qUl ?_ (qYs _)
 unfold Builtin.«reversed.__length_hint__»
 refine lJa (lKq (a:=Value.ref it) rfl ?_)
 (refine lJa (lKp ho hd (x:= .ref l) rfl ?_))
 (rw[lJb (show ¬ ((Value.ref l == Value.none)=true) from lJm)])
 refine lJa (len_tuple hl (by omega) ?_)
 refine lJa (lKq (a:=some (xs.size:Int)) (by first | rfl | kernel_rfl) ?_)
 try dsimp only
 refine lJa (lKp ho hd (x:=rawInt ((xs.size:Int)-1)) rfl ?_)
 refine (show wpAny _ _ (if (xs.size:Int)<(xs.size:Int)-1+1 then _ else _) _ _ _ from ?_)
 rw[lJb (by omega),show (xs.size:Int)-1+1=xs.size by omega]
 exact lJa (wpAny_mkInt (lJd ⟨_,rfl,h _ _⟩))
theorem qYq {Q:Bool->Shared->Prop} (hi:IsTRev s.heap it l ((xs.size:Int)-1)) (hl:IsTup s.heap l xs) (hz:xs.size<=sizeLine) (h:∀b u,Q b {s with toks:=u}):wpAny (model P w) A (Builtin.List.listLengthHint (.ref it)) Q E s:=by
 have hsl:=lKi
 have ty:=hi.typeIs
 (unfold Builtin.List.listLengthHint)
 refine lJa (lQ3 ty qJg ?_)
 refine (show wpAny _ A (specialOf (Value.ref it) (Str.ofString "__length_hint__") >>= _) _ _ _ from lJa (lQ3 ty kYt ?_))
 generalize hn:("reversed.__length_hint__":String)=nm
 wp_delta
 rw[show splitId nm=some ("reversed","__length_hint__") by subst hn;decide +kernel];subst hn
 refine lJa (lVg (T:="reversed") (b:=true) ty (by rw[lQ7];kernel_rfl) (lXl (fun z=>absurd z (by decide)) fun _=> ?_))
 refine lXl (fun z=>absurd z (by decide +kernel)) fun _=> ?_
 refine lJa (lVj ?_)
 refine lJa (lKq (rl_slot.bind _) ?_)
 try dsimp only
 refine lJa (lQ4 (qYr hi hl hz fun t u=> ?_))
 split
 ·rename_i e he;cases he
 ·rename_i he;cases he
 ·rename_i r _ he
  cases he
  have ea:asInt? (Value.int (xs.size:Int) t)=pure (some (xs.size:Int)):=by first | rfl | kernel_rfl
  rw[ea,pure_bind]
  split
  ·rename_i n hn
   cases hn
   rw[lJb (by rw[fitsIndex_both (by omega) (by omega)];exact lJm),lJb (by omega),lJb (by rw[kX0 (by simpa using hz)];exact lJm)]
   exact lJd (h _ _)
  ·rename_i hn
   exact (hn _ rfl).elim
end
theorem qQ4 {prog:Program} {w:World} {A:Around} (hh:A.handled=none) (I l:Addr) (hne:l≠I) (items:Array Value) (hz:items.size<=sizeLine):
  Walks prog w A I [I,l] [I] items.size (fun i v=>items[items.size-1-i]? =some v) (fun i h=>i<=items.size/\IsTRev h I l ((items.size:Int)-1-(i:Int))/\IsTup h l items) where
 sub:=fun b hb=>(by simp at hb;simp[hb])
 frame:=fun _ _ _ x hk=>⟨x.1,x.2.1.at fun o e=>hk I (by simp) o e,let ⟨o,ho,r⟩:=x.2.2;⟨o,hk l (by simp) o ho,r⟩⟩
 item i s Q E hi x hQ:=by
  (have e:(items.size:Int)-1-(i:Int)=((items.size-1-i:Nat):Int):=by omega)
  have hit:=x.2.1
  rw[e] at hit
  (have hx:items[items.size-1-i]? =some (items[items.size-1-i]'(by omega)):=lQe (by omega))
  refine kQp hit x.2.2 hz hx fun h' t hit' hs'=> ?_
  (have e2:((items.size-1-i:Nat):Int)-1=(items.size:Int)-1-((i+1:Nat):Int):=by omega)
  rw[e2] at hit'
  exact hQ _ h' t hx ⟨hi,hit',let ⟨o,ho,r⟩:=x.2.2;⟨o,(hs'.2 l hne).trans ho,r⟩⟩ fun b o hb eo=>hs'.extBut b o (fun h=>hb (by simp[h])) eo
 done:=fun s Q E x hQ=>by
  (have e:(items.size:Int)-1-(items.size:Int)= -1:=by omega)
  have hit:=x.2.1
  rw[e] at hit
  exact kU3 hh hit fun h' he'=>hQ h' s.toks fun b o hb eo=>he' b o (fun h=>hb (by simp[h])) eo
 self:=fun _ _ _ _ x hQ=>qJa x.2.1 hQ
theorem qK4 {P:Program} {w:World} {A:Around} {s:Shared} {R:Result->Shared->Prop} {it l S:Addr} {xs:Array Value} (hh:A.handled=none) (hi:IsTRev s.heap it l ((xs.size:Int)-1)) (hl:IsTup s.heap l xs) (hz:xs.size<=sizeLine) (res:Value) (c0:Nat)
  (hS:s.heap.get? S=some {cls:= .type "list",data:= .seq #[] c0})
  (hR:∀(g:Heap) (tk:Nat) (acc:Array Value) (c':Nat),(∀d o,d≠S->d≠it->s.heap.get? d=some o->g.get? d=some o)->g.get? S=some {cls:= .type "list",dict:=none,data:= .seq acc c',slots:= #[]}->ItemsOf (fun i v=>xs[xs.size-1-i]? =some v) acc xs.size->R (.ok (.ret res)) {s with heap:=g,toks:=tk}):
  wpAny (model P w) A.in1 (Builtin.List.listExtendWith (.ref S) (.ref it) res) (fun fin z=>match fin with | .done f=>R (.ok f) z | .again c'=>c'.quiet=true/\codeAny (model P w) A c' R z) (fun e z=>R (.error e) z) s:=by
 have hSi:S≠it:=by
  rintro rfl
  obtain⟨o,ho,hc,_⟩:=hi
  rw[hS] at ho;cases ho
  exact absurd hc (show ¬ Value.type "list"=Value.type "reversed" by decide)
 have hSl:S≠l:=by
  rintro rfl
  obtain⟨o,ho,hc,_⟩:=hl
  rw[hS] at ho;cases ho
  exact absurd hc (show ¬ Value.type "list"=Value.type "tuple" by decide)
 have ne:l≠it:=by
  rintro rfl
  obtain⟨o,ho,hc,_⟩:=hi
  obtain⟨o',ho',hc',_⟩:=hl
  rw[ho] at ho';cases ho'
  rw[hc] at hc'
  exact absurd hc' (by decide)
 have key:∀(h:Heap) (c₁ tk:Nat),IsTRev h it l ((xs.size:Int)-1)->IsTup h l xs->(∀b o,b≠S->s.heap.get? b=some o->h.get? b=some o)->
   h.get? S=some {cls:= .type "list",data:= .seq #[] c₁ }->codeAny (model P w) A (.builtin "list.extend.loop" ⟨[.ref S,.ref it,res],[]⟩) R {s with heap:=h,toks:=tk}:=by
  intro h c₁ tk hi' hl' hk hS₁
  have Wk:=(qQ4 (prog:=P) (w:=w) (A:=A.in1) hh it l ne xs hz).toS
  refine codeAny_extend_loopS Wk hz S (by simp[hSi,hSl]) res xs.size 0 _ #[] c₁ rfl (lJy _) ⟨lJy _,by simpa using hi',hl'⟩ hS₁ (ItemsOf.nil _) fun z acc c' hm hS' hacc=> ?_
  rw[Moved.eq_with hm]
  exact hR z.heap z.toks acc c' (fun b o h1 h2 e=>hm.heap b o (by simp[h1,h2]) (hk b o h1 e)) hS' hacc
 (unfold Builtin.List.listExtendWith)
 refine lJa (lVi hi.typeIs ?_)
 have z1:Builtin.List.listSameRef (.ref S) (.ref it)=false:=by simp[Builtin.List.listSameRef,hSi]
 have z2:(Value.type "reversed" == Value.type "list")=false:=by decide
 have z3:(Value.type "reversed" == Value.type "tuple")=false:=by decide
 simp only[z1,z2,z3,Bool.or_false,lKg,lJ3]
 refine lJa (qJa hi (lJa (lKy (qYq hi hl hz fun b u=> ?_))))
 refine lXl (fun _=> ?_) (fun _=>lJd ⟨lQv F.plain_extend_loop _,key _ c0 _ hi hl (fun b o _ e=>e) hS⟩)
 refine lJa (lVj (lJa ?_))
 refine (show wpAny _ _ (updateSeq S (·.push .none) >>= fun _=>updateSeq S (·.pop)) _ _ _ from lJa (wpAny_updateSeq hS rfl ?_))
 (have hS₂:=lQn (Obj.mapSeq (·.push Value.none)) hS rfl)
 (refine wpAny_updateSeq (hz:=by seq_fits) hS₂ rfl ?_)
 (have hS₃:=lQn (Obj.mapSeq (·.pop)) hS₂ rfl)
 have oth:∀b o,b≠S->s.heap.get? b=some o->((s.heap.update S (Obj.mapSeq (·.push Value.none))).update S (Obj.mapSeq (·.pop))).get? b=some o:=fun b o hb e=>(lV9 _ _ (Ne.symm hb)).trans ((lV9 _ _ (Ne.symm hb)).trans e)
 exact lJd ⟨lQv F.plain_extend_loop _,key _ _ _ (hi.at fun o e=>oth _ o hSi.symm e) (let ⟨o,ho,r⟩:=hl;⟨o,oth _ o hSl.symm ho,r⟩) oth hS₃⟩
section
variable {X:Cx}
end
theorem kZl {P:Program} {w:World} {A:Around} {E:Value->Shared->Prop} {s:Shared} {it l:Addr} {xs:Array Value} {Q:List Value->Shared->Prop} (hh:A.handled=none) (hi:IsTRev s.heap it l ((xs.size:Int)-1)) (hl:IsTup s.heap l xs) (hz:xs.size<=sizeLine)
  (hQ:∀(g:Heap) (tk:Nat) (acc:Array Value),(∀d o,d≠it->s.heap.get? d=some o->g.get? d=some o)->s.heap.objs.size<g.objs.size->ItemsOf (fun i v=>xs[xs.size-1-i]? =some v) acc xs.size->Q acc.toList {s with heap:=g,toks:=tk}):wpAny (model P w) A (collect (.ref it)) Q E s:=by
 have key:∀R:Result->Shared->Prop,(∀(g:Heap) (tk:Nat) (acc:Array Value) (c':Nat),(∀d o,d≠it->s.heap.get? d=some o->g.get? d=some o)->g.get? s.heap.objs.size=some {cls:= .type "list",dict:=none,data:= .seq acc c',slots:= #[]}->ItemsOf (fun i v=>xs[xs.size-1-i]? =some v) acc xs.size->R (.ok (.ret (.ref s.heap.objs.size))) {s with heap:=g,toks:=tk})->
   codeAny (model P w) A (.builtin "proto.collect" ⟨[.ref it],[]⟩) R s:=by
  intro R hR
  refine lQu F.entry_proto_collect ?_;rw[lQ2 F.plain_proto_collect _]
  refine (show wpAny _ A.in1 (newList [] >>= fun l=>again (.builtin "list.__iadd__" ⟨[l,.ref it],[]⟩)) _ _ s from lJa (lKe (lJd ⟨lQv lX6 _,lQu F.entry_list_iadd ?_⟩)))
  rw[lQ2 lX6 _];have hS:(s.heap.push {cls:= .type "list",data:= .seq ([]:List Value).toArray}).get? s.heap.objs.size=some {cls:= .type "list",data:= .seq ([]:List Value).toArray}:=lJu _ rfl
  obtain⟨ol,hol,hcl⟩:=id hl
  exact qK4 (A:=A) (R:=R) hh (hi.at fun o e=>lJk _ e) ⟨ol,lJk _ hol,hcl⟩ hz (.ref s.heap.objs.size) _ hS fun g tk acc c' kp hS' itm=>hR g tk acc c' (fun d o h1 e=>kp d o (lJs (lJi e)) h1 (lJk _ e)) hS' itm
 unfold collect
 exact lJa (wpAny_runValue (key _ fun g tk acc c' kp hS' itm=>(show wpAny _ A (load s.heap.objs.size >>= _) _ _ _ from lJa (wpAny_load hS' (lJd (hQ g tk acc kp (lJi hS') itm))))))
theorem qQ8 {P:Program} {w:World} {A:Around} {E:Value->Shared->Prop} {s:Shared} {it l:Addr} {xs:Array Value} {Q:Value->Shared->Prop} (hh:A.handled=none) (hi:IsTRev s.heap it l ((xs.size:Int)-1)) (hl:IsTup s.heap l xs) (hz:xs.size<=sizeLine)
  (hQ:∀(g:Heap) (tk:Nat) (acc:Array Value),(∀d o,d≠it->s.heap.get? d=some o->g.get? d=some o)->s.heap.objs.size<g.objs.size->ItemsOf (fun i v=>xs[xs.size-1-i]? =some v) acc xs.size->Q (.ref g.objs.size) {s with heap:=g.push {cls:= .type "tuple",data:= .seq acc},toks:=tk}):
  wpAny (model P w) A (call (.type "tuple") [.ref it]) Q E s:=by
 refine callType_codes (Q₁:=fun obj z=>z.TypeIs obj "tuple"/\Q obj z) F.called_tuple (F.typeCall_tuple_1 _) F.entry_object_init (codeAny_of_tree ?_) fun obj z hz=>⟨hz.1,F.args_object_init_2 obj _,object_init_meets F.called_tuple.init.lookup F.called_tuple.made (by decide) P w A.in1 _ z ⟨hz.1,rfl,hz.2⟩⟩
 refine (show wpAny _ A.in1.in1 (do checkBuiltinCall "tuple.__new__" ⟨[.type "tuple",.ref it],[]⟩;again (.builtin "tuple.__new__" ⟨[.type "tuple",.ref it],[]⟩)) _ _ s from lJa (lKq (F.newCall_tuple_1 _) (lJd ⟨lQv F.plain_tuple_new _,lQu F.entry_tuple_new ?_⟩)))
 rw[lQ2 F.plain_tuple_new _];have h1:=sub_tuple_self
 have h2:=init_tuple_lookup
 have h3:=madeHere_tuple
 have ty:=hi.typeIs
 wp_walk using wpAny_typeOf ty,kZl (A:=A.in1.in1) hh hi hl hz
 intro g tk acc kp big itm
 refine (show wpAny _ _ (Builtin.Tuple.tupleExact acc.toList.toArray >>= fun x=>ret x) _ _ _ from ?_)
 unfold Builtin.Tuple.tupleExact;refine lJa (lKe (lJd ?_) (by show acc.toList.toArray.size<=sizeLine;simp only[Array.toArray_toList];rw[itm.1];exact hz))
 rw[show acc.toList.toArray=acc by simp]
 exact⟨⟨_,lJu _ rfl,rfl⟩,hQ g tk acc kp big itm⟩
section
variable {X:Cx}
def kXh (ta:TA3):TE3:=fun τ G Q=>ta τ G fun vs G1=>∃xs,vs=[.tup xs]/\Q (.tup xs.reverse) G1
theorem qZy {pos pos' p p':Pos} {a:Expr} {ta:TA3} (hc:X.calm=true) (hl:Gl X "tuple") (hlm:X.mg "tuple"=none) (hg:Gl X "reversed") (hm:X.mg "reversed"=none) (hv:bootBuiltins "reversed"=some (.type "reversed")) (ha:PA3 X [a] ta) (hs:starEach [a] X.env=[(false,eval a X.env)]:=by rfl)
  (hs':starEach [Expr.Call (.Name "reversed" p) [a] [] pos] X.env=[(false,eval (.Call (.Name "reversed" p) [a] [] pos) X.env)]:=by rfl):
  PE3 X (.Call (.Name "tuple" p') [.Call (.Name "reversed" p) [a] [] pos] [] pos') (kXh ta):=by
 intro pins s τ G H Q I h
 obtain⟨σ,I0,_,_⟩:=id I
 refine Call_ (jQ6 I0 hl hlm rfl (lQa ?_ hs' rfl))
 rw[hs']
 refine Calls.spliced_cons (Call_ (jQ6 I0 hg hm hv (lQa (thn (ha pos pins s τ G H _ I h) fun us s1 w_=>w_.el fun ys G1 H1 e1 i_ r_ q1=>i_.el fun σ1 I1 hs1 hg1=>r_.el fun as ras rvs=> ?_) hs rfl)))
 obtain⟨xs,e,q⟩:=q1
 subst e
 obtain⟨v,rfl,rv⟩:=jU3 ras
 obtain⟨u,rfl,ru⟩:=rvs.one
 obtain⟨pa,vs,e,hq,r⟩:=(show ∃a vs,v= .ref a/\H1 a=some (.tup vs)/\Reps X.K H1 xs vs from rv)
 subst e
 cases ru
 obtain⟨its,rvv,pl,hz⟩:=I1.tuple (.of hq)
 have hlen:its.length=xs.length:=by have:=rvv.length;have:=r.length;omega
 have hvl:=rvv.length
 refine jYg pl (by simp;omega) fun t=>Calls.spliced_nil ?_
 obtain⟨ol,hol,hcl⟩:=id pl
 refine qQ8 (s:={s1 with heap:=s1.heap.push (jZd pa ((its.toArray.size:Int)-1)),toks:=t}) (it:=s1.heap.objs.size) (l:=pa) (xs:=its.toArray) (I1.ok.hd hc) ⟨_,lJu _ rfl,rfl,rfl⟩ ⟨ol,lJk _ hol,hcl⟩ (by simp;omega) fun g tk acc kp big itm=> ?_
 have hacc:acc.toList=its.reverse:=by
  apply lK8
  intro i
  by_cases hi:i<its.length
  ·have hia:i<acc.size:=by rw[itm.1];simpa using hi
   have e1:acc.toList[i]? =some acc[i]:=by simp[hia]
   have e2:=itm.2 i acc[i] (by simp[hia])
   rw[e1,List.getElem?_reverse hi]
   simpa using e2.symm
  ·rw[lKa (by have:=itm.1;simp at this ⊢; omega),lKa (by simp;omega)]
 have hge:s1.heap.objs.size<=g.objs.size:=by rw[lXo] at big;omega
 have fr:=I1.hok.fresh hge
 have hvl:=rvv.length
 have I3:=I1.laid (a:=g.objs.size) (o:= .tup vs.reverse) (h':=g.push {cls:= .type "tuple",data:= .seq acc}) (t':=tk) (fun b o e=>lJk _ (kp b o (lJs (lJi e)) (lJk _ e))) hge ⟨by simp;omega,acc.toList,by rw[hacc];exact rvv.reverse,by simpa using TupD.new g acc⟩
 have ext:Ext H1 (upd H1 g.objs.size (.tup vs.reverse)):= .upd (.none fr)
 exact⟨.tup xs.reverse,G1,_,e1.trans ext,⟨σ1,I3,hs1.mono ext,hg1.tupNew fr⟩,⟨.ref g.objs.size,Rep.tupNew r.reverse fr,rfl⟩,q⟩
end
section
variable {X:Cx} {pos:Pos} {e a:Expr} {es:List Expr} {te ta:TE3} {t:TA3} {st:Stmt} {rest:List Stmt} {ts us:TS3}
structure PEi (X:Cx) (e:Expr) (t:TE3):Prop where
 out:PE3 X e t
structure PAi (X:Cx) (es:List Expr) (t:TA3):Prop where
 out:PA3 X es t
structure PSi (X:Cx) (s:Stmt) (t:TS3):Prop where
 out:PS3 X s t
structure PSsi (X:Cx) (s:List Stmt) (t:TS3):Prop where
 out:PSs3 X s t
theorem jQ7 {i j}:PEi X (.Constant (.int i) j pos) (tC (.int i)):=⟨jJj⟩
theorem ei_bl {b j}:PEi X (.Constant (.bool b) j pos) (tC (.bl b)):=⟨e_bl⟩
theorem ei_non {j}:PEi X (.Constant .none j pos) (tC .non):=⟨e_non⟩
theorem qQa {x j}:PEi X (.Constant (.str x) j pos) (tC (.str x)):=⟨e_str⟩
theorem ei_neg (h:PEi X a ta):PEi X (.UnaryOp .USub a pos) (tUn rNeg ta):=⟨e_un qYd h.out⟩
theorem ei_op {b:Expr} {tb:TE3} {op:Operator} {r:R3} (ho:Op3 X (binaryOp op) r) (ha:PEi X a ta) (hb:PEi X b tb):PEi X (.BinOp a op b pos) (tOp r ta tb):=⟨e_op ho ha.out hb.out⟩
theorem jXx {x1} (h:PAi X es t):PEi X (.Tuple es x1 pos) (tTup t):=⟨jKn h.out⟩
theorem kYf (h:PAi X es t):PEi X (.List es pos) (tLst t):=⟨jQf h.out⟩
theorem jUp:PAi X [] tNil:=⟨jJd⟩
theorem jJ3 (ha:PEi X e te) (hr:PAi X es t) (hs:starEach (e::es) X.env=(false,eval e X.env)::starEach es X.env:=by rfl):PAi X (e::es) (jJa te t):=⟨jJb ha.out hr.out hs⟩
theorem qXl {i:Nat} {x:Str} {pos':Pos} (hN:X.N.Nodup) (he:PEi X e te) (hi:X.N[i]? =some x:=by rfl) (hx:Loc X.env.scope x:=by first | exact Or.inl rfl | exact Or.inr rfl)
  (hs:swapsWith e (some (.Name x pos')) pos.line X.env=pure false:=by rfl) (hf:X.fn x=true\/X.env.scope.names.lookup x=some .local:=by first | exact .inl rfl | exact .inr rfl):
  PSi X (.Assign [.Name x pos'] e pos) (tAsg te (jJh i)):=⟨jKa hN he.out hi hx hs hf⟩
theorem si_ret (he:PEi X e te):PSi X (.Return (some e) pos) (tRet te):=⟨jJ5 he.out⟩
theorem qYj (h:PSi X st ts):PSsi X [st] ts:=⟨jJk h.out⟩
theorem kXk (h:PSi X st ts) (h':PSsi X rest us):PSsi X (st::rest) (tSeq ts us):=⟨jJe h.out h'.out⟩
end
end L3
namespace PySem
open Sem (wp)
set_option maxRecDepth 100000
end PySem
namespace L3
open PySem PySem.Spec PyProof.Rows L2
section
variable {prog:Program} {w:World} {A:Around} {E:Value->Shared->Prop} {s:Shared}
end
section
variable {X:Cx}
end
section
variable {X:Cx}
end
mutual
inductive RdG (G:Gp):T->PyData->Prop
 | non:RdG G .non .none
 | bl (b:Bool):RdG G (.bl b) (.bool b)
 | int (i:Int):RdG G (.int i) (.int i)
 | str (x:Str):RdG G (.str x) (.str x)
 | tup {xs:List T} {ds:List PyData}:RdGs G xs ds->RdG G (.tup xs) (.tuple ds)
 | lst {p:Addr} {xs:List T} {ds:List PyData}:G p=some (.lst xs)->RdGs G xs ds->RdG G (.ref p) (.list ds)
inductive RdGs (G:Gp):List T->List PyData->Prop
 | nil:RdGs G [] []
 | cons {x:T} {d:PyData} {xs:List T} {ds:List PyData}:RdG G x d->RdGs G xs ds->RdGs G (x::xs) (d::ds)
end
section
variable {X:Cx}
mutual
theorem qYv {pins:List (Addr×Obj)} {σ:L2.St} {H:Hp} {s:Shared} {G:Gp} (I:Inv X pins σ H s) (hg:GRel X.K H G):∀ {x:T} {d:PyData} {a:V} {u:Value},RdG G x d->Rep X.K H x a->RelV a u->∃as,Reads s.heap u d as
 | _,_,a,u,.non,r,q=>by cases (show a= .non from r);cases q;exact⟨_,.none⟩
 | _,_,a,u,.bl b,r,q=>by cases (show a= .bl b from r);cases q;exact⟨_,.bool b⟩
 | _,_,a,u,.int b,r,q=>by cases (show a= .int b from r);obtain⟨t,rfl⟩:=q;exact⟨_,.int b t⟩
 | _,_,a,u,.str b,r,q=>by cases (show a= .str b from r);obtain⟨t,rfl⟩:=q;exact⟨_,.str b t⟩
 | .tup xs,_,a,u,.tup h,r,q=>by
  obtain⟨p,vs,e1,h1,h2⟩:=(show ∃p vs,a= .ref p/\H p=some (.tup vs)/\Reps X.K H xs vs from r)
  subst e1;cases q
  obtain⟨its,rv,⟨o,ho,hc,n,hd⟩,_⟩:=I.tuple (.of h1)
  obtain⟨as,ra⟩:=kKv I hg h h2 rv
  exact⟨_,.tuple ho hc hd (by simpa using ra)⟩
 | .ref p,_,a,u,.lst hp h,r,q=>by
  cases (show a= .ref p from r);cases q
  obtain⟨vs,h1,h2⟩:=hg.lst hp
  obtain⟨its,rv,⟨o,n,ho,hc,_,hd⟩,_⟩:=I.list (.of h1)
  obtain⟨as,ra⟩:=kKv I hg h h2 rv
  exact⟨_,.list ho hc hd (by simpa using ra)⟩
theorem kKv {pins:List (Addr×Obj)} {σ:L2.St} {H:Hp} {s:Shared} {G:Gp} (I:Inv X pins σ H s) (hg:GRel X.K H G):∀ {xs:List T} {ds:List PyData} {vs:List V} {us:List Value},RdGs G xs ds->Reps X.K H xs vs->Vals vs us->∃as,ReadsAll s.heap us ds as
 | _,_,_,_,.nil,r,q=>by cases r;cases q;exact⟨_,.nil⟩
 | _,_,_,_,.cons h hs,⟨v,ws,e,r1,r2⟩,q=>by
  subst e
  cases q with
  | cons q1 q2=>
   obtain⟨as,ra⟩:=qYv I hg h r1 q1
   obtain⟨bs,rb⟩:=kKv I hg hs r2 q2
   exact⟨_,.cons ra rb⟩
end
end
section
variable {X:Cx}
def jZs:R3:=fun x y G Q=>∃p xs,y= .ref p/\G p=some (.lst xs)/\eqOk x=true/\jYd xs=true/\Q (.bl (!(tds xs).any fun z=>PyData.eqv z (td x))) G
theorem kK8 (hu:X.A.units+64<cLine):Op3 X (compareOp .NotIn) jZs:=by
 rintro pins s τ G H x y v u Q ⟨σ,I,hs,hg⟩ ⟨a,ra,rv⟩ ⟨b,rb,ru⟩ ⟨p,xs,ey,hp,ox,oxs,q⟩
 subst ey
 cases (show b= .ref p from rb)
 cases ru
 obtain⟨vs,h1,h2⟩:=hg.lst hp
 obtain⟨its,r1,⟨o,n,ho,hc,_,hd⟩,_⟩:=I.list (.of h1)
 simp only[eqOk,jYd,lJ6,lKz] at ox oxs
 obtain⟨as,r3⟩:=jXm I xs oxs.1.1 h2 r1
 obtain⟨bs,r4⟩:=kKu I x ox.1.1 ra rv
 have hd':=ox.2
 exact SeqAt.notIn_list_reads (.list ho hc hd (by simpa using r3)) r4 (by simpa[PyData.canLay0] using oxs.1.2) ox.1.2 (by have:=Nat.min_le_right (PyData.depthAll (tds xs)) (td x).depth;omega) ⟨.bl _,G,H,.refl H,⟨σ,I,hs,hg⟩,⟨.bl _,rfl,rfl⟩,q⟩
end
end L3
namespace W
open PySem L3
local macro_rules
 | `(tactic| wp_walk using 1, $ts,*) => do
  let ls ← ts.getElems.mapM fun t => `(Lean.Parser.Tactic.simpLemma| $t:term)
  let ns ← ("tSeq tIfS jJs tOp rGt rLt rGe rSub L3.rI0 L3.rI rIxF tVar tC tAsg tCB jJa tNil kVd rLen rAbs rMax kQv gTup jKd gNil gSub jJh jQr tRet tRetN jJ8 jUq jJp tLst tTup tIf tNot tAnd tOr kQn tOrV qQ9 tPar jJr jQ4 rMod rFdiv rPow rIsN rNotN qZo tTru rTru truT tUn rNeg qV8 qVc qVe qVd qZu kJd qZk qZl at0 at1 at2 ix30 ix31 ix32 qUf qUe qZm qUg Option.map_some and_assoc T.int.injEq T.bl.injEq T.tup.injEq T.ref.injEq List.cons.injEq and_true true_and exists_eq_left exists_eq_left' exists_and_left exists_eq_right List.getElem?_cons_zero List.getElem?_cons_succ List.set_cons_zero List.set_cons_succ List.length_cons List.length_nil Nat.reduceAdd Option.some.injEq jJi qKx reduceCtorEq false_and exists_false exists_const Bool.true_eq Bool.not_eq_true' Bool.not_true Bool.not_false if_true if_false decide_eq_true_eq tBM jKv jZv jKj qUa jQ2 GO.lst.injEq msk List.zipWith_cons_cons List.zipWith_nil_left List.zipWith_nil_right Bool.false_eq_true qYe".splitOn " ").toArray.mapM fun n => `(Lean.Parser.Tactic.simpLemma| $(Lean.mkIdent n.toName):term)
  let al:=ns++ls
  `(tactic| ((try dsimp only [$al,*]); (try simp only [$al,*])))
local macro_rules
 | `(tactic| omega) => `(tactic| first | exact szle rfl | lia)
def BoxAt (G:Gp) (b:Addr) (n:Nat):Prop:=∃x y z:Int,G b=some (.lst [.int x,.int y,.int z])/\0<=x/\0<=y/\y<2147483648/\0<=z/\z<=n
def Keep (b:Addr) (G G':Gp):Prop:=∀c o,c≠b->G c=some o->G' c=some o
theorem Keep.refl (b:Addr) (G:Gp):Keep b G G:=fun _ _ _ h=>h
theorem Keep.trans {b:Addr} {G G1 G2:Gp} (h:Keep b G G1) (h':Keep b G1 G2):Keep b G G2:=fun c o hc e=>h' c o hc (h c o hc e)
theorem Keep.gup {b:Addr} {G:Gp} {o:GO}:Keep b G (gup G b o):=fun c u hc e=>by rw[jJv hc];exact e
theorem Keep.new {b p:Addr} {G:Gp} {o:GO} (hp:G p=none):Keep b G (L3.gup G p o):=fun c u _ e=>by rw[jJv];exact e;rintro rfl;rw[hp] at e;cases e
abbrev RdOk (sp:Sp3) (rd:TS3) (N:List Str):Prop:=∀xs G Q,sp xs G Q->rd {nx:=fun _ G'=>Q .non G',rt:=Q} (jZh N xs) G
noncomputable def jJl:Sp3:=fun xs G Q=>∃(b:Addr) (m:Int) (n:Nat),xs=[.ref b,.int m]/\BoxAt G b n/\n<2^40/\1<=m/\m<2^29/\∀(r:Int) G',0<=r->r<m->BoxAt G' b (n+1)->Keep b G G'->Q (.int r) G'
def qXa:List Str:=["_law_box_here","_law_many","_law_found","_law_once"]
noncomputable def jZm:TS3:=
 (tSeq (tIfS (jJs (tOp rGt (tOp rIxF (tVar 0) (tC (.int 0))) (tC (.int 0)))) (tSeq (tAsg (tCB kVd (jJa (tOp rIxF (tVar 0) (tC (.int 0))) (jJa (tVar 1) tNil))) (gTup 2 (jKd (gSub (tVar 0) (tC (.int 0)) jQr) (jKd (jJh 2) gNil))))
 (tRet (tVar 2))) jJ8)
 (tSeq (tAsg (tOp jJr (tOp rIxF (tVar 0) (tC (.int 2))) (tC (.int 1))) (gSub (tVar 0) (tC (.int 2)) jQr))
 (tSeq (tAsg (tOp rMod (tOp jQ4 (tOp jJr (tOp rIxF (tVar 0) (tC (.int 1))) (tOp jQ4 (tC (.int 39373)) (tOp rIxF (tVar 0) (tC (.int 2))))) (tOp jJr (tC (.int 48271)) (tOp rIxF (tVar 0) (tC (.int 2))))) (tC (.int 2147483647))) (jJh 3))
 (tSeq (tAsg (tOp rMod (tOp jJr (tOp jQ4 (tVar 3) (tOp jJr (tOp rMod (tVar 3) (tC (.int 40009))) (tC (.int 7)))) (tOp rIxF (tVar 0) (tC (.int 2)))) (tC (.int 2147483629))) (gSub (tVar 0) (tC (.int 1)) jQr))
 (tRet (tOp rMod (tOp rFdiv (tOp rMod (tOp jQ4 (tOp rIxF (tVar 0) (tC (.int 1))) (tOp jJr (tOp rMod (tOp rIxF (tVar 0) (tC (.int 1))) (tC (.int 1009))) (tC (.int 3)))) (tC (.int 998244353))) (tC (.int 7))) (tVar 1)))))))
theorem kU5:RdOk jJl jZm qXa:=by
 intro xs G Q h_;apply xe3 h_;clear h_;intro b m n h_;apply ae5 h_;clear h_;intro q0_ hn hm1 hm2 k
 obtain⟨x,y,z,hb,hx,hy0,hy1,hz0,hz1⟩:=q0_
 show jZm _ [some (.ref b),some (.int m),none,none] G
 wp_walk using 1,jZm,jJ1 hb,qXm hb
 have box:∀x' y' z':Int,0<=x'->0<=y'->y'<2147483648->0<=z'->z'<=n+1->BoxAt (gup G b (.lst [.int x',.int y',.int z'])) b (n+1):=fun x' y' z' h1 h2 h3 h4 h5=>⟨x',y',z',jJi,h1,h2,h3,h4,by omega⟩
 split
 ·refine⟨⟨by omega,by omega⟩,k _ _ (lVs _ (by omega)) (lVt _ (by omega)) (box _ _ _ (Int.ediv_nonneg hx (by omega)) hy0 hy1 hz0 (by omega)) .gup⟩
 ·have a0:=lVs ((y+39373*(z+1))*(48271+(z+1))) (b:=2147483647) (by decide)
  have a1:=lVt ((y+39373*(z+1))*(48271+(z+1))) (b:=2147483647) (by decide)
  refine⟨.inl (by decide),.inr ⟨by omega,by omega⟩,by decide,by decide,?_⟩
  generalize (y+39373*(z+1))*(48271+(z+1))%2147483647=u at a0 a1 ⊢
  have b0:=lVs (u*(u%40009+7)+(z+1)) (b:=2147483629) (by decide)
  have b1:=lVt (u*(u%40009+7)+(z+1)) (b:=2147483629) (by decide)
  refine⟨.inl ⟨by omega,by omega⟩,by decide,by decide,?_⟩
  generalize (u*(u%40009+7)+(z+1))%2147483629=v at b0 b1 ⊢
  refine⟨.inl ⟨by omega,by omega⟩,by decide,⟨by decide,by decide⟩,by omega,?_⟩
  exact k _ _ (lVs _ (by omega)) (lVt _ (by omega)) (box _ _ _ hx b0 (by omega) (by omega) (by omega)) .gup
abbrev jK9 (ns:List Int):List T:=ns.map T.int
theorem sz:sizeLine=16777216:=PySem.sizeLine_eq
noncomputable def jYy:Sp3:=fun xs G Q=>∃(c:Addr) (ns:List Int) (k:Int),xs=[.ref c,.int k]/\G c=some (.lst (jK9 ns))/\ns.length<=63/\0<=k/\k<100/\∀p G',G p=none->BoxAt G' p 0->Sub G G'->Q (.ref p) G'
def uJe:List Str:=["_law_script","_law_k","_law_cell"]
noncomputable def kK3:TS3:=
 (tSeq (tAsg (tOp rIxF (tOp jJr (tVar 0) (tOp jQ4 (tLst (jJa (tC (.int 0)) tNil)) (tOp jJr (tVar 1) (tC (.int 1))))) (tVar 1)) (jJh 2))
 (tRet (tLst (jJa (tOp jQ4 (tCB rAbs (jJa (tVar 2) tNil)) (tCB kQv (jJa (tOp rGe (tCB rAbs (jJa (tVar 2) tNil)) (tOp rPow (tC (.int 10)) (tC (.int 18)))) tNil))) (jJa (tOp rMod (tOp jQ4 (tOp jJr (tOp jJr (tOp rMod (tVar 2) (tC (.int 2147483647))) (tOp jQ4 (tC (.int 7919)) (tVar 1))) (tC (.int 11))) (tC (.int 48271))) (tC (.int 2147483629))) (jJa (tC (.int 0)) tNil))))))
theorem kYx:RdOk jYy kK3 uJe:=by
 intro xs G Q h_;apply xe3 h_;clear h_;intro c ns k h_;apply ae5 h_;clear h_;intro hc hl hk0 hk1 kk
 show kK3 _ [some (.ref c),some (.int k),none] G
 have hs:=sz
 wp_walk using 1,kK3
 refine⟨by omega,fun p hp=> ?_⟩
 have e1:mulR (gup G p (GO.lst [T.int 0])) (.ref p) (.int (k+1))=some (.newL (List.replicate (k+1).toNat [T.int 0]).flatten):=by
  simp only[mulR,jJi];rw[lJc];refine⟨?_,?_,?_⟩<;>simp<;>omega
 wp_walk using 1,e1
 intro q hq
 obtain⟨hqp,hq0⟩:=jKe hq
 have hcp:=jJf hc hp
 have hcq:=jJf hc hq0
 have hc2:gup (gup G p (GO.lst [T.int 0])) q (GO.lst (List.replicate (k+1).toNat [T.int 0]).flatten) c=some (.lst (jK9 ns)):=by rw[jJv hcq,jJv hcp];exact hc
 have hfl:(List.replicate (k+1).toNat [T.int 0]).flatten=List.replicate (k+1).toNat (T.int 0):=by
  induction (k+1).toNat with
  | zero=>rfl
  | succ n ih=>rw[lQo,lVa,ih];rfl
 have e2:=jZb (q:=q) hc2 jJi (by rw[hfl];simp;omega)
 wp_walk using 1,e2
 intro r hr
 obtain⟨hrq,hr1⟩:=jKe hr
 obtain⟨hrp,hr0⟩:=jKe hr1
 obtain⟨v,hv⟩:∃v:Int,L2.atI (jK9 ns++(List.replicate (k+1).toNat [T.int 0]).flatten) k=some (.int v):=by
  rw[atZ hk0,hfl]
  by_cases h:k.toNat<ns.length
  ·rw[lQc (by simpa using h)]
   exact⟨ns[k.toNat],by simp[h]⟩
  ·rw[lV7 (by simpa using h),lXw]
   exact⟨0,by rw[lJc];simp;omega⟩
 wp_walk using 1,hv
 refine⟨⟨by decide,by decide,by decide⟩,.inr (by split<;>split<;>decide),by decide,.inl (by decide),.inr (by decide),by decide,by omega,fun b hbn=> ?_⟩
 obtain⟨hbr,hb1⟩:=jKe hbn
 obtain⟨hbq,hb2⟩:=jKe hb1
 obtain⟨hbp,hb0⟩:=jKe hb2
 refine kk b _ hb0 ⟨_,_,_,jJi,Int.mul_nonneg (by split<;>omega) (by split<;>split<;>decide),lVs _ (by decide),?_,Int.le_refl _,by simp⟩ ((((Sub.new hp).over hq0).over hr0).over hb0)
 have:=lVt ((v%2147483647+7919*k+11)*48271) (b:=2147483629) (by decide)
 omega
noncomputable def jUr:Sp3:=fun xs G Q=>∃(ns:List Int) (m:Int),xs=[.scr (jK9 ns),.int m]/\ns.length<=63/\1<=m/\m<=63/\∀p G' (ms:List Int),G p=none->G' p=some (.lst (jK9 ms))->ms.length<=m.toNat->ms.length<=63->Sub G G'->Q (.ref p) G'
def kZp:List Str:=["_law_script","_law_many","_law_cells","_law_k","_law_cell"]
noncomputable def jV7:TS3:=
 (tSeq (tAsg (tCB jZu (jJa (tSl rSlF (tVar 0) jJ2 (jKo (tVar 1))) tNil)) (jJh 2))
 (tSeq (tFor (kJ0 (jJa (tSl rSlF (tVar 0) (jKo (tVar 1)) (jKo (tC (.int 63)))) tNil)) (gTup 2 (jKd (jJh 3) (jKd (jJh 4) gNil))) (tAsg (tOp jJr (tOp rIxF (tVar 2) (tOp rMod (tVar 3) (tVar 1))) (tOp jQ4 (tVar 4) (tOp jJr (tVar 3) (tC (.int 2))))) (gSub (tVar 2) (tOp rMod (tVar 3) (tVar 1)) jQr)))
 (tRet (tVar 2))))
theorem kKx:RdOk jUr jV7 kZp:=by
 intro xs G Q h_;apply xe2 h_;clear h_;intro ns m h_;apply ae4 h_;clear h_;intro hl hm1 hm2 kk
 show jV7 _ [some (.scr (jK9 ns)),some (.int m),none,none,none] G
 have hs:=sz
 wp_walk using 1,jV7,tSl,rSlF,slR,jJ2,jKo,jZu,jZt,jJ0,kJ0
 intro p hp p1 hp1
 obtain⟨hpp,hp10⟩:=jKe hp1
 intro q hq
 obtain⟨hq1,hq2⟩:=jKe hq
 obtain⟨hqp,hq0⟩:=jKe hq2
 obtain⟨cs,hcs,lcs⟩:∃cs:List Int,cutT (jK9 ns) none (some m)=jK9 cs/\cs.length=min m.toNat ns.length:=by
  refine⟨ns.take (min m.toNat ns.length),?_,by simp⟩
  simp only[cutT,HT.sIx,lJe,List.drop_zero,Nat.sub_zero]
  rw[lJb (by omega)]
  simp[lXh]
 obtain⟨rs,hrs,lrs⟩:∃rs:List Int,cutT (jK9 ns) (some m) (some 63)=jK9 rs/\(rs.length<=63/\(0<rs.length->m.toNat<=ns.length)):=by
  refine⟨(ns.drop (min m.toNat ns.length)).take (min 63 ns.length-min m.toNat ns.length),?_,?_,?_⟩
  ·simp only[cutT,HT.sIx,lJe]
   simp only[show ¬ m<0 by omega,show ¬ (63:Int)<0 by decide,lJ3]
   simp[lXh,List.map_drop]
  ·simp;omega
  ·simp;omega
 rw[hcs,hrs]
 refine⟨jK9 rs,by simp only[jUf,jJi,asL],?_⟩
 refine⟨fun i τ G'=>∃(v3 v4:Option T) (ms:List Int),τ=[some (.scr (jK9 ns)),some (.int m),some (.ref p1),v3,v4]/\G' p1=some (.lst (jK9 ms))/\ms.length=cs.length/\G' q=some (.lst (jK9 rs))/\Sub G G',?_,?_,?_,?_⟩
 ·refine⟨none,none,cs,rfl,by rw[jJv hq1.symm,jJi],rfl,jJi,(((Sub.new hp).over hp10).over hq0)⟩
 ·intro i τ G' hi h_;apply xe3 h_;clear h_;intro v3 v4 ms h_;apply ae4 h_;clear h_;intro h1 h2 h3 h4
  simp only[jUf,h3,asL]
 ·intro i x τ G' hx h_;apply xe3 h_;clear h_;intro v3 v4 ms h_;apply ae4 h_;clear h_;intro h1 h2 h3 h4
  have hi:i<rs.length:=by have:=(lJf.mp hx).1;simpa[jQm] using this
  have hri:(jK9 rs)[i]? =some (.int rs[i]):=by simp[hi]
  rw[jXt hri] at hx
  cases hx
  have hml:=lrs.2 (by omega)
  have hk0:(0:Int)<=(i:Int)%m:=lVs _ (by omega)
  have hk1:(i:Int)%m<m:=lVt _ (by omega)
  have hk:((i:Int)%m).toNat<ms.length:=by omega
  have hat:L2.atI (jK9 ms) ((i:Int)%m)=some (.int ms[((i:Int)%m).toNat]):=by rw[atZ hk0];simp[hk]
  have hix:L2.ixN (jK9 ms).length ((i:Int)%m)=some ((i:Int)%m).toNat:=ixZ hk0 (by simp;omega)
  wp_walk using 1,jJ1 h1,hat,jUa h1 hix
  refine⟨by omega,.inr ⟨by omega,by omega⟩,by omega,?_⟩
  exact⟨ms.set ((i:Int)%m).toNat (ms[((i:Int)%m).toNat]+rs[i]*((i:Int)+2)),by simp[jK9,List.map_set],by simpa using h2,by rw[jJv hq1];exact h3,h4.over hp10⟩
 ·intro τ G' h_;apply xe3 h_;clear h_;intro v3 v4 ms h_;apply ae4 h_;clear h_;intro h1 h2 h3 h4
  wp_walk using 1,tSeq
  exact kk p1 G' ms hp10 h1 (by omega) (by omega) h4
abbrev Web:=List (List (Nat×Nat))
def encE (e:Nat×Nat):T:= .tup [.int e.1,.int e.2]
def encR (r:List (Nat×Nat)):T:= .tup (r.map encE)
def encW (W:Web):T:= .tup (W.map encR)
def en (W:Web) (r i:Nat):Option (Nat×Nat):=(W[r]?).bind fun es=>es[i]?
def Sym (W:Web):Prop:=∀r i s j,en W r i=some (s,j)->en W s j=some (r,i)
def sw:Nat->Nat
 | 0=>1
 | 1=>0
 | n=>n
theorem sw_sw {n:Nat} (h:n<=2):sw (sw n)=n/\sw n<=2:=by
 have:n=0\/n=1\/n=2:=by omega
 rcases this with rfl | rfl | rfl<;>exact⟨rfl,by decide⟩
def RowsAt (G:Gp) (h:Addr) (Hs:Web) (rs:List Addr):Prop:=G h=some (.lst (rs.map T.ref))/\rs.length=Hs.length/\∀(i:Nat) (r:Addr),rs[i]? =some r->∃hs:List (Nat×Nat),Hs[i]? =some hs/\G r=some (.lst (hs.map encE))
theorem RowsAt.sub {G G':Gp} {h:Addr} {Hs:Web} {rs:List Addr} (s:Sub G G') (x:RowsAt G h Hs rs):RowsAt G' h Hs rs:=⟨s _ _ x.1,x.2.1,fun i r e=>let ⟨hs,h1,h2⟩:=x.2.2 i r e;⟨hs,h1,s _ _ h2⟩⟩
structure JoinOk (Hs:Web):Prop where
 len:Hs.length<=1000
 row:∀(r:Nat) (hs:List (Nat×Nat)),Hs[r]? =some hs->hs.length<=1000
 inj:∀r i r' i' h,en Hs r i=some h->en Hs r' i'=some h->r=r'/\i=i'
 part:∀r i t s,en Hs r i=some (t,s)->s<=2/\∃r' i',en Hs r' i'=some (t,sw s)
def keyE (e:Nat×Nat):L2.TKey:=[.inl (.inl (e.1:Int)),.inl (.inl (e.2:Int))]
theorem kK9 {a b:Nat×Nat} (h:keyE a=keyE b):a=b:=by
 obtain⟨a1,a2⟩:=a;obtain⟨b1,b2⟩:=b
 simp only[keyE,lVw,Sum.inl.injEq,and_true] at h
 obtain⟨h1,h2⟩:=h
 rw[Int.ofNat.inj h1,Int.ofNat.inj h2]
theorem jUm {a b:Int}:jK7 [.int a,.int b]=some [.inl (.inl a),.inl (.inl b)]:=rfl
theorem kXf {κ:Type} [DecidableEq κ] (kvs:List (κ×T)) (k j:κ) (v:T):valT (putT kvs k v) j=if k=j then some v else valT kvs j:=by
 unfold putT valT
 by_cases h:(kvs.any fun kv=>decide (kv.1=k))=true
 ·rw[lJc h]
  induction kvs with
  | nil=>simp at h
  | cons p ps ih=>
   rw[lJr,lQq,lQq]
   by_cases hp:p.1=k
   ·rw[lJc hp]
    by_cases hj:k=j
    ·simp[hp,hj]
    ·have h1:¬ p.1=j:=fun z=>hj (hp.symm.trans z)
     simp only[h1,decide_false,hj,lJ3]
     by_cases h2:(ps.any fun kv=>decide (kv.1=k))=true
     ·have:=ih h2;rw[lJb hj] at this;exact this
     ·have hm:ps.map (fun kv=>if kv.1=k then (kv.1,v) else kv)=ps:=by
       rw[lXi (g:=id)];· simp
       intro a ha
       have:¬ a.1=k:=fun z=>h2 (List.any_eq_true.mpr ⟨a,ha,by simp[z]⟩)
       simp[this]
      rw[hm]
   ·rw[lJb hp]
    have h2:(ps.any fun kv=>decide (kv.1=k))=true:=by
     rw[lK1,lJo hp,Bool.false_or] at h;exact h
    have:=ih h2
    by_cases hj:p.1=j
    ·have:¬ k=j:=fun z=>hp (hj.trans z.symm)
     simp[hj,this]
    ·simp only[hj,decide_false];exact this
 ·rw[lJb h,List.find?_append]
  have hn:(kvs.find? fun kv=>decide (kv.1=j))=none\/∃p,(kvs.find? fun kv=>decide (kv.1=j))=some p:=by
   cases kvs.find? fun kv=>decide (kv.1=j) with
   | none=>exact .inl rfl
   | some p=>exact .inr ⟨p,rfl⟩
  by_cases hj:k=j
  ·subst hj
   have:(kvs.find? fun kv=>decide (kv.1=k))=none:=by
    rw[List.find?_eq_none]
    intro a ha z
    exact h (List.any_eq_true.mpr ⟨a,ha,z⟩)
   simp[this]
  ·rcases hn with e | ⟨p,e⟩
   ·simp[e,hj]
   ·simp[e,hj]
theorem kXs {κ:Type} [DecidableEq κ] (kvs:List (κ×T)) (k:κ) (v:T):(putT kvs k v).length<=kvs.length+1:=by
 unfold putT;split<;>simp
theorem qZ4 {G:Gp} {p:Addr} {kvs:List (L2.TKey×T)} {ys:List T} {ks:L2.TKey} (h:G p=some (.dct kvs)) (hk:jK7 ys=some ks):dAt G (.ref p) (.tup ys)=some (valT kvs ks):=by simp only[dAt,h,hk]
theorem qZn {G:Gp} {p:Addr} {kvs:List (L2.TKey×T)} {ys:List T} {ks:L2.TKey} {t:T} (h:G p=some (.dct kvs)) (hk:jK7 ys=some ks) (ht:valT kvs ks=some t):ixR G (.ref p) (.tup ys)=some t:=by
 simp only[ixR,seqT,h,asL,qZ4 h hk,ht]
theorem kXm {G:Gp} {p:Addr} {kvs:List (L2.TKey×T)} {ys:List T} {ks:L2.TKey} {v:T} (h:G p=some (.dct kvs)) (hk:jK7 ys=some ks) (hz:kvs.length<sizeLine):setR G (.ref p) (.tup ys) v=some (gup G p (.dct (putT kvs ks v))):=by
 simp only[setR,h,hk,hz,lKw]
theorem jKx {W:Web} {r i:Nat} {e:Nat×Nat} (h:en W r i=some e):∃es,W[r]? =some es/\es[i]? =some e:=by
 unfold en at h
 cases e1:W[r]? with
 | none=>rw[e1] at h;cases h
 | some es=>rw[e1] at h;exact⟨es,rfl,h⟩
theorem jQt {W:Web} {r i:Nat} {es:List (Nat×Nat)} {e:Nat×Nat} (h1:W[r]? =some es) (h2:es[i]? =some e):en W r i=some e:=by unfold en;rw[h1];exact h2
structure Joined (Hs W:Web):Prop where
 len:W.length=Hs.length
 row:∀(r:Nat) (hs:List (Nat×Nat)),Hs[r]? =some hs->∃es,W[r]? =some es/\es.length=hs.length
 to:∀r i t sd s j,en Hs r i=some (t,sd)->en Hs s j=some (t,sw sd)->en W r i=some (s,j)
theorem Joined.sym {Hs W:Web} (J:Joined Hs W) (ok:JoinOk Hs):Sym W:=by
 intro r i s j h
 obtain⟨es,h1,h2⟩:=jKx h
 have hr:r<Hs.length:=by rw[<-J.len];exact (lJf.mp h1).1
 obtain⟨es',h3,h4⟩:=J.row r _ (lJg hr)
 rw[h1] at h3;cases h3
 have hi:i<Hs[r].length:=by rw[<-h4];exact (lJf.mp h2).1
 have e1:en Hs r i=some (Hs[r][i]):=jQt (lJg hr) (lJg hi)
 generalize Hs[r][i]=e0 at e1
 obtain⟨t,sd⟩:=e0
 obtain⟨hsd,r',i',e2⟩:=ok.part r i t sd e1
 have e3:=J.to r i t sd r' i' e1 e2
 rw[h] at e3
 cases e3
 refine J.to s j t (sw sd) r i e2 ?_
 rw[(sw_sw hsd).1];exact e1
open Classical in
def oth (Hs:Web) (e:Nat×Nat):Nat×Nat:=if h:∃p:Nat×Nat,en Hs p.1 p.2=some (e.1,sw e.2) then h.choose else (0,0)
theorem qX3 {Hs:Web} {e:Nat×Nat} {r i:Nat} (h:en Hs r i=some (e.1,sw e.2)):en Hs (oth Hs e).1 (oth Hs e).2=some (e.1,sw e.2):=by
 unfold oth
 have:∃p:Nat×Nat,en Hs p.1 p.2=some (e.1,sw e.2):=⟨(r,i),h⟩
 rw[dif_pos this];exact this.choose_spec
theorem kZb {Hs:Web} (ok:JoinOk Hs):Joined Hs (Hs.map (List.map (oth Hs))) where
 len:=by simp
 row:=fun r hs h=>⟨hs.map (oth Hs),by simp[h],by simp⟩
 to:=fun r i t sd s j h1 h2=>by
  obtain⟨es,q1,q2⟩:=jKx h1
  have:en (Hs.map (List.map (oth Hs))) r i=some (oth Hs (t,sd)):=jQt (es:=es.map (oth Hs)) (by simp[q1]) (by simp[q2])
  rw[this]
  have h3:=qX3 (e:=(t,sd)) h2
  obtain⟨z1,z2⟩:=ok.inj _ _ _ _ _ h3 h2
  rw[<-z1,<-z2]
def jV4:Sp3:=fun xs G Q=>∃(h:Addr) (Hs:Web) (rs:List Addr),xs=[.ref h]/\RowsAt G h Hs rs/\JoinOk Hs/\∀G' W,Sub G G'->Joined Hs W->Q (encW W) G'
def kZo:List Str:=["_law_halves","_law_at","_law_room","_law_door","_law_half","_law_web_here","_law_doors","_law_tie","_law_side"]
noncomputable def jV6:TS3:=
 (tSeq (tAsg jZf (jJh 1))
 (tSeq (tFor (jKb (jJa (tCB rLen (jJa (tVar 0) tNil)) tNil)) (jJh 2) (tFor (kJ0 (jJa (tOp rIxF (tVar 0) (tVar 2)) tNil)) (gTup 2 (jKd (jJh 3) (jKd (jJh 4) gNil))) (tAsg (tTup (jJa (tVar 2) (jJa (tVar 3) tNil))) (gSub (tVar 1) (tVar 4) jQr))))
 (tSeq (tAsg (tLst tNil) (jJh 5))
 (tSeq (tFor (iSeq (tVar 0)) (jJh 6) (jUq (tBM "list" jKv (tVar 5) (jJa (tCB jKj (jJa (jKz [false,false,false,false,false,false,false,true,true] (iSeq (tVar 6)) (gTup 2 (jKd (jJh 7) (jKd (jJh 8) gNil))) jQ2 (tOp rIxF (tVar 1) (tTup (jJa (tVar 7) (jJa (tOp rIxF (tLst (jJa (tC (.int 1)) (jJa (tC (.int 0)) (jJa (tC (.int 2)) tNil)))) (tVar 8)) tNil))))) tNil)) tNil))))
 (tRet (tCB jKj (jJa (tVar 5) tNil)))))))
def Tab (Hs:Web) (kvs:List (L2.TKey×T)) (done:Nat->Nat->Prop):Prop:=∀r i e,en Hs r i=some e->done r i->valT kvs (keyE e)=some (encE (r,i))
theorem jVq {n i:Nat} {x:T} (h:(rngT 0 n)[i]? =some x):i<n/\x= .int i:=by
 unfold rngT at h
 rw[lJq] at h
 have hi:i<n:=by
  rcases lQ8 i n with z | z
  ·exact z
  ·rw[lKa (by simpa using z)] at h;cases h
 simp[hi] at h
 exact⟨hi,h.symm⟩
theorem jQc {n:Nat}:(rngT 0 n).length=n:=by simp[rngT]
theorem kKw:RdOk jV4 jV6 kZo:=by
 intro xs G Q h_;apply xe3 h_;clear h_;intro h Hs rs h_;apply ae3 h_;clear h_;intro q0_ ok kk
 obtain⟨hh,hlen,hrow⟩:=q0_
 show jV6 _ [some (.ref h),none,none,none,none,none,none,none,none] G
 have hs:=sz
 have hL:=ok.len
 wp_walk using 1,jV6,jZf,jJ0,jKb
 refine .inl fun d hd=> ?_
 have hhd:=jJf hh hd
 have hrl:(rs.map T.ref).length=Hs.length:=by simp[hlen]
 refine⟨rs.map T.ref,by simp only[seqT,jJv hhd,hh,asL],by rw[hrl];omega,by rw[hrl];omega,?_⟩
 rw[hrl,show ((Hs.length:Int)).toNat=Hs.length by omega]
 refine⟨fun r τ G'=>∃(v2 v3 v4:Option T) (kvs:List (L2.TKey×T)),τ=[some (.ref h),some (.ref d),v2,v3,v4,none,none,none,none]/\G' d=some (.dct kvs)/\kvs.length<=1000*r/\Tab Hs kvs (fun r' _=>r'<r)/\Sub G G',?_,?_,?_,?_⟩
 ·exact⟨none,none,none,[],rfl,jJi,lJy _,fun r i e _ z=>absurd z (lKt _),.new hd⟩
 ·intros;trivial
 ·intro r x τ G1 hx h_;apply xe4 h_;clear h_;intro v2 v3 v4 kvs h_;apply ae4 h_;clear h_;intro hdk hkl tab sb
  obtain⟨hr,rfl⟩:=jVq hx
  have hri:r<rs.length:=by omega
  obtain⟨hs',hH,hG⟩:=hrow r rs[r] (lJg hri)
  have hh1:=sb _ _ hh
  have hG1:=sb _ _ hG
  have hat:L2.atI (rs.map T.ref) (r:Int)=some (.ref rs[r]):=by rw[atN];simp[hri]
  have hrow1000:=ok.row r hs' hH
  wp_walk using 1,jJ0,kJ0,jJ1 hh1,hat
  refine⟨hs'.map encE,by simp only[jUf,hG1,asL],?_⟩
  refine⟨fun i τ G'=>∃(v3 v4:Option T) (kvs:List (L2.TKey×T)),τ=[some (.ref h),some (.ref d),some (.int r),v3,v4,none,none,none,none]/\G' d=some (.dct kvs)/\kvs.length<=1000*r+i/\Tab Hs kvs (fun r' i'=>r'<r\/(r'=r/\i'<i))/\Sub G G',?_,?_,?_,?_⟩
  ·exact⟨v3,v4,kvs,rfl,hdk,hkl,fun r' i' e he hd'=>tab r' i' e he (by rcases hd' with z | ⟨_,z⟩;exact z;exact absurd z (lKt _)),sb⟩
  ·intro i τ G' hi h_;apply xe3 h_;clear h_;intro v3 v4 kvs h_;apply ae4 h_;clear h_;intro h1 h2 h3 h4
   simp only[jUf,h4 _ _ hG,asL]
  ·intro i x τ G2 hx h_;apply xe3 h_;clear h_;intro v3 v4 kvs h_;apply ae4 h_;clear h_;intro h1 h2 h3 h4
   have hi:i<hs'.length:=by have:=(lJf.mp hx).1;simpa[jQm] using this
   have hri2:(hs'.map encE)[i]? =some (encE hs'[i]):=by simp[hi]
   rw[jXt hri2] at hx
   cases hx
   have hz:kvs.length<sizeLine:=by omega
   wp_walk using 1,encE,kXm h1 jUm hz
   refine⟨by omega,?_⟩
   refine⟨putT kvs (keyE hs'[i]) (encE (r,i)),rfl,by have:=kXs kvs (keyE hs'[i]) (encE (r,i));omega,fun r' i' e he hd'=> ?_,h4.over hd⟩
   show valT (putT kvs (keyE hs'[i]) _) (keyE e)=_
   rw[kXf]
   have eri:en Hs r i=some hs'[i]:=jQt hH (lJg hi)
   by_cases hk:keyE hs'[i]=keyE e
   ·rw[lJc hk]
    have:=kK9 hk
    subst this
    obtain⟨z1,z2⟩:=ok.inj _ _ _ _ _ eri he
    subst z1;subst z2;rfl
   ·rw[lJb hk]
    refine h3 r' i' e he ?_
    rcases hd' with z | ⟨z1,z2⟩
    ·exact .inl z
    ·subst z1
     by_cases hii:i'=i
     ·subst hii;rw[eri] at he;cases he;exact absurd rfl hk
     ·exact .inr ⟨rfl,by omega⟩
  ·intro τ G' h_;apply xe3 h_;clear h_;intro v3 v4 kvs h_;apply ae4 h_;clear h_;intro h1 h2 h3 h4
   refine⟨some (.int r),v3,v4,rfl,kvs,h1,?_,fun r' i' e he hd'=>h3 r' i' e he ?_,h4⟩
   ·simp only[jQm,lJe] at h2;omega
   ·rcases lQ8 r' r with z | z
    ·exact .inl z
    ·have:r'=r:=by omega
     subst this
     obtain⟨es,q1,q2⟩:=jKx he
     rw[hH] at q1;cases q1
     exact .inr ⟨rfl,by simpa[jQm] using (lJf.mp q2).1⟩
 ·intro τ G1 h_;apply xe4 h_;clear h_;intro v2 v3 v4 kvs h_;apply ae4 h_;clear h_;intro hdk hkl tab sb
  rw[jQc] at tab
  wp_walk using 1,jJ0,iSeq
  refine⟨lJy _,fun w hw=> ?_⟩
  have hdw:=jJf hdk hw
  have hhw:=jJf (sb _ _ hh) hw
  refine⟨rs.map T.ref,by simp only[seqT,jJv hhw,sb _ _ hh,asL],?_⟩
  refine⟨fun i τ G'=>∃(v6:Option T),τ=[some (.ref h),some (.ref d),v2,v3,v4,some (.ref w),v6,none,none]/\G' w=some (.lst ((Hs.take i).map fun hs=>encR (hs.map (oth Hs))))/\Sub G1 G',?_,?_,?_,?_⟩
  ·exact⟨none,rfl,by simp[jJi],.new hw⟩
  ·intro i τ G' hi h_;apply xe1 h_;clear h_;intro v6 h_;apply ae2 h_;clear h_;intro h1 h2
   simp only[seqT,h2 _ _ (sb _ _ hh),asL]
  ·intro i x τ G2 hx0 h_;apply xe1 h_;clear h_;intro v6 h_;apply ae2 h_;clear h_;intro h1 h2
   obtain⟨ra,hx,rfl⟩:=jKs hx0
   obtain⟨hs',hH,hG⟩:=hrow i ra hx
   have hG2:=h2 _ _ (sb _ _ hG)
   have hrow1000:=ok.row i hs' hH
   wp_walk using 1,iSeq,jKu h1
   refine⟨hs'.map encE,jJn hG2,?_⟩
   refine jKt (fun e=>encE (oth Hs e)) (by omega) (fun G' s=>jJn (s _ _ hG2)) ?_ ?_
   ·intro j e he G' K K0 s hk
    obtain⟨t,sd⟩:=e
    have hen:=jQt hH he
    obtain⟨hsd,r',i',e2⟩:=ok.part _ _ _ _ hen
    have hv:=qX3 (e:=(t,sd)) e2
    have hr':(oth Hs (t,sd)).1<List.length Hs:=by obtain⟨es,q1,q2⟩:=jKx hv;exact (lJf.mp q1).1
    have ht:=tab _ _ _ hv hr'
    have hd3:=s _ _ (h2 _ _ hdk)
    wp_walk using 1,encE
    refine⟨by omega,fun p hp=> ?_⟩
    have hdp:=jJf hd3 hp
    have hsw:L2.atI [T.int 1,T.int 0,T.int 2] (sd:Int)=some (.int (sw sd:Int)):=by
     have:sd=0\/sd=1\/sd=2:=by omega
     rcases this with rfl | rfl | rfl<;>rw[atN]<;>rfl
    refine⟨_,hsw,by omega,_,qZn (ks:=[.inl (.inl (t:Int)),.inl (.inl (sw sd:Int))]) (by rw[jJv hdp];exact hd3) jUm ht,hk _ (.new hp)⟩
   ·intro D G3 hD h3 h4
    wp_walk using 1,jJn h3,h4 _ _ h1
    refine⟨by simp;omega,?_,((h2.trans h4).over hw)⟩
    rw[lK4,hH];simp[encR]
  ·intro τ G' h_;apply xe1 h_;clear h_;intro v6 h_;apply ae2 h_;clear h_;intro h1 h2
   wp_walk using 1,jJn h1
   have e1:(Hs.take (rs.map T.ref).length).map (fun hs=>encR (hs.map (oth Hs)))=(Hs.map (List.map (oth Hs))).map encR:=by
    rw[hrl,lK5,lJx];rfl
   rw[e1]
   exact kk G' _ (sb.trans h2) (kZb ok)
theorem BoxAt.mono {G:Gp} {b:Addr} {n m:Nat} (h:BoxAt G b n) (hm:n<=m):BoxAt G b m:=by
 obtain⟨x,y,z,h1,h2,h3,h4,h5,h6⟩:=h
 exact⟨x,y,z,h1,h2,h3,h4,h5,by omega⟩
theorem BoxAt.some {G:Gp} {b:Addr} {n:Nat} (h:BoxAt G b n):∃o,G b=some o:=by
 obtain⟨x,y,z,h1,_⟩:=h
 exact⟨_,h1⟩
theorem BoxAt.sub {G G':Gp} {b:Addr} {n:Nat} (h:BoxAt G b n) (s:Sub G G'):BoxAt G' b n:=by
 obtain⟨x,y,z,h1,h2,h3,h4,h5,h6⟩:=h
 exact⟨x,y,z,s _ _ h1,h2,h3,h4,h5,h6⟩
theorem BoxAt.gup {G:Gp} {b p:Addr} {n:Nat} {o:GO} (h:BoxAt G b n) (hp:b≠p):BoxAt (gup G p o) b n:=by
 obtain⟨x,y,z,h1,h2,h3,h4,h5,h6⟩:=h
 exact⟨x,y,z,by rw[jJv hp];exact h1,h2,h3,h4,h5,h6⟩
theorem Keep.sub {b:Addr} {G G':Gp} (h:Sub G G'):Keep b G G':=fun c o _ e=>h c o e
theorem Keep.over {b p:Addr} {G G':Gp} {o:GO} (h:Keep b G G') (hp:G p=none):Keep b G (L3.gup G' p o):=fun c u hc e=>by rw[jJv];exact h c u hc e;rintro rfl;rw[hp] at e;cases e
theorem RowsAt.keep {b:Addr} {G G':Gp} {h:Addr} {Hs:Web} {rs:List Addr} (s:Keep b G G') (hb:b∉h::rs) (x:RowsAt G h Hs rs):RowsAt G' h Hs rs:=by
 simp only[lJv,not_or] at hb
 exact⟨s _ _ (Ne.symm hb.1) x.1,x.2.1,fun i r e=>let ⟨hs,h1,h2⟩:=x.2.2 i r e;⟨hs,h1,s _ _ (by rintro rfl;exact hb.2 (lJl e)) h2⟩⟩
theorem RowsAt.set {G:Gp} {h:Addr} {Hs:Web} {rs:List Addr} {r:Nat} {a:Addr} {hs':List (Nat×Nat)} (x:RowsAt G h Hs rs) (hn:(h::rs).Nodup) (hr:rs[r]? =some a):RowsAt (gup G a (.lst (hs'.map encE))) h (Hs.set r hs') rs:=by
 rw[lKm] at hn
 have hrl:r<rs.length:=(lJf.mp hr).1
 refine⟨by rw[jJv];exact x.1;rintro rfl;exact hn.1 (lJl hr),by rw[lQ9];exact x.2.1,fun i c e=> ?_⟩
 by_cases hi:i=r
 ·subst hi
  rw[hr] at e;cases e
  exact⟨hs',by rw[lK0];rw[<-x.2.1];exact hrl,jJi⟩
 ·obtain⟨hs,h1,h2⟩:=x.2.2 i c e
  refine⟨hs,by rw[lKr (Ne.symm hi)];exact h1,?_⟩
  rw[jJv];exact h2
  rintro rfl
  have hil:i<rs.length:=(lJf.mp e).1
  exact hi ((lXj hil hn.2).mp (e.trans hr.symm))
def hv (n t:Nat) (p:Nat×Nat):List (Nat×Nat×Nat):=if p.2=n then [(p.1,t,2)] else [(p.1,t,0),(p.2,t,1)]
def hvs (P:List (Nat×Nat)) (n k:Nat):List (Nat×Nat×Nat):=(List.range k).flatMap fun t=>match P[t]? with
 | some p=>hv n t p
 | none=>[]
theorem jUv {P:List (Nat×Nat)} {n k:Nat} {p:Nat×Nat} (h:P[k]? =some p):hvs P n (k+1)=hvs P n k++hv n k p:=by
 unfold hvs
 rw[lQf,lX8]
 simp[h]
theorem kKb {n t:Nat} {p:Nat×Nat} {r t' s:Nat} (h:(r,t',s)∈hv n t p):t'=t/\s<=2/\((p.2=n/\s=2/\r=p.1)\/(p.2≠n/\s=0/\r=p.1)\/(p.2≠n/\s=1/\r=p.2)):=by
 unfold hv at h
 split at h
 ·rename_i hp;simp at h;obtain⟨rfl,rfl,rfl⟩:=h;exact⟨rfl,by omega,.inl ⟨hp,rfl,rfl⟩⟩
 ·rename_i hp;simp at h
  rcases h with ⟨rfl,rfl,rfl⟩ | ⟨rfl,rfl,rfl⟩
  ·exact⟨rfl,by omega,.inr (.inl ⟨hp,rfl,rfl⟩)⟩
  ·exact⟨rfl,by omega,.inr (.inr ⟨hp,rfl,rfl⟩)⟩
theorem kJb {P:List (Nat×Nat)} {n k:Nat} {r t s:Nat} (h:(r,t,s)∈hvs P n k):∃p,P[t]? =some p/\t<k/\(r,t,s)∈hv n t p:=by
 unfold hvs at h
 rw[List.mem_flatMap] at h
 obtain⟨t',h1,h2⟩:=h
 cases e:P[t']? with
 | none=>rw[e] at h2;cases h2
 | some p=>
  rw[e] at h2
  have h2:(r,t,s)∈hv n t' p:=h2
  have ht:=(kKb h2).1
  subst ht
  exact⟨p,e,lJ0.mp h1,h2⟩
theorem kX9 {P:List (Nat×Nat)} {n k:Nat} {r t s:Nat} {p:Nat×Nat} (h:P[t]? =some p) (hk:t<k) (hm:(r,t,s)∈hv n t p):(r,t,s)∈hvs P n k:=by
 unfold hvs
 rw[List.mem_flatMap]
 exact⟨t,lJ0.mpr hk,by rw[h];exact hm⟩
theorem kJa {P:List (Nat×Nat)} {n:Nat}:∀k,((hvs P n k).map fun x=>x.2).Nodup
 | 0=>by simp[hvs]
 | k+1=>by
  cases e:P[k]? with
  | none=>
   have:hvs P n (k+1)=hvs P n k:=by unfold hvs;rw[lQf,lX8];simp[e]
   rw[this];exact kJa k
  | some p=>
   rw[jUv e,lK6,lVq]
   refine⟨kJa k,by unfold hv;split<;>simp,?_⟩
   intro a ha b hb
   obtain⟨⟨r,t,s⟩,h1,rfl⟩:=lJj.mp ha
   obtain⟨⟨r',t',s'⟩,h2,rfl⟩:=lJj.mp hb
   obtain⟨_,_,h3,_⟩:=kJb h1
   have h4:=(kKb h2).1
   intro z
   have:t=t':=lJ9 Prod.fst z
   omega
theorem kQc {P:List (Nat×Nat)} {n:Nat}:∀k,(hvs P n k).length<=2*k
 | 0=>by simp[hvs]
 | k+1=>by
  have ih:=kQc (P:=P) (n:=n) k
  cases e:P[k]? with
  | none=>
   have:hvs P n (k+1)=hvs P n k:=by unfold hvs;rw[lQf,lX8];simp[e]
   rw[this];omega
  | some p=>
   rw[jUv e,lKd]
   have:(hv n k p).length<=2:=by unfold hv;split<;>simp
   omega
structure HalfL (L:List (Nat×Nat×Nat)) (n:Nat) (Hs:Web):Prop where
 len:Hs.length=n
 perm:∀(r:Nat) (hs:List (Nat×Nat)),Hs[r]? =some hs->hs.Perm ((L.filter fun x=>x.1 == r).map fun x=>x.2)
theorem ins_perm {α:Type} {xs:List α} {k:Nat} {y:α}:(xs.take k++y::xs.drop k).Perm (xs++[y]):=by
 have h1:(xs.take k++y::xs.drop k).Perm (y::(xs.take k++xs.drop k)):=List.perm_middle
 rw[lX4] at h1
 exact h1.trans (List.perm_append_comm (l₁:=[y]) (l₂:=xs))
theorem HalfL.ins {L:List (Nat×Nat×Nat)} {n:Nat} {Hs:Web} {r k:Nat} {hs:List (Nat×Nat)} {e:Nat×Nat} (h:HalfL L n Hs) (hr:Hs[r]? =some hs):HalfL (L++[(r,e)]) n (Hs.set r (hs.take k++e::hs.drop k)) where
 len:=by rw[lQ9];exact h.len
 perm:=fun r' hs' h'=>by
  have hrl:r<Hs.length:=(lJf.mp hr).1
  rw[List.filter_append,lK6]
  by_cases hi:r'=r
  ·subst hi
   rw[lK0 hrl] at h'
   cases h'
   have:=h.perm r' hs hr
   refine ins_perm.trans ?_
   simp
   exact this.append_right [e]
  ·rw[lKr (Ne.symm hi)] at h'
   have:=h.perm r' hs' h'
   have hne:¬ r=r':=fun z=>hi z.symm
   simp[hne]
   exact this
theorem HalfL.mem {L:List (Nat×Nat×Nat)} {n:Nat} {Hs:Web} {r i:Nat} {e:Nat×Nat} (h:HalfL L n Hs) (he:en Hs r i=some e):(r,e)∈L:=by
 obtain⟨es,h1,h2⟩:=jKx he
 have:=(h.perm r es h1).mem_iff.mp (lJl h2)
 obtain⟨⟨r',e'⟩,h3,rfl⟩:=lJj.mp this
 obtain⟨h4,h5⟩:=lQl.mp h3
 have:r'=r:=by simpa using h5
 subst this;exact h4
theorem HalfL.of {L:List (Nat×Nat×Nat)} {n:Nat} {Hs:Web} {r:Nat} {e:Nat×Nat} (h:HalfL L n Hs) (hr:r<n) (he:(r,e)∈L):∃i,en Hs r i=some e:=by
 have hrl:r<Hs.length:=by rw[h.len];exact hr
 have h1:Hs[r]? =some Hs[r]:=lJg hrl
 have:e∈Hs[r]:=(h.perm r _ h1).mem_iff.mpr (lJj.mpr ⟨(r,e),lQl.mpr ⟨he,by simp⟩,rfl⟩)
 obtain⟨i,hi⟩:=lJ8 this
 exact⟨i,jQt h1 hi⟩
def kJn (P:List (Nat×Nat)) (n:Nat):Prop:=∀p,p∈P->p.1<n/\p.2<=n
theorem HalfL.ok {P:List (Nat×Nat)} {n:Nat} {Hs:Web} (h:HalfL (hvs P n P.length) n Hs) (hp:kJn P n) (hn:n<=1000) (hl:P.length<=500):JoinOk Hs where
 len:=by rw[h.len];exact hn
 row:=fun r hs hr=>by
  rw[(h.perm r hs hr).length_eq,lJe]
  have h1:=lVx (fun x:Nat×Nat×Nat=>x.1 == r) (hvs P n P.length)
  have h2:=kQc (P:=P) (n:=n) P.length
  omega
 inj:=fun r i r' i' e h1 h2=>by
  obtain⟨t,s⟩:=e
  obtain⟨p,q1,q2,q3⟩:=kJb (h.mem h1)
  obtain⟨p',q1',q2',q3'⟩:=kJb (h.mem h2)
  rw[q1] at q1';cases q1'
  have m1:=(kKb q3).2.2
  have m2:=(kKb q3').2.2
  have hrr:r=r':=by
   rcases m1 with ⟨a,b,c⟩ | ⟨a,b,c⟩ | ⟨a,b,c⟩<;>rcases m2 with ⟨a',b',c'⟩ | ⟨a',b',c'⟩ | ⟨a',b',c'⟩<;>omega
  subst hrr
  refine⟨rfl,?_⟩
  obtain⟨es,z1,z2⟩:=jKx h1
  obtain⟨es',z3,z4⟩:=jKx h2
  rw[z1] at z3;cases z3
  have nd:es.Nodup:=by
   rw[(h.perm r es z1).nodup_iff]
   exact (List.filter_sublist.map _).nodup (kJa _)
  exact (lXj (lJf.mp z2).1 nd).mp (z2.trans z4.symm)
 part:=fun r i t s h1=>by
  obtain⟨p,q1,q2,q3⟩:=kJb (h.mem h1)
  obtain⟨_,h2,m⟩:=kKb q3
  refine⟨h2,?_⟩
  have hpp:=hp p (lJl q1)
  rcases m with ⟨a,rfl,c⟩ | ⟨a,rfl,c⟩ | ⟨a,rfl,c⟩
  ·exact⟨r,i,h1⟩
  ·obtain⟨i',h3⟩:=h.of (r:=p.2) (e:=(t,1)) (by omega) (kX9 q1 q2 (by unfold hv;rw[lJb a];simp))
   exact⟨p.2,i',h3⟩
  ·obtain⟨i',h3⟩:=h.of (r:=p.1) (e:=(t,0)) (by omega) (kX9 q1 q2 (by unfold hv;rw[lJb a];simp))
   exact⟨p.1,i',h3⟩
structure Made (P:List (Nat×Nat)) (n:Nat) (W:Web):Prop where
 len:W.length=n
 sym:Sym W
 deg:∀(r:Nat) (es:List (Nat×Nat)),W[r]? =some es->es.length=((hvs P n P.length).filter fun x=>x.1 == r).length
 tie:∀p,p∈P->p.2<n->∃i j,en W p.1 i=some (p.2,j)
theorem qY7 {P:List (Nat×Nat)} {n:Nat} {Hs W:Web} (h:HalfL (hvs P n P.length) n Hs) (hp:kJn P n) (ok:JoinOk Hs) (J:Joined Hs W):Made P n W where
 len:=by rw[J.len,h.len]
 sym:=J.sym ok
 deg:=fun r es hr=>by
  have hrl:r<Hs.length:=by rw[<-J.len];exact (lJf.mp hr).1
  obtain⟨es',h1,h2⟩:=J.row r _ (lJg hrl)
  rw[hr] at h1;cases h1
  rw[h2,(h.perm r _ (lJg hrl)).length_eq,lJe]
 tie:=fun p hpm hpn=>by
  obtain⟨t,ht⟩:=lJ8 hpm
  have htl:t<P.length:=(lJf.mp ht).1
  have hne:¬ p.2=n:=by omega
  obtain⟨i,h1⟩:=h.of (r:=p.1) (e:=(t,0)) (hp p hpm).1 (kX9 ht htl (by unfold hv;rw[lJb hne];simp))
  obtain⟨j,h2⟩:=h.of (r:=p.2) (e:=(t,1)) hpn (kX9 ht htl (by unfold hv;rw[lJb hne];simp))
  exact⟨i,j,J.to _ _ _ _ _ _ h1 h2⟩
theorem Keep.none {b p:Addr} {G G':Gp} (h:Keep b G G') (hb:p≠b) (hp:G' p=none):G p=none:=by
 cases e:G p with
 | none=>rfl
 | some o=>rw[h p o hb e] at hp;cases hp
theorem qVp {xs:List (Nat×Nat)} {k:Nat} {y:Nat×Nat}:insT (xs.map encE) k (encE y)=(xs.take k++y::xs.drop k).map encE:=by simp[insT,lXh,List.map_drop]
theorem HalfL.len_le {L:List (Nat×Nat×Nat)} {n:Nat} {Hs:Web} {r:Nat} {hs:List (Nat×Nat)} (h:HalfL L n Hs) (hr:Hs[r]? =some hs):hs.length<=L.length:=by
 rw[(h.perm r hs hr).length_eq,lJe];exact lVx _ _
theorem kJf {E:Ends3} {G G2:Gp} {b D p:Addr} {rs:List Addr} {n k m':Nat} {S:List (Nat×Nat)} {L:List (Nat×Nat×Nat)} {Hs:Web} {w1 w2 w5 w6 w8 w9:Option T}
  (h1:HalfL L n Hs) (h2:RowsAt G2 D Hs rs) (h3:BoxAt G2 b m') (h4:Keep b G G2) (hnd:(D::rs).Nodup) (hbn:b∉D::rs) (hfr:∀r,r∈D::rs->G r=none) (hp:G2 p=some (.lst (S.map encE))) (hpn:p∉D::rs) (hpb:p≠b) (hS:∀x,x∈S->x.1<n) (hm:m'+S.length<2^40) (hL:L.length+S.length<10000)
  (kk:∀G' Hs' v8 v9,HalfL (L++S.map fun x=>(x.1,k,x.2)) n Hs'->RowsAt G' D Hs' rs->BoxAt G' b (m'+S.length)->Keep b G G'->E.nx [some (.ref b),w1,w2,some (.ref D),some (.int k),w5,w6,some (.ref p),v8,v9] G'):
  qXg (gTup 2 (jKd (jJh 8) (jKd (jJh 9) gNil))) (jUq (tBM "list" jZv (tOp rIxF (tVar 3) (tVar 8)) (jJa (jJp jJl (jJa (tVar 0) (jJa (tOp jJr (tCB rLen (jJa (tOp rIxF (tVar 3) (tVar 8)) tNil)) (tC (T.int 1))) tNil))) (jJa (tTup (jJa (tVar 4) (jJa (tVar 9) tNil))) tNil)))) E
   [some (.ref b),w1,w2,some (.ref D),some (.int k),w5,w6,some (.ref p),w8,w9] (S.map encE) (fun G'=>seqT G' (.ref p)=some (S.map encE)) G2:=by
 have hs:=sz
 refine⟨fun j τ G'=>∃(v8 v9:Option T) (Hs:Web),τ=[some (.ref b),w1,w2,some (.ref D),some (.int k),w5,w6,some (.ref p),v8,v9]/\HalfL (L++(S.take j).map fun x=>(x.1,k,x.2)) n Hs/\RowsAt G' D Hs rs/\BoxAt G' b (m'+j)/\Keep b G G'/\G' p=some (.lst (S.map encE)),?_,?_,?_,?_⟩
 ·exact⟨w8,w9,Hs,rfl,by simpa using h1,h2,h3,h4,hp⟩
 ·intro j τ G' hj h_;apply xe3 h_;clear h_;intro v8 v9 Hs h_;apply ae5 h_;clear h_;intro i1 i2 i3 i4 i5
  exact jJn i5
 ·intro j x τ G' hx0 h_;apply xe3 h_;clear h_;intro v8 v9 Hs h_;apply ae5 h_;clear h_;intro i1 i2 i3 i4 i5
  obtain⟨⟨r,s⟩,hx,rfl⟩:=jKs hx0
  have hj:j<S.length:=(lJf.mp hx).1
  have hr:r<n:=hS _ (lJl hx)
  have hrl:r<rs.length:=by rw[i2.2.1,i1.len];exact hr
  have hra:rs[r]? =some rs[r]:=lJg hrl
  generalize rs[r]=a at hra
  obtain⟨hs',hh1,hh2⟩:=i2.2.2 r a hra
  have hat:L2.atI (rs.map T.ref) (r:Int)=some (.ref a):=by rw[atN];simp[hra]
  have hle:=i1.len_le hh1
  have hlt:(L++(S.take j).map fun x=>(x.1,k,x.2)).length<10000:=by simp;omega
  wp_walk using 1,encE,jJ1 i2.1,hat,jKu hh2,jJn hh2,List.length_map
  refine⟨b,_,m'+j,rfl,i3,by omega,by omega,by omega,fun c G3 c0 c1 bx kp=> ?_⟩
  have ham:a∈D::rs:=lJ2 _ (lJl hra)
  have hab:a≠b:=by rintro rfl;exact hbn ham
  have hap:a≠p:=by rintro rfl;exact hpn ham
  have i2':=i2.keep kp hbn
  refine⟨by omega,hs'.map encE,c,rfl,kp _ _ hab hh2,c0,by simp;omega,by simp;omega,?_⟩
  rw[show T.tup [T.int (k:Int),T.int (s:Int)]=encE (k,s) from rfl,qVp]
  refine⟨Hs.set r (hs'.take c.toNat++(k,s)::hs'.drop c.toNat),?_,i2'.set hnd hra,?_,(i4.trans kp).over (hfr a ham),?_⟩
  ·have:=i1.ins (k:=c.toNat) (e:=(k,s)) hh1
   rw[lK4,hx,lK6,<-lXy]
   exact this
  ·exact bx.gup hab.symm
  ·rw[jJv hap.symm];exact kp _ _ hpb i5
 ·intro τ G' h_;apply xe3 h_;clear h_;intro v8 v9 Hs h_;apply ae5 h_;clear h_;intro i1 i2 i3 i4 i5
  rw[lJe] at i1 i3
  rw[lK5] at i1
  exact kk G' Hs v8 v9 i1 i2 i3 i4
theorem jY1 {xs:List T}:(numT xs).length=xs.length:=by simp[numT]
noncomputable def jK4:Sp3:=fun xs G Q=>∃(b pr:Addr) (P:List (Nat×Nat)) (n m:Nat),xs=[.ref b,.ref pr,.int n]/\BoxAt G b m/\m+2*P.length<2^40/\pr≠b/\G pr=some (.lst (P.map encE))/\kJn P n/\n<=1000/\P.length<=500/\∀W G',Made P n W->BoxAt G' b (m+2*P.length)->Keep b G G'->Q (encW W) G'
def kQk:List Str:=["_law_box_here","_law_pairs_here","_law_many","_law_halves","_law_tie","_law_one","_law_other","_law_sides","_law_room","_law_side"]
noncomputable def jUe:TS3:=
 (tSeq (tAsg (jKz [false,false,false,false,false,false,false,false,true,false] (jKb (jJa (tVar 2) tNil)) (jJh 8) jQ2 (tLst tNil)) (jJh 3))
 (tSeq (tFor (kJ0 (jJa (tVar 1) tNil)) (gTup 2 (jKd (jJh 4) (jKd (gTup 2 (jKd (jJh 5) (jKd (jJh 6) gNil))) gNil))) (tSeq (tAsg (tIf (jJs (tOp rEqA (tVar 6) (tVar 2))) (tLst (jJa (tTup (jJa (tVar 5) (jJa (tC (.int 2)) tNil))) tNil)) (tLst (jJa (tTup (jJa (tVar 5) (jJa (tC (.int 0)) tNil))) (jJa (tTup (jJa (tVar 6) (jJa (tC (.int 1)) tNil))) tNil)))) (jJh 7))
 (tFor (iSeq (tVar 7)) (gTup 2 (jKd (jJh 8) (jKd (jJh 9) gNil))) (jUq (tBM "list" jZv (tOp rIxF (tVar 3) (tVar 8)) (jJa (jJp jJl (jJa (tVar 0) (jJa (tOp jJr (tCB rLen (jJa (tOp rIxF (tVar 3) (tVar 8)) tNil)) (tC (.int 1))) tNil))) (jJa (tTup (jJa (tVar 4) (jJa (tVar 9) tNil))) tNil)))))))
 (tRet (jJp jV4 (jJa (tVar 3) tNil)))))
theorem jQz {n:Nat}:rngT 0 n=(List.range n).map fun (k:Nat)=>T.int k:=by simp[rngT]
theorem jYq:RdOk jK4 jUe kQk:=by
 intro xs G Q h_;apply xe5 h_;clear h_;intro b pr P n m h_;apply ae8 h_;clear h_;intro hb hm hpb hpr hP hn hPl kk
 show jUe _ [some (.ref b),some (.ref pr),some (.int n),none,none,none,none,none,none,none] G
 have hs:=sz
 wp_walk using 1,jUe,jJ0,jKb,kJ0
 refine⟨by omega,by omega,?_⟩
 rw[show ((n:Int)).toNat=n by omega,jQz]
 refine jYf (fun _=>[]) (by simp;omega) (fun _ _=>trivial) ?_ ?_
 ·intro i e he G' K K0 s hk
  wp_walk using 1,tSeq
  exact⟨lJy _,fun p hp=>hk p _ hp jJi (.new hp)⟩
 ·intro D rs G1 hD hD1 s1 hrl hnd hrs
  rw[lKn] at hrl
  obtain⟨bo,hbo⟩:=hb.some
  have hbn:b∉D::rs:=by
   intro z
   rw[lJv] at z
   rcases z with rfl | z
   ·rw[hD] at hbo;cases hbo
   ·obtain⟨j,hj⟩:=lJ8 z
    have hjl:j<rs.length:=(lJf.mp hj).1
    have:=(hrs j b j hj (by rw[lVu (by omega)])).1
    rw[this] at hbo;cases hbo
  have hfr:∀r,r∈D::rs->G r=none:=by
   intro r z
   rw[lJv] at z
   rcases z with rfl | z
   ·exact hD
   ·obtain⟨j,hj⟩:=lJ8 z
    have hjl:j<rs.length:=(lJf.mp hj).1
    exact (hrs j r j hj (by rw[lVu (by omega)])).1
  refine⟨P.map encE,by simp only[jUf,s1 _ _ hpr,asL],?_⟩
  refine⟨fun k τ G'=>∃(v4 v5 v6 v7 v8 v9:Option T) (Hs:Web),τ=[some (.ref b),some (.ref pr),some (.int n),some (.ref D),v4,v5,v6,v7,v8,v9]/\HalfL (hvs P n k) n Hs/\RowsAt G' D Hs rs/\BoxAt G' b (m+2*k)/\Keep b G G',?_,?_,?_,?_⟩
  ·refine⟨none,none,none,none,none,none,List.replicate n [],rfl,⟨by simp,?_⟩,⟨hD1,by simp[hrl],?_⟩,hb.sub s1,.sub s1⟩
   ·intro r hs' h
    have:hs'=[]:=by rw[lXw] at h;split at h;cases h;rfl;cases h
    subst this;simp[hvs]
   ·intro i r h
    have hi:i<n:=by rw[<-hrl];exact (lJf.mp h).1
    exact⟨[],by simp[hi],(hrs i r i h (by simp[hi])).2⟩
  ·intro k τ G' hk h_;apply xe7 h_;clear h_;intro v4 v5 v6 v7 v8 v9 Hs h_;apply ae4 h_;clear h_;intro h1 h2 h3 h4
   simp only[jUf,h4 _ _ hpb hpr,asL]
  ·intro k x τ G2 hx h_;apply xe7 h_;clear h_;intro v4 v5 v6 v7 v8 v9 Hs h_;apply ae4 h_;clear h_;intro h1 h2 h3 h4
   have hk:k<P.length:=by have:=(lJf.mp hx).1;simpa[jY1] using this
   rw[jXt (x:=encE P[k]) (by simp[hk])] at hx
   cases hx
   generalize hpk:P[k]=p
   have hpe:P[k]? =some p:=by rw[lJg hk,hpk]
   obtain⟨a,c⟩:=p
   obtain⟨ha,hc⟩:=hP _ (lJl hpe)
   have ha:a<n:=ha
   have hc:c<=n:=hc
   wp_walk using 1,encE,rEqA,iSeq,jJ0
   rw[show eqG G2 (T.int (c:Int)) (T.int (n:Int))=some (decide ((c:Int)=n)) from rfl]
   have hL:=kQc (P:=P) (n:=n) k
   refine⟨_,rfl,?_⟩
   have fresh:∀p,G2 p=none->p∉D::rs/\p≠b:=by
    intro p hp
    refine⟨fun z=> ?_,?_⟩
    ·rw[lJv] at z
     rcases z with rfl | z
     ·rw[h2.1] at hp;cases hp
     ·obtain⟨j,hj⟩:=lJ8 z
      obtain⟨_,_,q⟩:=h2.2.2 j p hj
      rw[q] at hp;cases hp
    ·rintro rfl
     obtain⟨o,ho⟩:=h3.some
     rw[ho] at hp;cases hp
   by_cases hcn:c=n
   ·rw[lJc (by simp[hcn])]
    refine⟨by omega,by omega,fun p hp=> ?_⟩
    obtain⟨f1,f2⟩:=fresh p hp
    refine kJf (S:=[(a,2)]) h1 (h2.sub (.new hp)) (h3.gup f2.symm) (h4.over (h4.none f2 hp)) hnd hbn hfr jJi f1 f2 (by simp[ha]) (by simp;omega) (by simp;omega) ?_
    intro G' Hs' v8 v9 i1 i2 i3 i4
    refine⟨_,_,_,_,_,_,rfl,Hs',?_,i2,i3.mono (by simp;omega),i4⟩
    rw[jUv hpe];unfold hv;rw[lJc hcn];exact i1
   ·rw[lJb (by simp;omega)]
    refine⟨by omega,by omega,by omega,fun p hp=> ?_⟩
    obtain⟨f1,f2⟩:=fresh p hp
    refine kJf (S:=[(a,0),(c,1)]) h1 (h2.sub (.new hp)) (h3.gup f2.symm) (h4.over (h4.none f2 hp)) hnd hbn hfr jJi f1 f2 (by simp;omega) (by simp;omega) (by simp;omega) ?_
    intro G' Hs' v8 v9 i1 i2 i3 i4
    refine⟨_,_,_,_,_,_,rfl,Hs',?_,i2,i3.mono (by simp;omega),i4⟩
    rw[jUv hpe];unfold hv;rw[lJb hcn];exact i1
  ·intro τ G' h_;apply xe7 h_;clear h_;intro v4 v5 v6 v7 v8 v9 Hs h_;apply ae4 h_;clear h_;intro h1 h2 h3 h4
   rw[jY1,lJe] at h1 h3
   wp_walk using 1,tSeq
   have ok:=h1.ok hP hn hPl
   refine⟨D,Hs,rs,rfl,h2,ok,fun G3 W s3 J=> ?_⟩
   exact kk W G3 (qY7 h1 hP ok J) (h3.sub s3) (h4.trans (.sub s3))
def dgr (P:List (Nat×Nat)) (n r:Nat):Nat:=((hvs P n P.length).filter fun x=>x.1 == r).length
def jKp (n:Nat) (p:Nat×Nat):List Nat:=if p.2=n then [p.1] else [p.1,p.2]
theorem qKu {P Q:List (Nat×Nat)} {n:Nat}:∀k,k<=P.length->hvs (P++Q) n k=hvs P n k
 | 0,_=>rfl
 | k+1,h=>by
  have e:P[k]? =some P[k]:=lJg (by omega)
  rw[jUv e,jUv (p:=P[k]) (by rw[lQc (by omega)];exact e),qKu k (by omega)]
theorem qVt {P:List (Nat×Nat)} {n:Nat} {p:Nat×Nat}:hvs (P++[p]) n (P++[p]).length=hvs P n P.length++hv n P.length p:=by
 rw[lKd,lXz,jUv (p:=p) (by simp),qKu _ (lJh _)]
theorem hv_cnt {n t r:Nat} {p:Nat×Nat}:((hv n t p).filter fun x=>x.1 == r).length=(jKp n p).count r:=by
 unfold hv jKp
 split
 ·by_cases h:p.1=r<;>simp[h]
 ·by_cases h:p.1=r<;>by_cases h':p.2=r<;>simp[h,h',lVy]
theorem jK6 {P:List (Nat×Nat)} {n r:Nat} {p:Nat×Nat}:dgr (P++[p]) n r=dgr P n r+(jKp n p).count r:=by
 unfold dgr
 rw[qVt,List.filter_append,lKd,hv_cnt]
theorem qVx {L:List (Nat×Nat×Nat)} {k:Nat}:(L.filter fun x=>decide (x.1<k+1)).length=(L.filter fun x=>decide (x.1<k)).length+(L.filter fun x=>x.1 == k).length:=by
 induction L with
 | nil=>rfl
 | cons a as ih=>
  rw[lVy,lVy,lVy]
  rcases Nat.lt_trichotomy a.1 k with h | h | h
  ·have h1:a.1<k+1:=by omega
   have h2:¬ a.1=k:=by omega
   simp[h,h1,h2,ih];omega
  ·have h1:a.1<k+1:=by omega
   simp[h,ih];omega
  ·have h1:¬ a.1<k+1:=by omega
   have h2:¬ a.1=k:=by omega
   have h3:¬ a.1<k:=by omega
   simp[h1,h2,h3,ih]
theorem qX2 {L:List (Nat×Nat×Nat)} {d:Nat}:∀k,(∀r,r<k->d<=(L.filter fun x=>x.1 == r).length)->k*d<=(L.filter fun x=>decide (x.1<k)).length
 | 0,_=>by simp
 | k+1,h=>by
  rw[qVx,lQp]
  have h1:=qX2 k fun r hr=>h r (by omega)
  have h2:=h k (by omega)
  omega
theorem kUd {P:List (Nat×Nat)} {n d k:Nat} (hd:2<=d) (hk:P.length<k):∃r,r<k/\dgr P n r<d:=by
 apply lQw
 intro h
 have h1:∀r,r<k->d<=((hvs P n P.length).filter fun x=>x.1 == r).length:=fun r hr=>by
  rcases lQ8 (dgr P n r) d with z | z
  ·exact absurd ⟨r,hr,z⟩ h
  ·exact z
 have h2:=qX2 k h1
 have h3:=lVx (fun x:Nat×Nat×Nat=>decide (x.1<k)) (hvs P n P.length)
 have h4:=kQc (P:=P) (n:=n) P.length
 have h5:k*2<=k*d:=Nat.mul_le_mul_left k hd
 omega
theorem kYg {P:List (Nat×Nat)} {n k r:Nat} (h:∀p,p∈P->p.1<k/\p.2<k) (hr:k<=r):dgr P n r=0:=by
 unfold dgr
 rw[lVb,List.filter_eq_nil_iff]
 rintro⟨a,t,s⟩ hx
 obtain⟨p,h1,h2,h3⟩:=kJb hx
 have h4:=h p (lJl h1)
 have h5:=(kKb h3).2.2
 simp
 omega
def jKh (n:Nat) (f:Nat->Nat):List T:=(List.range n).map fun r=>T.int (f r)
theorem jQx {n:Nat} {f:Nat->Nat} {r:Nat} (h:r<n):L2.atI (jKh n f) (r:Int)=some (.int (f r)):=by rw[atN];simp[jKh,h]
theorem jXe {n:Nat} {f:Nat->Nat}:(jKh n f).length=n:=by simp[jKh]
theorem jXd {n:Nat} {f:Nat->Nat} {r v:Nat}:(jKh n f).set r (.int v)=jKh n fun x=>if x=r then v else f x:=by
 apply lK8
 intro i
 by_cases hi:i=r
 ·subst hi
  by_cases h:i<n
  ·rw[lK0 (by simpa[jKh] using h)];simp[jKh,h]
  ·rw[lKa (by simp[jKh];omega),lKa (by simp[jKh];omega)]
 ·rw[lKr (Ne.symm hi)]
  by_cases h:i<n
  ·simp[jKh,h,hi]
  ·rw[lKa (by simp[jKh];omega),lKa (by simp[jKh];omega)]
theorem bump {E:Ends3} {G2:Gp} {u:Addr} {n:Nat} {f:Nat->Nat} {es:List Nat} {stay:Gp->Prop} {w0 w1 w2 w4 w5 w6 w7 w8 w9 w10 w11:Option T} (hu:G2 u=some (.lst (jKh n f))) (hst:∀G',(∀c,c≠u->G' c=G2 c)->stay G') (hes:∀e,e∈es->e<n)
  (kk:∀G' v7,G' u=some (.lst (jKh n fun r=>f r+es.count r))->(∀c,c≠u->G' c=G2 c)->E.nx [w0,w1,w2,some (.ref u),w4,w5,w6,v7,w8,w9,w10,w11] G'):
  qXg (jJh 7) (tAsg (tOp jJr (tOp rIxF (tVar 3) (tVar 7)) (tC (.int 1))) (gSub (tVar 3) (tVar 7) jQr)) E [w0,w1,w2,some (.ref u),w4,w5,w6,w7,w8,w9,w10,w11] (es.map fun e=>T.int (e:Nat)) stay G2:=by
 refine⟨fun j τ G'=>∃v7,τ=[w0,w1,w2,some (.ref u),w4,w5,w6,v7,w8,w9,w10,w11]/\G' u=some (.lst (jKh n fun r=>f r+(es.take j).count r))/\(∀c,c≠u->G' c=G2 c),?_,?_,?_,?_⟩
 ·exact⟨w7,rfl,by simpa using hu,fun _ _=>rfl⟩
 ·intro j τ G' hj h_;apply xe1 h_;clear h_;intro v7 h_;apply ae2 h_;clear h_;intro h1 h2
  exact hst G' h2
 ·intro j x τ G' hx0 h_;apply xe1 h_;clear h_;intro v7 h_;apply ae2 h_;clear h_;intro h1 h2
  obtain⟨e,hx,rfl⟩:=jKs hx0
  have he:=hes e (lJl hx)
  have hix:L2.ixN (jKh n fun r=>f r+(es.take j).count r).length (e:Int)=some e:=jZ6 (by rw[jXe];exact he)
  wp_walk using 1,jJ1 h1,jQx he,jUa h1 hix
  refine⟨?_,fun c hc=>by rw[jJv hc];exact h2 c hc⟩
  rw[show T.int (((f e+(es.take j).count e:Nat):Int)+1)=T.int ((f e+(es.take j).count e+1:Nat):Int) by simp,jXd]
  congr 1
  funext r
  rw[lK4,hx,Option.toList_some,List.count_append]
  by_cases hr:r=e
  ·subst hr;simp;omega
  ·have:¬ e=r:=fun z=>hr z.symm
   simp[hr,this]
 ·intro τ G' h_;apply xe1 h_;clear h_;intro v7 h_;apply ae2 h_;clear h_;intro h1 h2
  rw[lJe,lK5] at h1
  exact kk G' v7 h1 h2
structure WebOk (n d:Nat) (W:Web):Prop where
 len:W.length=n
 sym:Sym W
 deg:∀(r:Nat) (es:List (Nat×Nat)),W[r]? =some es->es.length<=d
 low:∀r,1<=r->r<n->∃i a j,en W r i=some (a,j)/\a<r
structure POk (P:List (Nat×Nat)) (n d k:Nat):Prop where
 ok:kJn P n
 deg:∀r,r<n->dgr P n r<=d
 low:∀r,1<=r->r<k->∃p,p∈P/\p.2=r/\p.1<r
theorem POk.web {P:List (Nat×Nat)} {n d:Nat} {W:Web} (h:POk P n d n) (m:Made P n W):WebOk n d W where
 len:=m.len
 sym:=m.sym
 deg:=fun r es hr=>by
  rw[m.deg r es hr];exact h.deg r (by rw[<-m.len];exact (lJf.mp hr).1)
 low:=fun r h1 h2=>by
  obtain⟨p,q1,q2,q3⟩:=h.low r h1 h2
  obtain⟨i,j,q4⟩:=m.tie p q1 (by omega)
  have:=m.sym _ _ _ _ q4
  rw[q2] at this
  exact⟨j,p.1,i,this,q3⟩
noncomputable def jVn:Sp3:=fun xs G Q=>∃(b:Addr) (n d m:Nat),xs=[.ref b,.int n,.int d]/\BoxAt G b m/\m+300<2^40/\1<=n/\n<=24/\2<=d/\d<=100/\∀W G',WebOk n d W->BoxAt G' b (m+300)->Keep b G G'->Q (encW W) G'
def uJb:List Str:=["_law_box_here","_law_many","_law_most","_law_used","_law_pairs_here","_law_room","_law_free","_law_end","_law_turn_here","_law_pair","_law_ends_here","_law_one"]
noncomputable def kK0:TS3:=
 (tSeq (tAsg (tOp jQ4 (tLst (jJa (tC (.int 0)) tNil)) (tVar 1)) (jJh 3))
 (tSeq (tAsg (tLst tNil) (jJh 4))
 (tSeq (tFor (kQb (jJa (tC (.int 1)) (jJa (tVar 1) tNil))) (jJh 5) (tSeq (tAsg (jKz [false,false,false,false,false,false,false,false,false,false,false,true] (jKb (jJa (tVar 5) tNil)) (jJh 11) (jJs (tOp rLt (tOp rIxF (tVar 3) (tVar 11)) (tVar 2))) (tVar 11)) (jJh 6))
 (tSeq (jUq (tBM "list" jKv (tVar 4) (jJa (tTup (jJa (tOp rIxF (tVar 6) (jJp jJl (jJa (tVar 0) (jJa (tCB rLen (jJa (tVar 6) tNil)) tNil)))) (jJa (tVar 5) tNil))) tNil)))
 (tFor (iSeq (tOp rIxF (tVar 4) (tUn rNeg (tC (.int 1))))) (jJh 7) (tAsg (tOp jJr (tOp rIxF (tVar 3) (tVar 7)) (tC (.int 1))) (gSub (tVar 3) (tVar 7) jQr))))))
 (tSeq (tFor (jKb (jJa (jJp jJl (jJa (tVar 0) (jJa (tOp jJr (tVar 1) (tC (.int 2))) tNil))) tNil)) (jJh 8) (tSeq (tAsg (tTup (jJa (jJp jJl (jJa (tVar 0) (jJa (tVar 1) tNil))) (jJa (jJp jJl (jJa (tVar 0) (jJa (tOp jJr (tVar 1) (tC (.int 1))) tNil))) tNil))) (jJh 9))
 (tSeq (tAsg (jKz [false,false,false,false,false,false,false,true,false,false,false,false] (iSeq (tVar 9)) (jJh 7) (jJs (tOp rLt (tVar 7) (tVar 1))) (tVar 7)) (jJh 10))
 (tIfS (jJs (tCB rAll (jJa (jKz [false,false,false,false,false,false,false,true,false,false,false,false] (iSeq (tVar 10)) (jJh 7) jQ2 (tOp rLeF (tOp jJr (tOp rIxF (tVar 3) (tVar 7)) (tBM "list" qJp (tVar 10) (jJa (tVar 7) tNil))) (tVar 2))) tNil))) (tSeq (jUq (tBM "list" jKv (tVar 4) (jJa (tVar 9) tNil)))
 (tFor (iSeq (tVar 10)) (jJh 7) (tAsg (tOp jJr (tOp rIxF (tVar 3) (tVar 7)) (tC (.int 1))) (gSub (tVar 3) (tVar 7) jQr)))) jJ8))))
 (tRet (jJp jK4 (jJa (tVar 0) (jJa (tVar 4) (jJa (tVar 1) tNil)))))))))
theorem qUn {n:Nat}:(List.replicate n [T.int 0]).flatten=jKh n fun _=>0:=by
 have:(List.replicate n [T.int 0]).flatten=List.replicate n (T.int 0):=by
  induction n with
  | zero=>rfl
  | succ n ih=>rw[lQo,lVa,ih];rfl
 rw[this]
 apply lK8
 intro i
 by_cases h:i<n
 ·simp[jKh,h]
 ·rw[lKa (by simp;omega),lKa (by simp[jKh];omega)]
theorem jZk {lo n:Nat}:rngT lo n=(List.range n).map fun (k:Nat)=>T.int ((lo+k:Nat):Int):=by simp[rngT]
theorem qZ6 {es:List Nat} {r:Nat}:(es.map fun e=>T.int (e:Nat)).countP (fun z=>eqT z (.int r))=es.count r:=by
 rw[List.countP_map,List.count]
 congr 1
 funext e
 simp only[eqT,Function.comp]
 by_cases h:e=r
 ·subst h;simp
 ·have h2:¬ (e:Int)=r:=by omega
  rw[beq_eq_false_iff_ne.mpr h,beq_eq_false_iff_ne.mpr h2]
theorem kJc {es:List Nat}:(es.map fun e=>T.int (e:Nat)).all jU6=true:=by
 rw[List.all_map,lKk];intros;rfl
theorem jUo {α:Type} {f:α->Bool}:∀ {es:List α},kV4 (es.map fun e=>T.bl (f e))=some (es.all f)
 | []=>rfl
 | e::es=>by rw[lJr,kV4,jUo,lQd]
theorem kYu:RdOk jVn kK0 uJb:=by
 intro xs G Q h_;apply xe4 h_;clear h_;intro b n d m h_;apply ae7 h_;clear h_;intro hb hm hn1 hn2 hd1 hd2 kk
 show kK0 _ [some (.ref b),some (.int n),some (.int d),none,none,none,none,none,none,none,none,none] G
 have hs:=sz
 wp_walk using 1,kK0,jJ0,jKb,kQb
 refine⟨by omega,fun z hz=> ?_⟩
 have e1:mulR (gup G z (GO.lst [T.int 0])) (.ref z) (.int n)=some (.newL (jKh n fun _=>0)):=by
  rw[<-qUn]
  simp only[mulR,jJi];rw[lJc];congr;refine⟨?_,?_,?_⟩<;>simp<;>omega
 wp_walk using 1,e1
 intro u hu
 obtain⟨huz,hu0⟩:=jKe hu
 refine⟨lJy _,fun pr hpr=> ?_⟩
 obtain⟨hpu,hpr1⟩:=jKe hpr
 obtain⟨hpz,hpr0⟩:=jKe hpr1
 obtain⟨bo,hbo⟩:=hb.some
 have hbu:=jJf hbo hu0
 have hbp:=jJf hbo hpr0
 have hbz:=jJf hbo hz
 refine⟨by omega,by omega,by omega,by omega,?_⟩
 rw[show ((n:Int)-1).toNat=n-1 by omega,show rngT 1 (n-1)=rngT ((1:Nat):Int) (n-1) from rfl,jZk]
 let J1:Nat->St3->Gp->Prop:=fun k τ G'=>∃(v5 v6 v7:Option T) (P:List (Nat×Nat)),τ=[some (.ref b),some (.int n),some (.int d),some (.ref u),some (.ref pr),v5,v6,v7,none,none,none,none]/\P.length=k/\POk P n d (k+1)/\(∀p,p∈P->p.1<k+1/\p.2<k+1)/\G' u=some (.lst (jKh n (dgr P n)))/\G' pr=some (.lst (P.map encE))/\BoxAt G' b (m+k)/\Keep b G G'
 refine⟨J1,?_,?_,?_,?_⟩
 ·refine xi4 none none none [] rfl ⟨rfl,⟨by intro p h;simp at h,fun r _=>by simp[dgr,hvs],fun r h1 h2=>by omega⟩,by intro p h;simp at h,by rw[jJv hpu.symm,jJi];rfl,jJi,((hb.gup hbz).gup hbu).gup hbp,(((Keep.new hz).over hu0).over hpr0)⟩
 ·intros;trivial
 ·intro k x τ G1 hx0 h_;apply xe4 h_;clear h_;intro v5 v6 v7 P h_;apply ae7 h_;clear h_;intro hPl hP hlt hgu hgp hbx hkp
  obtain⟨e,hx,rfl⟩:=jKs hx0
  obtain⟨hk,rfl⟩:k<n-1/\k=e:=by
   rw[lJf] at hx;obtain⟨q1,q2⟩:=hx;simp at q1 q2;exact⟨q1,q2⟩
  wp_walk using 1,iSeq,jKb,jJ0
  refine⟨by omega,by omega,?_⟩
  rw[show (((1+k:Nat)):Int).toNat=1+k by omega,jQz]
  refine jUy (fun r=>if dgr P n r<d then some (T.int (r:Nat)) else none) (by simp;omega) (fun _ _=>trivial) ?_ ?_
  ·intro i r hr G2 K K0 s2 hK hK0
   obtain⟨hr1,rfl⟩:i<1+k/\i=r:=by
    rw[lJf] at hr;obtain⟨q1,q2⟩:=hr;simp at q1 q2;exact⟨q1,q2⟩
   wp_walk using 1,jJ1 (s2 _ _ hgu),jQx (show i<n by omega)
   by_cases hdg:dgr P n i<d
   ·rw[lJc (by omega)]
    exact hK _ _ (by rw[lJc hdg]) (.refl _)
   ·rw[lJb (by omega)]
    exact hK0 (by rw[lJb hdg]) _ (.refl _)
  ·intro fr G2 hfr hfr2 s2
   obtain⟨F,hF1,hF2⟩:∃F:List Nat,(List.range (1+k)).filterMap (fun r=>if dgr P n r<d then some (T.int (r:Nat)) else none)=F.map (fun r=>T.int (r:Nat))/\F=(List.range (1+k)).filter fun r=>decide (dgr P n r<d):=by
    refine⟨_,?_,rfl⟩
    generalize List.range (1+k)=l
    induction l with
    | nil=>rfl
    | cons a as ih=>
     rw[lQm,lVy]
     by_cases h:dgr P n a<d<;>simp[h,ih]
   rw[hF1] at hfr2
   have hFl:F.length<=1+k:=by rw[hF2];have:=lVx (fun r=>decide (dgr P n r<d)) (List.range (1+k));rw[lKn] at this;exact this
   have hF0:1<=F.length:=by
    obtain⟨r,q1,q2⟩:=kUd (P:=P) (n:=n) (d:=d) (k:=1+k) hd1 (by omega)
    have:r∈F:=by rw[hF2,lQl];exact⟨lJ0.mpr q1,by simpa using q2⟩
    exact lX9 this
   have hgp2:=s2 _ _ hgp
   wp_walk using 1,jKu hgp2,jJn hfr2,List.length_map
   refine⟨b,_,m+k,rfl,hbx.sub s2,by omega,by omega,by omega,fun c G3 c0 c1 bx kp=> ?_⟩
   have hfb:fr≠b:=by rintro rfl;obtain⟨o,ho⟩:=hbx.some;rw[ho] at hfr;cases hfr
   have hcF:c.toNat<F.length:=by omega
   have hca:L2.atI (F.map fun r=>T.int (r:Nat)) c=some (.int (F[c.toNat]:Nat)):=by rw[atZ c0];simp[hcF]
   have hmem:F[c.toNat]∈F:=lQ0 hcF
   generalize F[c.toNat]=a at hca hmem
   rw[hF2,lQl] at hmem
   have ha1:a<1+k:=lJ0.mp hmem.1
   have ha2:dgr P n a<d:=by simpa using hmem.2
   have hgp3:=kp _ _ hbp.symm hgp2
   have hgu3:=kp _ _ hbu.symm (s2 _ _ hgu)
   wp_walk using 1,jJ1 (kp _ _ hfb hfr2),hca,hgp3
   refine⟨by omega,by simp;omega,_,qQu,[T.int (a:Nat),T.int ((1+k:Nat):Int)],rfl,?_⟩
   have hne:u≠pr:=hpu.symm
   have hE:jKp n (a,1+k)=[a,1+k]:=by unfold jKp;rw[lJb (show ¬ (1+k)=n by omega)]
   refine bump (es:=[a,1+k]) (n:=n) (f:=dgr P n) (by rw[jJv hne];exact hgu3) (fun _ _=>rfl) (by simp;omega) ?_
   intro G4 v7 hu4 hk4
   have hlt':∀p,p∈P++[(a,1+k)]->p.1<k+1+1/\p.2<k+1+1:=by
    intro p hp
    rw[lKc,lJz] at hp
    rcases hp with hp | rfl
    ·have:=hlt p hp;omega
    ·exact⟨by show a<_;omega,by show 1+k<_;omega⟩
   refine xi4 _ _ _ (P++[(a,1+k)]) rfl ⟨by simp[hPl],⟨?_,?_,?_⟩,hlt',?_,?_,?_,?_⟩
   ·intro p hp
    have:=hlt' p hp;omega
   ·intro r hr
    rw[jK6,hE]
    have h0:=hP.deg r hr
    have hz1:=kYg (n:=n) (r:=1+k) hlt (by omega)
    by_cases h1:r=a
    ·subst h1
     have:¬ 1+k=r:=by omega
     simp[this];omega
    ·have h1':¬ a=r:=fun z=>h1 z.symm
     by_cases h2:1+k=r
     ·subst h2;simp[h1'];omega
     ·simp[h1',h2];omega
   ·intro r h1 h2
    by_cases h3:r<k+1
    ·obtain⟨p,q1,q2⟩:=hP.low r h1 h3
     exact⟨p,lKx _ q1,q2⟩
    ·exact⟨(a,1+k),by simp,by show 1+k=r;omega,by show a<r;omega⟩
   ·rw[hu4,show (fun r=>dgr P n r+List.count r [a,1+k])=dgr (P++[(a,1+k)]) n from funext fun r=>by rw[jK6,hE]]
   ·rw[hk4 pr hpu,jJi];simp[encE]
   ·obtain⟨x,y,w,z1,z2⟩:=bx
    exact⟨x,y,w,by rw[hk4 b hbu,jJv hbp];exact z1,z2⟩
   ·intro c o hc he
    have hcu:=jJf he hu0
    have hcp:=jJf he hpr0
    rw[hk4 c hcu,jJv hcp]
    exact kp _ _ hc (s2 _ _ (hkp _ _ hc he))
 ·intro τ G1 h_;apply xe4 h_;clear h_;intro v5 v6 v7 P h_;apply ae7 h_;clear h_;intro hPl hP hlt hgu hgp hbx hkp
  rw[lJe,lKn] at hPl hP hbx
  rw[show n-1+1=n by omega] at hP
  wp_walk using 1,jJ0,jKb
  refine⟨b,_,m+(n-1),rfl,hbx,by omega,by omega,by omega,fun q G2 q0 q1 bx kp=> ?_⟩
  refine⟨q,rfl,by omega,by omega,?_⟩
  let J2:Nat->St3->Gp->Prop:=fun k τ G'=>∃(v7 v8 v9 v10 v11:Option T) (P:List (Nat×Nat)),τ=[some (.ref b),some (.int n),some (.int d),some (.ref u),some (.ref pr),v5,v6,v7,v8,v9,v10,v11]/\P.length<=n+k/\POk P n d n/\G' u=some (.lst (jKh n (dgr P n)))/\G' pr=some (.lst (P.map encE))/\BoxAt G' b (m+n+2*k)/\Keep b G G'
  refine⟨J2,?_,?_,?_,?_⟩
  ·exact xi6 _ _ _ _ _ P rfl ⟨by omega,hP,kp _ _ hbu.symm hgu,kp _ _ hbp.symm hgp,bx.mono (by omega),hkp.trans kp⟩
  ·intros;trivial
  ·intro k x τ G3 hx0 h_;apply xe6 h_;clear h_;intro v7 v8 v9 v10 v11 P h_;apply ae6 h_;clear h_;intro hPl hP hgu hgp hbx hkp
   have hk:k<q.toNat:=by have:=(lJf.mp hx0).1;rw[jQc] at this;exact this
   wp_walk using 1,jJ0,iSeq
   refine⟨b,_,_,rfl,hbx,by omega,by omega,by omega,fun c G4 c0 c1 bx4 kp4=> ?_⟩
   refine⟨b,_,_,rfl,bx4,by omega,by omega,by omega,fun e G5 e0 e1 bx5 kp5=> ?_⟩
   obtain⟨a,rfl⟩:=lJ7 c0
   obtain⟨y,rfl⟩:=lJ7 e0
   have ha:a<n:=by omega
   have hy:y<=n:=by omega
   have kp35:=kp4.trans kp5
   have hgu5:=kp35 _ _ hbu.symm hgu
   have hgp5:=kp35 _ _ hbp.symm hgp
   refine⟨by omega,?_⟩
   have hEn:∀e',e'∈jKp n (a,y)->e'<n:=by
    intro e' he'
    unfold jKp at he'
    split at he'<;>simp at he'<;>simp at * <;>omega
   have hEl:(jKp n (a,y)).length<=2:=by unfold jKp;split<;>simp
   refine jUy (es:=[a,y]) (enc:=fun r:Nat=>T.int r) (fun r=>if r<n then some (T.int (r:Nat)) else none) (by simp;omega) (fun _ _=>trivial) ?_ ?_
   ·intro i r hr G6 K K0 s6 hK hK0
    wp_walk using 1,tSeq
    by_cases hrn:r<n
    ·rw[lJc (by omega)]
     exact hK _ _ (by rw[lJc hrn]) (.refl _)
    ·rw[lJb (by omega)]
     exact hK0 (by rw[lJb hrn]) _ (.refl _)
   ·intro en G6 hen hen6 s6
    have hEE:List.filterMap (fun r=>if r<n then some (T.int (r:Nat)) else none) [a,y]=(jKp n (a,y)).map fun r=>T.int (r:Nat):=by
     unfold jKp
     by_cases hyn:y=n
     ·simp[ha,hyn]
     ·have:y<n:=by omega
      simp[ha,hyn,this]
    rw[hEE] at hen6
    refine⟨_,jJn hen6,?_⟩
    refine jKt (fun r=>T.bl (decide (dgr P n r+(jKp n (a,y)).count r<=d))) (by omega) (fun G' s=>jJn (s _ _ hen6)) ?_ ?_
    ·intro i r hr G7 K K0 s7 hK
     have hrn:=hEn r (lJl hr)
     wp_walk using 1,jJ1 (s7 _ _ (s6 _ _ hgu5)),jQx hrn,jKu (s7 _ _ hen6),qJp,s7 _ _ hen6,rLeF
     refine⟨rfl,kJc,?_⟩
     rw[qZ6,show decide (((dgr P n r:Nat):Int)+((jKp n (a,y)).count r:Nat)<=(d:Nat))=decide (dgr P n r+(jKp n (a,y)).count r<=d) from decide_eq_decide.mpr (by omega)]
     exact hK _ (.refl _)
    ·intro al G7 hal hal7 s7
     refine⟨al,_,_,rfl,hal7,jUo,_,rfl,?_⟩
     have s57:=s6.trans s7
     have hgp7:=s57 _ _ hgp5
     have hgu7:=s57 _ _ hgu5
     have henp:en≠pr:=(jJf hgp5 hen).symm
     have henu:en≠u:=(jJf hgu5 hen).symm
     have hkp7:Keep b G G7:=(hkp.trans kp35).trans (.sub s57)
     split
     ·rename_i hall
      rw[lKk] at hall
      refine⟨by rw[jKu hgp7];trivial,_,hgp7,by simp;omega,_,jJn (by rw[jJv henp];exact s7 _ _ hen6),?_⟩
      refine bump (es:=jKp n (a,y)) (n:=n) (f:=dgr P n) (by rw[jJv hpu.symm];exact hgu7) (fun G' hG'=>jJn (by rw[hG' _ henu,jJv henp];exact s7 _ _ hen6)) hEn ?_
      intro G8 w7 hu8 hk8
      refine xi6 _ _ _ _ _ (P++[(a,y)]) rfl ⟨by simp;omega,⟨?_,?_,?_⟩,?_,?_,?_,?_⟩
      ·intro p hp
       rw[lKc,lJz] at hp
       rcases hp with hp | rfl
       ·exact hP.ok p hp
       ·exact⟨ha,hy⟩
      ·intro r hr
       rw[jK6]
       by_cases hm:r∈jKp n (a,y)
       ·simpa using hall r hm
       ·rw[List.count_eq_zero_of_not_mem hm];exact hP.deg r hr
      ·intro r h1 h2
       obtain⟨p,q1,q2⟩:=hP.low r h1 h2
       exact⟨p,lKx _ q1,q2⟩
      ·rw[hu8,show (fun r=>dgr P n r+List.count r (jKp n (a,y)))=dgr (P++[(a,y)]) n from funext fun r=>by rw[jK6]]
      ·rw[hk8 pr hpu,jJi];simp[encE]
      ·obtain⟨x1,y1,w,z1,z2⟩:=(bx5.sub s57).mono (show m+n+2*k+1+1<=m+n+2*(k+1) by omega)
       exact⟨x1,y1,w,by rw[hk8 b hbu,jJv hbp];exact z1,z2⟩
      ·intro c o hc he
       have hcu:=jJf he hu0
       have hcp:=jJf he hpr0
       rw[hk8 c hcu,jJv hcp]
       exact hkp7 _ _ hc he
     ·exact xi6 _ _ _ _ _ P rfl ⟨by omega,hP,hgu7,hgp7,(bx5.sub s57).mono (by omega),hkp7⟩
  ·intro τ G3 h_;apply xe6 h_;clear h_;intro v7 v8 v9 v10 v11 P h_;apply ae6 h_;clear h_;intro hPl hP hgu hgp hbx hkp
   rw[jQc] at hPl hbx
   wp_walk using 1,tSeq
   refine⟨b,pr,P,n,_,rfl,hbx,by omega,hbp.symm,hgp,hP.ok,by omega,by omega,fun W G4 mw bx4 kp4=> ?_⟩
   exact kk W G4 (hP.web mw) (bx4.mono (by omega)) (hkp.trans kp4)
def Conn (W:Web):Prop:=∀S:Nat->Prop,S 0->(∀r i s j,S r->en W r i=some (s,j)->S s)->∀r,r<W.length->S r
theorem WebOk.conn {n d:Nat} {W:Web} (h:WebOk n d W):Conn W:=by
 intro S h0 hst r
 induction r using Nat.strongRecOn with
 | ind r ih=>
  intro hr
  by_cases hz:r=0
  ·subst hz;exact h0
  ·obtain⟨i,a,j,q1,q2⟩:=h.low r (by omega) (by rw[<-h.len];exact hr)
   exact hst a j r i (ih a q2 (by omega)) (h.sym _ _ _ _ q1)
theorem kJe {W:Web} {r i:Nat} {e:Nat×Nat} (h:en W r i=some e):r<W.length:=by
 obtain⟨es,h1,h2⟩:=jKx h
 exact (lJf.mp h1).1
def ring (n:Nat):Web:=(List.range n).map fun r=>[((r+1)%n,1),((r+n-1)%n,0)]
theorem kYe {n r:Nat} (h:r<n):en (ring n) r 0=some ((r+1)%n,1):=jQt (es:=[((r+1)%n,1),((r+n-1)%n,0)]) (by simp[ring,h]) rfl
theorem kQe {n r:Nat} (h:r<n):en (ring n) r 1=some ((r+n-1)%n,0):=jQt (es:=[((r+1)%n,1),((r+n-1)%n,0)]) (by simp[ring,h]) rfl
theorem kKs {n:Nat}:(ring n).length=n:=by simp[ring]
theorem qYt {n:Nat} (hn:1<=n):WebOk n 2 (ring n) where
 len:=kKs
 sym:=by
  intro r i s j h
  have hr:r<n:=by have:=kJe h;rwa [kKs] at this
  have hi:i=0\/i=1:=by
   obtain⟨es,h1,h2⟩:=jKx h
   have:es=[((r+1)%n,1),((r+n-1)%n,0)]:=by simp[ring,hr] at h1;exact h1.symm
   subst this
   have:=(lJf.mp h2).1
   simp at this;omega
  rcases hi with rfl | rfl
  ·rw[kYe hr] at h;cases h
   rw[kQe (lQr _ (by omega))]
   congr 2
   by_cases hz:r+1=n
   ·rw[hz,Nat.mod_self];rw[lQg (by omega)];omega
   ·rw[lQg (show r+1<n by omega),show r+1+n-1=r+n by omega,Nat.add_mod_right,lQg hr]
  ·rw[kQe hr] at h;cases h
   rw[kYe (lQr _ (by omega))]
   congr 2
   by_cases hz:r=0
   ·subst hz;rw[lQg (show 0+n-1<n by omega),show 0+n-1+1=n by omega,Nat.mod_self]
   ·rw[show r+n-1=(r-1)+n by omega,Nat.add_mod_right,lQg (show r-1<n by omega),show r-1+1=r by omega,lQg hr]
 deg:=fun r es hr=>by
  have hrl:r<n:=by have:=(lJf.mp hr).1;rwa [kKs] at this
  simp[ring,hrl] at hr;rw[<-hr];simp
 low:=fun r h1 h2=>⟨1,r-1,0,by rw[kQe h2,show r+n-1=(r-1)+n by omega,Nat.add_mod_right,lQg (show r-1<n by omega)],by omega⟩
def jXh:Sp3:=fun xs G Q=>∃n:Nat,xs=[.int n]/\1<=n/\n<=1000/\∀G',Sub G G'->Q (encW (ring n)) G'
def qXb:List Str:=["_law_many","_law_room"]
noncomputable def jZn:TS3:=
 (tRet (tCB jKj (jJa (jKz [false,true] (jKb (jJa (tVar 0) tNil)) (jJh 1) jQ2 (tTup (jJa (tTup (jJa (tOp rMod (tOp jJr (tVar 1) (tC (.int 1))) (tVar 0)) (jJa (tC (.int 1)) tNil))) (jJa (tTup (jJa (tOp rMod (tOp rSub (tVar 1) (tC (.int 1))) (tVar 0)) (jJa (tC (.int 0)) tNil))) tNil)))) tNil)))
theorem kU6:RdOk jXh jZn qXb:=by
 intro xs G Q h_;apply xe1 h_;clear h_;intro n h_;apply ae3 h_;clear h_;intro hn1 hn2 kk
 show jZn _ [some (.int n),none] G
 have hs:=sz
 wp_walk using 1,jZn,jKb
 refine⟨by omega,by omega,?_⟩
 rw[show ((n:Int)).toNat=n by omega,jQz]
 refine jKt (fun r=>encR [((r+1)%n,1),((r+n-1)%n,0)]) (by simp;omega) (fun _ _=>trivial) ?_ ?_
 ·intro i r hr G' K K0 s hk
  have hrn:r<n:=by
   rw[lJf] at hr;obtain⟨q1,q2⟩:=hr;simp at q1 q2;omega
  wp_walk using 1,tSeq
  have e1:((r:Int)+1)%(n:Int)=(((r+1)%n:Nat):Int):=by simp
  have e2:((r:Int)-1)%(n:Int)=(((r+n-1)%n:Nat):Int):=by
   rw[Int.natCast_emod,show ((r+n-1:Nat):Int)=(r:Int)-1+n by omega,Int.add_emod_right]
  rw[e1,e2]
  refine⟨by omega,by omega,by omega,by omega,by omega,?_⟩
  exact hk _ (.refl _)
 ·intro D G' hD h1 h2
  wp_walk using 1,jJn h1
  have:=kk G' h2
  rw[encW,ring,lJx] at this
  exact this
structure Fine (W:Web):Prop where
 len:W.length<=1000
 row:∀(r:Nat) (es:List (Nat×Nat)),W[r]? =some es->es.length<=1000
 rng:∀r i s j,en W r i=some (s,j)->s<W.length
theorem jUg {W:Web} {r:Nat} {es:List (Nat×Nat)} (h:W[r]? =some es):L2.atI (W.map encR) (r:Int)=some (encR es):=by rw[atN];simp[h]
theorem qZx {es:List (Nat×Nat)} {i:Nat} {e:Nat×Nat} (h:es[i]? =some e):L2.atI (es.map encE) (i:Int)=some (encE e):=by rw[atN];simp[h]
theorem jXl {n k:Nat} {x:T} (h:(rngT 0 n)[k]? =some x):k<n/\x= .int (k:Nat):=jVq h
def leE (a b:Nat×Nat):Bool:=HT.lexLe [(a.1:Int),(a.2:Int)] [(b.1:Int),(b.2:Int)]
theorem leE_iff {a b:Nat×Nat}:leE a b=true↔(a.1<b.1\/(a.1=b.1/\a.2<=b.2)):=by
 unfold leE
 rw[HT.lexLe_cons,HT.lexLe_cons,HT.lexLe_nil]
 by_cases h1:a.1=b.1
 ·rw[lJc (by omega)]
  by_cases h2:a.2=b.2
  ·rw[lJc (by omega)];simp;omega
  ·rw[lJb (by omega)];simp;omega
 ·rw[lJb (by omega)];simp;omega
abbrev Tie:=(Nat×Nat)×(Nat×Nat)
def encT (x:Tie):T:= .tup [encE x.1,encE x.2]
def jYs (r:Nat) (es:List (Nat×Nat)) (i:Nat):Option Tie:=match es[i]? with
 | some e=>if leE (r,i) e=true then some ((r,i),e) else none
 | none=>none
def rowE (W:Web) (r:Nat):List Tie:=match W[r]? with
 | some es=>(List.range es.length).filterMap (jYs r es)
 | none=>[]
def jK3 (W:Web):List Tie:=(List.range W.length).flatMap (rowE W)
theorem jVv {r i:Nat} {es:List (Nat×Nat)} {x:Tie} (h:jYs r es i=some x):x.1=(r,i)/\es[i]? =some x.2/\leE x.1 x.2=true:=by
 unfold jYs at h
 split at h
 ·rename_i e he
  split at h
  ·rename_i hl;cases h;exact⟨rfl,he,hl⟩
  ·cases h
 ·cases h
theorem endsL_mem {W:Web} {x:Tie}:x∈jK3 W↔en W x.1.1 x.1.2=some x.2/\leE x.1 x.2=true:=by
 obtain⟨⟨r,i⟩,e⟩:=x
 unfold jK3
 rw[List.mem_flatMap]
 constructor
 ·rintro⟨r',h1,h2⟩
  unfold rowE at h2
  split at h2
  ·rename_i es hes
   rw[lVn] at h2
   obtain⟨i',h3,h4⟩:=h2
   obtain⟨q1,q2,q3⟩:=jVv h4
   cases q1
   exact⟨jQt hes q2,q3⟩
  ·cases h2
 ·rintro⟨h1,h2⟩
  obtain⟨es,q1,q2⟩:=jKx h1
  refine⟨r,lJ0.mpr (lJf.mp q1).1,?_⟩
  unfold rowE
  rw[q1]
  show _∈List.filterMap _ _
  rw[lVn]
  refine⟨i,lJ0.mpr (lJf.mp q2).1,?_⟩
  have q2:es[i]? =some e:=q2
  unfold jYs
  rw[q2]
  show (if leE (r,i) e=true then _ else _)=_
  rw[lJc h2]
theorem pw_fm {α β:Type} {f:α->Option β} {R:β->β->Prop} {xs:List α} (hx:xs.Nodup) (h:∀a a' b b',a≠a'->f a=some b->f a'=some b'->R b b'):(xs.filterMap f).Pairwise R:=by
 rw[List.pairwise_filterMap]
 exact hx.imp fun hne b hb b' hb'=>h _ _ b b' hne hb hb'
theorem kVx {W:Web}:(jK3 W).Nodup:=by
 unfold jK3
 have h:∀l:List Nat,l.Nodup->(l.flatMap (rowE W)).Nodup:=by
  intro l hl
  induction l with
  | nil=>exact lVo
  | cons a as ih=>
   rw[lKm] at hl
   rw[List.flatMap_cons,lVq]
   refine⟨?_,ih hl.2,?_⟩
   ·unfold rowE
    split
    ·refine pw_fm lXq ?_
     rintro i i' x x' hne hx hx' rfl
     have q1:=(jVv hx).1
     have q2:=(jVv hx').1
     rw[q1] at q2;cases q2;exact hne rfl
    ·exact lVo
   ·intro x hx y hy
    rintro rfl
    rw[List.mem_flatMap] at hy
    obtain⟨a',h1,h2⟩:=hy
    have fst:∀r,x∈rowE W r->x.1.1=r:=by
     intro r hr
     unfold rowE at hr
     split at hr
     ·rw[lVn] at hr
      obtain⟨i,_,h4⟩:=hr
      rw[(jVv h4).1]
     ·cases hr
    have:a=a':=(fst a hx).symm.trans (fst a' h2)
    subst this;exact hl.1 h1
 exact h _ lXq
def jVc:Sp3:=fun xs G Q=>∃W:Web,xs=[encW W]/\Fine W/\∀p G',G p=none->G' p=some (.lst ((jK3 W).map encT))->(jK3 W).length<=1000000->Sub G G'->Q (.ref p) G'
def qXe:List Str:=["_law_web_here","_law_found","_law_room","_law_door"]
noncomputable def jZq:TS3:=
 (tSeq (tAsg (tLst tNil) (jJh 1))
 (tSeq (tFor (jKb (jJa (tCB rLen (jJa (tVar 0) tNil)) tNil)) (jJh 2) (tFor (jKb (jJa (tCB rLen (jJa (tOp rIxF (tVar 0) (tVar 2)) tNil)) tNil)) (jJh 3) (tIfS (jJs (tOp rLeF (tTup (jJa (tVar 2) (jJa (tVar 3) tNil))) (tOp rIxF (tOp rIxF (tVar 0) (tVar 2)) (tVar 3)))) (jUq (tBM "list" jKv (tVar 1) (jJa (tTup (jJa (tTup (jJa (tVar 2) (jJa (tVar 3) tNil))) (jJa (tOp rIxF (tOp rIxF (tVar 0) (tVar 2)) (tVar 3)) tNil))) tNil))) jJ8)))
 (tRet (tVar 1))))
theorem kU9:RdOk jVc jZq qXe:=by
 intro xs G Q h_;apply xe1 h_;clear h_;intro W h_;apply ae2 h_;clear h_;intro fine kk
 show jZq _ [some (.tup (W.map encR)),none,none,none] G
 have hs:=sz
 have hl:=fine.len
 wp_walk using 1,jZq,jJ0,jKb,List.length_map
 refine⟨lJy _,fun p hp=>⟨by omega,by omega,?_⟩⟩
 rw[show ((W.length:Int)).toNat=W.length by omega]
 refine⟨fun k τ G'=>∃(v2 v3:Option T),τ=[some (.tup (W.map encR)),some (.ref p),v2,v3]/\G' p=some (.lst (((List.range k).flatMap (rowE W)).map encT))/\((List.range k).flatMap (rowE W)).length<=1000*k/\Sub G G',?_,?_,?_,?_⟩
 ·exact⟨none,none,rfl,jJi,lJy _,.new hp⟩
 ·intros;trivial
 ·intro k x τ G1 hx h_;apply xe2 h_;clear h_;intro v2 v3 h_;apply ae3 h_;clear h_;intro h1 h2 h3
  obtain⟨hk,rfl⟩:=jXl hx
  have hW:W[k]? =some W[k]:=lJg hk
  generalize W[k]=es at hW
  have hes:=fine.row k es hW
  wp_walk using 1,jJ0,jKb,jUg hW,encR,List.length_map
  refine⟨by omega,by omega,?_⟩
  rw[show ((es.length:Int)).toNat=es.length by omega]
  refine⟨fun i τ G'=>∃(v3:Option T),τ=[some (.tup (W.map encR)),some (.ref p),some (.int k),v3]/\G' p=some (.lst (((List.range k).flatMap (rowE W)++(List.range i).filterMap (jYs k es)).map encT))/\((List.range k).flatMap (rowE W)++(List.range i).filterMap (jYs k es)).length<=1000*k+i/\Sub G G',?_,?_,?_,?_⟩
  ·exact⟨v3,rfl,by simpa using h1,by simpa using h2,h3⟩
  ·intros;trivial
  ·intro i x τ G2 hx h_;apply xe1 h_;clear h_;intro v3 h_;apply ae3 h_;clear h_;intro i1 i2 i3
   obtain⟨hi,rfl⟩:=jXl hx
   have hE:es[i]? =some es[i]:=lJg hi
   generalize es[i]=e at hE
   wp_walk using 1,rLeF,jUg hW,encR,qZx hE,encE,jKu i1,i1
   refine⟨by omega,?_⟩
   have hle:HT.lexLe [(k:Int),(i:Int)] [(e.1:Int),(e.2:Int)]=leE (k,i) e:=rfl
   rw[hle]
   by_cases hc:leE (k,i) e=true
   ·have hcell:jYs k es i=some ((k,i),e):=by unfold jYs;rw[hE];show (if _ then _ else _)=_;rw[lJc hc]
    rw[lJc hc]
    refine⟨by omega,by omega,by rw[lJe];omega,?_,?_,i3.over hp⟩
    ·rw[lQf,lXf];simp[hcell,encT,encE]
    ·rw[lQf,lXf,lKd,lKd]
     rw[lKd] at i2
     simp[hcell] at i2 ⊢; omega
   ·have hcell:jYs k es i=none:=by unfold jYs;rw[hE];show (if _ then _ else _)=_;rw[lJb hc]
    rw[lJb hc]
    refine⟨?_,?_,i3⟩
    ·rw[lQf,lXf];simp[hcell]
    ·rw[lQf,lXf];simp[hcell];simp at i2;omega
  ·intro τ G' h_;apply xe1 h_;clear h_;intro v3 h_;apply ae3 h_;clear h_;intro i1 i2 i3
   rw[jQc] at i1 i2
   have e1:(List.range (k+1)).flatMap (rowE W)=(List.range k).flatMap (rowE W)++(List.range es.length).filterMap (jYs k es):=by
    rw[lQf,lX8]
    congr 1
    simp[rowE,hW]
   refine⟨_,_,rfl,by rw[e1];exact i1,by rw[e1];omega,i3⟩
 ·intro τ G1 h_;apply xe2 h_;clear h_;intro v2 v3 h_;apply ae3 h_;clear h_;intro h1 h2 h3
  rw[jQc] at h1 h2
  wp_walk using 1,tSeq
  exact kk p G1 hp h1 (by show ((List.range W.length).flatMap (rowE W)).length<=_;omega) h3
def jJt (F:List Nat):List T:=F.map fun e=>T.int (e:Nat)
theorem qVq {F:List Nat} {r:Nat}:inT (.int r) (jJt F)=F.contains r:=by
 unfold inT jJt
 rw[List.any_map,List.contains_eq_any_beq]
 congr 1
 funext e
 simp only[Function.comp,eqT]
 by_cases h:e=r
 ·subst h;simp
 ·have h2:¬ (e:Int)=r:=by omega
  have h3:¬ r=e:=fun z=>h z.symm
  rw[beq_eq_false_iff_ne.mpr h3,beq_eq_false_iff_ne.mpr h2]
theorem kX7 {G:Gp} {p:Addr} {F:List Nat} {r:Nat} (h:G p=some (.lst (jJt F))):inR G (.int r) (.ref p)=some (F.contains r):=by
 unfold inR
 rw[jJn h]
 show (if _ then _ else _)=_
 rw[lJc ⟨rfl,kJc⟩,qVq]
theorem jVr:∀ {n:Nat} {F:List Nat} (hn:F.Nodup) (hl:∀x,x∈F->x<n),F.length<=n
 | 0,F,hn,hl=>by
  cases F with
  | nil=>exact lJh _
  | cons a as=>exact absurd (hl a (lJ1)) (lKt _)
 | n+1,F,hn,hl=>by
  have h1:=jVr (n:=n) (hn.erase n) (fun x hx=>by
   rw[hn.mem_erase_iff] at hx
   have:=hl x hx.2;omega)
  by_cases h:n∈F
  ·rw[List.length_erase_of_mem h] at h1;omega
  ·rw[List.erase_of_not_mem h] at h1;omega
theorem jZ1 {F:List Nat} {n:Nat} (hn:F.Nodup) (hl:∀x,x∈F->x<n) (he:F.length=n):∀r,r<n->r∈F:=by
 intro r hr
 apply lQw
 intro hm
 have:(r::F).length<=n:=jVr (lKm.mpr ⟨hm,hn⟩) (fun x hx=>by rw[lJv] at hx;rcases hx with rfl | hx;exact hr;exact hl x hx)
 simp at this;omega
def Closed (W:Web) (S:Nat->Prop):Prop:=∀r i s j,S r->en W r i=some (s,j)->S s
structure Found (W:Web) (r0:Nat) (F:List Nat):Prop where
 nd:F.Nodup
 lt:∀x,x∈F->x<W.length
 got:∀S,S r0->Closed W S->∀x,x∈F->S x
def vis (F:List Nat) (es:List (Nat×Nat)):List Nat:=es.foldl (fun F e=>if F.contains e.1=true then F else F++[e.1]) F
def row (W:Web) (r:Nat):List (Nat×Nat):=(W[r]?).getD []
theorem row_of {W:Web} {r:Nat} {es:List (Nat×Nat)} (h:W[r]? =some es):row W r=es:=by unfold row;rw[h];rfl
theorem kXd {F:List Nat} {es:List (Nat×Nat)} {j:Nat} {e:Nat×Nat} (h:es[j]? =some e):vis F (es.take (j+1))=if (vis F (es.take j)).contains e.1=true then vis F (es.take j) else vis F (es.take j)++[e.1]:=by
 unfold vis
 rw[lK4,h,List.foldl_append];rfl
def bfsN (W:Web):Nat->Nat->List Nat->List Nat
 | 0,_,F=>F
 | n+1,k,F=>match F[k]? with
  | some r=>bfsN W n (k+1) (vis F (row W r))
  | none=>F
def bfs (W:Web) (r:Nat):List Nat:=bfsN W W.length 0 [r]
theorem qQt {W:Web} {n k:Nat} {F:List Nat} (h:F.length<=k):bfsN W n k F=F:=by
 cases n with
 | zero=>rfl
 | succ n=>rw[bfsN,lKa h]
theorem qQs {W:Web} {n k r:Nat} {F:List Nat} (h:F[k]? =some r):bfsN W (n+1) k F=bfsN W n (k+1) (vis F (row W r)):=by rw[bfsN,h]
noncomputable def jVa:Sp3:=fun xs G Q=>∃(W:Web) (r0:Nat),xs=[encW W,.int r0]/\Fine W/\r0<W.length/\∀p G' F,G p=none->G' p=some (.lst (jJt F))->Found W r0 F->F=bfs W r0->Sub G G'->Q (.ref p) G'
def kV7:List Str:=["_law_web_here","_law_room","_law_found","_law_at","_law_other","_law_door"]
noncomputable def jVf:TS3:=
 (tSeq (tAsg (tLst (jJa (tVar 1) tNil)) (jJh 2))
 (tSeq (tAsg (tC (.int 0)) (jJh 3))
 (tSeq (jXf (jJs (tOp rLt (tVar 3) (tCB rLen (jJa (tVar 2) tNil)))) (tSeq (tFor (iSeq (tOp rIxF (tVar 0) (tOp rIxF (tVar 2) (tVar 3)))) (gTup 2 (jKd (jJh 4) (jKd (jJh 5) gNil))) (tIfS (jJs (tOp jUc (tVar 4) (tVar 2))) (jUq (tBM "list" jKv (tVar 2) (jJa (tVar 4) tNil))) jJ8))
 (tAsg (tOp jJr (tVar 3) (tC (.int 1))) (jJh 3))))
 (tRet (tVar 2)))))
theorem kJt:RdOk jVa jVf kV7:=by
 intro xs G Q h_;apply xe2 h_;clear h_;intro W r0 h_;apply ae3 h_;clear h_;intro fine hr0 kk
 show jVf _ [some (.tup (W.map encR)),some (.int r0),none,none,none,none] G
 have hs:=sz
 have hl:=fine.len
 wp_walk using 1,jVf,jXf,jJ0
 refine⟨by omega,fun p hp=> ?_⟩
 refine⟨fun m τ G'=>∃(at':Nat) (v4 v5:Option T) (F:List Nat),τ=[some (.tup (W.map encR)),some (.int r0),some (.ref p),some (.int at'),v4,v5]/\G' p=some (.lst (jJt F))/\Found W r0 F/\Sub G G'/\bfs W r0=bfsN W (W.length-at') at' F/\m=W.length-at',⟨_,0,none,none,[r0],rfl,jJi,⟨by simp,by simpa using hr0,fun S h0 _ x hx=>by rw[lJz] at hx;rw[hx];exact h0⟩,.new hp,rfl,rfl⟩,?_⟩
 intro m τ G1 h_;apply xe4 h_;clear h_;intro at' v4 v5 F h_;apply ae5 h_;clear h_;intro h1 h2 h3 hB e4_
 subst e4_
 wp_walk using 1,iSeq,jJn h1,jJ1 h1
 have hFl:=jVr h2.nd h2.lt
 split
 ·rename_i hc
  have hat:at'<F.length:=by rw[jJt,lJe] at hc;omega
  have hF:F[at']? =some F[at']:=lJg hat
  have hfm:F[at']∈F:=lQ0 hat
  generalize F[at']=r at hF hfm
  have hrW:=h2.lt r hfm
  have hW:W[r]? =some W[r]:=lJg hrW
  generalize W[r]=es at hW
  have hatI:L2.atI (jJt F) (at':Int)=some (.int r):=by rw[atN];simp[jJt,hF]
  wp_walk using 1,hatI,jUg hW,encR
  refine⟨fun τ G'=>∃(v4 v5:Option T) (F:List Nat),τ=[some (.tup (W.map encR)),some (.int r0),some (.ref p),some (.int ((at'+1:Nat):Int)),v4,v5]/\G' p=some (.lst (jJt F))/\Found W r0 F/\Sub G G'/\bfs W r0=bfsN W (W.length-(at'+1)) (at'+1) F,?_,?_⟩
  ·intro τ' G' h_;apply xe3 h_;clear h_;intro v4 v5 F' h_;apply ae4 h_;clear h_;intro i1 i2 i3 iB
   exact⟨W.length-(at'+1),by omega,at'+1,v4,v5,rfl,F',i1,i2,i3,iB,rfl⟩
  ·refine⟨fun j τ G'=>∃(v4 v5:Option T) (F':List Nat),τ=[some (.tup (W.map encR)),some (.int r0),some (.ref p),some (.int at'),v4,v5]/\G' p=some (.lst (jJt F'))/\r∈F'/\Found W r0 F'/\Sub G G'/\F'=vis F (es.take j),?_,?_,?_,?_⟩
   ·exact⟨v4,v5,F,rfl,h1,hfm,h2,h3,rfl⟩
   ·intros;trivial
   ·intro j x τ G2 hx0 h_;apply xe3 h_;clear h_;intro v4 v5 F0 h_;apply ae5 h_;clear h_;intro i1 i2 i3 i4 iB
    obtain⟨⟨s,t⟩,hx,rfl⟩:=jKs hx0
    have hen:=jQt hW hx
    wp_walk using 1,encE,jUc,kX7 i1,jKu i1,i1
    by_cases hm:s∈F0
    ·rw[lJb (by simp[hm])]
     exact⟨F0,rfl,i2,i3,i4,by rw[kXd hx,<-iB,lJc (by simpa using hm)]⟩
    ·rw[lJc (by simp[hm])]
     have hFl:=jVr i3.nd i3.lt
     refine⟨by rw[jJt,lJe];omega,F0++[s],by simp[jJt],lKx _ i2,⟨?_,?_,?_⟩,i4.over hp,by rw[kXd hx,<-iB,lJb (by simpa using hm)]⟩
     ·rw[lVq];exact⟨i3.nd,by simp,fun a ha b hb=>by rw[lJz] at hb;subst hb;rintro rfl;exact hm ha⟩
     ·intro x hx
      rw[lKc,lJz] at hx
      rcases hx with hx | rfl
      ·exact i3.lt x hx
      ·exact fine.rng _ _ _ _ hen
     ·intro S h0 hc x hx
      rw[lKc,lJz] at hx
      rcases hx with hx | rfl
      ·exact i3.got S h0 hc x hx
      ·exact hc _ _ _ _ (i3.got S h0 hc r i2) hen
   ·intro τ G' h_;apply xe3 h_;clear h_;intro v4 v5 F0 h_;apply ae5 h_;clear h_;intro i1 i2 i3 i4 iB
    wp_walk using 1,tSeq
    refine⟨by simp,F0,i1,i3,i4,?_⟩
    rw[lJe,lK5] at iB
    rw[hB,show W.length-at'=W.length-(at'+1)+1 by omega,qQs hF,row_of hW,<-iB]
 ·rename_i hc
  exact kk p G1 F hp h1 h2 (by rw[hB,qQt (by rw[jJt,lJe] at hc;omega)]) h3
structure Turn (m:Nat) (σ:List Nat):Prop where
 len:σ.length=m
 nd:σ.Nodup
 lt:∀x,x∈σ->x<m
def Invol (σ:List Nat):Prop:=∀(k x:Nat),σ[k]? =some x->σ[x]? =some k
theorem Turn.at {m:Nat} {σ:List Nat} (h:Turn m σ) {k:Nat} (hk:k<m):∃x,σ[k]? =some x/\x<m:=by
 have hk':k<σ.length:=by rw[h.len];exact hk
 exact⟨σ[k],lJg hk',h.lt _ (lQ0 hk')⟩
theorem Turn.onto {m:Nat} {σ:List Nat} (h:Turn m σ) {x:Nat} (hx:x<m):∃k,k<m/\σ[k]? =some x:=by
 obtain⟨k,hk⟩:=lJ8 (jZ1 h.nd h.lt h.len x hx)
 exact⟨k,by rw[<-h.len];exact (lJf.mp hk).1,hk⟩
theorem Turn.inj {m:Nat} {σ:List Nat} (h:Turn m σ) {k k' x:Nat} (h1:σ[k]? =some x) (h2:σ[k']? =some x):k=k':=
 (lXj (lJf.mp h1).1 h.nd).mp (h1.trans h2.symm)
theorem Invol.turn {m:Nat} {σ:List Nat} (hl:σ.length=m) (h:Invol σ):Turn m σ where
 len:=hl
 nd:=by
  unfold List.Nodup
  refine List.pairwise_iff_getElem.mpr ?_
  intro i j hi hj hij e
  have h1:=h j _ (lJg hj)
  have h2:=h i _ (lJg hi)
  rw[e,h1] at h2;cases h2;omega
 lt:=fun x hx=>by
  obtain⟨k,hk⟩:=lJ8 hx
  rw[<-hl];exact (lJf.mp (h k x hk)).1
theorem Invol.swap {σ:List Nat} {a b:Nat} (h:Invol σ) (ha:σ[a]? =some a) (hb:σ[b]? =some b) (hab:a≠b):Invol ((σ.set a b).set b a):=by
 have hal:=(lJf.mp ha).1
 have hbl:=(lJf.mp hb).1
 have gt:∀k,((σ.set a b).set b a)[k]? =if k=b then some a else if k=a then some b else σ[k]? :=by
  intro k
  by_cases h1:k=b
  ·subst h1;rw[lJc rfl,lK0 (by simpa using hbl)]
  ·rw[lJb h1,lKr (fun z=>h1 z.symm)]
   by_cases h2:k=a
   ·subst h2;rw[lJc rfl,lK0 hal]
   ·rw[lJb h2,lKr (fun z=>h2 z.symm)]
 intro k x hk
 rw[gt] at hk ⊢
 by_cases h1:k=b
 ·subst h1;rw[lJc rfl] at hk;cases hk
  rw[lJb hab,lJc rfl]
 ·rw[lJb h1] at hk
  by_cases h2:k=a
  ·subst h2;rw[lJc rfl] at hk;cases hk
   rw[lJc rfl]
  ·rw[lJb h2] at hk
   have hx:=h k x hk
   have h3:x≠b:=by rintro rfl;rw[hb] at hx;cases hx;exact h1 rfl
   have h4:x≠a:=by rintro rfl;rw[ha] at hx;cases hx;exact h2 rfl
   rw[lJb h3,lJb h4];exact hx
noncomputable def jZi:Sp3:=fun xs G Q=>∃(b:Addr) (m n:Nat) (own:Bool),xs=[.ref b,.int m,.bl own]/\BoxAt G b n/\n+m<2^40/\1<=m/\m<=1000/\∀ σ G',Turn m σ->(own=true->Invol σ)->BoxAt G' b (n+m)->Keep b G G'->Q (.tup (jJt σ)) G'
def qV9:List Str:=["_law_box_here","_law_many","_law_own","_law_order","_law_k","_law_turn_here","_law_one","_law_other"]
noncomputable def jZl:TS3:=
 (tSeq (tAsg (tLst tNil) (jJh 3))
 (tSeq (tFor (jKb (jJa (tVar 1) tNil)) (jJh 4) (jUq (tBM "list" jZv (tVar 3) (jJa (jJp jJl (jJa (tVar 0) (jJa (tOp jJr (tVar 4) (tC (.int 1))) tNil))) (jJa (tVar 4) tNil)))))
 (tSeq (tIfS (tNot (tTru rTru (tVar 2))) (tRet (tCB jKj (jJa (tVar 3) tNil))) jJ8)
 (tSeq (tAsg (jVm (jJa (tVar 1) tNil)) (jJh 5))
 (tSeq (tFor (qVs (jJa (tC (.int 0)) (jJa (tOp rSub (tVar 1) (tC (.int 1))) (jJa (tC (.int 2)) tNil)))) (jJh 4) (tSeq (tPar 6 7 (jJa (tOp rIxF (tVar 3) (tVar 4)) (jJa (tOp rIxF (tVar 3) (tOp jJr (tVar 4) (tC (.int 1)))) tNil)))
 (tSeq (tAsg (tVar 7) (gSub (tVar 5) (tVar 6) jQr))
 (tAsg (tVar 6) (gSub (tVar 5) (tVar 7) jQr)))))
 (tRet (tCB jKj (jJa (tVar 5) tNil))))))))
theorem kU4:RdOk jZi jZl qV9:=by
 intro xs G Q h_;apply xe4 h_;clear h_;intro b m n own h_;apply ae5 h_;clear h_;intro hb hn hm1 hm2 kk
 show jZl _ [some (.ref b),some (.int m),some (.bl own),none,none,none,none,none] G
 have hs:=sz
 obtain⟨bo,hbo⟩:=hb.some
 wp_walk using 1,jZl,jJ0,jKb,qVs,jVm
 refine⟨lJy _,fun o ho=>⟨by omega,by omega,?_⟩⟩
 have hob:=jJf hbo ho
 rw[show ((m:Int)).toNat=m by omega]
 refine⟨fun k τ G'=>∃(v4:Option T) (σ:List Nat),τ=[some (.ref b),some (.int m),some (.bl own),some (.ref o),v4,none,none,none]/\G' o=some (.lst (jJt σ))/\Turn k σ/\BoxAt G' b (n+k)/\Keep b G G',?_,?_,?_,?_⟩
 ·exact⟨none,[],rfl,jJi,⟨rfl,lVo,fun x hx=>by cases hx⟩,hb.gup hob,.new ho⟩
 ·intros;trivial
 ·intro k x τ G1 hx h_;apply xe2 h_;clear h_;intro v4 σ h_;apply ae4 h_;clear h_;intro h1 h2 h3 h4
  obtain⟨hk,rfl⟩:=jXl hx
  wp_walk using 1,jKu h1
  refine⟨b,_,n+k,rfl,h3,by omega,by omega,by omega,fun c G2 c0 c1 bx kp=> ?_⟩
  have h1':=kp _ _ hob.symm h1
  refine⟨jJt σ,c,rfl,h1',c0,by rw[jJt,lJe,h2.len];omega,by rw[jJt,lJe,h2.len];omega,σ.take c.toNat++k::σ.drop c.toNat,?_,⟨?_,?_,?_⟩,bx.gup hob,(h4.trans kp).over ho⟩
  ·simp[insT,jJt,lXh,List.map_drop]
  ·rw[ins_perm.length_eq,lKd,h2.len];rfl
  ·rw[ins_perm.nodup_iff,lVq]
   exact⟨h2.nd,by simp,fun a ha e he=>by rw[lJz] at he;subst he;have:=h2.lt a ha;omega⟩
  ·intro x hx
   rw[ins_perm.mem_iff,lKc,lJz] at hx
   rcases hx with hx | rfl
   ·have:=h2.lt x hx;omega
   ·omega
 ·intro τ G1 h_;apply xe2 h_;clear h_;intro v4 σ h_;apply ae4 h_;clear h_;intro h1 h2 h3 h4
  rw[jQc] at h2 h3
  wp_walk using 1,jJn h1
  cases own with
  | false=>exact kk σ G1 h2 (fun z=>by cases z) h3 h4
  | true=>
   wp_walk using 1,jJ0,qVs,jVm
   refine⟨by omega,by omega,fun t ht=> ?_⟩
   have hto:=jJf h1 ht
   have htb:b≠t:=by obtain⟨u,hu⟩:=h3.some;exact jJf hu ht
   have ht0:=h4.none htb.symm ht
   have hsm:Builtin.Range.small 0 ((m:Int)-1) 2=true:=by
    unfold Builtin.Range.small Builtin.Range.rangeSize
    simp only[Builtin.Range.rangeFitsLong,lJ6,Bool.or_eq_true,lKz,beq_iff_eq,show (2:Int)>0 by decide,lKw]
    split<;>omega
   refine⟨by decide,by decide,hsm,?_⟩
   have hN:(Builtin.Range.rangeSize 0 ((m:Int)-1) 2).toNat=m / 2:=by
    unfold Builtin.Range.rangeSize;rw[lJc (by decide)]
    split<;>omega
   rw[hN,show ((m:Int)).toNat=m by omega,jQz]
   refine⟨fun k τ G'=>∃(v4 v6 v7:Option T) (ρ:List Nat),τ=[some (.ref b),some (.int m),some (.bl true),some (.ref o),v4,some (.ref t),v6,v7]/\G' t=some (.lst (jJt ρ))/\G' o=some (.lst (jJt σ))/\Invol ρ/\ρ.length=m/\(∀i x,2*k<=i->σ[i]? =some x->ρ[x]? =some x)/\BoxAt G' b (n+m)/\Keep b G G',?_,?_,?_,?_⟩
   ·refine⟨_,_,_,List.range m,rfl,jJi,by rw[jJv hto];exact h1,?_,by simp,?_,h3.gup htb,h4.over ht0⟩
    ·intro k x hk
     obtain⟨q1,q2⟩:=lJf.mp hk
     simp at q1 q2;subst q2;exact hk
    ·intro i x _ hx
     have:=h2.lt x (lJl hx)
     simp[this]
   ·intros;trivial
   ·intro k x τ G2 hx h_;apply xe4 h_;clear h_;intro v4 v6 v7 ρ h_;apply ae7 h_;clear h_;intro i1 i2 i3 i4 i5 i6 i7
    obtain⟨hk,rfl⟩:k<m / 2/\x= .int ((2*k:Nat):Int):=by
     obtain⟨q1,q2⟩:=lJf.mp hx
     simp[rngS] at q1 q2;refine⟨q1,?_⟩;rw[<-q2];congr 1;omega
    obtain⟨a,ha,_⟩:=h2.at (show 2*k<m by omega)
    obtain⟨c,hc,_⟩:=h2.at (show 2*k+1<m by omega)
    have hca:L2.atI (jJt σ) ((2*k:Nat):Int)=some (.int (a:Nat)):=by rw[atN];simp[jJt,ha]
    have hcc:L2.atI (jJt σ) (((2*k:Nat):Int)+1)=some (.int (c:Nat)):=by rw[show ((2*k:Nat):Int)+1=((2*k+1:Nat):Int) by omega,atN];simp[jJt,hc]
    have hac:a≠c:=by rintro rfl;have:=h2.inj ha hc;omega
    have fa:=i5 (2*k) a (lJh _) ha
    have fc:=i5 (2*k+1) c (by omega) hc
    have hal:a<ρ.length:=(lJf.mp fa).1
    have hcl:c<ρ.length:=(lJf.mp fc).1
    have ixa:L2.ixN (jJt ρ).length (a:Int)=some a:=jZ6 (by rw[jJt,lJe];exact hal)
    have ixc:L2.ixN ((jJt ρ).set a (.int (c:Nat))).length (c:Int)=some c:=jZ6 (by rw[lQ9,jJt,lJe];exact hcl)
    wp_walk using 1,jJ1 i2,hca,hcc,jUa i1 ixa,ixc
    have e1:((jJt ρ).set a (.int (c:Nat))).set c (.int (a:Nat))=jJt ((ρ.set a c).set c a):=by simp[jJt,List.map_set]
    rw[e1]
    refine⟨(ρ.set a c).set c a,rfl,by rw[jJv hto];exact i2,i3.swap fa fc hac,by simp[i4],?_,i6.gup htb,i7.over ht0⟩
    intro i x hi hx
    have hxa:a≠x:=by rintro rfl;have:=h2.inj ha hx;omega
    have hxc:c≠x:=by rintro rfl;have:=h2.inj hc hx;omega
    rw[lKr hxc,lKr hxa]
    exact i5 i x (by omega) hx
   ·intro τ G2 h_;apply xe4 h_;clear h_;intro v4 v6 v7 ρ h_;apply ae7 h_;clear h_;intro i1 i2 i3 i4 i5 i6 i7
    wp_walk using 1,jJn i1
    exact kk ρ G2 (i3.turn i4) (fun _=>i3) i6 i7
structure TurnsOk (W:Web) (m:Nat) (Ts:List (List Nat)):Prop where
 len:Ts.length=(jK3 W).length
 ok:∀(t:Nat) (x:Tie) (σ:List Nat),(jK3 W)[t]? =some x->Ts[t]? =some σ->Turn m σ/\(x.1=x.2->Invol σ)
def Bel (W:Web) (Ts:List (List Nat)) (x i y j:Nat):Prop:=∃(t:Nat) (e f:Nat×Nat) (σ:List Nat) (k k':Nat),(jK3 W)[t]? =some (e,f)/\Ts[t]? =some σ/\σ[k]? =some k'/\
 ((x=e.1+k*W.length/\i=e.2/\y=f.1+k'*W.length/\j=f.2)\/(y=e.1+k*W.length/\j=e.2/\x=f.1+k'*W.length/\i=f.2))
theorem Bel.symm {W:Web} {Ts:List (List Nat)} {x i y j:Nat} (h:Bel W Ts x i y j):Bel W Ts y j x i:=by
 obtain⟨t,e,f,σ,k,k',h1,h2,h3,h4⟩:=h
 exact⟨t,e,f,σ,k,k',h1,h2,h3,h4.symm⟩
theorem spl {n r k r' k':Nat} (h1:r<n) (h2:r'<n) (h:r+k*n=r'+k'*n):r=r'/\k=k':=by
 have e1:(r+k*n)%n=r:=by rw[lYk,lQg h1]
 have e2:(r'+k'*n)%n=r':=by rw[lYk,lQg h2]
 have hn:0<n:=by omega
 have e3:(r+k*n) / n=k:=by rw[Nat.add_mul_div_right _ _ hn,lXp h1,Nat.zero_add]
 have e4:(r'+k'*n) / n=k':=by rw[Nat.add_mul_div_right _ _ hn,lXp h2,Nat.zero_add]
 rw[h] at e1 e3
 exact⟨e1.symm.trans e2,e3.symm.trans e4⟩
theorem kKl {W:Web} {t:Nat} {x:Tie} (h:(jK3 W)[t]? =some x):en W x.1.1 x.1.2=some x.2/\leE x.1 x.2=true:=endsL_mem.mp (lJl h)
theorem kKk {W:Web} {t t':Nat} {x:Tie} (h:(jK3 W)[t]? =some x) (h':(jK3 W)[t']? =some x):t=t':=(lXj (lJf.mp h).1 kVx).mp (h.trans h'.symm)
theorem Bel.fn {W:Web} {m:Nat} {Ts:List (List Nat)} {x i y j y' j':Nat} (hs:Sym W) (ok:TurnsOk W m Ts) (h:Bel W Ts x i y j) (h':Bel W Ts x i y' j'):y=y'/\j=j':=by
 obtain⟨t,e,f,σ,k,l,h1,h2,h3,h4⟩:=h
 obtain⟨t',e',f',σ',k',l',h1',h2',h3',h4'⟩:=h'
 obtain⟨q1,q2⟩:=kKl h1
 obtain⟨q1',q2'⟩:=kKl h1'
 have q1:en W e.1 e.2=some (f.1,f.2):=q1
 have q1':en W e'.1 e'.2=some (f'.1,f'.2):=q1'
 have qs:=hs _ _ _ _ q1
 have qs':=hs _ _ _ _ q1'
 have l1:=kJe q1
 have l2:=kJe qs
 have l1':=kJe q1'
 have l2':=kJe qs'
 obtain⟨e1,e2⟩:=e;obtain⟨f1,f2⟩:=f;obtain⟨e1',e2'⟩:=e';obtain⟨f1',f2'⟩:=f'
 obtain⟨T1,T2⟩:=ok.ok _ _ _ h1 h2
 simp only at *
 rcases h4 with ⟨rfl,rfl,rfl,rfl⟩ | ⟨rfl,rfl,rfl,rfl⟩<;>rcases h4' with ⟨z1,rfl,rfl,rfl⟩ | ⟨rfl,rfl,z1,rfl⟩
 ·obtain⟨rfl,rfl⟩:=spl l1 l1' z1
  rw[q1] at q1';cases q1'
  have:=kKk h1 h1';subst this
  rw[h2] at h2';cases h2'
  rw[h3] at h3';cases h3'
  exact⟨rfl,rfl⟩
 ·obtain⟨rfl,rfl⟩:=spl l1 l2' z1
  rw[q1] at qs';cases qs'
  have a1:=leE_iff.mp q2
  have a2:=leE_iff.mp q2'
  simp only at a1 a2
  have:e1=f1/\i=j:=by omega
  obtain⟨rfl,rfl⟩:=this
  have:=kKk h1 h1';subst this
  rw[h2] at h2';cases h2'
  have:=T2 rfl _ _ h3'
  rw[h3] at this;cases this
  exact⟨rfl,rfl⟩
 ·obtain⟨rfl,rfl⟩:=spl l2 l1' z1
  rw[qs] at q1';cases q1'
  have a1:=leE_iff.mp q2
  have a2:=leE_iff.mp q2'
  simp only at a1 a2
  have:e1=f1/\j=i:=by omega
  obtain⟨rfl,rfl⟩:=this
  have:=kKk h1 h1';subst this
  rw[h2] at h2';cases h2'
  have:=T2 rfl _ _ h3
  rw[h3'] at this;cases this
  exact⟨rfl,rfl⟩
 ·obtain⟨rfl,rfl⟩:=spl l2 l2' z1
  rw[qs] at qs';cases qs'
  have:=kKk h1 h1';subst this
  rw[h2] at h2';cases h2'
  have:=T1.inj h3 h3';subst this
  exact⟨rfl,rfl⟩
def cl (M:List (List T)) (x i:Nat):Option T:=(M[x]?).bind fun ts=>ts[i]?
def put (M:List (List T)) (x i:Nat) (v:T):List (List T):=match M[x]? with
 | some ts=>M.set x (ts.set i v)
 | none=>M
theorem kQg {M:List (List T)} {x i:Nat} {v:T} (h:cl M x i=some v):∃ts,M[x]? =some ts/\ts[i]? =some v:=by
 unfold cl at h
 cases e1:M[x]? with
 | none=>rw[e1] at h;cases h
 | some ts=>rw[e1] at h;exact⟨ts,rfl,h⟩
theorem kUl {M:List (List T)} {x i:Nat} {ts:List T} (h1:M[x]? =some ts):cl M x i=ts[i]? :=by unfold cl;rw[h1];rfl
theorem kYh {M:List (List T)} {x i:Nat} {v u:T} (h:cl M x i=some u) (x' i':Nat):cl (put M x i v) x' i'=if x'=x/\i'=i then some v else cl M x' i':=by
 obtain⟨ts,h1,h2⟩:=kQg h
 have hx:=(lJf.mp h1).1
 have hi:=(lJf.mp h2).1
 unfold put
 rw[h1]
 show cl (M.set x (ts.set i v)) x' i'=_
 by_cases hxx:x'=x
 ·subst hxx
  rw[kUl (lK0 hx),kUl h1]
  by_cases hii:i'=i
  ·subst hii;rw[lK0 hi,lJc ⟨rfl,rfl⟩]
  ·rw[lKr (fun z=>hii z.symm),lJb (fun z=>hii z.2)]
 ·rw[lJb (fun z=>hxx z.1)]
  unfold cl
  rw[lKr (fun z=>hxx z.symm)]
structure SInv (W:Web) (m:Nat) (Ts:List (List Nat)) (M:List (List T)):Prop where
 len:M.length=m*W.length
 row:∀(x:Nat) (ts:List T),M[x]? =some ts->∃es,W[x%W.length]? =some es/\ts.length=es.length
 val:∀x i v,cl M x i=some v->v= .non\/∃y j,Bel W Ts x i y j/\v=encE (y,j)
def Fl (M:List (List T)) (x i:Nat):Prop:=∃e,cl M x i=some (encE e)
theorem SInv.at {W:Web} {m:Nat} {Ts:List (List Nat)} {M:List (List T)} {r i k:Nat} {e:Nat×Nat} (h:SInv W m Ts M) (hk:k<m) (he:en W r i=some e):∃ts,M[r+k*W.length]? =some ts/\i<ts.length:=by
 obtain⟨es,h1,h2⟩:=jKx he
 have hr:=kJe he
 have hx:r+k*W.length<M.length:=by
  rw[h.len]
  have:(k+1)*W.length<=m*W.length:=lXt _ hk
  rw[lQp] at this;omega
 have hM:M[r+k*W.length]? =some M[r+k*W.length]:=lJg hx
 obtain⟨es',q1,q2⟩:=h.row _ _ hM
 rw[lYk,lQg hr,h1] at q1;cases q1
 exact⟨_,hM,by rw[q2];exact (lJf.mp h2).1⟩
theorem SInv.put {W:Web} {m:Nat} {Ts:List (List Nat)} {M:List (List T)} {x i y j:Nat} {ts:List T} (h:SInv W m Ts M) (hx:M[x]? =some ts) (hi:i<ts.length) (hb:Bel W Ts x i y j):
  SInv W m Ts (M.set x (ts.set i (encE (y,j))))/\Fl (M.set x (ts.set i (encE (y,j)))) x i/\∀x' i',Fl M x' i'->Fl (M.set x (ts.set i (encE (y,j)))) x' i':=by
 have hc:cl M x i=some ts[i]:=by rw[kUl hx];exact lJg hi
 have hp:M.set x (ts.set i (encE (y,j)))=_root_.W.put M x i (encE (y,j)):=by unfold _root_.W.put;rw[hx]
 have hxl:=(lJf.mp hx).1
 refine⟨⟨by rw[lQ9];exact h.len,fun x' ts' h'=> ?_,fun x' i' v hv=> ?_⟩,?_,fun x' i' ⟨e,he⟩=> ?_⟩
 ·by_cases hxx:x'=x
  ·subst hxx
   rw[lK0 hxl] at h';cases h'
   rw[lQ9];exact h.row _ _ hx
  ·rw[lKr (fun z=>hxx z.symm)] at h';exact h.row _ _ h'
 ·rw[hp,kYh hc] at hv
  by_cases hxx:x'=x/\i'=i
  ·rw[lJc hxx] at hv;cases hv
   obtain⟨rfl,rfl⟩:=hxx
   exact .inr ⟨y,j,hb,rfl⟩
  ·rw[lJb hxx] at hv;exact h.val _ _ _ hv
 ·exact⟨(y,j),by rw[hp,kYh hc,lJc ⟨rfl,rfl⟩]⟩
 ·by_cases hxx:x'=x/\i'=i
  ·exact⟨(y,j),by rw[hp,kYh hc,lJc hxx]⟩
  ·exact⟨e,by rw[hp,kYh hc,lJb hxx];exact he⟩
structure Sheet (W:Web) (m:Nat) (V:Web):Prop where
 len:V.length=m*W.length
 row:∀(x:Nat) (ts:List (Nat×Nat)),V[x]? =some ts->∃es,W[x%W.length]? =some es/\ts.length=es.length
 sym:Sym V
def uJg (W:Web) (m:Nat) (Ts:List (List Nat)) (M:List (List T)) (d:Nat->Nat->Prop):Prop:=∀t k e f σ k',d t k->(jK3 W)[t]? =some (e,f)->Ts[t]? =some σ->σ[k]? =some k'->Fl M (e.1+k*W.length) e.2/\Fl M (f.1+k'*W.length) f.2
def dec:T->Nat×Nat
 | .tup [.int a,.int b]=>(a.toNat,b.toNat)
 | _=>(0,0)
theorem kJg {e:Nat×Nat}:dec (encE e)=e:=by obtain⟨a,b⟩:=e;simp[encE,dec]
theorem qUb {W:Web} {m:Nat} {Ts:List (List Nat)} {M:List (List T)} (hs:Sym W) (ok:TurnsOk W m Ts) (h:SInv W m Ts M) (hd:uJg W m Ts M fun t k=>t<(jK3 W).length/\k<m):Sheet W m (M.map (List.map dec))/\M=(M.map (List.map dec)).map (List.map encE):=by
 have full:∀x i v,cl M x i=some v->Fl M x i:=by
  intro x i v hv
  obtain⟨ts,h1,h2⟩:=kQg hv
  obtain⟨es,q1,q2⟩:=h.row _ _ h1
  have hx:x<m*W.length:=by rw[<-h.len];exact (lJf.mp h1).1
  have hi:i<es.length:=by rw[<-q2];exact (lJf.mp h2).1
  have hW:0<W.length:=by rcases Nat.eq_zero_or_pos W.length with z | z;rw[z] at hx;omega;exact z
  have hk:x / W.length<m:=Nat.div_lt_of_lt_mul (by rw[lXb];exact hx)
  have hxe:x%W.length+x / W.length*W.length=x:=by rw[lXb];exact Nat.mod_add_div x W.length
  have he:=jQt q1 (lJg hi)
  generalize es[i]=e at he
  obtain⟨s,j⟩:=e
  by_cases hle:leE (x%W.length,i) (s,j)=true
  ·obtain⟨t,ht⟩:=lJ8 (endsL_mem (x:=((x%W.length,i),(s,j))).mpr ⟨he,hle⟩)
   have htl:=(lJf.mp ht).1
   have htT:t<Ts.length:=by rw[ok.len];exact htl
   have hσ:Ts[t]? =some Ts[t]:=lJg htT
   obtain⟨k',hk',_⟩:=(ok.ok _ _ _ ht hσ).1.at hk
   have:=(hd t _ _ _ _ _ ⟨htl,hk⟩ ht hσ hk').1
   simp only at this
   rw[hxe] at this;exact this
  ·have hle2:leE (s,j) (x%W.length,i)=true:=by
    rw[leE_iff] at hle ⊢; simp only at hle ⊢; omega
   obtain⟨t,ht⟩:=lJ8 (endsL_mem (x:=((s,j),(x%W.length,i))).mpr ⟨hs _ _ _ _ he,hle2⟩)
   have htl:=(lJf.mp ht).1
   have htT:t<Ts.length:=by rw[ok.len];exact htl
   have hσ:Ts[t]? =some Ts[t]:=lJg htT
   obtain⟨k0,hk0,hk1⟩:=(ok.ok _ _ _ ht hσ).1.onto hk
   have:=(hd t _ _ _ _ _ ⟨htl,hk0⟩ ht hσ hk1).2
   simp only at this
   rw[hxe] at this;exact this
 have enM:∀x i e,en (M.map (List.map dec)) x i=some e->cl M x i=some (encE e)/\Bel W Ts x i e.1 e.2:=by
  intro x i e he
  obtain⟨es,h1,h2⟩:=jKx he
  rw[lJq] at h1
  cases e1:M[x]? with
  | none=>rw[e1] at h1;cases h1
  | some ts=>
   rw[e1] at h1;cases h1
   rw[lJq] at h2
   cases e2:ts[i]? with
   | none=>rw[e2] at h2;cases h2
   | some v=>
    rw[e2] at h2;cases h2
    have hc:cl M x i=some v:=by rw[kUl e1];exact e2
    obtain⟨e',he'⟩:=full x i v hc
    rw[hc] at he';cases he'
    rw[kJg]
    refine⟨hc,?_⟩
    rcases h.val _ _ _ hc with z | ⟨y,j,hb,z⟩
    ·cases z
    ·have:e'=(y,j):=by rw[<-kJg (e:=e'),z,kJg]
     rw[this];exact hb
 have toM:∀x i e,cl M x i=some (encE e)->en (M.map (List.map dec)) x i=some e:=by
  intro x i e he
  obtain⟨ts,h1,h2⟩:=kQg he
  exact jQt (es:=ts.map dec) (by simp[h1]) (by simp[h2,kJg])
 refine⟨⟨by rw[lJe];exact h.len,fun x ts hx=> ?_,fun x i y j he=> ?_⟩,?_⟩
 ·rw[lJq] at hx
  cases e1:M[x]? with
  | none=>rw[e1] at hx;cases hx
  | some us=>
   rw[e1] at hx;cases hx
   rw[lJe];exact h.row _ _ e1
 ·obtain⟨h1,h2⟩:=enM x i (y,j) he
  have h3:Bel W Ts y j x i:=h2.symm
  have hin:∃v,cl M y j=some v:=by
   obtain⟨t,e,f,σ,k,k',q1,q2,q3,q4⟩:=h3
   obtain⟨z1,z2⟩:=kKl q1
   have z1:en W e.1 e.2=some (f.1,f.2):=z1
   have T1:=(ok.ok _ _ _ q1 q2).1
   have hk:k<m:=by rw[<-T1.len];exact (lJf.mp q3).1
   have hk':k'<m:=T1.lt _ (lJl q3)
   rcases q4 with ⟨a1,a2,_,_⟩ | ⟨_,_,a1,a2⟩
   ·obtain⟨ts,b1,b2⟩:=h.at hk z1
    exact⟨ts[e.2],by rw[a1,a2,kUl b1];exact lJg b2⟩
   ·obtain⟨ts,b1,b2⟩:=h.at hk' (hs _ _ _ _ z1)
    exact⟨ts[f.2],by rw[a1,a2,kUl b1];exact lJg b2⟩
  obtain⟨v,hv⟩:=hin
  obtain⟨e',he'⟩:=full y j v hv
  have h4:=toM y j e' he'
  obtain⟨_,h5⟩:=enM y j e' h4
  obtain⟨a1,a2⟩:=Bel.fn hs ok h3 h5
  rw[h4,<-show (e'.1,e'.2)=e' from rfl,<-a1,<-a2]
 ·rw[lJx]
  conv=>lhs;rw[<-List.map_id M]
  apply lXi
  intro ts hts
  show ts=(ts.map dec).map encE
  rw[lJx]
  conv=>lhs;rw[<-List.map_id ts]
  apply lXi
  intro v hv
  obtain⟨x,hx⟩:=lJ8 hts
  obtain⟨i,hi⟩:=lJ8 hv
  obtain⟨e,he⟩:=full x i v (by rw[kUl hx];exact hi)
  rw[kUl hx,hi] at he;cases he
  show encE e=encE (dec (encE e))
  rw[kJg]
def RowsT (G:Gp) (h:Addr) (M:List (List T)) (rs:List Addr):Prop:=G h=some (.lst (rs.map T.ref))/\rs.length=M.length/\∀(i:Nat) (r:Addr),rs[i]? =some r->∃ts:List T,M[i]? =some ts/\G r=some (.lst ts)
theorem RowsT.set {G:Gp} {h:Addr} {M:List (List T)} {rs:List Addr} {r:Nat} {a:Addr} {ts:List T} (x:RowsT G h M rs) (hn:(h::rs).Nodup) (hr:rs[r]? =some a):RowsT (gup G a (.lst ts)) h (M.set r ts) rs:=by
 rw[lKm] at hn
 have hrl:r<rs.length:=(lJf.mp hr).1
 refine⟨by rw[jJv];exact x.1;rintro rfl;exact hn.1 (lJl hr),by rw[lQ9];exact x.2.1,fun i c e=> ?_⟩
 by_cases hi:i=r
 ·subst hi
  rw[hr] at e;cases e
  exact⟨ts,by rw[lK0];rw[<-x.2.1];exact hrl,jJi⟩
 ·obtain⟨us,h1,h2⟩:=x.2.2 i c e
  refine⟨us,by rw[lKr (Ne.symm hi)];exact h1,?_⟩
  rw[jJv];exact h2
  rintro rfl
  have hil:i<rs.length:=(lJf.mp e).1
  exact hi ((lXj hil hn.2).mp (e.trans hr.symm))
theorem RowsT.get {G:Gp} {h:Addr} {M:List (List T)} {rs:List Addr} {x:Nat} {ts:List T} (R:RowsT G h M rs) (hx:M[x]? =some ts):∃a,rs[x]? =some a/\L2.atI (rs.map T.ref) (x:Int)=some (.ref a)/\G a=some (.lst ts):=by
 have hxl:x<rs.length:=by rw[R.2.1];exact (lJf.mp hx).1
 have hr:rs[x]? =some rs[x]:=lJg hxl
 obtain⟨us,h1,h2⟩:=R.2.2 x _ hr
 rw[hx] at h1;cases h1
 exact⟨_,hr,by rw[atN,lJq,hr];rfl,h2⟩
theorem qYu {n:Nat}:(List.replicate n [T.non]).flatten=List.replicate n T.non:=by
 induction n with
 | zero=>rfl
 | succ n ih=>rw[lQo,lVa,ih];rfl
def rowN (W:Web) (x:Nat):List T:=List.replicate ((W[x%W.length]?).getD []).length .non
theorem kYr {W:Web} {m:Nat} {Ts:List (List Nat)}:SInv W m Ts ((List.range (m*W.length)).map (rowN W)) where
 len:=by simp
 row:=fun x ts h=>by
  rw[lJq] at h
  cases e:(List.range (m*W.length))[x]? with
  | none=>rw[e] at h;cases h
  | some y=>
   rw[e] at h;cases h
   obtain⟨q1,q2⟩:=lJf.mp e
   simp at q1 q2;subst q2
   have hW:0<W.length:=by rcases Nat.eq_zero_or_pos W.length with z | z;rw[z] at q1;omega;exact z
   have hx:x%W.length<W.length:=lQr _ hW
   exact⟨W[x%W.length],lJg hx,by simp[rowN,hx]⟩
 val:=fun x i v h=>by
  obtain⟨ts,h1,h2⟩:=kQg h
  rw[lJq] at h1
  cases e:(List.range (m*W.length))[x]? with
  | none=>rw[e] at h1;cases h1
  | some y=>
   rw[e] at h1;cases h1
   have:=lJl h2
   unfold rowN at this
   exact .inl (List.mem_replicate.mp this).2
noncomputable def jU9:Sp3:=fun xs G Q=>∃(W:Web) (tr:Addr) (m:Nat) (Ts:List (List Nat)),xs=[encW W,.ref tr,.int m]/\Fine W/\Sym W/\1<=W.length/\1<=m/\m*W.length<=1000/\TurnsOk W m Ts/\G tr=some (.lst (Ts.map fun σ=>T.tup (jJt σ)))/\∀V G',Sheet W m V->Sub G G'->Q (encW V) G'
def kV6:List Str:=["_law_web_here","_law_turns","_law_many","_law_made","_law_t","_law_one","_law_other","_law_k","_law_spot","_law_there","_law_n","_law_room"]
noncomputable def jVe:TS3:=
 (tSeq (tAsg (jKz [false,false,false,false,false,false,false,false,false,false,true,false] (jKb (jJa (tOp jQ4 (tVar 2) (tCB rLen (jJa (tVar 0) tNil))) tNil)) (jJh 10) jQ2 (tOp jQ4 (tLst (jJa (tC .non) tNil)) (tCB rLen (jJa (tOp rIxF (tVar 0) (tOp rMod (tVar 10) (tCB rLen (jJa (tVar 0) tNil)))) tNil)))) (jJh 3))
 (tSeq (tFor (kJ0 (jJa (jJp jVc (jJa (tVar 0) tNil)) tNil)) (gTup 2 (jKd (jJh 4) (jKd (gTup 2 (jKd (jJh 5) (jKd (jJh 6) gNil))) gNil))) (tFor (jKb (jJa (tVar 2) tNil)) (jJh 7) (tSeq (tAsg (tOp jJr (tOp rIxF (tVar 5) (tC (.int 0))) (tOp jQ4 (tVar 7) (tCB rLen (jJa (tVar 0) tNil)))) (jJh 8))
 (tSeq (tAsg (tOp jJr (tOp rIxF (tVar 6) (tC (.int 0))) (tOp jQ4 (tOp rIxF (tOp rIxF (tVar 1) (tVar 4)) (tVar 7)) (tCB rLen (jJa (tVar 0) tNil)))) (jJh 9))
 (tSeq (tAsg (tTup (jJa (tVar 9) (jJa (tOp rIxF (tVar 6) (tC (.int 1))) tNil))) (gSub (tOp rIxF (tVar 3) (tVar 8)) (tOp rIxF (tVar 5) (tC (.int 1))) jQr))
 (tAsg (tTup (jJa (tVar 8) (jJa (tOp rIxF (tVar 5) (tC (.int 1))) tNil))) (gSub (tOp rIxF (tVar 3) (tVar 9)) (tOp rIxF (tVar 6) (tC (.int 1))) jQr)))))))
 (tRet (tCB jKj (jJa (jKz [false,false,false,false,false,false,false,false,false,false,false,true] (iSeq (tVar 3)) (jJh 11) jQ2 (tCB jKj (jJa (tVar 11) tNil))) tNil)))))
noncomputable def qXn:TS3:=(tSeq (tAsg (tTup (jJa (tVar 9) (jJa (tOp rIxF (tVar 6) (tC (.int 1))) tNil))) (gSub (tOp rIxF (tVar 3) (tVar 8)) (tOp rIxF (tVar 5) (tC (.int 1))) jQr))
 (tAsg (tTup (jJa (tVar 8) (jJa (tOp rIxF (tVar 5) (tC (.int 1))) tNil))) (gSub (tOp rIxF (tVar 3) (tVar 9)) (tOp rIxF (tVar 6) (tC (.int 1))) jQr)))
theorem kKz:jVe=(tSeq (tAsg (jKz [false,false,false,false,false,false,false,false,false,false,true,false] (jKb (jJa (tOp jQ4 (tVar 2) (tCB rLen (jJa (tVar 0) tNil))) tNil)) (jJh 10) jQ2 (tOp jQ4 (tLst (jJa (tC .non) tNil)) (tCB rLen (jJa (tOp rIxF (tVar 0) (tOp rMod (tVar 10) (tCB rLen (jJa (tVar 0) tNil)))) tNil)))) (jJh 3))
 (tSeq (tFor (kJ0 (jJa (jJp jVc (jJa (tVar 0) tNil)) tNil)) (gTup 2 (jKd (jJh 4) (jKd (gTup 2 (jKd (jJh 5) (jKd (jJh 6) gNil))) gNil))) (tFor (jKb (jJa (tVar 2) tNil)) (jJh 7) (tSeq (tAsg (tOp jJr (tOp rIxF (tVar 5) (tC (.int 0))) (tOp jQ4 (tVar 7) (tCB rLen (jJa (tVar 0) tNil)))) (jJh 8))
 (tSeq (tAsg (tOp jJr (tOp rIxF (tVar 6) (tC (.int 0))) (tOp jQ4 (tOp rIxF (tOp rIxF (tVar 1) (tVar 4)) (tVar 7)) (tCB rLen (jJa (tVar 0) tNil)))) (jJh 9))
 qXn))))
 (tRet (tCB jKj (jJa (jKz [false,false,false,false,false,false,false,false,false,false,false,true] (iSeq (tVar 3)) (jJh 11) jQ2 (tCB jKj (jJa (tVar 11) tNil))) tNil))))):=rfl
theorem kJs:RdOk jU9 jVe kV6:=by
 intro xs G Q h_;apply xe4 h_;clear h_;intro W tr m Ts h_;apply ae8 h_;clear h_;intro fine sym hW1 hm1 hmn ok htr kk
 show jVe _ [some (.tup (W.map encR)),some (.ref tr),some (.int m),none,none,none,none,none,none,none,none,none] G
 have hs:=sz
 have hl:=fine.len
 have hm2:m<=1000:=lKf (Nat.le_mul_of_pos_right m hW1) hmn
 rw[kKz]
 wp_walk using 1,jJ0,jKb,kJ0,iSeq,List.length_map
 have hcast:(m:Int)*(W.length:Int)=((m*W.length:Nat):Int):=by simp
 rw[hcast]
 refine⟨.inr ⟨by omega,by omega⟩,by omega,by omega,?_⟩
 rw[show ((m*W.length:Nat):Int).toNat=m*W.length by omega,jQz]
 refine jYf (rowN W) (by simp;omega) (fun _ _=>trivial) ?_ ?_
 ·intro x x' hx G' K K0 s hk
  obtain⟨q1,q2⟩:=lJf.mp hx
  simp at q1 q2;subst q2
  have hmod:x%W.length<W.length:=lQr _ hW1
  have hWx:W[x%W.length]? =some W[x%W.length]:=lJg hmod
  have hrow:rowN W x=List.replicate (W[x%W.length]).length .non:=by simp[rowN,hWx]
  rw[hrow] at hk
  generalize W[x%W.length]=es at hWx hk
  have hes:=fine.row _ _ hWx
  wp_walk using 1,List.length_map,show (x:Int)%(W.length:Int)=((x%W.length:Nat):Int) by simp,jUg hWx,encR
  refine⟨by omega,fun p hp=>⟨by omega,.newL (List.replicate es.length .non),?_,?_⟩⟩
  ·rw[<-qYu]
   simp only[mulR,jJi];rw[lJc];congr;refine⟨?_,?_,?_⟩<;>simp<;>omega
  ·rw[kJd]
   intro q hq
   have hq0:=(jKe hq).2
   exact hk q _ hq0 jJi ((Sub.new hp).over hq0)
 ·intro D rs G1 hD hD1 s1 hrl hnd hrs
  rw[lKn] at hrl
  have hfr:∀r,r∈rs->G r=none:=by
   intro r z
   obtain⟨j,hj⟩:=lJ8 z
   have hjl:j<rs.length:=(lJf.mp hj).1
   exact (hrs j r j hj (by rw[lVu (by omega)])).1
  refine⟨W,rfl,fine,fun pe G2 hpe hG2 hlen s2=> ?_⟩
  have hpn:∀r,r∈rs->pe≠r:=by
   rintro r z rfl
   obtain⟨j,hj⟩:=lJ8 z
   have hjl:j<rs.length:=(lJf.mp hj).1
   have:=(hrs j pe j hj (by rw[lVu (by omega)])).2
   rw[this] at hpe;cases hpe
  refine⟨(jK3 W).map encT,by simp only[jUf,hG2,asL],?_⟩
  let J1:Nat->St3->Gp->Prop:=fun t τ G'=>∃(v4 v5 v6 v7 v8 v9:Option T) (M:List (List T)),τ=[some (.tup (W.map encR)),some (.ref tr),some (.int m),some (.ref D),v4,v5,v6,v7,v8,v9,none,none]/\RowsT G' D M rs/\SInv W m Ts M/\uJg W m Ts M (fun t' k=>t'<t/\k<m)/\Sub G G'/\G' pe=some (.lst ((jK3 W).map encT))
  refine⟨J1,?_,?_,?_,?_⟩
  ·refine xi7 none none none none none none ((List.range (m*W.length)).map (rowN W)) rfl ⟨⟨s2 _ _ hD1,by simp[hrl],fun i r hi=> ?_⟩,kYr,fun t k e f σ k' h=>absurd h.1 (lKt _),s1.trans s2,hG2⟩
   have hil:i<m*W.length:=by rw[<-hrl];exact (lJf.mp hi).1
   exact⟨rowN W i,by simp[hil],s2 _ _ (hrs i r i hi (by simp[hil])).2⟩
  ·intro t τ G' ht h_;apply xe7 h_;clear h_;intro v4 v5 v6 v7 v8 v9 M h_;apply ae5 h_;clear h_;intro i1 i2 i3 i4 i5
   simp only[jUf,i5,asL]
  ·intro t x τ G3 hx h_;apply xe7 h_;clear h_;intro v4 v5 v6 v7 v8 v9 M h_;apply ae5 h_;clear h_;intro i1 i2 i3 i4 i5
   have ht:t<(jK3 W).length:=by have:=(lJf.mp hx).1;simpa[jY1] using this
   have hte:(jK3 W)[t]? =some (jK3 W)[t]:=lJg ht
   rw[jXt (x:=encT (jK3 W)[t]) (by simp[ht])] at hx
   cases hx
   generalize (jK3 W)[t]=x at hte
   obtain⟨e,f⟩:=x
   have htT:t<Ts.length:=by rw[ok.len];exact ht
   have hσ:Ts[t]? =some Ts[t]:=lJg htT
   generalize Ts[t]=σ at hσ
   obtain⟨T1,T2⟩:=ok.ok _ _ _ hte hσ
   have hef:en W e.1 e.2=some (f.1,f.2):=(kKl hte).1
   have hfe:=sym _ _ _ _ hef
   wp_walk using 1,jJ0,jKb,encT
   refine⟨by omega,by omega,?_⟩
   rw[show ((m:Int)).toNat=m by omega]
   let J2:Nat->St3->Gp->Prop:=fun k τ G'=>∃(v7 v8 v9:Option T) (M:List (List T)),τ=[some (.tup (W.map encR)),some (.ref tr),some (.int m),some (.ref D),some (.int t),some (encE e),some (encE f),v7,v8,v9,none,none]/\RowsT G' D M rs/\SInv W m Ts M/\uJg W m Ts M (fun t' k'=>(t'<t/\k'<m)\/(t'=t/\k'<k))/\Sub G G'/\G' pe=some (.lst ((jK3 W).map encT))
   refine⟨J2,?_,?_,?_,?_⟩
   ·refine xi4 v7 v8 v9 M rfl ⟨i1,i2,fun t' k e f σ k' h=> ?_,i4,i5⟩
    rcases h with h | h
    ·exact i3 t' k e f σ k' h
    ·exact absurd h.2 (lKt _)
   ·intros;trivial
   ·intro k x τ G4 hx h_;apply xe4 h_;clear h_;intro v7 v8 v9 M h_;apply ae5 h_;clear h_;intro i1 i2 i3 i4 i5
    obtain⟨hk,rfl⟩:=jXl hx
    obtain⟨k',hk',hkm⟩:=T1.at hk
    have hb1:Bel W Ts (e.1+k*W.length) e.2 (f.1+k'*W.length) f.2:=⟨t,e,f,σ,k,k',hte,hσ,hk',.inl ⟨rfl,rfl,rfl,rfl⟩⟩
    obtain⟨ts,m1,m2⟩:=i2.at hk hef
    obtain⟨a,a1,a2,a3⟩:=i1.get m1
    have ham:=lJl a1
    obtain⟨p1,p2,p3⟩:=i2.put m1 m2 hb1
    have q1:=i1.set (ts:=ts.set e.2 (encE (f.1+k'*W.length,f.2))) hnd a1
    obtain⟨us,m3,m4⟩:=p1.at hkm hfe
    obtain⟨c,c1,c2,c3⟩:=q1.get m3
    have hcm:=lJl c1
    obtain⟨p4,p5,p6⟩:=p1.put m3 m4 hb1.symm
    have q2:=q1.set (ts:=us.set f.2 (encE (e.1+k*W.length,e.2))) hnd c1
    have g2:L2.atI (Ts.map fun σ=>T.tup (jJt σ)) (t:Int)=some (.tup (jJt σ)):=by rw[atN];simp[hσ]
    have g3:L2.atI (jJt σ) (k:Int)=some (.int (k':Nat)):=by rw[atN];simp[jJt,hk']
    have b1:e.1+k*W.length<m*W.length:=by rw[<-i2.len];exact (lJf.mp m1).1
    have b2:f.1+k'*W.length<m*W.length:=by rw[<-p1.len];exact (lJf.mp m3).1
    have s8:(e.1:Int)+(k:Int)*(W.length:Int)=((e.1+k*W.length:Nat):Int):=by simp
    have s9:(f.1:Int)+(k':Int)*(W.length:Int)=((f.1+k'*W.length:Nat):Int):=by simp
    wp_walk using 1,encE,List.length_map,jJ1 (i4 _ _ htr),g2,g3,s8,s9
    refine⟨.inr ⟨by omega,by omega⟩,.inr ⟨by omega,by omega⟩,?_⟩
    wp_walk using 1,qXn,encE,jJ1 i1.1,a2,jUa a3 (jZ6 m2)
    refine⟨by omega,by omega,.ref c,(jJ1 q1.1).trans c2,_,jUa c3 (jZ6 m4),xi4 _ _ _ _ rfl ⟨q2,p4,?_,(i4.over (hfr a ham)).over (hfr c hcm),?_⟩⟩
    ·intro t' k0 e' f' σ' k1 h g4 g5 g6
     by_cases hh:t'=t/\k0=k
     ·obtain⟨rfl,rfl⟩:=hh
      rw[hte] at g4;cases g4
      rw[hσ] at g5;cases g5
      rw[hk'] at g6;cases g6
      exact⟨p6 _ _ p2,p5⟩
     ·obtain⟨z1,z2⟩:=i3 t' k0 e' f' σ' k1 (by omega) g4 g5 g6
      exact⟨p6 _ _ (p3 _ _ z1),p6 _ _ (p3 _ _ z2)⟩
    ·rw[jJv (hpn c hcm),jJv (hpn a ham)];exact i5
   ·intro τ G' h_;apply xe4 h_;clear h_;intro v7 v8 v9 M h_;apply ae5 h_;clear h_;intro i1 i2 i3 i4 i5
    rw[jQc] at i3
    refine xi7 _ _ _ _ _ _ M rfl ⟨i1,i2,fun t' k e f σ k' h=>i3 t' k e f σ k' ?_,i4,i5⟩
    by_cases hh:t'=t
    ·exact .inr ⟨hh,h.2⟩
    ·exact .inl ⟨by omega,h.2⟩
  ·intro τ G3 h_;apply xe7 h_;clear h_;intro v4 v5 v6 v7 v8 v9 M h_;apply ae5 h_;clear h_;intro i1 i2 i3 i4 i5
   rw[jY1,lJe] at i3
   obtain⟨sh,eM⟩:=qUb sym ok i2 i3
   wp_walk using 1,iSeq,jJn i1.1
   refine jKt (es:=rs) (fun r=>T.tup (match G3 r with | some (.lst ts)=>ts | _=>[])) (by omega) (fun G' s=>jJn (s _ _ i1.1)) ?_ ?_
   ·intro i r hr G4 K K0 s hk
    obtain⟨ts,z1,z2⟩:=i1.2.2 i r hr
    wp_walk using 1,jJn (s _ _ z2)
    have:=hk G4 (.refl _)
    rw[z2] at this
    exact this
   ·intro E G4 hE h4 s4
    refine⟨_,jJn h4,?_⟩
    have e1:rs.map (fun r=>T.tup (match G3 r with | some (.lst ts)=>ts | _=>[]))=(M.map (List.map dec)).map encR:=by
     have e2:(M.map (List.map dec)).map encR=M.map T.tup:=by
      conv=>rhs;rw[eM]
      rw[lJx,lJx,lJx];rfl
     rw[e2]
     apply lK8
     intro i
     by_cases hi:i<rs.length
     ·have hri:rs[i]? =some rs[i]:=lJg hi
      obtain⟨ts,z1,z2⟩:=i1.2.2 i _ hri
      rw[lJq,lJq,hri,z1]
      simp only[lQz,z2]
     ·rw[lKa (by rw[lJe];omega),lKa (by rw[lJe,<-i1.2.1];omega)]
    rw[e1]
    exact kk _ G4 sh (i4.trans s4)
def Cov (W:Web) (m:Nat) (V:Web):Prop:=V=W\/(Sheet W m V/\Conn V)
theorem Sheet.fine {W V:Web} {m:Nat} (h:Sheet W m V) (f:Fine W) (hm:m*W.length<=1000):Fine V where
 len:=by rw[h.len];exact hm
 row:=fun x ts hx=>by obtain⟨es,h1,h2⟩:=h.row x ts hx;rw[h2];exact f.row _ _ h1
 rng:=fun r i s j he=>kJe (h.sym _ _ _ _ he)
theorem Found.conn {V:Web} {F:List Nat} (h:Found V 0 F) (hl:F.length=V.length):Conn V:=fun S h0 hst r hr=>h.got S h0 hst r (jZ1 h.nd h.lt hl r hr)
theorem qZv {G:Gp} {e f:Nat×Nat}:eqG G (encE e) (encE f)=some (decide (e=f)):=by
 obtain⟨a,b⟩:=e;obtain⟨c,d⟩:=f
 rw[show eqG G (encE (a,b)) (encE (c,d))=some (eqT (encE (a,b)) (encE (c,d))) from rfl]
 congr 1
 simp only[encE,eqT,eqTs,Bool.and_true]
 by_cases h1:a=c
 ·by_cases h2:b=d
  ·simp[h1,h2]
  ·have:¬ (b:Int)=d:=by omega
   simp[h1,h2,this]
 ·have:¬ (a:Int)=c:=by omega
  simp[h1,this]
theorem jKw {G:Gp} {a c:Nat}:eqG G (.int a) (.int c)=some (decide (a=c)):=by
 rw[show eqG G (.int a) (.int c)=some (eqT (.int a) (.int c)) from rfl]
 congr 1
 simp only[eqT]
 by_cases h1:a=c
 ·simp[h1]
 ·have:¬ (a:Int)=c:=by omega
  simp[h1,this]
noncomputable def jQ9:Sp3:=fun xs G Q=>∃(b:Addr) (W:Web) (m n:Nat),xs=[.ref b,encW W,.int m]/\BoxAt G b n/\n+3*((jK3 W).length*m)<2^40/\Fine W/\Sym W/\1<=W.length/\1<=m/\m*W.length<=1000/\∀V G',Cov W m V->BoxAt G' b (n+3*((jK3 W).length*m))->Keep b G G'->Q (encW V) G'
def kXa:List Str:=["_law_box_here","_law_web_here","_law_many","_law_turn_here","_law_turns","_law_made","_law_pair"]
noncomputable def jVi:TS3:=
 (tSeq (tFor (jKb (jJa (tC (.int 3)) tNil)) (jJh 3) (tSeq (tAsg (jKz [false,false,false,false,false,false,true] (iSeq (jJp jVc (jJa (tVar 1) tNil))) (jJh 6) jQ2 (jJp jZi (jJa (tVar 0) (jJa (tVar 2) (jJa (tOp rEqA (tOp rIxF (tVar 6) (tC (.int 0))) (tOp rIxF (tVar 6) (tC (.int 1)))) tNil))))) (jJh 4))
 (tSeq (tAsg (jJp jU9 (jJa (tVar 1) (jJa (tVar 4) (jJa (tVar 2) tNil)))) (jJh 5))
 (tIfS (jJs (tOp rEqA (tCB rLen (jJa (jJp jVa (jJa (tVar 5) (jJa (tC (.int 0)) tNil))) tNil)) (tCB rLen (jJa (tVar 5) tNil)))) (tRet (tVar 5)) jJ8))))
 (tRet (tVar 1)))
theorem kJw:RdOk jQ9 jVi kXa:=by
 intro xs G Q h_;apply xe4 h_;clear h_;intro b W m n h_;apply ae8 h_;clear h_;intro hb hn fine sym hW1 hm1 hmn kk
 show jVi _ [some (.ref b),some (encW W),some (.int m),none,none,none,none] G
 have hs:=sz
 have hm2:m<=1000:=lKf (Nat.le_mul_of_pos_right m hW1) hmn
 wp_walk using 1,jVi,jJ0,jKb
 refine⟨by decide,by decide,?_⟩
 refine⟨fun k τ G'=>∃(v3 v4 v5:Option T),τ=[some (.ref b),some (encW W),some (.int m),v3,v4,v5,none]/\BoxAt G' b (n+k*((jK3 W).length*m))/\Keep b G G',?_,?_,?_,?_⟩
 ·exact⟨none,none,none,rfl,by simpa using hb,.refl _ _⟩
 ·intros;trivial
 ·intro k x τ G1 hx h_;apply xe3 h_;clear h_;intro v3 v4 v5 h_;apply ae2 h_;clear h_;intro hb1 kp1
  have hk:k<3:=by have:=(lJf.mp hx).1;rw[jQc] at this;exact this
  have hk3:(k+1)*((jK3 W).length*m)<=3*((jK3 W).length*m):=lXt _ (by omega)
  rw[lQp] at hk3
  obtain⟨bo,hbo⟩:=hb1.some
  wp_walk using 1,iSeq
  refine⟨W,rfl,fine,fun pe G2 hpe hG2 hlen s2=> ?_⟩
  have hpb:=jJf hbo hpe
  refine⟨_,jJn hG2,?_⟩
  intro D hD
  have hDb:=jJf (s2 _ _ hbo) hD
  have hDe:=jJf hG2 hD
  refine⟨fun i acc G'=>∃Ts:List (List Nat),acc=Ts.map (fun σ=>T.tup (jJt σ))/\Ts.length=i/\(∀(t:Nat) (x:Tie) (σ:List Nat),(jK3 W)[t]? =some x->Ts[t]? =some σ->Turn m σ/\(x.1=x.2->Invol σ))/\BoxAt G' b (n+k*((jK3 W).length*m)+i*m)/\Keep b G2 G'/\G' D=some (.lst acc),?_,?_,?_,?_⟩
  ·exact⟨[],rfl,rfl,fun t x σ _ h=>by simp at h,by simpa using (hb1.sub s2).gup hDb,.new hD,jJi⟩
  ·rintro i acc G' hi ⟨Ts,rfl,j1,j2,j3,j4,j5⟩
   exact⟨jJn (j4 _ _ hpb.symm hG2),j5⟩
  ·rintro i x acc G3 hx0 ⟨Ts,rfl,j1,j2,j3,j4,j5⟩
   obtain⟨⟨e,f⟩,hte,rfl⟩:=jKs hx0
   have hi:i<(jK3 W).length:=(lJf.mp hte).1
   have him:(i+1)*m<=(jK3 W).length*m:=lXt _ hi
   rw[lQp] at him
   wp_walk using 1,encT,rEqA,qZv
   refine⟨b,m,_,_,rfl,j3,by omega,hm1,hm2,fun σ G4 T1 T2 bx kp=> ?_⟩
   refine⟨kp _ _ hDb.symm j5,by rw[lJe];omega,Ts++[σ],by simp,by simp[j1],?_,?_,?_⟩
   ·intro t y ρ h1 h2
    by_cases htl:t<Ts.length
    ·rw[lQc htl] at h2;exact j2 t y ρ h1 h2
    ·have htl2:t<(Ts++[σ]).length:=(lJf.mp h2).1
     simp at htl2
     have:t=Ts.length:=by omega
     subst this
     rw[lV7 (lJh _)] at h2
     simp at h2;subst h2
     rw[j1,hte] at h1;cases h1
     exact⟨T1,fun z=>T2 (by simpa using z)⟩
   ·exact (bx.gup hDb).mono (by rw[lQp];omega)
   ·exact (j4.trans kp).over hD
  ·rintro acc G3 ⟨Ts,rfl,j1,j2,j3,j4,j5⟩
   rw[lJe] at j1 j3
   have hkp3:Keep b G G3:=(kp1.trans (.sub s2)).trans j4
   refine⟨W,D,m,Ts,rfl,fine,sym,hW1,hm1,hmn,⟨j1,j2⟩,j5,fun V G4 sh s4=> ?_⟩
   have hVl:1<=V.length:=by rw[sh.len];exact Nat.mul_pos hm1 hW1
   refine⟨V,0,rfl,sh.fine fine hmn,hVl,fun p G5 F hp hp5 fd _ s5=> ?_⟩
   wp_walk using 1,rEqA,jJn hp5,encW,jJt,List.length_map,jKw
   split
   ·rename_i hc
    have hc:F.length=V.length:=by simpa using hc
    exact kk V G5 (.inr ⟨sh,fd.conn hc⟩) (((j3.sub s4).sub s5).mono (by omega)) ((hkp3.trans (.sub s4)).trans (.sub s5))
   ·exact⟨((j3.sub s4).sub s5).mono (by rw[lQp];omega),(hkp3.trans (.sub s4)).trans (.sub s5)⟩
 ·intro τ G1 h_;apply xe3 h_;clear h_;intro v3 v4 v5 h_;apply ae2 h_;clear h_;intro hb1 kp1
  rw[jQc] at hb1
  wp_walk using 1,tSeq
  exact kk W G1 (.inl rfl) hb1 kp1
structure AnyWeb (W:Web):Prop where
 pos:1<=W.length
 len:W.length<=24
 sym:Sym W
 deg:∀(r:Nat) (es:List (Nat×Nat)),W[r]? =some es->es.length<=6
 conn:Conn W
theorem WebOk.any {n d:Nat} {W:Web} (h:WebOk n d W) (h1:1<=n) (h2:n<=24) (h3:d<=6):AnyWeb W:=⟨by rw[h.len];exact h1,by rw[h.len];exact h2,h.sym,fun r es hr=>lKf (h.deg r es hr) h3,h.conn⟩
theorem WebOk.fine {n d:Nat} {W:Web} (h:WebOk n d W) (h2:n<=24) (h3:d<=6):Fine W:=⟨by rw[h.len];omega,fun r es hr=>by have:=h.deg r es hr;omega,fun r i s j he=>kJe (h.sym _ _ _ _ he)⟩
theorem AnyWeb.fine {W:Web} (h:AnyWeb W):Fine W:=⟨by have:=h.len;omega,fun r es hr=>by have:=h.deg r es hr;omega,fun r i s j he=>kJe (h.sym _ _ _ _ he)⟩
theorem kYb {α β:Type} {f:α->List β} {d:Nat}:∀ {l:List α},(∀a,a∈l->(f a).length<=d)->(l.flatMap f).length<=l.length*d
 | [],_=>by simp
 | a::l,h=>by
  rw[List.flatMap_cons,lKd,lJ5,lQp]
  have h1:=h a (lJ1)
  have h2:=kYb (l:=l) fun x hx=>h x (lJ2 _ hx)
  omega
theorem qV1 {W:Web} {d:Nat} (h:∀(r:Nat) (es:List (Nat×Nat)),W[r]? =some es->es.length<=d):(jK3 W).length<=W.length*d:=by
 have:=kYb (f:=rowE W) (d:=d) (l:=List.range W.length) fun r hr=>by
  unfold rowE
  split
  ·rename_i es hes
   have h1:=List.length_filterMap_le (jYs r es) (List.range es.length)
   rw[lKn] at h1
   have h2:=h r es hes
   omega
  ·simp
 rwa [lKn] at this
theorem jYw {G G':Gp} (h:Sub G G') {p:Addr} (hp:G' p=none):G p=none:=by
 cases e:G p with
 | none=>rfl
 | some o=>rw[h _ _ e] at hp;cases hp
def nuF (nu:List Nat) (x:Nat):Nat:=(nu[x]?).getD x
theorem qKc {nu:List Nat} {x y:Nat} (h:nu[x]? =some y):nuF nu x=y:=by unfold nuF;rw[h];rfl
section
variable {κ:Type} [DecidableEq κ]
def fst1 (F:List κ) (x:κ):List κ:=if x∈F then F else F++[x]
def jJ7 (ls:List κ):List κ:=ls.foldl fst1 []
def ix1 (F:List κ) (x:κ):Nat:=F.idxOf x
def num (ls:List κ):List Nat:=ls.map fun x=>(jJ7 ls).idxOf x
theorem fst1_mem {F:List κ} {x y:κ}:y∈fst1 F x↔y∈F\/y=x:=by
 unfold fst1
 split
 ·rename_i h
  constructor
  ·exact .inl
  ·rintro (z | rfl)
   ·exact z
   ·exact h
 ·simp
theorem qZs {F:List κ} {x:κ} (h:F.Nodup):(fst1 F x).Nodup:=by
 unfold fst1
 split
 ·exact h
 ·rename_i hx
  rw[lVq]
  refine⟨h,by simp,fun a ha b hb=> ?_⟩
  have:b=x:=by simpa using hb
  subst this;rintro rfl;exact hx ha
theorem kYa:∀(ls F:List κ) {y:κ},y∈ls.foldl fst1 F↔y∈F\/y∈ls
 | [],F,y=>by simp
 | x::ls,F,y=>by
  rw[lXa,kYa ls,fst1_mem,lJv,or_assoc]
theorem qK3:∀(ls F:List κ),F.Nodup->(ls.foldl fst1 F).Nodup
 | [],F,h=>h
 | x::ls,F,h=>qK3 ls _ (qZs h)
theorem firsts_mem {ls:List κ} {y:κ}:y∈jJ7 ls↔y∈ls:=by
 unfold jJ7;rw[kYa];simp
theorem kUf (ls:List κ):(jJ7 ls).Nodup:=qK3 ls [] lVo
theorem kVw {ls:List κ} {k:Nat} {x:κ} (h:ls[k]? =some x):jJ7 (ls.take (k+1))=fst1 (jJ7 (ls.take k)) x:=by
 unfold jJ7
 rw[lK4,h,List.foldl_append];rfl
theorem qKb {ls:List κ}:(num ls).length=ls.length:=by simp[num]
theorem jU2 {ls:List κ} {k:Nat} {x:κ} (h:ls[k]? =some x):(num ls)[k]? =some ((jJ7 ls).idxOf x):=by simp[num,h]
theorem jZ9 {F:List κ} {x y:κ} (hx:x∈F) (h:F.idxOf x=F.idxOf y):x=y:=by
 have h1:=lYa hx
 have h2:F.idxOf y<F.length:=by rw[<-h];exact h1
 have e1:F[F.idxOf x]=x:=lYb h1
 have e2:F[F.idxOf y]=y:=lYb h2
 rw[<-e1,<-e2];congr 1
theorem kVj {ls:List κ} {a b:Nat} {x y:κ} (ha:ls[a]? =some x) (hb:ls[b]? =some y) (h:(num ls)[a]? =(num ls)[b]?):x=y:=by
 rw[jU2 ha,jU2 hb] at h
 exact jZ9 (firsts_mem.mpr (lJl ha)) (lJ4 h)
theorem jZ0 {μ:Type} [DecidableEq μ] {f:κ->μ} {ls:List κ} (hf:∀x y,x∈ls->y∈ls->f x=f y->x=y):num (ls.map f)=num ls:=by
 have key:∀(ms F:List κ),(∀x,x∈ms->x∈ls)->(∀x,x∈F->x∈ls)->(ms.map f).foldl fst1 (F.map f)=(ms.foldl fst1 F).map f:=by
  intro ms
  induction ms with
  | nil=>intro F _ _;rfl
  | cons m ms ih=>
   intro F h1 h2
   rw[lJr,lXa,lXa]
   have hm:=h1 m lJ1
   have e:fst1 (F.map f) (f m)=(fst1 F m).map f:=by
    unfold fst1
    by_cases h:m∈F
    ·rw[lJc h,lJc (lJj.mpr ⟨m,h,rfl⟩)]
    ·rw[lJb h,lJb,lK6];rfl
     intro z
     obtain⟨y,hy,e⟩:=lJj.mp z
     rw[hf y m (h2 y hy) hm e] at hy
     exact h hy
   rw[e]
   refine ih _ (fun x hx=>h1 x (lJ2 _ hx)) fun x hx=> ?_
   rcases fst1_mem.mp hx with z | rfl
   ·exact h2 x z
   ·exact hm
 have e:=key ls [] (fun _ h=>h) (by simp)
 have ef:jJ7 (ls.map f)=(jJ7 ls).map f:=e
 unfold num
 rw[lJx]
 apply lXi
 intro x hx
 show (jJ7 (ls.map f)).idxOf (f x)=_
 rw[ef]
 have idx:∀F:List κ,(∀y,y∈F->y∈ls)->(F.map f).idxOf (f x)=F.idxOf x:=by
  intro F
  induction F with
  | nil=>intro _;rfl
  | cons a F ih=>
   intro hF
   rw[lJr,List.idxOf_cons,List.idxOf_cons,ih fun y hy=>hF y (lJ2 _ hy)]
   by_cases h:a=x
   ·subst h;simp only[beq_self_eq_true]
   ·have:¬ f a=f x:=fun z=>h (hf a x (hF a lJ1) hx z)
    rw[beq_eq_false_iff_ne.mpr this,beq_eq_false_iff_ne.mpr h]
 exact idx _ fun y hy=>firsts_mem.mp hy
end
def tups (W:Web) (m:List Nat):List (List (Nat×Nat)):=W.map fun es=>es.map fun e=>(e.2,m.getD e.1 0)
def jJy (W:Web):Nat->List Nat
 | 0=>num (W.map List.length)
 | k+1=>num (tups W (jJy W k))
theorem jKk {W:Web}:∀k,(jJy W k).length=W.length
 | 0=>by simp[jJy,num]
 | k+1=>by simp[jJy,num,tups]
theorem kJ7 {W:Web} {k:Nat} (h:jJy W (k+1)=jJy W k):∀j,jJy W (k+j)=jJy W k
 | 0=>rfl
 | j+1=>by
  show num (tups W (jJy W (k+j)))=_
  rw[kJ7 h j]
  exact h
theorem jQi {W:Web} {m:List Nat} {r:Nat} {es:List (Nat×Nat)} (h:W[r]? =some es):(tups W m)[r]? =some (es.map fun e=>(e.2,m.getD e.1 0)):=by simp[tups,h]
theorem qZt {W:Web} (f:Fine W):∀(k a b:Nat) (es fs:List (Nat×Nat)),W[a]? =some es->W[b]? =some fs->(es.map fun e=>(e.2,(jJy W k).getD e.1 0))=(fs.map fun e=>(e.2,(jJy W k).getD e.1 0))->(jJy W k)[a]? =(jJy W k)[b]?
 | 0,a,b,es,fs,ha,hb,h=>by
  have hl:=lJ9 List.length h
  simp at hl
  have h1:(W.map List.length)[a]? =some es.length:=by simp[ha]
  have h2:(W.map List.length)[b]? =some fs.length:=by simp[hb]
  show (num _)[a]? =(num _)[b]?
  rw[jU2 h1,jU2 h2,hl]
 | k+1,a,b,es,fs,ha,hb,h=>by
  show (num _)[a]? =(num _)[b]?
  rw[jU2 (jQi ha),jU2 (jQi hb)]
  congr 2
  apply lK8
  intro i
  have hi:=lJ9 (fun l=>l[i]?) h
  simp only[lJq] at hi ⊢
  cases e1:es[i]? with
  | none=>
   rw[e1] at hi
   cases e2:fs[i]? with
   | none=>rfl
   | some q=>rw[e2] at hi;cases hi
  | some p=>
   rw[e1] at hi
   cases e2:fs[i]? with
   | none=>rw[e2] at hi;cases hi
   | some q=>
    rw[e2] at hi
    simp only[lQz,lXs,Prod.mk.injEq] at hi ⊢
    refine⟨hi.1,?_⟩
    have hp:=f.rng a i p.1 p.2 (jQt ha e1)
    have hq:=f.rng b i q.1 q.2 (jQt hb e2)
    have gd:∀(k x:Nat),x<W.length->(jJy W k)[x]? =some ((jJy W k).getD x 0):=fun k x hx=>by
     have:x<(jJy W k).length:=by rw[jKk];exact hx
     simp[List.getD,lJg this]
    have hWp:W[p.1]? =some W[p.1]:=lJg hp
    have hWq:W[q.1]? =some W[q.1]:=lJg hq
    have same:(num (tups W (jJy W k)))[p.1]? =(num (tups W (jJy W k)))[q.1]? :=by
     have g1:=gd (k+1) p.1 hp
     have g2:=gd (k+1) q.1 hq
     show (jJy W (k+1))[p.1]? =(jJy W (k+1))[q.1]?
     rw[g1,g2,hi.2]
    have:=qZt f k p.1 q.1 _ _ hWp hWq (kVj (jQi hWp) (jQi hWq) same)
    rw[gd k p.1 hp,gd k q.1 hq] at this
    exact lJ4 this
section
variable {κ K:Type} [DecidableEq κ] [DecidableEq K]
end
theorem kZi {κ:Type} [DecidableEq κ] {ls:List κ}:(jJ7 ls).length<=ls.length:=by
 have:∀(ms F:List κ),(ms.foldl fst1 F).length<=F.length+ms.length:=by
  intro ms
  induction ms with
  | nil=>intro F;simp
  | cons m ms ih=>
   intro F
   rw[lXa]
   have h1:=ih (fst1 F m)
   have h2:(fst1 F m).length<=F.length+1:=by unfold fst1;split<;>simp
   simp;omega
 have:=this ls []
 simpa[jJ7] using this
theorem okI:∀w:List Nat,jQj (jJt w)=true/\PyData.canLayAll0 (tds (jJt w))=true/\PyData.depthAll (tds (jJt w))<=1
 | []=>⟨rfl,by simp[jJt,tds,PyData.canLayAll0],by simp[jJt,tds,PyData.depthAll]⟩
 | a::w=>by
  obtain⟨a1,a2,a3⟩:=okI w
  refine⟨?_,?_,?_⟩
  ·show (tree (.int a)&&jQj (jJt w))=true;rw[a1];rfl
  ·show PyData.canLayAll0 (td (.int a)::tds (jJt w))=true;rw[PyData.canLayAll0,a2];rfl
  ·show PyData.depthAll (td (.int a)::tds (jJt w))<=1;rw[PyData.depthAll];simp[td,PyData.depth];exact a3
theorem kUh:∀a b:List Nat,eqTs (jJt a) (jJt b)=decide (a=b)
 | [],[]=>rfl
 | [],_::_=>rfl
 | _::_,[]=>rfl
 | x::a,y::b=>by
  show (eqT (.int x) (.int y)&&eqTs (jJt a) (jJt b))=_
  rw[kUh a b]
  by_cases h:x=y
  ·subst h
   by_cases h2:a=b
   ·subst h2;simp[eqT]
   ·simp[eqT,h2]
  ·have:¬ (x:Int)=y:=by omega
   simp[eqT,h,this]
theorem qK7 {G:Gp} {p q:Addr} {a b:List Nat} (h1:G p=some (.lst (jJt a))) (h2:G q=some (.lst (jJt b))):eqG G (.ref p) (.ref q)=some (decide (a=b)):=by
 have ok:∀F:List Nat,jYd (jJt F)=true:=by
  intro F
  obtain⟨a1,a2,a3⟩:=okI F
  unfold jYd
  rw[a1,a2,lJn (show (PyData.list (tds (jJt F))).depth<=50 by rw[PyData.depth];omega)];rfl
 have:eqG G (.ref p) (.ref q)=if jYd (jJt a)=true/\jYd (jJt b)=true then some (eqTs (jJt a) (jJt b)) else none:=by simp only[eqG,h1,h2]
 rw[this,lJc ⟨ok a,ok b⟩,kUh]
theorem getD_at {m:List Nat} {x:Nat} (h:x<m.length):L2.atI (jJt m) (x:Int)=some (.int (m.getD x 0:Nat)):=by
 rw[atN];simp[jJt,List.getD,lJg h]
def Cnt (m:List Nat) (k c:Nat):Prop:=(∀i v,i<k->m[i]? =some v->v<c)/\∀n,n<c->∃i,i<k/\m[i]? =some n
section
variable {κ:Type}
end
theorem kQ8 {κ:Type} [DecidableEq κ] {ls:List κ}:num (num ls)=num ls:=by
 conv=>lhs;rw[num]
 exact jZ0 (f:=fun x=>(jJ7 ls).idxOf x) fun x y hx _ h=>jZ9 (firsts_mem.mpr hx) h
theorem jUu {W:Web}:∀k,num (jJy W k)=jJy W k
 | 0=>kQ8
 | _+1=>kQ8
theorem kQd {m:List Nat} {r v:Nat} (h:m[r]? =some v):m.getD r 0=v:=by simp[List.getD,h]
theorem qZ5 {m:List Nat}:Cnt (num m) (num m).length (jJ7 m).length:=by
 refine⟨fun i v hi hv=> ?_,fun n hn=> ?_⟩
 ·have hil:i<m.length:=by rwa [qKb] at hi
  have hx:m[i]? =some m[i]:=lJg hil
  rw[jU2 hx] at hv;cases hv
  exact lYa (firsts_mem.mpr (lJl hx))
 ·have hx:(jJ7 m)[n]? =some (jJ7 m)[n]:=lJg hn
  generalize (jJ7 m)[n]=x at hx
  obtain⟨i,hi⟩:=lJ8 (firsts_mem.mp (lJl hx))
  refine⟨i,by rw[qKb];exact (lJf.mp hi).1,?_⟩
  rw[jU2 hi]
  have hm:=lJl hx
  have h1:=lYa hm
  have e1:(jJ7 m)[(jJ7 m).idxOf x]? =some x:=by rw[lJg h1,lYb]
  rw[(lXj h1 (kUf m)).mp (e1.trans hx.symm)]
section
variable {κ:Type} [DecidableEq κ]
end
theorem kJi {W:Web} {k:Nat}:Cnt (jJy W k) W.length (jJ7 (jJy W k)).length:=by
 have:=qZ5 (m:=jJy W k)
 rw[jUu,jKk] at this
 exact this
theorem kY7 {W:Web} (f:Fine W) (k:Nat):jJy W (k+1)=jJy W k\/(jJ7 (jJy W k)).length<(jJ7 (jJy W (k+1))).length:=by
 obtain⟨a1,a2⟩:=kJi (W:=W) (k:=k)
 obtain⟨b1,b2⟩:=kJi (W:=W) (k:=k+1)
 generalize (jJ7 (jJy W k)).length=c at a1 a2 ⊢
 generalize (jJ7 (jJy W (k+1))).length=c' at b1 b2 ⊢
 by_cases hc:c<c'
 ·exact .inr hc
 refine .inl ?_
 have at_:∀(k r:Nat),r<W.length->∃v,(jJy W k)[r]? =some v:=fun k r hr=>⟨(jJy W k)[r]'(by rw[jKk];exact hr),lJg _⟩
 have fin:∀(a b v:Nat),(jJy W (k+1))[a]? =some v->(jJy W (k+1))[b]? =some v->(jJy W k)[a]? =(jJy W k)[b]? :=by
  intro a b v ha hb
  have la:a<W.length:=by rw[<-jKk (k+1)];exact (lJf.mp ha).1
  have lb:b<W.length:=by rw[<-jKk (k+1)];exact (lJf.mp hb).1
  have ea:W[a]? =some W[a]:=lJg la
  have eb:W[b]? =some W[b]:=lJg lb
  exact qZt f k a b _ _ ea eb (kVj (jQi ea) (jQi eb) (ha.trans hb.symm))
 let g:Nat->Nat:=fun u=>if h:u<c then ((jJy W (k+1)).getD (Classical.choose (a2 u h)) 0) else 0
 have gat:∀u,u<c->∃i:Nat,(jJy W k)[i]? =some u/\(jJy W (k+1))[i]? =some (g u)/\g u<c':=by
  intro u hu
  obtain⟨hi,hv⟩:=Classical.choose_spec (a2 u hu)
  obtain⟨v,hv'⟩:=at_ (k+1) _ hi
  have:g u=v:=by show (if h:u<c then _ else 0)=v;rw[dif_pos hu];exact kQd hv'
  exact⟨_,hv,by rw[this];exact hv',by rw[this];exact b1 _ v hi hv'⟩
 have ginj:∀u u',u<c->u'<c->g u=g u'->u=u':=by
  intro u u' hu hu' e
  obtain⟨i,i1,i2,_⟩:=gat u hu
  obtain⟨j,j1,j2,_⟩:=gat u' hu'
  rw[<-e] at j2
  have:=fin i j _ i2 j2
  rw[i1,j1] at this;cases this;rfl
 have hnd:((List.range c).map g).Nodup:=by
  unfold List.Nodup
  rw[List.pairwise_map]
  refine List.Pairwise.imp_of_mem ?_ (lXq (n:=c))
  intro a b ha hb hab e
  exact hab (ginj a b (lJ0.mp ha) (lJ0.mp hb) e)
 have hlt:∀x,x∈(List.range c).map g->x<c':=fun x hx=>by
  obtain⟨u,hu,rfl⟩:=lJj.mp hx
  obtain⟨_,_,_,h⟩:=gat u (lJ0.mp hu)
  exact h
 have hle:=jVr hnd hlt
 rw[lJe,lKn] at hle
 have hcc:c=c':=by omega
 subst hcc
 have onto:=jZ1 hnd hlt (by rw[lJe,lKn])
 have inj:∀(a b v:Nat),(jJy W k)[a]? =some v->(jJy W k)[b]? =some v->(jJy W (k+1))[a]? =(jJy W (k+1))[b]? :=by
  intro a b v ha hb
  have la:a<W.length:=by rw[<-jKk k];exact (lJf.mp ha).1
  have lb:b<W.length:=by rw[<-jKk k];exact (lJf.mp hb).1
  obtain⟨p,hp⟩:=at_ (k+1) a la
  obtain⟨q,hq⟩:=at_ (k+1) b lb
  obtain⟨u,hu,eu⟩:=lJj.mp (onto p (b1 a p la hp))
  obtain⟨w,hw,ew⟩:=lJj.mp (onto q (b1 b q lb hq))
  obtain⟨i,i1,i2,_⟩:=gat u (lJ0.mp hu)
  obtain⟨j,j1,j2,_⟩:=gat w (lJ0.mp hw)
  have e1:=fin a i p hp (by rw[i2,eu])
  have e2:=fin b j q hq (by rw[j2,ew])
  rw[ha,i1] at e1;cases e1
  rw[hb,j1] at e2;cases e2
  rw[hp,hq,<-eu,<-ew]
 let φ:Nat->Nat:=fun v=> @dite _ (∃i:Nat,(jJy W (k+1))[i]? =some v) (Classical.propDecidable _) (fun h=>(jJy W k).getD (Classical.choose h) 0) fun _=>0
 have hmap:(jJy W (k+1)).map φ=jJy W k:=by
  apply lK8
  intro r
  rw[lJq]
  by_cases hr:r<W.length
  ·obtain⟨v,hv⟩:=at_ (k+1) r hr
   obtain⟨u,hu⟩:=at_ k r hr
   rw[hv,hu,lQz]
   have hex:∃i:Nat,(jJy W (k+1))[i]? =some v:=⟨r,hv⟩
   have:φ v=(jJy W k).getD (Classical.choose hex) 0:=dif_pos hex
   rw[this]
   have e:=fin _ r v (Classical.choose_spec hex) hv
   rw[hu] at e
   rw[kQd e]
  ·rw[lKa (by rw[jKk];omega),lKa (by rw[jKk];omega)];rfl
 rw[<-jUu (k+1),<-jUu k,<-hmap]
 symm
 refine jZ0 fun x y hx hy e=> ?_
 obtain⟨a,ha⟩:=lJ8 hx
 obtain⟨b,hb⟩:=lJ8 hy
 have la:a<W.length:=by rw[<-jKk (k+1)];exact (lJf.mp ha).1
 have lb:b<W.length:=by rw[<-jKk (k+1)];exact (lJf.mp hb).1
 have ga:(jJy W k)[a]? =some (φ x):=by rw[<-hmap,lJq,ha];rfl
 have gb:(jJy W k)[b]? =some (φ y):=by rw[<-hmap,lJq,hb];rfl
 rw[<-e] at gb
 have:=inj a b _ ga gb
 rw[ha,hb] at this;cases this;rfl
theorem qKh {W:Web} (f:Fine W):∃k,k<W.length+1/\∀n,k<=n->jJy W n=jJy W k:=by
 suffices h:∀n,(∃k,k<n/\jJy W (k+1)=jJy W k)\/n<=(jJ7 (jJy W n)).length by
  rcases h (W.length+1) with ⟨k,h1,h2⟩ | h
  ·exact⟨k,h1,fun n hn=>by have:=kJ7 h2 (n-k);rwa [show k+(n-k)=n by omega] at this⟩
  ·have:=kZi (ls:=jJy W (W.length+1))
   rw[jKk] at this;omega
 intro n
 induction n with
 | zero=>exact .inr (lJy _)
 | succ n ih=>
  rcases ih with ⟨k,h1,h2⟩ | h
  ·exact .inl ⟨k,by omega,h2⟩
  ·rcases kY7 f n with z | z
   ·exact .inl ⟨n,by omega,z⟩
   ·exact .inr (by omega)
def mk (W:Web):List Nat:=jJy W W.length
def nk (W:Web):Nat:=(jJ7 (mk W)).length
def fr (W:Web) (n:Nat):Nat:=(mk W).idxOf n
theorem qX6 {W:Web}:(mk W).length=W.length:=jKk _
theorem qY5 {W:Web} (f:Fine W) {n:Nat} (h:W.length<=n):jJy W n=mk W:=by
 obtain⟨k,h1,h2⟩:=qKh f
 unfold mk
 rw[h2 n (by omega),h2 W.length (by omega)]
theorem mk_fix {W:Web} (f:Fine W):num (tups W (mk W))=mk W:=qY5 f (Nat.le_succ _)
theorem mk_cnt {W:Web}:Cnt (mk W) W.length (nk W):=kJi
theorem qKg {W:Web} {r:Nat} (h:r<W.length):∃v,(mk W)[r]? =some v/\v<nk W:=by
 have hl:r<(mk W).length:=by rw[qX6];exact h
 exact⟨(mk W)[r],lJg hl,mk_cnt.1 r _ h (lJg hl)⟩
theorem kV5 {W:Web} (f:Fine W) {a b i s j:Nat} (ha:a<W.length) (hb:b<W.length) (h:(mk W)[a]? =(mk W)[b]?) (he:en W a i=some (s,j)):∃s',en W b i=some (s',j)/\(mk W)[s']? =(mk W)[s]? :=by
 have ea:W[a]? =some W[a]:=lJg ha
 have eb:W[b]? =some W[b]:=lJg hb
 rw[<-mk_fix f] at h
 have e:=kVj (jQi ea) (jQi eb) h
 obtain⟨es,q1,q2⟩:=jKx he
 rw[ea] at q1;cases q1
 have e2:=lJ9 (fun l=>l[i]?) e
 simp only[lJq,q2,lQz] at e2
 cases q3:(W[b])[i]? with
 | none=>rw[q3] at e2;cases e2
 | some p=>
  rw[q3] at e2
  simp only[lQz,lXs,Prod.mk.injEq] at e2
  have hp:=jQt eb q3
  refine⟨p.1,by rw[hp];exact lJ9 some (Prod.ext rfl e2.1.symm),?_⟩
  have l1:=f.rng _ _ _ _ he
  have l2:=f.rng b i p.1 p.2 hp
  obtain⟨v,hv,_⟩:=qKg l1
  obtain⟨u,hu,_⟩:=qKg l2
  rw[hv,hu]
  have:=e2.2
  rw[kQd hv,kQd hu] at this
  rw[this]
section
variable {κ μ:Type} [DecidableEq κ] [DecidableEq μ]
theorem qY4 {ls:List κ} {ms:List μ} (hl:ls.length=ms.length) (h:∀(i j:Nat) (a b:κ) (c d:μ),ls[i]? =some a->ls[j]? =some b->ms[i]? =some c->ms[j]? =some d->(a=b↔c=d)):num ls=num ms:=by
 have e1:ls=(ls.zip ms).map Prod.fst:=(List.map_fst_zip (Nat.le_of_eq hl)).symm
 have e2:ms=(ls.zip ms).map Prod.snd:=(List.map_snd_zip (Nat.le_of_eq hl.symm)).symm
 have key:∀x y,x∈ls.zip ms->y∈ls.zip ms->(x.1=y.1↔x.2=y.2):=by
  intro x y hx hy
  obtain⟨i,hi⟩:=lJ8 hx
  obtain⟨j,hj⟩:=lJ8 hy
  rw[lVp] at hi hj
  exact h i j x.1 y.1 x.2 y.2 hi.1 hj.1 hi.2 hj.2
 have n1:num ((ls.zip ms).map Prod.fst)=num (ls.zip ms):=jZ0 (f:=Prod.fst) fun x y hx hy e=>Prod.ext e ((key x y hx hy).mp e)
 have n2:num ((ls.zip ms).map Prod.snd)=num (ls.zip ms):=jZ0 (f:=Prod.snd) fun x y hx hy e=>Prod.ext ((key x y hx hy).mpr e) e
 rw[e1,n1,<-n2,<-e2]
theorem qU9 {ls:List κ} {ms:List μ} (h:num ls=num ms) {i j:Nat} {a b:κ} {c d:μ} (ha:ls[i]? =some a) (hb:ls[j]? =some b) (hc:ms[i]? =some c) (hd:ms[j]? =some d):a=b↔c=d:=by
 have e1:=lJ9 (fun l=>l[i]?) h
 have e2:=lJ9 (fun l=>l[j]?) h
 simp only[jU2 ha,jU2 hc,jU2 hb,jU2 hd,lXs] at e1 e2
 constructor
 ·intro z
  subst z
  exact jZ9 (firsts_mem.mpr (lJl hc)) (e1.symm.trans e2)
 ·intro z
  subst z
  exact jZ9 (firsts_mem.mpr (lJl ha)) (e1.trans e2.symm)
end
abbrev Row:=Nat×List (Nat×Nat)
def kJr (M:List Nat) (r:Nat) (es:List (Nat×Nat)):Row:=(M.getD r 0,es.map fun e=>(e.2,M.getD e.1 0))
def jU0 (W:Web) (M:List Nat):List Row:=(List.range W.length).map fun r=>kJr M r (row W r)
theorem qJf {W:Web} {M:List Nat} {r:Nat} {es:List (Nat×Nat)} (h:W[r]? =some es):(jU0 W M)[r]? =some (kJr M r es):=by
 have hr:r<W.length:=(lJf.mp h).1
 unfold jU0
 rw[lJq,lVu hr]
 show some (kJr M r (row W r))=_
 rw[show row W r=es by unfold row;rw[h];rfl]
theorem jYz {W:Web} {M:List Nat}:(jU0 W M).length=W.length:=by unfold jU0;rw[lJe,lKn]
theorem qUj {W:Web} (f:Fine W) {M:List Nat} {k:Nat} (hl:M.length=W.length) (hm:num M=jJy W k):num (jU0 W M)=jJy W (k+1):=by
 show _=num (tups W (jJy W k))
 have qX6:=jKk (W:=W) k
 have mm:∀i,i<W.length->M[i]? =some (M.getD i 0)/\(jJy W k)[i]? =some ((jJy W k).getD i 0):=by
  intro i hi
  exact⟨by rw[lYj,lJg (by omega)];rfl,by rw[lYj,lJg (by omega)];rfl⟩
 have hm':num M=num (jJy W k):=by rw[jUu];exact hm
 have same:∀i j,i<W.length->j<W.length->(M.getD i 0=M.getD j 0↔(jJy W k).getD i 0=(jJy W k).getD j 0):=fun i j hi hj=>qU9 hm' (mm i hi).1 (mm j hj).1 (mm i hi).2 (mm j hj).2
 refine qY4 (by rw[jYz];simp[tups]) fun i j a b c d ha hb hc hd=> ?_
 have hi:i<W.length:=by rw[<-jYz (W:=W) (M:=M)];exact (lJf.mp ha).1
 have hj:j<W.length:=by rw[<-jYz (W:=W) (M:=M)];exact (lJf.mp hb).1
 have hei:W[i]? =some W[i]:=lJg hi
 have hej:W[j]? =some W[j]:=lJg hj
 generalize W[i]=es at hei
 generalize W[j]=fs at hej
 rw[qJf hei] at ha;rw[qJf hej] at hb
 rw[jQi hei] at hc;rw[jQi hej] at hd
 cases ha;cases hb;cases hc;cases hd
 have inner:(es.map fun e=>(e.2,M.getD e.1 0))=(fs.map fun e=>(e.2,M.getD e.1 0))↔(es.map fun e=>(e.2,(jJy W k).getD e.1 0))=(fs.map fun e=>(e.2,(jJy W k).getD e.1 0)):=by
  have go:∀(g g':List Nat),(∀i j,i<W.length->j<W.length->g.getD i 0=g.getD j 0->g'.getD i 0=g'.getD j 0)->(es.map fun e=>(e.2,g.getD e.1 0))=(fs.map fun e=>(e.2,g.getD e.1 0))->(es.map fun e=>(e.2,g'.getD e.1 0))=(fs.map fun e=>(e.2,g'.getD e.1 0)):=by
   intro g g' hg h
   apply lK8
   intro x
   have hx:=lJ9 (fun l=>l[x]?) h
   simp only[lJq] at hx ⊢
   cases e1:es[x]? with
   | none=>
    rw[e1] at hx
    cases e2:fs[x]? with
    | none=>rfl
    | some q=>rw[e2] at hx;cases hx
   | some p=>
    rw[e1] at hx
    cases e2:fs[x]? with
    | none=>rw[e2] at hx;cases hx
    | some q=>
     rw[e2] at hx
     simp only[lQz,lXs,Prod.mk.injEq] at hx ⊢
     exact⟨hx.1,hg _ _ (f.rng i x p.1 p.2 (jQt hei e1)) (f.rng j x q.1 q.2 (jQt hej e2)) hx.2⟩
  exact⟨go M (jJy W k) fun a b ha hb=>(same a b ha hb).mp,go (jJy W k) M fun a b ha hb=>(same a b ha hb).mpr⟩
 constructor
 ·intro z
  exact inner.mp (Prod.mk.inj z).2
 ·intro z
  have fin:=qZt f k i j es fs hei hej z
  rw[(mm i hi).2,(mm j hj).2] at fin
  unfold kJr
  rw[(same i j hi hj).mpr (lJ4 fin),inner.mpr z]
def rowT (x:Row):List T:=[.int x.1,.tup (x.2.map fun p=> .tup [.int p.1,.int p.2])]
def rowK (x:Row):L2.TKey:=[.inl (.inl x.1),.inr (x.2.map fun p=> .inr [.inl p.1,.inl p.2])]
theorem kQw:∀ps:List (Nat×Nat),allK key1 (ps.map fun p=>T.tup [.int p.1,.int p.2])=some (ps.map fun p=> .inr [.inl p.1,.inl p.2])
 | []=>rfl
 | p::ps=>by
  rw[lJr]
  unfold allK
  rw[kQw ps]
  rfl
theorem kKr (x:Row):jK7 (rowT x)=some (rowK x):=by
 have e:key2 (T.tup (x.2.map fun p=>T.tup [.int p.1,.int p.2]))=some (.inr (x.2.map fun p=> .inr [.inl p.1,.inl p.2])):=by
  show (allK key1 _).map Sum.inr=_
  rw[kQw];rfl
 unfold jK7 rowT
 unfold allK
 rw[show allK key2 [T.tup (x.2.map fun p=>T.tup [.int p.1,.int p.2])]=some [.inr (x.2.map fun p=> .inr [.inl p.1,.inl p.2])] by unfold allK;rw[e];rfl]
 rfl
theorem qUk (x:Row):SKey true (rowT x) (rowK x):=by
 refine⟨kKr x,rfl,?_⟩
 show ((true:Bool)&&((x.2.map fun p=>(Sum.inr [Sum.inl (p.1:Int),Sum.inl (p.2:Int)]:L2.K1)).all (intS intK)&&true))=true
 rw[lK7,Bool.and_true,lKk]
 intro k hk
 obtain⟨p,_,rfl⟩:=lJj.mp hk
 rfl
theorem kXv:∀ps qs:List (Nat×Nat),(L3.lexLt (ltS ltI) (ps.map fun p=>(Sum.inr [Sum.inl (p.1:Int),Sum.inl (p.2:Int)]:L2.K1)) (qs.map fun p=>Sum.inr [Sum.inl (p.1:Int),Sum.inl (p.2:Int)])).isSome=true
 | [],[]=>rfl
 | [],_::_=>rfl
 | _::_,[]=>rfl
 | p::ps,q::qs=>by
  rw[lJr,lJr]
  unfold L3.lexLt
  split
  ·exact kXv ps qs
  ·show (L3.lexLt ltI [Sum.inl (p.1:Int),Sum.inl (p.2:Int)] [Sum.inl (q.1:Int),Sum.inl (q.2:Int)]).isSome=true
   unfold L3.lexLt
   split
   ·unfold L3.lexLt
    split
    ·rfl
    ·rfl
   ·rfl
theorem row_lt (x y:Row):(ltK (rowK x) (rowK y)).isSome=true:=by
 unfold ltK rowK L3.lexLt
 split
 ·unfold L3.lexLt
  split
  ·rfl
  ·exact kXv x.2 y.2
 ·rfl
theorem qYp {x y:Row} (h:rowK x=rowK y):x=y:=by
 obtain⟨a,ps⟩:=x
 obtain⟨b,qs⟩:=y
 unfold rowK at h
 simp only[lVw,Sum.inl.injEq,Sum.inr.injEq,and_true] at h
 have e1:a=b:=by
  have:=h.1
  exact Int.ofNat.inj this
 subst e1
 have:∀ps qs:List (Nat×Nat),(ps.map fun p=>(Sum.inr [Sum.inl (p.1:Int),Sum.inl (p.2:Int)]:L2.K1))=(qs.map fun p=>Sum.inr [Sum.inl (p.1:Int),Sum.inl (p.2:Int)])->ps=qs:=by
  intro ps
  induction ps with
  | nil=>intro qs e;cases qs with | nil=>rfl | cons _ _=>cases e
  | cons p ps ih=>
   intro qs e
   cases qs with
   | nil=>cases e
   | cons q qs=>
    rw[lJr,lJr,lVw] at e
    have e1:=e.1
    simp only[Sum.inr.injEq,lVw,Sum.inl.injEq,and_true] at e1
    rw[ih qs e.2]
    have h1:p.1=q.1:=Int.ofNat.inj e1.1
    have h2:p.2=q.2:=Int.ofNat.inj e1.2
    rw[Prod.ext h1 h2]
 rw[this ps qs h.2]
def lnB (n:Nat):Web:=(List.range n).map fun r=>if r=0 then [(1,0)] else (r-1,if r>1 then 1 else 0)::if r<n-1 then [(r+1,0)] else []
theorem jYa {n:Nat}:(lnB n).length=n:=by simp[lnB]
theorem jZ2 {n r:Nat} (h:r<n):(lnB n)[r]? =some (if r=0 then [(1,0)] else (r-1,if r>1 then 1 else 0)::if r<n-1 then [(r+1,0)] else []):=by simp[lnB,h]
theorem qZc {n:Nat} (h:2<=n):en (lnB n) 0 0=some (1,0):=jQt (jZ2 (show 0<n by omega)) (by simp)
theorem kVq {n r:Nat} (h:r<n) (h1:1<=r):en (lnB n) r 0=some (r-1,if r>1 then 1 else 0):=jQt (jZ2 h) (by rw[lJb (by omega)];rfl)
theorem qZb {n r:Nat} (h:r<n-1) (h1:1<=r):en (lnB n) r 1=some (r+1,0):=jQt (jZ2 (show r<n by omega)) (by rw[lJb (by omega),lJc h];rfl)
theorem en_lnB {n r i s j:Nat} (h:en (lnB n) r i=some (s,j)):(r=0/\i=0/\s=1/\j=0)\/(1<=r/\i=0/\s=r-1/\j=(if r>1 then 1 else 0))\/(1<=r/\r<n-1/\i=1/\s=r+1/\j=0):=by
 have hr:=kJe h
 rw[jYa] at hr
 obtain⟨es,h1,h2⟩:=jKx h
 rw[jZ2 hr] at h1
 by_cases h0:r=0
 ·rw[lJc h0] at h1;cases h1
  have hi:=(lJf.mp h2).1
  simp at hi;subst hi
  cases h2
  exact .inl ⟨h0,rfl,rfl,rfl⟩
 ·rw[lJb h0] at h1
  by_cases hl:r<n-1
  ·rw[lJc hl] at h1;cases h1
   match i,h2 with
   | 0,h2=>cases h2;exact .inr (.inl ⟨by omega,rfl,rfl,rfl⟩)
   | 1,h2=>cases h2;exact .inr (.inr ⟨by omega,hl,rfl,rfl,rfl⟩)
   | _+2,h2=>simp at h2
  ·rw[lJb hl] at h1;cases h1
   match i,h2 with
   | 0,h2=>cases h2;exact .inr (.inl ⟨by omega,rfl,rfl,rfl⟩)
   | _+1,h2=>simp at h2
theorem lnB_ok {n:Nat} (hn:2<=n):WebOk n 2 (lnB n) where
 len:=jYa
 sym:=by
  intro r i s j h
  have hr:=kJe h
  rw[jYa] at hr
  rcases en_lnB h with ⟨rfl,rfl,rfl,rfl⟩ | ⟨h1,rfl,rfl,rfl⟩ | ⟨h1,h2,rfl,rfl,rfl⟩
  ·exact kVq (by omega) (lJh _)
  ·by_cases h2:r>1
   ·rw[lJc h2,qZb (by omega) (by omega)];congr 2;omega
   ·have:r=1:=by omega
    subst this
    exact qZc hn
  ·rw[kVq (by omega) (by omega),lJc (by omega)];rfl
 deg:=fun r es h=>by
  have hr:r<n:=by have:=(lJf.mp h).1;rwa [jYa] at this
  rw[jZ2 hr] at h;cases h
  split
  ·simp
  ·rw[lJ5]
   have:(if r<n-1 then [(r+1,0)] else ([]:List (Nat×Nat))).length<=1:=by split<;>simp
   omega
 low:=fun r h1 h2=>⟨0,r-1,_,kVq h2 h1,by omega⟩
def sm (f:Nat->Nat):Nat->Nat
 | 0=>0
 | n+1=>sm f n+f n
theorem qXk {f:Nat->Nat}:∀n,((List.range n).map fun r=>((f r:Nat):Int)).sum=(sm f n:Nat)
 | 0=>rfl
 | n+1=>by rw[lQf,lK6,List.sum_append,qXk n,sm];simp
theorem sm_le {f g:Nat->Nat}:∀n,(∀r,r<n->f r<=g r)->sm f n<=sm g n
 | 0,_=>lJh _
 | n+1,h=>by
  have:=sm_le n fun r hr=>h r (by omega)
  have:=h n (by omega)
  unfold sm;omega
theorem sm_lt {f g:Nat->Nat}:∀n,(∀r,r<n->f r<=g r)->∀a,a<n->f a<g a->sm f n<sm g n
 | 0,_,a,ha,_=>absurd ha (lKt _)
 | n+1,h,a,ha,hlt=>by
  have h1:=h n (by omega)
  unfold sm
  by_cases e:a=n
  ·subst e
   have:=sm_le a fun r hr=>h r (by omega)
   omega
  ·have:=sm_lt n (fun r hr=>h r (by omega)) a (by omega) hlt
   omega
theorem qXj {f:Nat->Nat}:∀n,0<sm f n->∃r,r<n/\0<f r
 | 0,h=>absurd h (lVl _)
 | n+1,h=>by
  have h:0<sm f n+f n:=h
  by_cases e:0<f n
  ·exact⟨n,Nat.lt_succ_self _,e⟩
  ·obtain⟨r,h1,h2⟩:=qXj (f:=f) n (by omega)
   exact⟨r,by omega,h2⟩
theorem kXl {f:Nat->Nat} {d:Nat}:∀n,(∀r,r<n->f r<=d)->sm f n<=n*d
 | 0,_=>lJy _
 | n+1,h=>by
  have:=kXl n fun r hr=>h r (by omega)
  have:=h n (by omega)
  unfold sm;rw[lQp];omega
def jXi:Sp3:=fun xs G Q=>∃n:Nat,xs=[.int n]/\2<=n/\n<=1000/\∀G',Sub G G'->Q (encW (lnB n)) G'
def qXc:List Str:=["_law_many","_law_made","_law_room","_law_ends_here"]
noncomputable def jZo:TS3:=
 (tSeq (tAsg (tLst (jJa (tTup (jJa (tTup (jJa (tC (.int 1)) (jJa (tC (.int 0)) tNil))) tNil)) tNil)) (jJh 1))
 (tSeq (tFor (kQb (jJa (tC (.int 1)) (jJa (tVar 0) tNil))) (jJh 2) (tSeq (tAsg (tLst (jJa (tTup (jJa (tOp rSub (tVar 2) (tC (.int 1))) (jJa (tCB kQv (jJa (tOp rGt (tVar 2) (tC (.int 1))) tNil)) tNil))) (jJa (tTup (jJa (tOp jJr (tVar 2) (tC (.int 1))) (jJa (tC (.int 0)) tNil))) tNil))) (jJh 3))
 (jUq (tBM "list" jKv (tVar 1) (jJa (tCB jKj (jJa (tSl rSlF (tVar 3) jJ2 (jKo (tOp jJr (tC (.int 1)) (tCB kQv (jJa (tOp rLt (tVar 2) (tOp rSub (tVar 0) (tC (.int 1)))) tNil))))) tNil)) tNil)))))
 (tRet (tCB jKj (jJa (tVar 1) tNil)))))
theorem kU7:RdOk jXi jZo qXc:=by
 intro xs G Q h_;apply xe1 h_;clear h_;intro n h_;apply ae3 h_;clear h_;intro hn1 hn kk
 show jZo _ [some (.int n),none,none,none] G
 have hs:=sz
 wp_walk using 1,jZo,jJ0,kQb
 refine⟨by omega,by omega,by omega,fun p hp=>⟨by omega,by omega,by omega,by omega,?_⟩⟩
 rw[show ((n:Int)-1).toNat=n-1 by omega,show rngT 1 (n-1)=rngT ((1:Nat):Int) (n-1) from rfl,jZk]
 let J1:Nat->St3->Gp->Prop:=fun k τ G'=>∃(v2 v3:Option T),τ=[some (.int n),some (.ref p),v2,v3]/\G' p=some (.lst (((lnB n).take (k+1)).map encR))/\Sub G G'
 refine⟨J1,?_,?_,?_,?_⟩
 ·refine xi2 none none rfl ⟨?_,.new hp⟩
  rw[jJi,lK4,List.take_zero,jZ2 (show 0<n by omega)];rfl
 ·intros;trivial
 ·intro k x τ G1 hx0 h_;apply xe2 h_;clear h_;intro v2 v3 h_;apply ae2 h_;clear h_;intro i1 i2
  obtain⟨e,hx,rfl⟩:=jKs hx0
  obtain⟨hk,rfl⟩:k<n-1/\k=e:=by
   rw[lJf] at hx;obtain⟨q1,q2⟩:=hx;simp at q1 q2;exact⟨q1,q2⟩
  wp_walk using 1,tSl,rSlF,slR,jJ2,jKo,jJi
  refine⟨by omega,by omega,by omega,fun q hq=> ?_⟩
  have hpq:=jJf i1 hq
  generalize hL:[T.tup [T.int (((1+k:Nat):Int)-1),T.int (if 1<((1+k:Nat):Int) then 1 else 0)],T.tup [T.int (((1+k:Nat):Int)+1),T.int 0]]=L
  have i1':gup G1 q (GO.lst L) p=some (GO.lst (((lnB n).take (k+1)).map encR)):=by rw[jJv hpq];exact i1
  refine⟨by rw[jKu i1'];trivial,?_⟩
  have e1:(if 1<((1+k:Nat):Int) then (1:Int) else 0)=((if 1+k>1 then 1 else 0:Nat):Int):=by
   split<;>split<;>omega
  have e2:(1+if ((1+k:Nat):Int)<(n:Int)-1 then 1 else 0:Int)=((if 1+k<n-1 then 2 else 1:Nat):Int):=by
   split<;>split<;>omega
  have e3:(((1+k:Nat):Int)-1)=((1+k-1:Nat):Int):=by omega
  have e4:(((1+k:Nat):Int)+1)=((1+k+1:Nat):Int):=by omega
  have hcut:cutT L none (some (1+if ((1+k:Nat):Int)<(n:Int)-1 then 1 else 0))=((1+k-1,if 1+k>1 then 1 else 0)::if 1+k<n-1 then [(1+k+1,0)] else []).map encE:=by
   rw[<-hL,e1,e2,e3,e4]
   generalize (if 1+k>1 then 1 else 0)=j
   by_cases h1:1+k<n-1
   ·rw[lJc h1,lJc h1];rfl
   ·rw[lJb h1,lJb h1];rfl
  rw[hcut]
  intro q2 hq2
  obtain⟨hqq,hq20⟩:=jKe hq2
  have hpq2:=jJf i1' hq2
  refine⟨_,by rw[jJv hpq2];exact i1',by rw[lJe,lQy,jYa];omega,xi2 _ _ rfl ⟨?_,(((i2.trans (.new hq)).trans (.new hq2)).over hp)⟩⟩
  rw[jJi,lK4 (i:=k+1),jZ2 (show k+1<n by omega),lK6,show k+1=1+k by omega,lJb (show ¬ 1+k=0 by omega)]
  rfl
 ·intro τ G1 h_;apply xe2 h_;clear h_;intro v2 v3 h_;apply ae2 h_;clear h_;intro i1 i2
  rw[lJe,lKn,List.take_of_length_le (by rw[jYa];omega)] at i1
  wp_walk using 1,tSeq
  exact⟨_,jJn i1,kk G1 i2⟩
theorem bumpD {E:Ends3} {G2:Gp} {u:Addr} {n:Nat} {f:Nat->Nat} {es:List Nat} {stay:Gp->Prop} {w0 w1 w2 w4 w5 w6 w7 w8 w9 w10:Option T} (hu:G2 u=some (.lst (jKh n f))) (hst:∀G',(∀c,c≠u->G' c=G2 c)->stay G') (hes:∀e,e∈es->e<n) (hc:∀r,es.count r<=f r)
  (kk:∀G' v7,G' u=some (.lst (jKh n fun r=>f r-es.count r))->(∀c,c≠u->G' c=G2 c)->E.nx [w0,w1,w2,some (.ref u),w4,w5,w6,v7,w8,w9,w10] G'):
  qXg (jJh 7) (tAsg (tOp (rI0 fun i j=>T.int (i-j)) (tOp rIxF (tVar 3) (tVar 7)) (tC (.int 1))) (gSub (tVar 3) (tVar 7) jQr)) E [w0,w1,w2,some (.ref u),w4,w5,w6,w7,w8,w9,w10] (es.map fun e=>T.int (e:Nat)) stay G2:=by
 refine⟨fun j τ G'=>∃v7,τ=[w0,w1,w2,some (.ref u),w4,w5,w6,v7,w8,w9,w10]/\G' u=some (.lst (jKh n fun r=>f r-(es.take j).count r))/\(∀c,c≠u->G' c=G2 c),?_,?_,?_,?_⟩
 ·exact⟨w7,rfl,by simpa using hu,fun _ _=>rfl⟩
 ·intro j τ G' hj h_;apply xe1 h_;clear h_;intro v7 h_;apply ae2 h_;clear h_;intro h1 h2
  exact hst G' h2
 ·intro j x τ G' hx0 h_;apply xe1 h_;clear h_;intro v7 h_;apply ae2 h_;clear h_;intro h1 h2
  obtain⟨e,hx,rfl⟩:=jKs hx0
  have he:=hes e (lJl hx)
  have hix:L2.ixN (jKh n fun r=>f r-(es.take j).count r).length (e:Int)=some e:=jZ6 (by rw[jXe];exact he)
  have tk:∀r,(es.take (j+1)).count r=(es.take j).count r+if r=e then 1 else 0:=fun r=>by
   rw[lK4,hx,Option.toList_some,List.count_append]
   by_cases hr:r=e
   ·subst hr;simp
   ·have:¬ e=r:=fun z=>hr z.symm
    simp[hr,this]
  have le:(es.take (j+1)).count e<=f e:=lKf ((List.take_sublist _ _).count_le e) (hc e)
  rw[tk e,lJc rfl] at le
  wp_walk using 1,jJ1 h1,jQx he,jUa h1 hix
  refine⟨?_,fun c hc=>by rw[jJv hc];exact h2 c hc⟩
  rw[show T.int (((f e-(es.take j).count e:Nat):Int)-1)=T.int ((f e-((es.take j).count e+1):Nat):Int) by congr 1;omega,jXd]
  congr 1
  funext r
  rw[tk r]
  by_cases hr:r=e
  ·subst hr;simp
  ·simp[hr]
 ·intro τ G' h_;apply xe1 h_;clear h_;intro v7 h_;apply ae2 h_;clear h_;intro h1 h2
  rw[lJe,lK5] at h1
  exact kk G' v7 h1 h2
theorem qUo {n d:Nat}:(List.replicate n [T.int (d:Nat)]).flatten=jKh n fun _=>d:=by
 have:(List.replicate n [T.int (d:Nat)]).flatten=List.replicate n (T.int (d:Nat)):=by
  induction n with
  | zero=>rfl
  | succ n ih=>rw[lQo,lVa,ih];rfl
 rw[this]
 apply lK8
 intro i
 by_cases h:i<n
 ·simp[jKh,h]
 ·rw[lKa (by simp;omega),lKa (by simp[jKh];omega)]
theorem jYb {f:Nat->Nat} {l:List Nat}:l.filterMap (fun r=>if 0<f r then some (T.int (r:Nat)) else none)=(l.filter fun r=>decide (0<f r)).map fun r=>T.int (r:Nat):=by
 induction l with
 | nil=>rfl
 | cons a as ih=>
  rw[lQm,lVy]
  by_cases h:0<f a<;>simp[h,ih]
noncomputable def jXj:Sp3:=fun xs G Q=>∃(b:Addr) (n d m:Nat),xs=[.ref b,.int n,.int d]/\BoxAt G b m/\m+600<2^40/\1<=n/\n<=24/\2<=d/\d<=6/\∀W G',WebOk n d W->BoxAt G' b (m+600)->Keep b G G'->Q (encW W) G'
def qXd:List Str:=["_law_box_here","_law_many","_law_doors","_law_left","_law_pairs_here","_law_room","_law_free","_law_end","_law_one","_law_some","_law_other"]
noncomputable def jZp:TS3:=
 (tSeq (tAsg (tOp jQ4 (tLst (jJa (tVar 2) tNil)) (tVar 1)) (jJh 3))
 (tSeq (tAsg (tLst tNil) (jJh 4))
 (tSeq (tFor (kQb (jJa (tC (.int 1)) (jJa (tVar 1) tNil))) (jJh 5) (tSeq (tAsg (jKz [false,false,false,false,false,false,false,false,true,false,false] (jKb (jJa (tVar 5) tNil)) (jJh 8) (jJs (tOp rGt (tOp rIxF (tVar 3) (tVar 8)) (tC (.int 0)))) (tVar 8)) (jJh 6))
 (tSeq (jUq (tBM "list" jKv (tVar 4) (jJa (tTup (jJa (tOp rIxF (tVar 6) (jJp jJl (jJa (tVar 0) (jJa (tCB rLen (jJa (tVar 6) tNil)) tNil)))) (jJa (tVar 5) tNil))) tNil)))
 (tFor (iSeq (tOp rIxF (tVar 4) (tUn rNeg (tC (.int 1))))) (jJh 7) (tAsg (tOp rSub (tOp rIxF (tVar 3) (tVar 7)) (tC (.int 1))) (gSub (tVar 3) (tVar 7) jQr))))))
 (tSeq (jXf (jJs (tOp rGt (tCB qUu (jJa (tVar 3) tNil)) (tC (.int 0)))) (tSeq (tAsg (tOp rIxF (jKz [false,false,false,false,false,true,false,false,false,false,false] (jKb (jJa (tVar 1) tNil)) (jJh 5) (jJs (tOp rGt (tOp rIxF (tVar 3) (tVar 5)) (tC (.int 0)))) (tVar 5)) (tC (.int 0))) (jJh 8))
 (tSeq (tAsg (tOp rSub (tOp rIxF (tVar 3) (tVar 8)) (tC (.int 1))) (gSub (tVar 3) (tVar 8) jQr))
 (tSeq (tAsg (tOp jJr (jKz [false,false,false,false,false,true,false,false,false,false,false] (jKb (jJa (tVar 1) tNil)) (jJh 5) (jJs (tOp rGt (tOp rIxF (tVar 3) (tVar 5)) (tC (.int 0)))) (tVar 5)) (tLst (jJa (tVar 1) tNil))) (jJh 9))
 (tSeq (tAsg (tOp rIxF (tVar 9) (jJp jJl (jJa (tVar 0) (jJa (tCB rLen (jJa (tVar 9) tNil)) tNil)))) (jJh 10))
 (tSeq (jUq (tBM "list" jKv (tVar 4) (jJa (tTup (jJa (tVar 8) (jJa (tVar 10) tNil))) tNil)))
 (tIfS (jJs (tOp rLt (tVar 10) (tVar 1))) (tAsg (tOp rSub (tOp rIxF (tVar 3) (tVar 10)) (tC (.int 1))) (gSub (tVar 3) (tVar 10) jQr)) jJ8)))))))
 (tRet (jJp jK4 (jJa (tVar 0) (jJa (tVar 4) (jJa (tVar 1) tNil)))))))))
noncomputable def qXo:TS3:=(tIfS (jJs (tOp rLt (tVar 10) (tVar 1))) (tAsg (tOp rSub (tOp rIxF (tVar 3) (tVar 10)) (tC (.int 1))) (gSub (tVar 3) (tVar 10) jQr)) jJ8)
noncomputable def qXp:TS3:=tSeq (jUq (tBM "list" jKv (tVar 4) (jJa (tTup (jJa (tVar 8) (jJa (tVar 10) tNil))) tNil))) qXo
noncomputable def qXq:TS3:=tSeq (tAsg (tOp rIxF (tVar 9) (jJp jJl (jJa (tVar 0) (jJa (tCB rLen (jJa (tVar 9) tNil)) tNil)))) (jJh 10)) qXp
noncomputable def qXr:TS3:=tSeq (tAsg (tOp jJr (jKz [false,false,false,false,false,true,false,false,false,false,false] (jKb (jJa (tVar 1) tNil)) (jJh 5) (jJs (tOp rGt (tOp rIxF (tVar 3) (tVar 5)) (tC (.int 0)))) (tVar 5)) (tLst (jJa (tVar 1) tNil))) (jJh 9)) qXq
noncomputable def qXs:TS3:=tSeq (tAsg (tOp rSub (tOp rIxF (tVar 3) (tVar 8)) (tC (.int 1))) (gSub (tVar 3) (tVar 8) jQr)) qXr
theorem kYy:jZp=tSeq (tAsg (tOp jQ4 (tLst (jJa (tVar 2) tNil)) (tVar 1)) (jJh 3)) (tSeq (tAsg (tLst tNil) (jJh 4)) (tSeq (tFor (kQb (jJa (tC (.int 1)) (jJa (tVar 1) tNil))) (jJh 5) (tSeq (tAsg (jKz [false,false,false,false,false,false,false,false,true,false,false] (jKb (jJa (tVar 5) tNil)) (jJh 8) (jJs (tOp rGt (tOp rIxF (tVar 3) (tVar 8)) (tC (.int 0)))) (tVar 8)) (jJh 6))
 (tSeq (jUq (tBM "list" jKv (tVar 4) (jJa (tTup (jJa (tOp rIxF (tVar 6) (jJp jJl (jJa (tVar 0) (jJa (tCB rLen (jJa (tVar 6) tNil)) tNil)))) (jJa (tVar 5) tNil))) tNil)))
 (tFor (iSeq (tOp rIxF (tVar 4) (tUn rNeg (tC (.int 1))))) (jJh 7) (tAsg (tOp rSub (tOp rIxF (tVar 3) (tVar 7)) (tC (.int 1))) (gSub (tVar 3) (tVar 7) jQr)))))) (tSeq (jXf (jJs (tOp rGt (tCB qUu (jJa (tVar 3) tNil)) (tC (.int 0)))) (tSeq (tAsg (tOp rIxF (jKz [false,false,false,false,false,true,false,false,false,false,false] (jKb (jJa (tVar 1) tNil)) (jJh 5) (jJs (tOp rGt (tOp rIxF (tVar 3) (tVar 5)) (tC (.int 0)))) (tVar 5)) (tC (.int 0))) (jJh 8)) qXs)) (tRet (jJp jK4 (jJa (tVar 0) (jJa (tVar 4) (jJa (tVar 1) tNil)))))))):=rfl
theorem kU8:RdOk jXj jZp qXd:=by
 intro xs G Q h_;apply xe4 h_;clear h_;intro b n d m h_;apply ae7 h_;clear h_;intro hb hm hn1 hn2 hd1 hd2 kk
 show jZp _ [some (.ref b),some (.int n),some (.int d),none,none,none,none,none,none,none,none] G
 have hs:=sz
 rw[kYy]
 wp_walk using 1,jJ0,jKb,kQb
 refine⟨by omega,fun z hz=> ?_⟩
 have e1:mulR (gup G z (GO.lst [T.int (d:Nat)])) (.ref z) (.int n)=some (.newL (jKh n fun _=>d)):=by
  rw[<-qUo]
  simp only[mulR,jJi];rw[lJc];congr;refine⟨?_,?_,?_⟩<;>simp<;>omega
 wp_walk using 1,e1
 intro u hu
 obtain⟨huz,hu0⟩:=jKe hu
 refine⟨lJy _,fun pr hpr=> ?_⟩
 obtain⟨hpu,hpr1⟩:=jKe hpr
 obtain⟨hpz,hpr0⟩:=jKe hpr1
 obtain⟨bo,hbo⟩:=hb.some
 have hbu:=jJf hbo hu0
 have hbp:=jJf hbo hpr0
 have hbz:=jJf hbo hz
 refine⟨by omega,by omega,by omega,by omega,?_⟩
 rw[show ((n:Int)-1).toNat=n-1 by omega,show rngT 1 (n-1)=rngT ((1:Nat):Int) (n-1) from rfl,jZk]
 let J1:Nat->St3->Gp->Prop:=fun k τ G'=>∃(v5 v6 v7:Option T) (P:List (Nat×Nat)),τ=[some (.ref b),some (.int n),some (.int d),some (.ref u),some (.ref pr),v5,v6,v7,none,none,none]/\P.length=k/\POk P n d (k+1)/\(∀p,p∈P->p.1<k+1/\p.2<k+1)/\G' u=some (.lst (jKh n fun r=>d-dgr P n r))/\G' pr=some (.lst (P.map encE))/\BoxAt G' b (m+k)/\Keep b G G'
 refine⟨J1,?_,?_,?_,?_⟩
 ·refine xi4 none none none [] rfl ⟨rfl,⟨by intro p h;simp at h,fun r _=>by simp[dgr,hvs],fun r h1 h2=>by omega⟩,by intro p h;simp at h,by rw[jJv hpu.symm,jJi];rfl,jJi,((hb.gup hbz).gup hbu).gup hbp,(((Keep.new hz).over hu0).over hpr0)⟩
 ·intros;trivial
 ·intro k x τ G1 hx0 h_;apply xe4 h_;clear h_;intro v5 v6 v7 P h_;apply ae7 h_;clear h_;intro hPl hP hlt hgu hgp hbx hkp
  obtain⟨e,hx,rfl⟩:=jKs hx0
  obtain⟨hk,rfl⟩:k<n-1/\k=e:=by
   rw[lJf] at hx;obtain⟨q1,q2⟩:=hx;simp at q1 q2;exact⟨q1,q2⟩
  wp_walk using 1,iSeq,jKb,jJ0
  refine⟨by omega,by omega,?_⟩
  rw[show (((1+k:Nat)):Int).toNat=1+k by omega,jQz]
  refine jUy (fun r=>if 0<d-dgr P n r then some (T.int (r:Nat)) else none) (by simp;omega) (fun _ _=>trivial) ?_ ?_
  ·intro i r hr G2 K K0 s2 hK hK0
   obtain⟨hr1,rfl⟩:i<1+k/\i=r:=by
    rw[lJf] at hr;obtain⟨q1,q2⟩:=hr;simp at q1 q2;exact⟨q1,q2⟩
   wp_walk using 1,jJ1 (s2 _ _ hgu),jQx (show i<n by omega)
   by_cases hdg:0<d-dgr P n i
   ·rw[lJc (by omega)]
    exact hK _ _ (by rw[lJc hdg]) (.refl _)
   ·rw[lJb (by omega)]
    exact hK0 (by rw[lJb hdg]) _ (.refl _)
  ·intro fr G2 hfr hfr2 s2
   rw[jYb (f:=fun r=>d-dgr P n r)] at hfr2
   have hF2:∀r,r∈(List.range (1+k)).filter (fun r=>decide (0<d-dgr P n r))↔r<1+k/\dgr P n r<d:=fun r=>by
    rw[lQl,lJ0,lKz];omega
   have hFl:((List.range (1+k)).filter fun r=>decide (0<d-dgr P n r)).length<=1+k:=by have:=lVx (fun r=>decide (0<d-dgr P n r)) (List.range (1+k));rw[lKn] at this;exact this
   generalize (List.range (1+k)).filter (fun r=>decide (0<d-dgr P n r))=F at hfr2 hF2 hFl
   have hF0:1<=F.length:=by
    obtain⟨r,q1,q2⟩:=kUd (P:=P) (n:=n) (d:=d) (k:=1+k) hd1 (by omega)
    exact lX9 ((hF2 r).mpr ⟨q1,q2⟩)
   have hgp2:=s2 _ _ hgp
   wp_walk using 1,jKu hgp2,jJn hfr2,List.length_map
   refine⟨b,_,m+k,rfl,hbx.sub s2,by omega,by omega,by omega,fun c G3 c0 c1 bx kp=> ?_⟩
   have hfb:fr≠b:=by rintro rfl;obtain⟨o,ho⟩:=hbx.some;rw[ho] at hfr;cases hfr
   have hcF:c.toNat<F.length:=by omega
   have hca:L2.atI (F.map fun r=>T.int (r:Nat)) c=some (.int (F[c.toNat]:Nat)):=by rw[atZ c0];simp[hcF]
   have hmem:F[c.toNat]∈F:=lQ0 hcF
   generalize F[c.toNat]=a at hca hmem
   obtain⟨ha1,ha2⟩:=(hF2 a).mp hmem
   have hgp3:=kp _ _ hbp.symm hgp2
   have hgu3:=kp _ _ hbu.symm (s2 _ _ hgu)
   wp_walk using 1,jJ1 (kp _ _ hfb hfr2),hca,hgp3
   refine⟨by omega,by simp;omega,_,qQu,[T.int (a:Nat),T.int ((1+k:Nat):Int)],rfl,?_⟩
   have hne:u≠pr:=hpu.symm
   have hE:jKp n (a,1+k)=[a,1+k]:=by unfold jKp;rw[lJb (show ¬ (1+k)=n by omega)]
   have hz1:=kYg (n:=n) (r:=1+k) hlt (by omega)
   have hcnt:∀r,[a,1+k].count r=if r=a then 1 else if r=1+k then 1 else 0:=fun r=>by
    by_cases h1:r=a
    ·subst h1
     have:¬ 1+k=r:=by omega
     simp[this]
    ·have h1':¬ a=r:=fun z=>h1 z.symm
     by_cases h2:r=1+k
     ·subst h2;simp[h1,h1']
     ·have h2':¬ 1+k=r:=fun z=>h2 z.symm
      simp[h1,h1',h2,h2']
   refine bumpD (es:=[a,1+k]) (n:=n) (f:=fun r=>d-dgr P n r) (by rw[jJv hne];exact hgu3) (fun _ _=>rfl) (by simp;omega) (fun r=> ?_) ?_
   ·rw[hcnt r]
    split
    ·rename_i h1;subst h1;omega
    ·split
     ·rename_i h1;subst h1;omega
     ·omega
   intro G4 v7 hu4 hk4
   have hlt':∀p,p∈P++[(a,1+k)]->p.1<k+1+1/\p.2<k+1+1:=by
    intro p hp
    rw[lKc,lJz] at hp
    rcases hp with hp | rfl
    ·have:=hlt p hp;omega
    ·exact⟨by show a<_;omega,by show 1+k<_;omega⟩
   refine xi4 _ _ _ (P++[(a,1+k)]) rfl ⟨by simp[hPl],⟨?_,?_,?_⟩,hlt',?_,?_,?_,?_⟩
   ·intro p hp
    have:=hlt' p hp;omega
   ·intro r hr
    rw[jK6,hE,hcnt r]
    have h0:=hP.deg r hr
    split
    ·rename_i h1;subst h1;omega
    ·split
     ·rename_i h1;subst h1;omega
     ·omega
   ·intro r h1 h2
    by_cases h3:r<k+1
    ·obtain⟨p,q1,q2⟩:=hP.low r h1 h3
     exact⟨p,lKx _ q1,q2⟩
    ·exact⟨(a,1+k),by simp,by show 1+k=r;omega,by show a<r;omega⟩
   ·rw[hu4,show (fun r=>d-dgr P n r-List.count r [a,1+k])=fun r=>d-dgr (P++[(a,1+k)]) n r from funext fun r=>by rw[jK6,hE];omega]
   ·rw[hk4 pr hpu,jJi];simp[encE]
   ·obtain⟨x,y,w,z1,z2⟩:=bx
    exact⟨x,y,w,by rw[hk4 b hbu,jJv hbp];exact z1,z2⟩
   ·intro c o hc he
    have hcu:=jJf he hu0
    have hcp:=jJf he hpr0
    rw[hk4 c hcu,jJv hcp]
    exact kp _ _ hc (s2 _ _ (hkp _ _ hc he))
 ·intro τ G1 h_;apply xe4 h_;clear h_;intro v5 v6 v7 P h_;apply ae7 h_;clear h_;intro hPl hP hlt hgu hgp hbx hkp
  rw[lJe,lKn] at hPl hP hbx
  rw[show n-1+1=n by omega] at hP
  wp_walk using 1,jXf,jKb
  let Wh:Nat->St3->Gp->Prop:=fun μ τ G'=>∃(v5 v6 v7 v8 v9 v10:Option T) (P:List (Nat×Nat)),τ=[some (.ref b),some (.int n),some (.int d),some (.ref u),some (.ref pr),v5,v6,v7,v8,v9,v10]/\μ=sm (fun r=>d-dgr P n r) n/\P.length+μ<=n+n*d/\POk P n d n/\G' u=some (.lst (jKh n fun r=>d-dgr P n r))/\G' pr=some (.lst (P.map encE))/\BoxAt G' b (m+P.length)/\Keep b G G'
  have hnd:n*d<=24*6:=Nat.mul_le_mul hn2 hd2
  refine⟨Wh,⟨_,_,_,_,_,_,_,P,rfl,rfl,?_,hP,hgu,hgp,by rw[hPl];exact hbx,hkp⟩,?_⟩
  ·have:=kXl (f:=fun r=>d-dgr P n r) (d:=d) n (fun r _=>by omega)
   omega
  clear hgu hgp hbx hkp hPl hP hlt
  intro μ τ G2 h_;apply xe7 h_;clear h_;intro v5 v6 v7 v8 v9 v10 P h_;apply ae7 h_;clear h_;intro hμ hPl hP hgu hgp hbx hkp
  wp_walk using 1,qUu
  have hsum:jKh n (fun r=>d-dgr P n r)=((List.range n).map fun r=>((d-dgr P n r:Nat):Int)).map T.int:=by unfold jKh;rw[lJx];rfl
  refine⟨_,by rw[hgu,hsum],?_⟩
  rw[qXk,<-hμ]
  by_cases hpos:0<μ
  ·rw[lJc (by omega)]
   let Nx:St3->Gp->Prop:=fun τ' G'=>∃ μ',μ'<μ/\Wh μ' τ' G'
   refine⟨Nx,fun τ' G' h=>h,?_⟩
   refine⟨by omega,by omega,?_⟩
   rw[show ((n:Nat):Int).toNat=n by omega,jQz]
   refine jUy (fun r=>if 0<d-dgr P n r then some (T.int (r:Nat)) else none) (by simp;omega) (fun _ _=>trivial) ?_ ?_
   ·intro i r hr G3 K K0 s2 hK hK0
    obtain⟨hr1,rfl⟩:i<n/\i=r:=by
     rw[lJf] at hr;obtain⟨q1,q2⟩:=hr;simp at q1 q2;exact⟨q1,q2⟩
    wp_walk using 1,jJ1 (s2 _ _ hgu),jQx hr1
    by_cases hdg:0<d-dgr P n i
    ·rw[lJc (by omega)]
     exact hK _ _ (by rw[lJc hdg]) (.refl _)
    ·rw[lJb (by omega)]
     exact hK0 (by rw[lJb hdg]) _ (.refl _)
   intro fr G3 hfr hfr3 s3
   rw[jYb (f:=fun r=>d-dgr P n r)] at hfr3
   obtain⟨r0,hr0,hr0'⟩:=qXj n (show 0<sm (fun r=>d-dgr P n r) n by rw[<-hμ];exact hpos)
   have hF1:∀r,r∈(List.range n).filter (fun r=>decide (0<d-dgr P n r))↔r<n/\0<d-dgr P n r:=fun r=>by
    rw[lQl,lJ0,lKz]
   generalize (List.range n).filter (fun r=>decide (0<d-dgr P n r))=F1 at hfr3 hF1
   have hF0:0<F1.length:=lX9 ((hF1 r0).mpr ⟨hr0,hr0'⟩)
   obtain⟨ha,ha'⟩:=(hF1 F1[0]).mp (lQ0 hF0)
   have hca:L2.atI (F1.map fun r=>T.int (r:Nat)) 0=some (.int (F1[0]:Nat)):=by
    rw[show (0:Int)=((0:Nat):Int) from rfl,atN];simp[hF0]
   generalize F1[0]=a at ha ha' hca
   have hgu3:=s3 _ _ hgu
   have hix:L2.ixN (jKh n fun r=>d-dgr P n r).length (a:Int)=some a:=jZ6 (by rw[jXe];exact ha)
   refine⟨_,by rw[jJ1 hfr3];exact hca,?_⟩
   wp_walk using 1,qXs
   refine⟨_,by rw[jJ1 hgu3];exact jQx ha,_,rfl,_,jUa hgu3 hix,?_⟩
   wp_walk using 1,qXr,jKb
   refine⟨by omega,by omega,?_⟩
   rw[show ((n:Nat):Int).toNat=n by omega,jQz]
   rw[show T.int (((d-dgr P n a:Nat):Int)-1)=T.int ((d-dgr P n a-1:Nat):Int) by congr 1;omega,jXd]
   have hgp3:gup G3 u (GO.lst (jKh n fun x=>if x=a then d-dgr P n a-1 else d-dgr P n x)) pr=some (.lst (P.map encE)):=by rw[jJv hpu];exact s3 _ _ hgp
   have hbx3:=(hbx.sub s3).gup (o:=GO.lst (jKh n fun x=>if x=a then d-dgr P n a-1 else d-dgr P n x)) hbu
   have hkp3:Keep b G (gup G3 u (GO.lst (jKh n fun x=>if x=a then d-dgr P n a-1 else d-dgr P n x))):=(hkp.trans (.sub s3)).over hu0
   have hgu4:gup G3 u (GO.lst (jKh n fun x=>if x=a then d-dgr P n a-1 else d-dgr P n x)) u=some (.lst (jKh n fun x=>if x=a then d-dgr P n a-1 else d-dgr P n x)):=jJi
   generalize gup G3 u (GO.lst (jKh n fun x=>if x=a then d-dgr P n a-1 else d-dgr P n x))=G4 at hgp3 hbx3 hkp3 hgu4 ⊢
   refine jUy (fun r=>if 0<(if r=a then d-dgr P n a-1 else d-dgr P n r) then some (T.int (r:Nat)) else none) (by simp;omega) (fun _ _=>trivial) ?_ ?_
   ·intro i r hr G3 K K0 s2 hK hK0
    obtain⟨hr1,rfl⟩:i<n/\i=r:=by
     rw[lJf] at hr;obtain⟨q1,q2⟩:=hr;simp at q1 q2;exact⟨q1,q2⟩
    wp_walk using 1,jJ1 (s2 _ _ hgu4),jQx hr1
    by_cases hdg:0<(if i=a then d-dgr P n a-1 else d-dgr P n i)
    ·rw[lJc (by omega)]
     exact hK _ _ (by rw[lJc hdg]) (.refl _)
    ·rw[lJb (by omega)]
     exact hK0 (by rw[lJb hdg]) _ (.refl _)
   intro fr2 G5 hfr2 hfr5 s5
   rw[jYb (f:=fun r=>if r=a then d-dgr P n a-1 else d-dgr P n r)] at hfr5
   have hF2:∀r,r∈(List.range n).filter (fun r=>decide (0<(if r=a then d-dgr P n a-1 else d-dgr P n r)))↔r<n/\0<(if r=a then d-dgr P n a-1 else d-dgr P n r):=fun r=>by
    rw[lQl,lJ0,lKz]
   have hFl:=lVx (fun r=>decide (0<(if r=a then d-dgr P n a-1 else d-dgr P n r))) (List.range n)
   rw[lKn] at hFl
   generalize (List.range n).filter (fun r=>decide (0<(if r=a then d-dgr P n a-1 else d-dgr P n r)))=F2 at hfr5 hF2 hFl
   refine⟨by omega,fun pn hpn=> ?_⟩
   have hfp:=jJf hfr5 hpn
   refine⟨_,jZb (by rw[jJv hfp];exact hfr5) jJi (by simp;omega),?_⟩
   simp only[fin3]
   intro pl hpl
   obtain⟨hlp,hpl0⟩:=jKe hpl
   have hgp5:=s5 _ _ hgp3
   have hgu5:=s5 _ _ hgu4
   have hkp5:Keep b G (gup (gup G5 pn (GO.lst [T.int (n:Nat)])) pl (GO.lst ((F2.map fun r=>T.int (r:Nat))++[T.int (n:Nat)]))):=((hkp3.trans (.sub s5)).trans (.new hpn)).trans (.new hpl)
   have sub6:Sub G5 (gup (gup G5 pn (GO.lst [T.int (n:Nat)])) pl (GO.lst ((F2.map fun r=>T.int (r:Nat))++[T.int (n:Nat)]))):=(Sub.new hpn).trans (.new hpl)
   have hl6:gup (gup G5 pn (GO.lst [T.int (n:Nat)])) pl (GO.lst ((F2.map fun r=>T.int (r:Nat))++[T.int (n:Nat)])) pl=some (.lst ((F2.map fun r=>T.int (r:Nat))++[T.int (n:Nat)])):=jJi
   generalize gup (gup G5 pn (GO.lst [T.int (n:Nat)])) pl (GO.lst ((F2.map fun r=>T.int (r:Nat))++[T.int (n:Nat)]))=G6 at hkp5 sub6 hl6 ⊢
   wp_walk using 1,qXq
   refine⟨_,jJn hl6,b,_,m+P.length,rfl,(hbx3.sub s5).sub sub6,by omega,by simp;omega,by simp;omega,fun c G7 c0 c1 bx7 kp7=> ?_⟩
   obtain⟨c,rfl⟩:=lJ7 c0
   have hplb:pl≠b:=by
    rintro rfl
    obtain⟨o,ho⟩:=(hbx3.sub s5).some
    rw[ho] at hpl0;cases hpl0
   have hl7:=kp7 _ _ hplb hl6
   have hgp7:=kp7 _ _ hbp.symm (sub6 _ _ hgp5)
   have hgu7:=kp7 _ _ hbu.symm (sub6 _ _ hgu5)
   have hcl:c<=F2.length:=by simp at c1;omega
   obtain⟨y,hy,hyn,hy2⟩:∃y:Nat,L2.atI ((F2.map fun r=>T.int (r:Nat))++[T.int (n:Nat)]) (c:Int)=some (.int (y:Nat))/\y<=n/\(y<n->0<(if y=a then d-dgr P n a-1 else d-dgr P n y)):=by
    by_cases hc:c<F2.length
    ·have hm:=(hF2 F2[c]).mp (lQ0 hc)
     refine⟨F2[c],?_,by omega,fun _=>hm.2⟩
     rw[atN,lQc (by simpa using hc)];simp[hc]
    ·refine⟨n,?_,lJh _,fun z=>absurd z (lVl _)⟩
     rw[atN,lV7 (by simp;omega)]
     have:c-F2.length=0:=by omega
     simp[this]
   refine⟨_,by rw[jJ1 hl7];exact hy,?_⟩
   wp_walk using 1,qXp
   refine⟨by rw[jKu hgp7];trivial,by omega,_,hgp7,by simp;omega,?_⟩
   wp_walk using 1,qXo
   have hPok:kJn (P++[(a,y)]) n:=by
    intro p hp
    rw[lKc,lJz] at hp
    rcases hp with hp | rfl
    ·exact hP.ok p hp
    ·exact⟨ha,hyn⟩
   have hlow:∀r,1<=r->r<n->∃p,p∈P++[(a,y)]/\p.2=r/\p.1<r:=by
    intro r h1 h2
    obtain⟨p,q1,q2⟩:=hP.low r h1 h2
    exact⟨p,lKx _ q1,q2⟩
   have fin:∀(G8:Gp) (v10:Option T),(∀r,r<n->dgr (P++[(a,y)]) n r<=d)->G8 u=some (.lst (jKh n fun r=>d-dgr (P++[(a,y)]) n r))->G8 pr=some (.lst ((P++[(a,y)]).map encE))->BoxAt G8 b (m+P.length+1)->Keep b G G8->Nx [some (.ref b),some (.int n),some (.int d),some (.ref u),some (.ref pr),v5,v6,v7,some (.int (a:Nat)),some (.ref pl),v10] G8:=by
    intro G8 v10 hdg h1 h2 h3 h4
    have hlt:sm (fun r=>d-dgr (P++[(a,y)]) n r) n<μ:=by
     rw[hμ]
     refine sm_lt n (fun r _=> ?_) a ha ?_
     ·show d-dgr (P++[(a,y)]) n r<=d-dgr P n r
      rw[jK6];omega
     ·show d-dgr (P++[(a,y)]) n a<d-dgr P n a
      rw[jK6]
      have:1<=(jKp n (a,y)).count a:=by
       refine List.one_le_count_iff.mpr ?_
       unfold jKp;split<;>simp
      omega
    refine⟨_,hlt,_,_,_,_,_,_,P++[(a,y)],rfl,rfl,?_,⟨hPok,hdg,hlow⟩,h1,h2,?_,h4⟩
    ·rw[lKd,lXz];omega
    ·rw[lKd,lXz];exact h3
   have hcnt:∀r,y<n->(jKp n (a,y)).count r=(if r=a then 1 else 0)+if r=y then 1 else 0:=fun r hyl=>by
    unfold jKp
    rw[lJb (show ¬ y=n by omega)]
    by_cases h1:r=a
    ·subst h1
     by_cases h2:r=y
     ·subst h2;simp
     ·have h2':¬ y=r:=fun z=>h2 z.symm
      simp[h2,h2']
    ·have h1':¬ a=r:=fun z=>h1 z.symm
     by_cases h2:r=y
     ·subst h2;simp[h1,h1']
     ·have h2':¬ y=r:=fun z=>h2 z.symm
      simp[h1,h1',h2,h2']
   have hgp8:gup G7 pr (GO.lst ((P.map encE)++[T.tup [T.int (a:Nat),T.int (y:Nat)]])) pr=some (.lst ((P++[(a,y)]).map encE)):=by rw[jJi];simp[encE]
   have hbx8:BoxAt (gup G7 pr (GO.lst ((P.map encE)++[T.tup [T.int (a:Nat),T.int (y:Nat)]]))) b (m+P.length+1):=bx7.gup hbp
   have hgu8:gup G7 pr (GO.lst ((P.map encE)++[T.tup [T.int (a:Nat),T.int (y:Nat)]])) u=some (.lst (jKh n fun x=>if x=a then d-dgr P n a-1 else d-dgr P n x)):=by rw[jJv hpu.symm];exact hgu7
   have hkp8:Keep b G (gup G7 pr (GO.lst ((P.map encE)++[T.tup [T.int (a:Nat),T.int (y:Nat)]]))):=(hkp5.trans kp7).over hpr0
   generalize gup G7 pr (GO.lst ((P.map encE)++[T.tup [T.int (a:Nat),T.int (y:Nat)]]))=G8 at hgp8 hbx8 hgu8 hkp8 ⊢
   by_cases hyl:y<n
   ·rw[lJc (by omega)]
    have hpy:=hy2 hyl
    have hix:L2.ixN (jKh n fun x=>if x=a then d-dgr P n a-1 else d-dgr P n x).length (y:Int)=some y:=jZ6 (by rw[jXe];exact hyl)
    refine⟨_,by rw[jJ1 hgu8];exact jQx hyl,_,rfl,_,jUa hgu8 hix,?_⟩
    refine fin _ _ (fun r hr=> ?_) ?_ (by rw[jJv hpu];exact hgp8) (hbx8.gup hbu) (hkp8.over hu0)
    ·rw[jK6,hcnt r hyl]
     have h0:=hP.deg r hr
     by_cases h1:r=a
     ·subst h1
      by_cases h2:r=y
      ·subst h2;rw[lJc rfl] at hpy;rw[lJc rfl];omega
      ·rw[lJc rfl,lJb h2];omega
     ·rw[lJb h1]
      by_cases h2:r=y
      ·subst h2;rw[lJb h1] at hpy;rw[lJc rfl];omega
      ·rw[lJb h2];omega
    ·rw[jJi]
     congr 2
     rw[show T.int ((((if y=a then d-dgr P n a-1 else d-dgr P n y):Nat):Int)-1)=T.int (((if y=a then d-dgr P n a-1 else d-dgr P n y)-1:Nat):Int) by congr 1;omega,jXd]
     congr 1
     funext r
     rw[jK6,hcnt r hyl]
     by_cases h1:r=a
     ·subst h1
      by_cases h2:r=y
      ·subst h2;simp;omega
      ·simp[h2];omega
     ·by_cases h2:r=y
      ·subst h2;simp[h1];omega
      ·simp[h1,h2]
   ·rw[lJb (by omega)]
    have hyn':y=n:=by omega
    have hE:∀r,(jKp n (a,y)).count r=if r=a then 1 else 0:=fun r=>by
     unfold jKp
     rw[lJc hyn']
     by_cases h1:r=a
     ·subst h1;simp
     ·have h1':¬ a=r:=fun z=>h1 z.symm
      simp[h1,h1']
    refine fin _ _ (fun r hr=> ?_) ?_ hgp8 hbx8 hkp8
    ·rw[jK6,hE r]
     have h0:=hP.deg r hr
     by_cases h1:r=a
     ·subst h1;rw[lJc rfl];omega
     ·rw[lJb h1];omega
    ·rw[hgu8]
     congr 3
     funext r
     rw[jK6,hE r]
     by_cases h1:r=a
     ·subst h1;simp;omega
     ·simp[h1]
  ·rw[lJb (by omega)]
   refine⟨b,pr,P,n,_,rfl,hbx,by omega,hbp.symm,hgp,hP.ok,by omega,by omega,fun W G4 mw bx4 kp4=> ?_⟩
   exact kk W G4 (hP.web mw) (bx4.mono (by omega)) (hkp.trans kp4)
theorem kUb {κ:Type} [DecidableEq κ] {ks:List κ} {k:κ} (h:k∈ks):ks[ix1 ks k]? =some k/\∀m,m<ix1 ks k->ks[m]? ≠some k:=by
 unfold ix1
 have hi:=lYa h
 refine⟨by rw[lJg hi,lYb],fun m hm e=> ?_⟩
 obtain⟨hm',e'⟩:=lJf.mp e
 have:=List.not_of_lt_findIdx (p:=(· == k)) (xs:=ks) hm
 rw[e'] at this
 simp at this
noncomputable def jX1:Sp3:=fun xs G Q=>∃W:Web,xs=[encW W]/\Fine W/\W.length<=60/\∀q G' M,G q=none->G' q=some (.lst (jJt M))->M.length=W.length->num M=jJy W W.length->Sub G G'->Q (.ref q) G'
def qQy:List Str:=["_law_web_here","_law_numbers_here","_law_turn_here","_law_rows","_law_room","_law_some","_law_doors","_law_other","_law_door","_law_row"]
noncomputable def jX4:TS3:=
 (tSeq (tAsg (jKz [false,false,false,false,false,false,true,false,false,false] (iSeq (tVar 0)) (jJh 6) jQ2 (tCB rLen (jJa (tVar 6) tNil))) (jJh 1))
 (tSeq (tFor (jKb (jJa (tCB rLen (jJa (tVar 0) tNil)) tNil)) (jJh 2) (tSeq (tAsg (tLst tNil) (jJh 3))
 (tSeq (tFor (jKb (jJa (tCB rLen (jJa (tVar 0) tNil)) tNil)) (jJh 4) (jUq (tBM "list" jKv (tVar 3) (jJa (tTup (jJa (tOp rIxF (tVar 1) (tVar 4)) (jJa (tCB jKj (jJa (jKz [false,false,false,false,false,false,false,true,true,false] (iSeq (tOp rIxF (tVar 0) (tVar 4))) (gTup 2 (jKd (jJh 7) (jKd (jJh 8) gNil))) jQ2 (tTup (jJa (tVar 8) (jJa (tOp rIxF (tVar 1) (tVar 7)) tNil)))) tNil)) tNil))) tNil))))
 (tSeq (tAsg (qYi (jJa (tVar 3) tNil)) (jJh 5))
 (tAsg (jKz [false,false,false,false,false,false,false,false,false,true] (iSeq (tVar 3)) (jJh 9) jQ2 (tBM "list" kVc (tVar 5) (jJa (tVar 9) tNil))) (jJh 1))))))
 (tRet (tVar 1))))
theorem kQr:RdOk jX1 jX4 qQy:=by
 intro xs G Q h_;apply xe1 h_;clear h_;intro W h_;apply ae3 h_;clear h_;intro fine hl kk
 show jX4 _ [some (.tup (W.map encR)),none,none,none,none,none,none,none,none,none] G
 have hs:=sz
 wp_walk using 1,jX4,jJ0,jKb,iSeq
 refine jKt (es:=W) (enc:=encR) (fun es=>T.int (es.length:Nat)) (by omega) (fun _ _=>trivial) ?_ ?_
 ·intro i es he G' K K0 s hk
  wp_walk using 1,encR,List.length_map
  exact hk G' (.refl _)
 intro p0 G1 hp0 h1 s1
 rw[lJe]
 refine⟨by omega,by omega,?_⟩
 rw[show ((W.length:Nat):Int).toNat=W.length by omega]
 let J1:Nat->St3->Gp->Prop:=fun k τ G'=>∃(q:Addr) (M:List Nat) (v2 v3 v4 v5:Option T),τ=[some (.tup (W.map encR)),some (.ref q),v2,v3,v4,v5,none,none,none,none]/\G q=none/\G' q=some (.lst (jJt M))/\M.length=W.length/\num M=jJy W k/\Sub G G'
 refine⟨J1,?_,?_,?_,?_⟩
 ·exact⟨p0,W.map List.length,none,none,none,none,rfl,hp0,by rw[h1];simp[jJt,lJx],by simp,rfl,s1⟩
 ·intros;trivial
 ·intro k y τ G3 hy h_;apply xe6 h_;clear h_;intro q M v2 v3 v4 v5 h_;apply ae5 h_;clear h_;intro i1 i2 i3 i4 i5
  obtain⟨hk,rfl⟩:=jVq hy
  wp_walk using 1,jJ0,jKb,List.length_map
  refine⟨by omega,fun p3 hp3=>⟨by omega,by omega,?_⟩⟩
  rw[show ((W.length:Nat):Int).toNat=W.length by omega]
  have hq3:=jJf i2 hp3
  let J2:Nat->St3->Gp->Prop:=fun j τ G'=>∃(v4:Option T),τ=[some (.tup (W.map encR)),some (.ref q),some (.int (k:Nat)),some (.ref p3),v4,v5,none,none,none,none]/\G' p3=some (.lst ((List.range j).map fun r=>T.tup (rowT (kJr M r (row W r)))))/\G' q=some (.lst (jJt M))/\Sub G3 G'
  refine⟨J2,?_,?_,?_,?_⟩
  ·exact xi1 _ rfl ⟨jJi,by rw[jJv hq3];exact i2,.new hp3⟩
  ·intros;trivial
  ·intro r y τ G4 hy h_;apply xe1 h_;clear h_;intro v4 h_;apply ae3 h_;clear h_;intro j1 j2 j3
   obtain⟨hr',rfl⟩:=jVq hy
   have hes:W[r]? =some (row W r):=by unfold row;rw[lJg hr'];rfl
   have hsucc:((List.range (r+1)).map fun r=>T.tup (rowT (kJr M r (row W r))))=((List.range r).map fun r=>T.tup (rowT (kJr M r (row W r))))++[T.tup (rowT (kJr M r (row W r)))]:=by rw[lQf,lK6];rfl
   wp_walk using 1,iSeq,jKu j1,jJ1 j2,getD_at (show r<M.length by omega)
   generalize row W r=es at hes hsucc
   refine⟨encR es,by rw[atN,lJq,hes];rfl,es.map encE,rfl,?_⟩
   have hel:=fine.row r es hes
   refine jKt (es:=es) (enc:=encE) (fun e=>T.tup [.int (e.2:Nat),.int (M.getD e.1 0:Nat)]) (by omega) (fun _ _=>rfl) ?_ ?_
   ·intro i e hi G'' K' K0' s' hK'
    have hlt:=fine.rng r i e.1 e.2 (jQt hes hi)
    wp_walk using 1,encE,jJ1 (s' _ _ j2),getD_at (show e.1<M.length by omega)
    exact⟨by omega,hK' G'' (.refl _)⟩
   ·intro D G'' hD q1 q2
    refine⟨_,jJn q1,by omega,_,q2 _ _ j1,by rw[lJe,lKn];omega,xi1 _ rfl ⟨?_,by rw[jJv hq3];exact q2 _ _ j2,(j3.trans q2).over hp3⟩⟩
    rw[jJi,hsucc,kJr,rowT,lJx]
    rfl
  ·intro τ G4 h_;apply xe1 h_;clear h_;intro v4 h_;apply ae3 h_;clear h_;intro h4' j2 j3
   rw[jQc] at h4'
   have h4:=h4'
   have s4:=j3
   have hrows:((List.range W.length).map fun r=>T.tup (rowT (kJr M r (row W r))))=(jU0 W M).map fun x=>T.tup (rowT x):=by
    unfold jU0;rw[lJx];rfl
   rw[hrows] at h4
   have hrl:=jYz (W:=W) (M:=M)
   wp_walk using 1,qYi,iSeq
   refine⟨true,(jU0 W M).map fun x=>(rowT x,rowK x),?_,⟨(jU0 W M).map rowK,by rw[lJe];omega,fun e he=>by obtain⟨x,hx,rfl⟩:=lJj.mp he;exact lJj.mpr ⟨x,hx,rfl⟩⟩,?_,?_,fun p4 ys kys hp4 ris=> ?_⟩
   ·simp only[jUf,h4,asL,lJx];rfl
   ·intro e he
    obtain⟨x,_,rfl⟩:=lJj.mp he
    exact qUk x
   ·intro e he e' he'
    obtain⟨x,_,rfl⟩:=lJj.mp he
    obtain⟨x',_,rfl⟩:=lJj.mp he'
    exact row_lt x x'
   have hkeys:∀x,x∈jU0 W M->rowK x∈kys.map (·.2):=by
    intro x hx
    have:=(ris.mem (.tup (rowT x))).mpr (lJj.mpr ⟨(rowT x,rowK x),lJj.mpr ⟨x,hx,rfl⟩,rfl⟩)
    rw[ris.eq] at this
    obtain⟨e,he,ee⟩:=lJj.mp this
    have e1:e.1=rowT x:=T.tup.inj ee
    have e2:=ris.keys e he
    rw[e1,kKr] at e2
    exact lJj.mpr ⟨e,he,(lJ4 e2).symm⟩
   have h43:=jJf h4 hp4
   refine⟨_,jJn (by rw[jJv h43];exact h4),?_⟩
   refine jKt (es:=jU0 W M) (enc:=fun x=>T.tup (rowT x)) (fun x=>T.int (ix1 (kys.map (·.2)) (rowK x):Nat)) (by omega) (fun G' s=>jJn (s _ _ (by rw[jJv h43];exact h4))) ?_ ?_
   ·intro i x hx G' K K0 s hK
    have hm:=hkeys x (lJl hx)
    wp_walk using 1,kVc
    obtain⟨f1,f2⟩:=kUb hm
    have hG4:G' p4=some (.lst (kys.map fun e=> .tup e.1)):=by rw[<-ris.eq];exact s _ _ jJi
    refine⟨by rw[jKu hG4];trivial,kys,hG4,ris.keys,rowK x,kKr x,_,f1,f2,hK G' (.refl _)⟩
   ·intro D G5 hD q1 q2
    have hDG:G D=none:=jYw (i5.trans s4) (by
     by_cases e:D=p4
     ·subst e;rw[jJi] at hD;cases hD
     ·rw[jJv e] at hD;exact hD)
    refine⟨D,(jU0 W M).map fun x=>ix1 (kys.map (·.2)) (rowK x),_,_,_,_,rfl,hDG,by rw[q1];simp[jJt,lJx],by rw[lJe,hrl],?_,((i5.trans s4).trans (.new hp4)).trans q2⟩
    rw[<-qUj fine i3 i4]
    exact jZ0 fun x y hx hy e=>qYp (jZ9 (hkeys x hx) e)
 ·intro τ G3 h_;apply xe6 h_;clear h_;intro q M v2 v3 v4 v5 h_;apply ae5 h_;clear h_;intro i1 i2 i3 i4 i5
  rw[jQc] at i4
  wp_walk using 1,tSeq
  exact kk q G3 M i1 i2 i3 i4 i5
def jQ8:Sp3:=fun xs G Q=>∃W:Web,xs=[encW W]/\Fine W/\W.length<=60/\∀q G',G q=none->G' q=some (.lst (jJt (mk W)))->Sub G G'->Q (.ref q) G'
def kV8:List Str:=["_law_web_here","_law_some","_law_order","_law_kind"]
noncomputable def jVg:TS3:=
 (tSeq (tAsg (jJp jX1 (jJa (tVar 0) tNil)) (jJh 1))
 (tSeq (tAsg (tLst tNil) (jJh 2))
 (tSeq (tFor (iSeq (tVar 1)) (jJh 3) (tIfS (jJs (tOp jUc (tVar 3) (tVar 2))) (jUq (tBM "list" jKv (tVar 2) (jJa (tVar 3) tNil))) jJ8))
 (tRet (jKz [false,false,false,true] (iSeq (tVar 1)) (jJh 3) jQ2 (tBM "list" qJn (tVar 2) (jJa (tVar 3) tNil)))))))
theorem kJu:RdOk jQ8 jVg kV8:=by
 intro xs G Q h_;apply xe1 h_;clear h_;intro W h_;apply ae3 h_;clear h_;intro fine hl kk
 show jVg _ [some (.tup (W.map encR)),none,none,none] G
 have hs:=sz
 wp_walk using 1,jVg,jJ0,iSeq
 refine⟨W,rfl,fine,hl,fun q0 G1 M hq0 h1 hM hnum s1=> ?_⟩
 refine⟨by omega,fun p hp=> ?_⟩
 have hqp:=jJf h1 hp
 refine⟨_,jJn (by rw[jJv hqp];exact h1),?_⟩
 have hfl:∀k,(jJ7 (M.take k)).length<=60:=by
  intro k
  have h1:(jJ7 (M.take k)).length<=(M.take k).length:=(kUf _).length_le_of_subset fun x hx=>firsts_mem.mp hx
  rw[lQy] at h1
  omega
 let J1:Nat->St3->Gp->Prop:=fun k τ G'=>∃(v3:Option T),τ=[some (.tup (W.map encR)),some (.ref q0),some (.ref p),v3]/\G' p=some (.lst (jJt (jJ7 (M.take k))))/\Sub G1 G'
 refine⟨J1,?_,?_,?_,?_⟩
 ·exact⟨none,rfl,jJi,.new hp⟩
 ·intro k τ G' hk h_;apply xe1 h_;clear h_;intro v3 h_;apply ae2 h_;clear h_;intro i1 i2
  exact jJn (i2 _ _ h1)
 ·intro k x τ G2 hx0 h_;apply xe1 h_;clear h_;intro v3 h_;apply ae2 h_;clear h_;intro i1 i2
  obtain⟨m,hm,rfl⟩:=jKs hx0
  have hstep:jJ7 (M.take (k+1))=fst1 (jJ7 (M.take k)) m:=kVw hm
  have:=hfl k
  wp_walk using 1,jUc,kX7 i1,jKu i1,i1
  by_cases hin:m∈jJ7 (M.take k)
  ·rw[lJb (by simp[hin])]
   refine xi1 _ rfl ⟨?_,i2⟩
   rw[hstep];unfold fst1;rw[lJc hin];exact i1
  ·rw[lJc (by simp[hin])]
   refine⟨by rw[jJt,lJe];omega,xi1 _ rfl ⟨?_,i2.over hp⟩⟩
   rw[hstep,jJi];unfold fst1;rw[lJb hin]
   simp[jJt]
 ·intro τ G2 h_;apply xe1 h_;clear h_;intro v3 h_;apply ae2 h_;clear h_;intro i1 i2
  rw[show (jJt M).length=M.length by simp[jJt],lK5] at i1
  wp_walk using 1,iSeq
  refine⟨_,jJn (i2 _ _ h1),?_⟩
  refine jKt (es:=M) (enc:=fun (m:Nat)=>T.int m) (fun m=>T.int (ix1 (jJ7 M) m:Nat)) (by omega) (fun G' s=>jJn (s _ _ (i2 _ _ h1))) ?_ ?_
  ·intro i m hm G' K K0 s hK
   have hmem:m∈jJ7 M:=firsts_mem.mpr (lJl hm)
   wp_walk using 1,qJn
   have hG':=s _ _ i1
   obtain⟨f1,f2⟩:=kUb hmem
   refine⟨by rw[jKu hG'];trivial,_,hG',rfl,kJc,.int (m:Nat),ix1 (jJ7 M) m,by simp[jJt,f1],by simp[eqT],fun j t hj ht=> ?_,hK G' (.refl _)⟩
   obtain⟨y,hy,rfl⟩:=jKs ht
   have ne:y≠m:=fun z=>f2 j hj (by rw[hy,z])
   have ne':¬ (y:Int)=m:=by omega
   simp[eqT,ne']
  ·intro D G3 hD q1 q2
   have hDG:G D=none:=jYw (s1.trans i2) hD
   refine kk D G3 hDG ?_ ((s1.trans i2).trans q2)
   rw[q1,show mk W=num M from hnum.symm]
   unfold num ix1
   simp[jJt,lJx]
def jVp:Sp3:=fun xs G Q=>∃(b:Addr) (n:Nat),xs=[.ref b]/\BoxAt G b n/\n+3000<2^40/\∀W G',AnyWeb W->BoxAt G' b (n+2000)->Keep b G G'->Q (encW W) G'
def qQz:List Str:=["_law_box_here","_law_way","_law_base"]
noncomputable def jX5:TS3:=
 (tSeq (tAsg (jJp jJl (jJa (tVar 0) (jJa (tC (.int 7)) tNil))) (jJh 1))
 (tSeq (tIfS (jJs (tOp rEqA (tVar 1) (tC (.int 6)))) (tRet (jJp jXi (jJa (tOp jJr (tC (.int 2)) (jJp jJl (jJa (tVar 0) (jJa (tC (.int 7)) tNil)))) tNil))) jJ8)
 (tSeq (tIfS (jJs (tOp rEqA (tVar 1) (tC (.int 0)))) (tRet (jJp jVn (jJa (tVar 0) (jJa (tOp jJr (tC (.int 1)) (jJp jJl (jJa (tVar 0) (jJa (tC (.int 8)) tNil)))) (jJa (tOp jJr (tC (.int 2)) (jJp jJl (jJa (tVar 0) (jJa (tC (.int 5)) tNil)))) tNil))))) jJ8)
 (tSeq (tIfS (jJs (tOp rEqA (tVar 1) (tC (.int 1)))) (tRet (jJp jXh (jJa (tOp jJr (tC (.int 1)) (jJp jJl (jJa (tVar 0) (jJa (tC (.int 8)) tNil)))) tNil))) jJ8)
 (tSeq (tIfS (jJs (tOp rEqA (tVar 1) (tC (.int 2)))) (tRet (jJp jXj (jJa (tVar 0) (jJa (tOp jJr (tC (.int 2)) (jJp jJl (jJa (tVar 0) (jJa (tC (.int 7)) tNil)))) (jJa (tOp jJr (tC (.int 2)) (jJp jJl (jJa (tVar 0) (jJa (tC (.int 2)) tNil)))) tNil))))) jJ8)
 (tSeq (tAsg (jJp jVn (jJa (tVar 0) (jJa (tOp jJr (tC (.int 1)) (jJp jJl (jJa (tVar 0) (jJa (tC (.int 4)) tNil)))) (jJa (tOp jJr (tC (.int 2)) (jJp jJl (jJa (tVar 0) (jJa (tC (.int 3)) tNil)))) tNil)))) (jJh 2))
 (tRet (jJp jQ9 (jJa (tVar 0) (jJa (tVar 2) (jJa (tOp rSub (tOp rIxF (tLst (jJa (tC (.int 8)) (jJa (tC (.int 4)) (jJa (tC (.int 2)) (jJa (tC (.int 2)) tNil))))) (tOp rSub (tCB rLen (jJa (tVar 2) tNil)) (tC (.int 1)))) (jJp jJl (jJa (tVar 0) (jJa (tOp rIxF (tLst (jJa (tC (.int 5)) (jJa (tC (.int 2)) (jJa (tC (.int 1)) (jJa (tC (.int 1)) tNil))))) (tOp rSub (tCB rLen (jJa (tVar 2) tNil)) (tC (.int 1)))) tNil)))) tNil)))))))))))
noncomputable def rd_e5:TS3:=(tSeq (tAsg (jJp jVn (jJa (tVar 0) (jJa (tOp jJr (tC (.int 1)) (jJp jJl (jJa (tVar 0) (jJa (tC (.int 4)) tNil)))) (jJa (tOp jJr (tC (.int 2)) (jJp jJl (jJa (tVar 0) (jJa (tC (.int 3)) tNil)))) tNil)))) (jJh 2))
 (tRet (jJp jQ9 (jJa (tVar 0) (jJa (tVar 2) (jJa (tOp rSub (tOp rIxF (tLst (jJa (tC (.int 8)) (jJa (tC (.int 4)) (jJa (tC (.int 2)) (jJa (tC (.int 2)) tNil))))) (tOp rSub (tCB rLen (jJa (tVar 2) tNil)) (tC (.int 1)))) (jJp jJl (jJa (tVar 0) (jJa (tOp rIxF (tLst (jJa (tC (.int 5)) (jJa (tC (.int 2)) (jJa (tC (.int 1)) (jJa (tC (.int 1)) tNil))))) (tOp rSub (tCB rLen (jJa (tVar 2) tNil)) (tC (.int 1)))) tNil)))) tNil))))))
noncomputable def rd_e4:TS3:=tSeq (tIfS (jJs (tOp rEqA (tVar 1) (tC (.int 2)))) (tRet (jJp jXj (jJa (tVar 0) (jJa (tOp jJr (tC (.int 2)) (jJp jJl (jJa (tVar 0) (jJa (tC (.int 7)) tNil)))) (jJa (tOp jJr (tC (.int 2)) (jJp jJl (jJa (tVar 0) (jJa (tC (.int 2)) tNil)))) tNil))))) jJ8) rd_e5
noncomputable def rd_e3:TS3:=tSeq (tIfS (jJs (tOp rEqA (tVar 1) (tC (.int 1)))) (tRet (jJp jXh (jJa (tOp jJr (tC (.int 1)) (jJp jJl (jJa (tVar 0) (jJa (tC (.int 8)) tNil)))) tNil))) jJ8) rd_e4
noncomputable def rd_e2:TS3:=tSeq (tIfS (jJs (tOp rEqA (tVar 1) (tC (.int 0)))) (tRet (jJp jVn (jJa (tVar 0) (jJa (tOp jJr (tC (.int 1)) (jJp jJl (jJa (tVar 0) (jJa (tC (.int 8)) tNil)))) (jJa (tOp jJr (tC (.int 2)) (jJp jJl (jJa (tVar 0) (jJa (tC (.int 5)) tNil)))) tNil))))) jJ8) rd_e3
theorem kVb:jX5=tSeq (tAsg (jJp jJl (jJa (tVar 0) (jJa (tC (.int 7)) tNil))) (jJh 1)) (tSeq (tIfS (jJs (tOp rEqA (tVar 1) (tC (.int 6)))) (tRet (jJp jXi (jJa (tOp jJr (tC (.int 2)) (jJp jJl (jJa (tVar 0) (jJa (tC (.int 7)) tNil)))) tNil))) jJ8) rd_e2):=rfl
theorem kQs:RdOk jVp jX5 qQz:=by
 intro xs G Q h_;apply xe2 h_;clear h_;intro b n h_;apply ae3 h_;clear h_;intro hb hn kk
 show jX5 _ [some (.ref b),none,none] G
 have hs:=sz
 rw[kVb]
 wp_walk using 1,rEqA
 refine⟨b,_,n,rfl,hb,by omega,by omega,by omega,fun w G1 w0 w1 b1 k1=> ?_⟩
 obtain⟨w,rfl⟩:=lJ7 w0
 have e0:eqG G1 (T.int (w:Nat)) (T.int 0)=some (decide (w=0)):=jKw (c:=0)
 have e1:eqG G1 (T.int (w:Nat)) (T.int 1)=some (decide (w=1)):=jKw (c:=1)
 have e2:eqG G1 (T.int (w:Nat)) (T.int 2)=some (decide (w=2)):=jKw (c:=2)
 have e6:eqG G1 (T.int (w:Nat)) (T.int 6)=some (decide (w=6)):=jKw (c:=6)
 wp_walk using 1,e6
 split
 ·refine⟨b,_,_,rfl,b1,by omega,by omega,by omega,fun r G2 r0 r1 b2 k2=> ?_⟩
  wp_walk using 1,tSeq
  obtain⟨r,rfl⟩:=lJ7 r0
  refine⟨2+r,by simp,by omega,by omega,fun G3 s3=> ?_⟩
  exact kk _ G3 ((lnB_ok (n:=2+r) (by omega)).any (by omega) (by omega) (by omega)) ((b2.sub s3).mono (by omega)) ((k1.trans k2).trans (.sub s3))
 wp_walk using 1,rd_e2,rEqA,e0
 split
 ·refine⟨b,_,_,rfl,b1,by omega,by omega,by omega,fun r G2 r0 r1 b2 k2=> ?_⟩
  wp_walk using 1,tSeq
  refine⟨b,_,_,rfl,b2,by omega,by omega,by omega,fun q G3 q0 q1 b3 k3=> ?_⟩
  wp_walk using 1,tSeq
  obtain⟨r,rfl⟩:=lJ7 r0
  obtain⟨q,rfl⟩:=lJ7 q0
  refine⟨b,1+r,2+q,_,by simp,b3,by omega,by omega,by omega,by omega,by omega,fun W G4 ok b4 k4=> ?_⟩
  exact kk W G4 (ok.any (by omega) (by omega) (by omega)) (b4.mono (by omega)) (((k1.trans k2).trans k3).trans k4)
 wp_walk using 1,rd_e3,rEqA,e1
 split
 ·refine⟨b,_,_,rfl,b1,by omega,by omega,by omega,fun r G2 r0 r1 b2 k2=> ?_⟩
  wp_walk using 1,tSeq
  obtain⟨r,rfl⟩:=lJ7 r0
  refine⟨1+r,by simp,by omega,by omega,fun G3 s3=> ?_⟩
  exact kk _ G3 ((qYt (n:=1+r) (by omega)).any (by omega) (by omega) (by omega)) ((b2.sub s3).mono (by omega)) ((k1.trans k2).trans (.sub s3))
 wp_walk using 1,rd_e4,rEqA,e2
 split
 ·refine⟨b,_,_,rfl,b1,by omega,by omega,by omega,fun r G2 r0 r1 b2 k2=> ?_⟩
  wp_walk using 1,tSeq
  refine⟨b,_,_,rfl,b2,by omega,by omega,by omega,fun q G3 q0 q1 b3 k3=> ?_⟩
  wp_walk using 1,tSeq
  obtain⟨r,rfl⟩:=lJ7 r0
  obtain⟨q,rfl⟩:=lJ7 q0
  refine⟨b,2+r,2+q,_,by simp,b3,by omega,by omega,by omega,by omega,by omega,fun W G4 ok b4 k4=> ?_⟩
  exact kk W G4 (ok.any (by omega) (by omega) (by omega)) (b4.mono (by omega)) (((k1.trans k2).trans k3).trans k4)
 wp_walk using 1,rd_e5
 refine⟨b,_,_,rfl,b1,by omega,by omega,by omega,fun r G2 r0 r1 b2 k2=> ?_⟩
 wp_walk using 1,tSeq
 refine⟨b,_,_,rfl,b2,by omega,by omega,by omega,fun q G3 q0 q1 b3 k3=> ?_⟩
 wp_walk using 1,tSeq
 obtain⟨r,rfl⟩:=lJ7 r0
 obtain⟨q,rfl⟩:=lJ7 q0
 refine⟨b,1+r,2+q,_,by simp,b3,by omega,by omega,by omega,by omega,by omega,fun W G4 ok b4 k4=> ?_⟩
 wp_walk using 1,encW,List.length_map
 have hWl:=ok.len
 have hfine:=ok.fine (by omega) (by omega)
 have hends:=qV1 ok.deg
 obtain⟨c,d,hc,hd,hd1,hd2,hdc,hcm⟩:∃c d:Nat,L2.atI [T.int 8,T.int 4,T.int 2,T.int 2] ((W.length:Int)-1)=some (.int (c:Nat))/\L2.atI [T.int 5,T.int 2,T.int 1,T.int 1] ((W.length:Int)-1)=some (.int (d:Nat))/\1<=d/\d<=5/\d+1<=c/\c<=8/\c*W.length<=24:=by
  have:W.length=1\/W.length=2\/W.length=3\/W.length=4:=by omega
  rcases this with h | h | h | h<;>rw[h]
  ·exact⟨8,5,rfl,rfl,by decide,by decide,by decide,by decide,by decide⟩
  ·exact⟨4,2,rfl,rfl,by decide,by decide,by decide,by decide,by decide⟩
  ·exact⟨2,1,rfl,rfl,by decide,by decide,by decide,by decide,by decide⟩
  ·exact⟨2,1,rfl,rfl,by decide,by decide,by decide,by decide,by decide⟩
 refine⟨by omega,fun p1 hp1=>⟨_,hc,by omega,fun p2 hp2=>⟨_,hd,?_⟩⟩⟩
 have sub5:Sub G4 (gup (gup G4 p1 (GO.lst [T.int 8,T.int 4,T.int 2,T.int 2])) p2 (GO.lst [T.int 5,T.int 2,T.int 1,T.int 1])):=(Sub.new hp1).trans (.new hp2)
 generalize gup (gup G4 p1 (GO.lst [T.int 8,T.int 4,T.int 2,T.int 2])) p2 (GO.lst [T.int 5,T.int 2,T.int 1,T.int 1])=G5 at sub5 ⊢
 refine⟨b,(d:Nat),_,rfl,b4.sub sub5,by omega,by omega,by omega,fun x G6 x0 x1 b6 k6=> ?_⟩
 obtain⟨x,rfl⟩:=lJ7 x0
 refine⟨_,rfl,_,rfl,?_⟩
 have hm:(c-x)*W.length<=24:=lKf (lXt _ (by omega)) hcm.2
 have hcost:(jK3 W).length*(c-x)<=16*8:=Nat.mul_le_mul (lKf hends (by rw[hWl];exact Nat.mul_le_mul (show 1+r<=4 by omega) (show 2+q<=4 by omega))) (by omega)
 refine⟨b,W,c-x,_,by rw[show (((c:Nat):Int)-(x:Nat))=((c-x:Nat):Int) by omega];rfl,b6,by omega,hfine,ok.sym,by omega,by omega,by omega,fun V G7 cov b7 k7=> ?_⟩
 refine kk V G7 ?_ (b7.mono (by omega)) (((((k1.trans k2).trans k3).trans k4).trans (.sub sub5)).trans k6 |>.trans k7)
 rcases cov with rfl | ⟨sh,cn⟩
 ·exact ok.any (by omega) (by omega) (by omega)
 ·refine⟨by rw[sh.len];exact Nat.mul_pos (by omega) (by omega),by rw[sh.len];exact hm,sh.sym,fun y es hy=> ?_,cn⟩
  obtain⟨es',h1,h2⟩:=sh.row y es hy
  have:=ok.deg _ _ h1
  omega
def er (b:Addr) (G:Gp):Gp:=fun a=>if a=b then none else G a
theorem er_ne {b a:Addr} {G:Gp} (h:a≠b):er b G a=G a:=lJb h
theorem er_sub {b:Addr} {G:Gp}:Sub (er b G) G:=fun a o h=>by
 unfold er at h
 split at h
 ·cases h
 ·exact h
theorem qK5 {b:Addr} {G G':Gp} (k:Keep b G G'):Sub (er b G) (er b G'):=fun a o h=>by
 unfold er at h ⊢
 split at h
 ·cases h
 ·rename_i hn
  rw[lJb hn];exact k a o hn h
mutual
theorem jQl {G G':Gp} (s:Sub G G'):∀ {x:T} {d:PyData},RdG G x d->RdG G' x d
 | _,_,.non=> .non
 | _,_,.bl b=> .bl b
 | _,_,.int i=> .int i
 | _,_,.str x=> .str x
 | _,_,.tup h=> .tup (kK4 s h)
 | _,_,.lst hp h=> .lst (s _ _ hp) (kK4 s h)
theorem kK4 {G G':Gp} (s:Sub G G'):∀ {xs:List T} {ds:List PyData},RdGs G xs ds->RdGs G' xs ds
 | _,_,.nil=> .nil
 | _,_,.cons h hs=> .cons (jQl s h) (kK4 s hs)
end
def numD:PyData->Bool
 | .int _=>true
 | _=>false
def seqD:PyData->Option (List PyData)
 | .tuple ds=>some ds
 | .list ds=>some ds
 | _=>none
theorem qKr {G:Gp} {x:T} {d:PyData} (h:RdG G x d):∃p q,isiT G x (.ty "int")=some p/\isiT G x (.ty "bool")=some q/\(p&& !q)=numD d:=by
 cases h with
 | non=>exact⟨_,_,rfl,rfl,rfl⟩
 | bl b=>exact⟨_,_,rfl,rfl,rfl⟩
 | int i=>exact⟨_,_,rfl,rfl,rfl⟩
 | str x=>exact⟨_,_,rfl,rfl,rfl⟩
 | tup h=>exact⟨_,_,rfl,rfl,rfl⟩
 | lst hp h=>exact⟨false,false,by simp only[isiT,jZc,hp];rfl,by simp only[isiT,jZc,hp];rfl,rfl⟩
theorem jZ7 {G:Gp} {x:T} {d:PyData} (h:RdG G x d):isiT G x (.tup [.ty "tuple",.ty "list"])=some (seqD d).isSome/\isiT G x (.tup [.ty "list",.ty "tuple"])=some (seqD d).isSome/\(∀ds,seqD d=some ds->∃xs,seqT G x=some xs/\RdGs G xs ds):=by
 cases h with
 | non=>exact⟨rfl,rfl,fun ds h=>(nomatch h)⟩
 | bl b=>exact⟨rfl,rfl,fun ds h=>(nomatch h)⟩
 | int i=>exact⟨rfl,rfl,fun ds h=>(nomatch h)⟩
 | str x=>exact⟨rfl,rfl,fun ds h=>(nomatch h)⟩
 | tup h=>exact⟨rfl,rfl,fun ds e=>by cases e;exact⟨_,rfl,h⟩⟩
 | lst hp h=>exact⟨by simp only[isiT,jZc,hp];rfl,by simp only[isiT,jZc,hp];rfl,fun ds e=>by cases e;exact⟨_,jJn hp,h⟩⟩
theorem jY0 {G:Gp}:∀ {xs:List T} {ds:List PyData},RdGs G xs ds->∃ps:List (T×PyData),xs=ps.map (·.1)/\ds=ps.map (·.2)/\∀p,p∈ps->RdG G p.1 p.2
 | _,_,.nil=>⟨[],rfl,rfl,fun p h=>(nomatch h)⟩
 | _,_,.cons (x:=x) (d:=d) h hs=>by
  obtain⟨ps,h1,h2,h3⟩:=jY0 hs
  refine⟨(x,d)::ps,by rw[h1];rfl,by rw[h2];rfl,fun p hp=> ?_⟩
  rcases (lJv.mp hp) with rfl | hp
  ·exact h
  ·exact h3 p hp
theorem jQy {G G':Gp} {x:T} {xs:List T} (h:seqT G x=some xs) (s:Sub G G'):seqT G' x=some xs:=by
 cases x with
 | ref p=>
  simp only[seqT] at h ⊢
  cases e:G p with
  | none=>rw[e] at h;cases h
  | some o=>rw[e] at h;rw[s _ _ e];exact h
 | _=>exact h
def jVd:Sp3:=fun xs G Q=>∃(x:T) (d:PyData),xs=[x]/\RdG G x d/\∀G',Sub G G'->Q (.bl (numD d)) G'
def kXb:List Str:=["thing"]
noncomputable def jVj:TS3:=
 (tRet (kQn (tCB rIsi (jJa (tVar 0) (jJa (tC (.ty "int")) tNil))) (qQ9 (tCB rIsi (jJa (tVar 0) (jJa (tC (.ty "bool")) tNil))))))
theorem kJx:RdOk jVd jVj kXb:=by
 intro xs G Q h_;apply xe2 h_;clear h_;intro x d h_;apply ae2 h_;clear h_;intro h kk
 show jVj _ [some x] G
 obtain⟨p,q,h1,h2,h3⟩:=qKr h
 have:=kk G (.refl _)
 rw[<-h3] at this
 wp_walk using 1,jVj,rIsi,h1,h2
 cases p<;>exact this
theorem jXo {G:Gp}:∀ {xs:List T} {ds:List PyData},RdGs G xs ds->ds.length=xs.length
 | _,_,.nil=>rfl
 | _,_,.cons _ hs=>by rw[lJ5,lJ5,jXo hs]
theorem qJk {G:Gp}:∀ {xs:List T} {ds:List PyData},RdGs G xs ds->∀ {i:Nat} {d:PyData},ds[i]? =some d->∃x,xs[i]? =some x/\RdG G x d
 | _,_,.cons h hs,0,d,e=>by cases e;exact⟨_,rfl,h⟩
 | _,_,.cons h hs,i+1,d,e=>qJk hs (i:=i) e
def jV5 (n:Nat):PyData->Bool
 | .int i=>decide (0<=i)&&decide (i<(n:Nat))
 | _=>false
def jQg (n:Nat) (d:PyData):Bool:=match seqD d with
 | some [x,y]=>jV5 n x&&jV5 n y
 | _=>false
def kY6:PyData->Nat
 | .int i=>i.toNat
 | _=>0
def toP (d:PyData):Nat×Nat:=match seqD d with
 | some [x,y]=>(kY6 x,kY6 y)
 | _=>(0,0)
theorem kXo {G:Gp} {n:Nat} {x:T} {d:PyData} (h:RdG G x d) (e:jV5 n d=true):kY6 d<n/\x= .int (kY6 d:Nat):=by
 cases h with
 | int i=>
  unfold jV5 at e
  rw[lJ6,lKz,lKz] at e
  exact⟨by show i.toNat<n;omega,by show T.int i=T.int ((i.toNat:Nat):Int);rw[Int.toNat_of_nonneg e.1]⟩
 | _=>exact absurd (show false=true from e) lJm
theorem kZ5 {G:Gp} {x:T} {d:PyData} {ds:List PyData} (h:RdG G x d) (e:seqD d=some ds):∃xs,seqT G x=some xs/\RdGs G xs ds:=(jZ7 h).2.2 ds e
theorem jXq {G:Gp} {n:Nat} {x:T} {d:PyData} (h:RdG G x d) (e:jQg n d=true):(toP d).1<n/\(toP d).2<n/\seqT G x=some [.int ((toP d).1:Nat),.int ((toP d).2:Nat)]:=by
 unfold jQg at e
 unfold toP
 split at e
 ·rename_i u v hs
  rw[lJ6] at e
  obtain⟨xs,h1,h2⟩:=kZ5 h hs
  cases h2 with
  | cons a t=>
   cases t with
   | cons b t=>
    cases t
    obtain⟨l1,rfl⟩:=kXo a e.1
    obtain⟨l2,rfl⟩:=kXo b e.2
    exact⟨l1,l2,h1⟩
 ·cases e
theorem jYi {G:Gp} {x y:T} {d:PyData} {xs:List T} (h:RdG G x d) (hx:seqT G x=some xs) {i:Nat} (hi:xs[i]? =some y):ixR G x (.int (i:Nat))=some y:=by
 cases h with
 | tup _=>
  cases hx
  show L2.atI _ _=_
  rw[atN];exact hi
 | lst hp _=>
  rw[jJn hp] at hx;cases hx
  rw[jJ1 hp,atN];exact hi
 | _=>cases hx
def jKm:Sp3:=fun xs G Q=>∃(W:Web) (x:T) (d:PyData),xs=[encW W,x]/\RdG G x d/\∀G',Sub G G'->Q (.bl (jV5 W.length d)) G'
def jXc:List Str:=["web","thing"]
noncomputable def jK1:TS3:=
 (tRet (kQn (jJp jVd (jJa (tVar 1) tNil)) (jZg rLeF rLt (tC (.int 0)) (tVar 1) (tCB rLen (jJa (tVar 0) tNil)))))
theorem jU4:RdOk jKm jK1 jXc:=by
 intro xs G Q h_;apply xe3 h_;clear h_;intro W x d h_;apply ae2 h_;clear h_;intro h kk
 show jK1 _ [some (.tup (W.map encR)),some x] G
 wp_walk using 1,jK1,jZg,rLeF
 refine⟨x,d,rfl,h,fun G1 s1=> ?_⟩
 have:=kk G1 s1
 cases h with
 | int i=>
  have this:Q (.bl (decide (0<=i)&&decide (i<(W.length:Nat)))) G1:=this
  refine⟨true,rfl,?_⟩
  rw[lJc rfl]
  refine⟨decide (0<=i),rfl,?_⟩
  by_cases c:0<=i
  ·rw[lJn c,lJc rfl]
   rw[lJn c,lK7] at this
   exact⟨i,rfl,by rw[lJe];exact this⟩
  ·rw[lJo c,lJb (by decide)]
   rw[lJo c] at this
   exact this
 | _=>exact⟨false,rfl,this⟩
def jX2:Sp3:=fun xs G Q=>∃(W:Web) (x:T) (d:PyData),xs=[encW W,encW W,x]/\RdG G x d/\∀G',Sub G G'->Q (.bl (jQg W.length d)) G'
def qQ0:List Str:=["one","other","thing"]
noncomputable def jX6:TS3:=
 (tSeq (tIfS (tOr (tNot (jJs (tCB rIsi (jJa (tVar 2) (jJa (tTup (jJa (tC (.ty "tuple")) (jJa (tC (.ty "list")) tNil))) tNil))))) (jJs (tOp rNeA (tCB rLen (jJa (tVar 2) tNil)) (tC (.int 2))))) (tRet (tC (.bl false))) jJ8)
 (tRet (kQn (jJp jKm (jJa (tVar 0) (jJa (tOp rIxF (tVar 2) (tC (.int 0))) tNil))) (jJp jKm (jJa (tVar 1) (jJa (tOp rIxF (tVar 2) (tC (.int 1))) tNil))))))
theorem kQy {n:Nat} {d:PyData} (h:seqD d=none):jQg n d=false:=by unfold jQg;rw[h]
theorem kXw {n:Nat} {d x y:PyData} (h:seqD d=some [x,y]):jQg n d=(jV5 n x&&jV5 n y):=by unfold jQg;rw[h]
theorem kXx {n:Nat} {d:PyData} {ds:List PyData} (h:seqD d=some ds) (hl:ds.length≠2):jQg n d=false:=by
 unfold jQg
 rw[h]
 match ds,hl with
 | [],_=>rfl
 | [_],_=>rfl
 | [_,_],hl=>exact absurd rfl hl
 | _::_::_::_,_=>rfl
theorem kQt:RdOk jX2 jX6 qQ0:=by
 intro xs G Q h_;apply xe3 h_;clear h_;intro W x d h_;apply ae2 h_;clear h_;intro h kk
 show jX6 _ [some (encW W),some (encW W),some x] G
 have hs:=sz
 obtain⟨i1,_,i2⟩:=jZ7 h
 wp_walk using 1,jX6,rIsi,i1
 refine⟨by omega,?_⟩
 cases e:seqD d with
 | none=>
  rw[lJc (by simp)]
  have:=kk G (.refl _)
  rw[kQy e] at this
  exact this
 | some ds=>
  rw[lJb (by simp)]
  obtain⟨xs,hx,hr⟩:=i2 ds e
  have hlen:=jXo hr
  wp_walk using 1,rNeA,hx
  refine⟨decide (xs.length=2),jKw (c:=2),?_⟩
  by_cases c:xs.length=2
  ·rw[lJn c,lJb (by decide)]
   match xs,c,hr with
   | [u,v],_,.cons a (.cons b .nil)=>
    rename_i du dv
    have:=kk
    rw[kXw e] at this
    refine⟨u,jYi h hx (i:=0) rfl,W,u,du,rfl,a,fun G1 s1=>⟨_,rfl,?_⟩⟩
    cases c2:jV5 W.length du with
    | true=>
     rw[c2,lK7] at this
     rw[lJc rfl]
     exact⟨v,jYi (jQl s1 h) (jQy hx s1) (i:=1) rfl,W,v,dv,rfl,jQl s1 b,fun G2 s2=>this G2 (s1.trans s2)⟩
    | false=>
     rw[c2] at this
     rw[lJb (by decide)]
     exact this G1 s1
  ·rw[lJo c,lJc rfl]
   have:=kk G (.refl _)
   rw[kXx e (by omega)] at this
   exact this
noncomputable def jVz (W:Web) (S:List (Nat×Nat)) (p:Nat×Nat):Bool:=decide ((row W p.1).length=(row W p.2).length)&&((row W p.1).zip (row W p.2)).all fun eg=>decide (eg.1.2=eg.2.2)&&S.contains (eg.1.1,eg.2.1)
def KnD (kvs:List (L2.TKey×T)) (S:List (Nat×Nat)):Prop:=∀p,valT kvs (keyE p)=if p∈S then some (.bl true) else none
theorem kn_in {G:Gp} {d:Addr} {kvs:List (L2.TKey×T)} {S:List (Nat×Nat)} {x y:Nat} (h:G d=some (.dct kvs)\/G d=some (.fdc kvs)) (k:KnD kvs S):inR G (.tup [.int (x:Nat),.int (y:Nat)]) (.ref d)=some (S.contains (x,y)):=by
 have hk:jK7 [T.int (x:Nat),T.int (y:Nat)]=some (keyE (x,y)):=jUm
 have hv:=k (x,y)
 have e:S.contains (x,y)=(valT kvs (keyE (x,y))).isSome:=by
  rw[hv]
  by_cases c:(x,y)∈S
  ·rw[lJc c,lVr.mpr c];rfl
  ·rw[lJb c,Bool.eq_false_iff.mpr fun z=>c (lVr.mp z)];rfl
 rw[e]
 unfold inR
 rcases h with h | h
 ·simp only[seqT,dAt,h,hk];rfl
 ·simp only[seqT,dAt,h,hk];rfl
noncomputable def jX3:Sp3:=fun xs G Q=>∃(W:Web) (x y:Nat) (es fs:List (Nat×Nat)) (d:Addr) (kvs:List (L2.TKey×T)) (S:List (Nat×Nat)),xs=[encR es,encR fs,.ref d]/\es=row W x/\fs=row W y/\(G d=some (.dct kvs)\/G d=some (.fdc kvs))/\KnD kvs S/\∀G',Sub G G'->Q (.bl (jVz W S (x,y))) G'
def qQ1:List Str:=["left_ends","right_ends","known","left","right"]
noncomputable def jX7:TS3:=
 (tSeq (tIfS (jJs (tOp rNeA (tCB rLen (jJa (tVar 0) tNil)) (tCB rLen (jJa (tVar 1) tNil)))) (tRet (tC (.bl false))) jJ8)
 (tSeq (tFor (iZip (jJa (tVar 0) (jJa (tVar 1) tNil))) (gTup 2 (jKd (jJh 3) (jKd (jJh 4) gNil))) (tIfS (tOr (jJs (tOp rNeA (tOp rIxF (tVar 3) (tC (.int 1))) (tOp rIxF (tVar 4) (tC (.int 1))))) (jJs (tOp jUc (tTup (jJa (tOp rIxF (tVar 3) (tC (.int 0))) (jJa (tOp rIxF (tVar 4) (tC (.int 0))) tNil))) (tVar 2)))) (tRet (tC (.bl false))) jJ8))
 (tRet (tC (.bl true)))))
theorem jY6 {α:Type} {f:α->Bool} {l:List α} {k:Nat} {x:α} (h:l[k]? =some x):(l.take (k+1)).all f=((l.take k).all f&&f x):=by
 rw[lK4,h,List.all_append];simp
theorem jY7 {α:Type} {f:α->Bool} {l:List α} {k:Nat} (h:(l.take k).all f=false):l.all f=false:=by
 rw[<-lX4 k l,List.all_append,h];rfl
theorem zipE {es fs:List (Nat×Nat)}:zipT (es.map encE) (fs.map encE)=(es.zip fs).map fun eg=>T.tup [encE eg.1,encE eg.2]:=by
 unfold zipT;rw[List.zip_map,lJx];rfl
theorem kQu:RdOk jX3 jX7 qQ1:=by
 intro xs G Q h_;apply xe8 h_;clear h_;intro W x y es fs d kvs S h_;apply ae5 h_;clear h_;intro he hf hd kn kk
 show jX7 _ [some (.tup (es.map encE)),some (.tup (fs.map encE)),some (.ref d),none,none] G
 have hs:=sz
 have fin:=kk G (.refl _)
 unfold jVz at fin
 rw[<-he,<-hf] at fin
 wp_walk using 1,jX7,rNeA,List.length_map,jKw,jJ0,iZip
 by_cases c0:es.length=fs.length
 rotate_left
 ·rw[lJo c0,lJc rfl]
  rw[lJo c0] at fin
  exact fin
 rw[lJn c0,lJb (by decide)]
 rw[lJn c0,lK7] at fin
 rw[zipE]
 let J1:Nat->St3->Gp->Prop:=fun k τ G'=>∃(v3 v4:Option T),τ=[some (.tup (es.map encE)),some (.tup (fs.map encE)),some (.ref d),v3,v4]/\((es.zip fs).take k).all (fun eg=>decide (eg.1.2=eg.2.2)&&S.contains (eg.1.1,eg.2.1))=true/\G'=G
 refine⟨J1,?_,?_,?_,?_⟩
 ·exact⟨none,none,rfl,rfl,rfl⟩
 ·intros;trivial
 ·intro k z τ G1 hz h_;apply xe2 h_;clear h_;intro v3 v4 h_;apply ae2 h_;clear h_;intro i1 e1_
  subst e1_
  obtain⟨eg,heg,rfl⟩:=jKs hz
  have hst:=jY6 (f:=fun eg:(Nat×Nat)×(Nat×Nat)=>decide (eg.1.2=eg.2.2)&&S.contains (eg.1.1,eg.2.1)) heg
  rw[i1,lK7] at hst
  have bad:(decide (eg.1.2=eg.2.2)&&S.contains (eg.1.1,eg.2.1))=false->Q (.bl false) G1:=fun e=>by
   rw[jY7 (hst.trans e)] at fin
   exact fin
  wp_walk using 1,encE,rNeA,jUc,jKw,kn_in hd kn
  by_cases c1:eg.1.2=eg.2.2
  ·rw[lJn c1] at hst bad
   rw[lJn c1,lJb (by decide)]
   refine⟨by omega,?_⟩
   cases c2:S.contains (eg.1.1,eg.2.1) with
   | true=>rw[lJb (by decide)];exact⟨_,_,rfl,by rw[hst,c2];rfl,rfl⟩
   | false=>rw[lJc rfl];exact bad (by rw[c2];rfl)
  ·rw[lJo c1,lJc rfl]
   exact bad (by rw[lJo c1];rfl)
 ·intro τ G1 h_;apply xe2 h_;clear h_;intro v3 v4 h_;apply ae2 h_;clear h_;intro i1 e1_
  subst e1_
  rw[lJe,lK5] at i1
  wp_walk using 1,tSeq
  rw[i1] at fin
  exact fin
def prsD (n:Nat) (d:PyData):Option (List (Nat×Nat)):=match seqD d with
 | some ds=>if ds.all (jQg n)=true then some (ds.map toP) else none
 | none=>none
def shB (W:Web) (a b:Nat) (d:PyData):Bool:=match prsD W.length d with
 | some S=>S.contains (a,b)&&S.all (jVz W S)
 | none=>false
noncomputable def jQp:Sp3:=fun xs G Q=>∃(W:Web) (a b:Nat) (x:T) (d:PyData),xs=[encW W,.int (a:Nat),encW W,.int (b:Nat),x]/\AnyWeb W/\RdG G x d/\(∀ds,seqD d=some ds->ds.length<=5000)/\∀G',Sub G G'->Q (.bl (shB W a b d)) G'
def kJo:List Str:=["one","a","other","b","pairs","known","pair","part"]
noncomputable def jQq:TS3:=
 (tSeq (tIfS (tOr (tNot (jJs (tCB rIsi (jJa (tVar 4) (jJa (tTup (jJa (tC (.ty "tuple")) (jJa (tC (.ty "list")) tNil))) tNil))))) (tNot (jJs (tCB rAll (jJa (jKz [false,false,false,false,false,false,false,true] (iSeq (tVar 4)) (jJh 7) jQ2 (jJp jX2 (jJa (tVar 0) (jJa (tVar 2) (jJa (tVar 7) tNil))))) tNil))))) (tRet (tC (.bl false))) jJ8)
 (tSeq (tAsg jZf (jJh 5))
 (tSeq (tFor (iSeq (tVar 4)) (jJh 6) (tAsg (tC (.bl true)) (gSub (tVar 5) (tCB jKj (jJa (tVar 6) tNil)) jQr)))
 (tRet (kQn (tOp qUx (tTup (jJa (tVar 1) (jJa (tVar 3) tNil))) (tVar 5)) (tCB rAll (jJa (jKz [false,false,false,false,false,false,true,false] (iFd (tVar 5)) (jJh 6) jQ2 (jJp jX3 (jJa (tOp rIxF (tVar 0) (tOp rIxF (tVar 6) (tC (.int 0)))) (jJa (tOp rIxF (tVar 2) (tOp rIxF (tVar 6) (tC (.int 1)))) (jJa (tVar 5) tNil))))) tNil)))))))
theorem kXt {n:Nat} {d:PyData} (h:seqD d=none):prsD n d=none:=by unfold prsD;rw[h]
theorem qJs {n:Nat} {d:PyData} {ds:List PyData} (h:seqD d=some ds) (h2:ds.all (jQg n)=false):prsD n d=none:=by unfold prsD;rw[h];simp only;rw[lJb (by rw[h2];decide)]
theorem kK6 {n:Nat} {d:PyData} {ds:List PyData} (h:seqD d=some ds) (h2:ds.all (jQg n)=true):prsD n d=some (ds.map toP):=by unfold prsD;rw[h];simp only;rw[lJc h2]
theorem kU0 {W:Web} {a b:Nat} {d:PyData} (h:prsD W.length d=none):shB W a b d=false:=by unfold shB;rw[h]
theorem kZ3 {W:Web} {a b:Nat} {d:PyData} {S:List (Nat×Nat)} (h:prsD W.length d=some S):shB W a b d=(S.contains (a,b)&&S.all (jVz W S)):=by unfold shB;rw[h]
theorem kn_put {kvs:List (L2.TKey×T)} {S:List (Nat×Nat)} {p:Nat×Nat} (h:KnD kvs S):KnD (putT kvs (keyE p) (.bl true)) (S++[p]):=fun q=>by
 rw[kXf]
 by_cases c:q=p
 ·subst c;rw[lJc rfl,lJc (by simp)]
 ·have hk:¬ keyE p=keyE q:=fun z=>c (kK9 z).symm
  rw[lJb hk,h q]
  by_cases c2:q∈S
  ·rw[lJc c2,lJc (by simp[c2])]
  ·rw[lJb c2,lJb (by simp[c2,c])]
theorem qUz {kvs:List (L2.TKey×T)} {k:L2.TKey} {v:T}:(k∈kvs.map Prod.fst/\(putT kvs k v).map Prod.fst=kvs.map Prod.fst)\/(k∉kvs.map Prod.fst/\(putT kvs k v).map Prod.fst=kvs.map Prod.fst++[k]):=by
 unfold putT
 by_cases c:k∈kvs.map Prod.fst
 ·refine .inl ⟨c,?_⟩
  have:(kvs.any fun kv=>decide (kv.1=k))=true:=by
   obtain⟨kv,h1,h2⟩:=lJj.mp c
   exact List.any_eq_true.mpr ⟨kv,h1,lJn h2⟩
  rw[lJc this,lJx]
  apply lXi
  intro kv _
  show (if kv.1=k then (kv.1,v) else kv).1=kv.1
  split<;>rfl
 ·refine .inr ⟨c,?_⟩
  have:¬ (kvs.any fun kv=>decide (kv.1=k))=true:=fun z=>by
   obtain⟨kv,h1,h2⟩:=List.any_eq_true.mp z
   exact c (lJj.mpr ⟨kv,h1,of_decide_eq_true h2⟩)
  rw[lJb this,lK6];rfl
theorem jXn:RdOk jQp jQq kJo:=by
 intro xs G Q h_;apply xe5 h_;clear h_;intro W a b x d h_;apply ae4 h_;clear h_;intro any h hl kk
 show jQq _ [some (encW W),some (.int (a:Nat)),some (encW W),some (.int (b:Nat)),some x,none,none,none] G
 have hs:=sz
 obtain⟨i1,_,i2⟩:=jZ7 h
 wp_walk using 1,jQq,rIsi,i1,iSeq,jJ0,jZf
 refine⟨by omega,?_⟩
 cases e:seqD d with
 | none=>
  rw[lJc (by simp)]
  have:=kk G (.refl _)
  rw[kU0 (kXt e)] at this
  exact this
 | some ds=>
  rw[lJb (by simp)]
  have hdl:=hl ds e
  obtain⟨xs,hx,hr⟩:=i2 ds e
  obtain⟨ps,h1,h2,h3⟩:=jY0 hr
  have hpl:ps.length<=5000:=by rw[h2,lJe] at hdl;exact hdl
  rw[h1] at hx
  refine⟨_,hx,?_⟩
  refine jKt (es:=ps) (enc:=(·.1)) (fun p=>T.bl (jQg W.length p.2)) (by omega) (fun G' s=>jQy hx s) ?_ ?_
  ·intro i p hpi G' K K0 s hK
   wp_walk using 1,tSeq
   exact⟨W,p.1,p.2,rfl,jQl s (h3 p (lJl hpi)),fun G2 s2=>hK G2 s2⟩
  intro D G1 hD d1 s1
  refine⟨D,_,_,rfl,d1,jUo (f:=fun p:T×PyData=>jQg W.length p.2),_,rfl,?_⟩
  have hall:(ps.all fun p=>jQg W.length p.2)=ds.all (jQg W.length):=by rw[h2,List.all_map];rfl
  rw[hall]
  cases c1:ds.all (jQg W.length) with
  | false=>
   rw[lJc rfl]
   have:=kk G1 s1
   rw[kU0 (qJs e c1)] at this
   exact this
  | true=>
   rw[lJb (by decide)]
   rw[kZ3 (kK6 e c1)] at kk
   refine .inl fun k hk=> ?_
   refine⟨_,jQy (jQy hx s1) (.new hk),?_⟩
   have hS:ds.map toP=ps.map fun p=>toP p.2:=by rw[h2,lJx];rfl
   rw[hS] at kk
   have hpp:∀p,p∈ps->jQg W.length p.2=true:=fun p hp=>lKk.mp (hall.trans c1) p hp
   let J1:Nat->St3->Gp->Prop:=fun i τ G'=>∃(v6:Option T) (kvs:List (L2.TKey×T)),τ=[some (encW W),some (.int (a:Nat)),some (encW W),some (.int (b:Nat)),some x,some (.ref k),v6,none]/\G' k=some (.dct kvs)/\KnD kvs ((ps.take i).map fun p=>toP p.2)/\kvs.length<=i/\(∃Ps:List (Nat×Nat),kvs.map Prod.fst=Ps.map keyE/\∀q,q∈Ps↔q∈(ps.take i).map fun p=>toP p.2)/\Sub G G'
   refine⟨J1,?_,?_,?_,?_⟩
   ·exact⟨none,[],rfl,jJi,fun q=>by simp[valT],lJh _,⟨[],rfl,fun q=>by simp⟩,s1.trans (.new hk)⟩
   ·intro i τ G' hi h_;apply xe2 h_;clear h_;intro v6 kvs h_;apply ae5 h_;clear h_;intro j1 j2 j3 j4 j5
    exact jQy hx j5
   ·intro i z τ G2 hz h_;apply xe2 h_;clear h_;intro v6 kvs h_;apply ae5 h_;clear h_;intro j1 j2 j3 j4 j5
    obtain⟨p,hp,rfl⟩:=jKs hz
    obtain⟨r1,r2,r3⟩:=jXq (jQl j5 (h3 p (lJl hp))) (hpp p (lJl hp))
    wp_walk using 1,r3,kXm j1 jUm (show kvs.length<sizeLine by have:=(List.getElem?_eq_some_iff.mp hp).1;omega)
    have hkG:G k=none:=jYw s1 hk
    have htk:(ps.take (i+1)).map (fun p=>toP p.2)=((ps.take i).map fun p=>toP p.2)++[toP p.2]:=by rw[lK4,hp,lK6];rfl
    refine⟨_,putT kvs (keyE (toP p.2)) (.bl true),rfl,jJi,by rw[htk];exact kn_put j2,lKf (kXs _ _ _) (by omega),?_,j5.over hkG⟩
    obtain⟨Ps,q1,q2⟩:=j4
    have hin:keyE (toP p.2)∈kvs.map Prod.fst↔toP p.2∈Ps:=by
     rw[q1,lJj]
     exact⟨fun ⟨z,z1,z2⟩=>by rw[<-kK9 z2];exact z1,fun z=>⟨_,z,rfl⟩⟩
    rw[htk]
    rcases qUz (kvs:=kvs) (k:=keyE (toP p.2)) (v:= .bl true) with ⟨c,e⟩ | ⟨c,e⟩
    ·refine⟨Ps,by rw[e,q1],fun q=> ?_⟩
     rw[lKc,lJz,<-q2 q]
     exact⟨.inl,fun z=>z.elim id fun z=>by rw[z];exact hin.mp c⟩
    ·refine⟨Ps++[toP p.2],by rw[e,q1,lK6];rfl,fun q=> ?_⟩
     rw[lKc,lKc,lJz,q2 q]
   ·intro τ G2 h_;apply xe2 h_;clear h_;intro v6 kvs h_;apply ae5 h_;clear h_;intro j1 j2 j3 q3_ j5
    obtain⟨Ps,q1,q2⟩:=q3_
    rw[lJe,lK5] at j2 q2
    rw[lJe] at j3
    have hkG:G k=none:=jYw s1 hk
    generalize hSS:(ps.map fun p=>toP p.2)=S at kk j2 q2
    have hlt:∀q,q∈S->q.1<W.length/\q.2<W.length:=fun q hq=>by
     rw[<-hSS] at hq
     (obtain⟨p,hp,rfl⟩:=lJj.mp hq)
     obtain⟨r1,r2,_⟩:=jXq (h3 p hp) (hpp p hp)
     exact⟨r1,r2⟩
    have hPl:Ps.length<=5000:=by have:=lJ9 List.length q1;simp at this;omega
    wp_walk using 1,qUx,kn_in (.inl j1) j2,iFd
    refine⟨by omega,?_⟩
    cases c2:S.contains (a,b) with
    | false=>
     have:=kk G2 j5
     rw[c2] at this
     exact this
    | true=>
     rw[c2,lK7] at kk
     rw[lJc rfl]
     refine⟨kvs,j1,Ps.map fun q=>[T.int (q.1:Nat),T.int (q.2:Nat)],?_,?_⟩
     ·rw[lJx,show kvs.map (fun kv=>some kv.1)=(kvs.map Prod.fst).map some by rw[lJx];rfl,q1,lJx]
      apply lXi
      intro q _
      exact jUm
     have hk3:gup G2 k (.fdc kvs) k=some (.fdc kvs):=jJi
     have s3:Sub G (gup G2 k (.fdc kvs)):=j5.over hkG
     generalize gup G2 k (.fdc kvs)=G3 at hk3 s3 ⊢
     rw[lJx]
     refine jKt (es:=Ps) (enc:=encE) (fun q=>T.bl (jVz W S q)) (by omega) (fun _ _=>trivial) ?_ ?_
     ·intro i q hq G' K K0 s hK
      obtain⟨l1,l2⟩:=hlt q ((q2 q).mp (lJl hq))
      have w1:W[q.1]? =some (row W q.1):=by unfold row;rw[lJg l1];rfl
      have w2:W[q.2]? =some (row W q.2):=by unfold row;rw[lJg l2];rfl
      wp_walk using 1,encE,encW,jUg w1,jUg w2
      exact⟨W,q.1,q.2,_,_,k,kvs,S,rfl,rfl,rfl,.inr (s _ _ hk3),j2,fun G4 s4=>hK G4 s4⟩
     ·intro D2 G4 hD2 d4 s4
      refine⟨D2,_,_,rfl,d4,jUo (f:=jVz W S),?_⟩
      have hPS:Ps.all (jVz W S)=S.all (jVz W S):=by
       (rw[Bool.eq_iff_iff,lKk,lKk])
       exact⟨fun z q hq=>z q ((q2 q).mpr hq),fun z q hq=>z q ((q2 q).mp hq)⟩
      rw[hPS]
      exact kk G4 (s3.trans s4)
def nvB (W:Web) (a b:Nat) (d:PyData):Bool:=match prsD W.length d with
 | some S=>(S.contains (a,b)&&S.all (jVz W S))&&S.all fun p=> !decide (p.1=p.2)
 | none=>false
noncomputable def jKr:Sp3:=fun xs G Q=>∃(W:Web) (a b:Nat) (x:T) (d:PyData),xs=[encW W,.int (a:Nat),.int (b:Nat),x]/\AnyWeb W/\RdG G x d/\(∀ds,seqD d=some ds->ds.length<=5000)/\∀G',Sub G G'->Q (.bl (nvB W a b d)) G'
def kQj:List Str:=["web","a","b","pairs","pair"]
noncomputable def jUd:TS3:=
 (tRet (kQn (jJp jQp (jJa (tVar 0) (jJa (tVar 1) (jJa (tVar 0) (jJa (tVar 2) (jJa (tVar 3) tNil)))))) (tCB rAll (jJa (jKz [false,false,false,false,true] (iSeq (tVar 3)) (jJh 4) jQ2 (tOp rNeA (tOp rIxF (tVar 4) (tC (.int 0))) (tOp rIxF (tVar 4) (tC (.int 1))))) tNil))))
theorem jYp:RdOk jKr jUd kQj:=by
 intro xs G Q h_;apply xe5 h_;clear h_;intro W a b x d h_;apply ae4 h_;clear h_;intro any h hl kk
 show jUd _ [some (encW W),some (.int (a:Nat)),some (.int (b:Nat)),some x,none] G
 have hs:=sz
 wp_walk using 1,jUd,iSeq
 refine⟨W,a,b,x,d,rfl,any,h,hl,fun G1 s1=>⟨_,rfl,?_⟩⟩
 unfold nvB at kk
 cases e:prsD W.length d with
 | none=>
  rw[e] at kk
  rw[kU0 e,lJb (by decide)]
  exact kk G1 s1
 | some S=>
  rw[e] at kk
  rw[kZ3 e]
  simp only at kk
  cases c:(S.contains (a,b)&&S.all (jVz W S)) with
  | false=>
   rw[c] at kk
   rw[lJb (by decide)]
   exact kk G1 s1
  | true=>
   rw[c,lK7] at kk
   rw[lJc rfl]
   obtain⟨ds,hd,hall,hS⟩:∃ds,seqD d=some ds/\ds.all (jQg W.length)=true/\S=ds.map toP:=by
    unfold prsD at e
    split at e
    ·rename_i ds hd
     split at e
     ·rename_i hc;cases e;exact⟨ds,hd,hc,rfl⟩
     ·cases e
    ·cases e
   obtain⟨xs,hx,hr⟩:=kZ5 (jQl s1 h) hd
   obtain⟨ps,h1,h2,h3⟩:=jY0 hr
   have hpl:ps.length<=5000:=by have:=hl ds hd;rw[h2,lJe] at this;exact this
   rw[h1] at hx
   refine⟨_,hx,?_⟩
   refine jKt (es:=ps) (enc:=(·.1)) (fun p=>T.bl (!decide ((toP p.2).1=(toP p.2).2))) (by omega) (fun G' s=>jQy hx s) ?_ ?_
   ·intro i p hpi G' K K0 s hK
    have hm:=lJl hpi
    have rd:=jQl s (h3 p hm)
    obtain⟨_,_,r3⟩:=jXq rd (lKk.mp hall p.2 (by rw[h2];exact lJj.mpr ⟨p,hm,rfl⟩))
    wp_walk using 1,rNeA,jYi rd r3 (i:=0) rfl,jYi rd r3 (i:=1) rfl
    exact⟨_,jYi rd r3 (i:=0) rfl,_,jYi rd r3 (i:=1) rfl,_,jKw,hK G' (.refl _)⟩
   ·intro D G2 hD d2 s2
    refine⟨D,_,_,rfl,d2,jUo (f:=fun p:T×PyData=> !decide ((toP p.2).1=(toP p.2).2)),?_⟩
    have hSS:S.all (fun p=> !decide (p.1=p.2))=ps.all fun p=> !decide ((toP p.2).1=(toP p.2).2):=by
     rw[hS,h2,lJx,List.all_map];rfl
    rw[<-hSS]
    exact kk G2 (s1.trans s2)
structure OkD (d:Nat) (x:T):Prop where
 tr:tree x=true
 lay:(td x).canLay0=true
 dep:(td x).depth<=d
 eq:eqT x x=true
theorem qY1 {i:Int}:OkD 0 (.int i):=⟨rfl,rfl,Nat.le_of_eq (by simp[td,PyData.depth]),by simp[eqT]⟩
theorem kVi {d:Nat}:∀xs:List T,(∀x,x∈xs->OkD d x)->jQj xs=true/\PyData.canLayAll0 (tds xs)=true/\PyData.depthAll (tds xs)<=d/\eqTs xs xs=true
 | [],_=>⟨rfl,by simp[tds,PyData.canLayAll0],by simp[tds,PyData.depthAll],rfl⟩
 | x::xs,h=>by
  obtain⟨a1,a2,a3,a4⟩:=kVi xs fun y hy=>h y (lJ2 _ hy)
  obtain⟨b1,b2,b3,b4⟩:=h x (lJ1 ..)
  refine⟨?_,?_,?_,?_⟩
  ·show (tree x&&jQj xs)=true;rw[a1,b1];rfl
  ·rw[tds,PyData.canLayAll0,a2,b2];rfl
  ·rw[tds,PyData.depthAll];omega
  ·show (eqT x x&&eqTs xs xs)=true;rw[a4,b4];rfl
theorem qY0 {d:Nat} {xs:List T} (h:∀x,x∈xs->OkD d x):OkD (d+1) (.tup xs):=by
 obtain⟨a1,a2,a3,a4⟩:=kVi xs h
 exact⟨a1,by rw[td,PyData.canLay0];exact a2,by rw[td,PyData.depth];omega,a4⟩
theorem okD_e {e:Nat×Nat}:OkD 1 (encE e):=qY0 fun x hx=>by
 simp only[lKh,lJv,lQk] at hx
 rcases hx with rfl | rfl<;>exact qY1
theorem eqOk_e {e:Nat×Nat}:eqOk (encE e)=true:=by
 have h:=okD_e (e:=e)
 unfold eqOk
 rw[h.tr,h.lay,lJn (show (td (encE e)).depth<=50 by have:=h.dep;omega)];rfl
theorem qVz {S:List (Nat×Nat)}:jYd (S.map encE)=true:=by
 obtain⟨a1,a2,a3,_⟩:=kVi (d:=1) (S.map encE) fun x hx=>by obtain⟨e,_,rfl⟩:=lJj.mp hx;exact okD_e
 unfold jYd
 rw[a1,a2,lJn (show (PyData.list (tds (S.map encE))).depth<=50 by rw[PyData.depth];omega)];rfl
theorem eqv_e {a b:Nat×Nat}:PyData.eqv (td (encE a)) (td (encE b))=decide (a=b):=by
 obtain⟨a1,a2⟩:=a
 obtain⟨b1,b2⟩:=b
 show (PyData.eqv (.int (a1:Nat)) (.int (b1:Nat))&&(PyData.eqv (.int (a2:Nat)) (.int (b2:Nat))&&true))=_
 by_cases c1:a1=b1
 ·subst c1
  by_cases c2:a2=b2
  ·subst c2;simp[PyData.eqv]
  ·have:¬ (a2:Int)=b2:=by omega
   simp[PyData.eqv,c2,this]
 ·have:¬ (a1:Int)=b1:=by omega
  simp[PyData.eqv,c1,this]
theorem any_e {S:List (Nat×Nat)} {e:Nat×Nat}:((tds (S.map encE)).any fun z=>PyData.eqv z (td (encE e)))=S.contains e:=by
 induction S with
 | nil=>rfl
 | cons a S ih=>
  show (PyData.eqv (td (encE a)) (td (encE e))||(tds (S.map encE)).any fun z=>PyData.eqv z (td (encE e)))=_
  rw[ih,eqv_e,List.contains_cons]
  congr 1
  rw[Bool.eq_iff_iff,lKz,beq_iff_eq]
  exact eq_comm
theorem qKd {S:List (Nat×Nat)} {x y:Nat} {p:Addr} {G:Gp} {Q:VK3} (h:G p=some (.lst (S.map encE))) (k:Q (.bl (!S.contains (x,y))) G):jZs (.tup [.int (x:Nat),.int (y:Nat)]) (.ref p) G Q:=by
 refine⟨p,_,rfl,h,eqOk_e (e:=(x,y)),qVz,?_⟩
 have:=any_e (S:=S) (e:=(x,y))
 rw[show td (T.tup [.int (x:Nat),.int (y:Nat)])=td (encE (x,y)) from rfl,this]
 exact k
def jVb:Sp3:=fun xs G Q=>∃(W:Web) (x:T) (d:PyData),xs=[encW W,x]/\RdG G x d/\∀G',Sub G G'->Q (.bl (jQg W.length d)) G'
def kV9:List Str:=["_law_web_here","_law_thing","_law_room"]
noncomputable def jVh:TS3:=
 (tSeq (tIfS (tOr (tNot (jJs (tCB rIsi (jJa (tVar 1) (jJa (tTup (jJa (tC (.ty "tuple")) (jJa (tC (.ty "list")) tNil))) tNil))))) (jJs (tOp rNeA (tCB rLen (jJa (tVar 1) tNil)) (tC (.int 2))))) (tRet (tC (.bl false))) jJ8)
 (tSeq (tFor (iSeq (tVar 1)) (jJh 2) (tIfS (tOr (tNot (jJs (tCB rIsi (jJa (tVar 2) (jJa (tC (.ty "int")) tNil))))) (tOr (jJs (tCB rIsi (jJa (tVar 2) (jJa (tC (.ty "bool")) tNil)))) (tNot (jJs (jZg rLeF rLt (tC (.int 0)) (tVar 2) (tCB rLen (jJa (tVar 0) tNil))))))) (tRet (tC (.bl false))) jJ8))
 (tRet (tC (.bl true)))))
theorem qU3 {n:Nat} {d:PyData} {ds:List PyData} (h:seqD d=some ds) (hl:ds.length=2):jQg n d=ds.all (jV5 n):=by
 match ds,hl with
 | [x,y],_=>rw[kXw h];simp
theorem kJv:RdOk jVb jVh kV9:=by
 intro xs G Q h_;apply xe3 h_;clear h_;intro W x d h_;apply ae2 h_;clear h_;intro h kk
 show jVh _ [some (.tup (W.map encR)),some x,none] G
 have hs:=sz
 obtain⟨i1,_,i2⟩:=jZ7 h
 wp_walk using 1,jVh,rIsi,i1,jJ0,iSeq
 refine⟨by omega,?_⟩
 cases e:seqD d with
 | none=>
  rw[lJc (by simp)]
  have:=kk G (.refl _)
  rw[kQy e] at this
  exact this
 | some ds=>
  rw[lJb (by simp)]
  obtain⟨xs,hx,hr⟩:=i2 ds e
  have hlen:=jXo hr
  wp_walk using 1,rNeA,hx
  refine⟨decide (xs.length=2),jKw (c:=2),?_⟩
  by_cases c:xs.length=2
  rotate_left
  ·rw[lJo c,lJc rfl]
   have:=kk G (.refl _)
   rw[kXx e (by omega)] at this
   exact this
  rw[lJn c,lJb (by decide)]
  rw[qU3 e (by omega)] at kk
  have fin:=kk G (.refl _)
  let J1:Nat->St3->Gp->Prop:=fun k τ G'=>∃(v2:Option T),τ=[some (.tup (W.map encR)),some x,v2]/\(ds.take k).all (jV5 W.length)=true/\G'=G
  refine⟨J1,?_,?_,?_,?_⟩
  ·exact⟨none,rfl,rfl,rfl⟩
  ·intro k τ G' hk h_;apply xe1 h_;clear h_;intro v2 h_;apply ae2 h_;clear h_;intro j1 e1_
   subst e1_
   exact hx
  ·intro k y τ G1 hy h_;apply xe1 h_;clear h_;intro v2 h_;apply ae2 h_;clear h_;intro j1 e1_
   subst e1_
   have hkl:=(lJf.mp hy).1
   have hd:ds[k]? =some ds[k]:=lJg (by omega)
   obtain⟨y',hy',rd⟩:=qJk hr hd
   rw[hy] at hy';cases hy'
   have hst:=jY6 (f:=jV5 W.length) hd
   rw[j1,lK7] at hst
   generalize ds[k]=dd at hd rd hst
   have bad:jV5 W.length dd=false->Q (.bl false) G1:=fun e=>by
    rw[jY7 (hst.trans e)] at fin
    exact fin
   obtain⟨p,q,n1,n2,n3⟩:=qKr rd
   cases rd with
   | int i=>
    wp_walk using 1,rIsi,show isiT G1 (.int i) (.ty "bool")=some false from rfl,show isiT G1 (.int i) (.ty "int")=some true from rfl,jZg,rLeF,lJe
    have hri:jV5 W.length (.int i)=(decide (0<=i)&&decide (i<(W.length:Nat))):=rfl
    rw[hri] at hst bad
    by_cases c0:0<=i
    ·rw[lJc c0]
     rw[lJn c0,lK7] at hst bad
     by_cases c1:i<(W.length:Nat)
     ·rw[lJb (by simpa using c1)]
      exact⟨_,rfl,by rw[hst];exact lJn c1,rfl⟩
     ·rw[lJc (by simpa using c1)]
      exact bad (lJo c1)
    ·rw[lJb c0]
     exact bad (by rw[lJo c0];rfl)
   | non=>wp_walk using 1,rIsi,n1,n2;cases p<;>cases q<;>first | exact bad rfl | cases n3
   | bl b=>wp_walk using 1,rIsi,n1,n2;cases p<;>cases q<;>first | exact bad rfl | cases n3
   | str b=>wp_walk using 1,rIsi,n1,n2;cases p<;>cases q<;>first | exact bad rfl | cases n3
   | tup b=>wp_walk using 1,rIsi,n1,n2;cases p<;>cases q<;>first | exact bad rfl | cases n3
   | lst b1 b2=>wp_walk using 1,rIsi,n1,n2;cases p<;>cases q<;>first | exact bad rfl | cases n3
  ·intro τ G1 h_;apply xe1 h_;clear h_;intro v2 h_;apply ae2 h_;clear h_;intro j1 e1_
   subst e1_
   rw[<-hlen,lK5] at j1
   wp_walk using 1,tSeq
   rw[j1] at fin
   exact fin
noncomputable def jYx:Sp3:=fun xs G Q=>∃(W:Web) (a b:Nat) (x:T) (d:PyData),xs=[encW W,.int (a:Nat),.int (b:Nat),x]/\AnyWeb W/\RdG G x d/\(∀ds,seqD d=some ds->ds.length<=5000)/\∀G',Sub G G'->Q (.bl (nvB W a b d)) G'
def uJd:List Str:=["_law_web_here","_law_a","_law_b","_law_thing","_law_some","_law_one","_law_other","_law_left","_law_right","_law_pair"]
noncomputable def kK2:TS3:=
 (tSeq (tIfS (tOr (tNot (jJs (tCB rIsi (jJa (tVar 3) (jJa (tTup (jJa (tC (.ty "tuple")) (jJa (tC (.ty "list")) tNil))) tNil))))) (tNot (jJs (tCB rAll (jJa (jKz [false,false,false,false,false,false,false,false,false,true] (iSeq (tVar 3)) (jJh 9) jQ2 (jJp jVb (jJa (tVar 0) (jJa (tVar 9) tNil)))) tNil))))) (tRet (tC (.bl false))) jJ8)
 (tSeq (tAsg (jKz [false,false,false,false,false,false,false,false,false,true] (iSeq (tVar 3)) (jJh 9) jQ2 (tTup (jJa (tOp rIxF (tVar 9) (tC (.int 0))) (jJa (tOp rIxF (tVar 9) (tC (.int 1))) tNil)))) (jJh 4))
 (tSeq (tIfS (tOr (jJs (tOp jZs (tTup (jJa (tVar 1) (jJa (tVar 2) tNil))) (tVar 4))) (jJs (tCB rAny (jJa (jKz [false,false,false,false,false,true,true,false,false,false] (iSeq (tVar 4)) (gTup 2 (jKd (jJh 5) (jKd (jJh 6) gNil))) jQ2 (tOp rEqA (tVar 5) (tVar 6))) tNil)))) (tRet (tC (.bl false))) jJ8)
 (tSeq (tFor (iSeq (tVar 4)) (gTup 2 (jKd (jJh 5) (jKd (jJh 6) gNil))) (tSeq (tIfS (jJs (tOp rNeA (tCB rLen (jJa (tOp rIxF (tVar 0) (tVar 5)) tNil)) (tCB rLen (jJa (tOp rIxF (tVar 0) (tVar 6)) tNil)))) (tRet (tC (.bl false))) jJ8)
 (tFor (iZip (jJa (tOp rIxF (tVar 0) (tVar 5)) (jJa (tOp rIxF (tVar 0) (tVar 6)) tNil))) (gTup 2 (jKd (jJh 7) (jKd (jJh 8) gNil))) (tIfS (tOr (jJs (tOp rNeA (tOp rIxF (tVar 7) (tC (.int 1))) (tOp rIxF (tVar 8) (tC (.int 1))))) (jJs (tOp jZs (tTup (jJa (tOp rIxF (tVar 7) (tC (.int 0))) (jJa (tOp rIxF (tVar 8) (tC (.int 0))) tNil))) (tVar 4)))) (tRet (tC (.bl false))) jJ8))))
 (tRet (tC (.bl true)))))))
theorem qKa {W:Web} {a b:Nat} {d:PyData} (h:prsD W.length d=none):nvB W a b d=false:=by unfold nvB;rw[h]
theorem qJ9 {W:Web} {a b:Nat} {d:PyData} {S:List (Nat×Nat)} (h:prsD W.length d=some S):nvB W a b d=((S.contains (a,b)&&S.all (jVz W S))&&S.all fun p=> !decide (p.1=p.2)):=by unfold nvB;rw[h]
theorem any_eq {S:List (Nat×Nat)}:(S.map fun p=>decide (p.1=p.2)).any (fun x=>x)= !S.all fun p=> !decide (p.1=p.2):=by
 induction S with
 | nil=>rfl
 | cons p S ih=>rw[lJr,lK1,ih,lQd];cases decide (p.1=p.2)<;>rfl
theorem kYw:RdOk jYx kK2 uJd:=by
 intro xs G Q h_;apply xe5 h_;clear h_;intro W a b x d h_;apply ae4 h_;clear h_;intro any h hl kk
 show kK2 _ [some (.tup (W.map encR)),some (.int (a:Nat)),some (.int (b:Nat)),some x,none,none,none,none,none,none] G
 have hs:=sz
 obtain⟨i1,_,i2⟩:=jZ7 h
 wp_walk using 1,kK2,rIsi,i1,iSeq,jJ0
 refine⟨by omega,?_⟩
 cases e:seqD d with
 | none=>
  rw[lJc (by simp)]
  have:=kk G (.refl _)
  rw[qKa (kXt e)] at this
  exact this
 | some ds=>
  rw[lJb (by simp)]
  have hdl:=hl ds e
  obtain⟨xs,hx,hr⟩:=i2 ds e
  obtain⟨ps,h1,h2,h3⟩:=jY0 hr
  have hpl:ps.length<=5000:=by rw[h2,lJe] at hdl;exact hdl
  rw[h1] at hx
  refine⟨_,hx,?_⟩
  refine jKt (es:=ps) (enc:=(·.1)) (fun p=>T.bl (jQg W.length p.2)) (by omega) (fun G' s=>jQy hx s) ?_ ?_
  ·intro i p hpi G' K K0 s hK
   wp_walk using 1,tSeq
   exact⟨W,p.1,p.2,rfl,jQl s (h3 p (lJl hpi)),fun G2 s2=>hK G2 s2⟩
  intro D G1 hD d1 s1
  refine⟨D,_,_,rfl,d1,jUo (f:=fun p:T×PyData=>jQg W.length p.2),_,rfl,?_⟩
  have hall:(ps.all fun p=>jQg W.length p.2)=ds.all (jQg W.length):=by rw[h2,List.all_map];rfl
  rw[hall]
  cases c1:ds.all (jQg W.length) with
  | false=>
   rw[lJc rfl]
   have:=kk G1 s1
   rw[qKa (qJs e c1)] at this
   exact this
  | true=>
   rw[lJb (by decide)]
   rw[qJ9 (kK6 e c1)] at kk
   have hx1:=jQy hx s1
   refine⟨_,hx1,?_⟩
   have hS:ds.map toP=ps.map fun p=>toP p.2:=by rw[h2,lJx];rfl
   rw[hS] at kk
   have hpp:∀p,p∈ps->jQg W.length p.2=true:=fun p hp=>lKk.mp (hall.trans c1) p hp
   refine jKt (es:=ps) (enc:=(·.1)) (fun p=>encE (toP p.2)) (by omega) (fun G' s=>jQy hx1 s) ?_ ?_
   ·intro i p hpi G' K K0 s hK
    have hm:=lJl hpi
    have rd:=jQl (s1.trans s) (h3 p hm)
    obtain⟨_,_,r3⟩:=jXq rd (hpp p hm)
    wp_walk using 1,tSeq
    exact⟨_,jYi rd r3 (i:=0) rfl,_,jYi rd r3 (i:=1) rfl,by omega,hK G' (.refl _)⟩
   intro q G2 hq d2 s2
   generalize hSS:(ps.map fun p=>toP p.2)=S at kk
   have d2:G2 q=some (.lst (S.map encE)):=by rw[d2,<-hSS,lJx];rfl
   have hSl:S.length<=5000:=by rw[<-hSS,lJe];exact hpl
   have hlt:∀q,q∈S->q.1<W.length/\q.2<W.length:=fun q hq=>by
    rw[<-hSS] at hq
    (obtain⟨p,hp,rfl⟩:=lJj.mp hq)
    obtain⟨r1,r2,_⟩:=jXq (h3 p hp) (hpp p hp)
    exact⟨r1,r2⟩
   have s12:=s1.trans s2
   refine⟨by omega,qKd d2 ⟨_,rfl,?_⟩⟩
   cases c2:S.contains (a,b) with
   | false=>
    have:=kk G2 s12
    rw[c2] at this
    (rw[lJc (show (!false)=true from rfl)])
    exact this
   | true=>
    rw[lJb (by decide)]
    rw[c2,lK7] at kk
    refine⟨_,jJn d2,?_⟩
    refine jKt (es:=S) (enc:=encE) (fun p=>T.bl (decide (p.1=p.2))) (by omega) (fun G' s=>jJn (s _ _ d2)) ?_ ?_
    ·intro i p hpi G' K K0 s hK
     wp_walk using 1,encE,rEqA,jKw
     exact hK G' (.refl _)
    intro D3 G3 hD3 d3 s3
    refine⟨D3,S.map fun p=>decide (p.1=p.2),rfl,by rw[d3,lJx];rfl,_,rfl,?_⟩
    rw[any_eq]
    cases c3:S.all fun p=> !decide (p.1=p.2) with
    | false=>
     have:=kk G3 (s12.trans s3)
     rw[c3,Bool.and_false] at this
     (rw[lJc (show (!false)=true from rfl)])
     exact this
    | true=>
     rw[lJb (by decide)]
     rw[c3,Bool.and_true] at kk
     have d3':=s3 _ _ d2
     refine⟨_,jJn d3',?_⟩
     have s13:=s12.trans s3
     let J1:Nat->St3->Gp->Prop:=fun k τ G'=>∃(v5 v6 v7 v8:Option T),τ=[some (.tup (W.map encR)),some (.int (a:Nat)),some (.int (b:Nat)),some x,some (.ref q),v5,v6,v7,v8,none]/\(S.take k).all (jVz W S)=true/\G'=G3
     refine⟨J1,?_,?_,?_,?_⟩
     ·exact⟨none,none,none,none,rfl,rfl,rfl⟩
     ·intro k τ G' hk h_;apply xe4 h_;clear h_;intro v5 v6 v7 v8 h_;apply ae2 h_;clear h_;intro j1 e1_
      subst e1_
      exact jJn d3'
     ·intro k y τ G4 hy h_;apply xe4 h_;clear h_;intro v5 v6 v7 v8 h_;apply ae2 h_;clear h_;intro j1 e1_
      subst e1_
      obtain⟨p,hp,rfl⟩:=jKs hy
      obtain⟨l1,l2⟩:=hlt p (lJl hp)
      have w1:W[p.1]? =some (row W p.1):=by unfold row;rw[lJg l1];rfl
      have w2:W[p.2]? =some (row W p.2):=by unfold row;rw[lJg l2];rfl
      have hst:=jY6 (f:=jVz W S) hp
      rw[j1,lK7] at hst
      have bad:jVz W S p=false->Q (.bl false) G4:=fun e=>by
       have:=kk G4 s13
       rw[jY7 (hst.trans e)] at this
       exact this
      wp_walk using 1,encE,rNeA,jUg w1,jUg w2,encR,List.length_map,jKw,jJ0,iZip
      unfold jVz at hst bad
      generalize row W p.1=es at w1 hst bad ⊢
      generalize row W p.2=fs at w2 hst bad ⊢
      by_cases c4:es.length=fs.length
      rotate_left
      ·rw[lJo c4,lJc rfl]
       exact bad (by rw[lJo c4];rfl)
      rw[lJn c4,lJb (by decide)]
      rw[lJn c4,lK7] at hst bad
      rw[zipE]
      let J2:Nat->St3->Gp->Prop:=fun i τ G'=>∃(v7 v8:Option T),τ=[some (.tup (W.map encR)),some (.int (a:Nat)),some (.int (b:Nat)),some x,some (.ref q),some (.int (p.1:Nat)),some (.int (p.2:Nat)),v7,v8,none]/\((es.zip fs).take i).all (fun eg=>decide (eg.1.2=eg.2.2)&&S.contains (eg.1.1,eg.2.1))=true/\G'=G4
      refine⟨J2,?_,?_,?_,?_⟩
      ·exact⟨_,_,rfl,rfl,rfl⟩
      ·intros;trivial
      ·intro i z τ G5 hz h_;apply xe2 h_;clear h_;intro v7 v8 h_;apply ae2 h_;clear h_;intro m1 e1_
       subst e1_
       obtain⟨eg,heg,rfl⟩:=jKs hz
       have hst2:=jY6 (f:=fun eg:(Nat×Nat)×(Nat×Nat)=>decide (eg.1.2=eg.2.2)&&S.contains (eg.1.1,eg.2.1)) heg
       rw[m1,lK7] at hst2
       have bad2:(decide (eg.1.2=eg.2.2)&&S.contains (eg.1.1,eg.2.1))=false->Q (.bl false) G5:=fun e=>bad (jY7 (hst2.trans e))
       wp_walk using 1,encE,rNeA,jKw
       by_cases c5:eg.1.2=eg.2.2
       ·rw[lJn c5] at hst2 bad2
        rw[lJn c5,lJb (by decide)]
        refine⟨by omega,qKd d3' ⟨_,rfl,?_⟩⟩
        cases c6:S.contains (eg.1.1,eg.2.1) with
        | true=>rw[lJb (by decide)];exact⟨_,_,rfl,by rw[hst2,c6];rfl,rfl⟩
        | false=>rw[lJc (show (!false)=true from rfl)];exact bad2 (by rw[c6];rfl)
       ·rw[lJo c5,lJc rfl]
        exact bad2 (by rw[lJo c5];rfl)
      ·intro τ G5 h_;apply xe2 h_;clear h_;intro v7 v8 h_;apply ae2 h_;clear h_;intro m1 e1_
       subst e1_
       rw[lJe,lK5] at m1
       rw[m1] at hst
       exact⟨_,_,_,_,rfl,hst,rfl⟩
     ·intro τ G4 h_;apply xe4 h_;clear h_;intro v5 v6 v7 v8 h_;apply ae2 h_;clear h_;intro j1 e1_
      subst e1_
      rw[lJe,lK5] at j1
      wp_walk using 1,tSeq
      have:=kk G4 s13
      rw[j1] at this
      exact this
structure ClI (W:Web) (a b k:Nat) (F:List (Nat×Nat)):Prop where
 nd:F.Nodup
 lt:∀p,p∈F->p.1<W.length/\p.2<W.length
 hd:(a,b)∈F
 got:∀P:Nat->Nat->Prop,P a b->(∀x y i e g,P x y->en W x i=some e->en W y i=some g->P e.1 g.1)->∀p,p∈F->P p.1 p.2
 cl:∀(j:Nat) (p:Nat×Nat),j<k->F[j]? =some p->∀i e g,en W p.1 i=some e->en W p.2 i=some g->(e.1,g.1)∈F
theorem dm {e g n:Nat} (h:g<n):(e*n+g) / n=e/\(e*n+g)%n=g:=by
 rw[lXb]
 exact⟨by rw[Nat.mul_add_div (by omega),lXp h];omega,by rw[Nat.mul_add_mod,lQg h]⟩
theorem kXu {n:Nat}:∀ {F:List (Nat×Nat)},F.Nodup->(∀p,p∈F->p.1<n/\p.2<n)->(F.map fun p=>p.1*n+p.2).Nodup
 | [],_,_=>by simp
 | p::F,nd,lt=>by
  rw[lKm] at nd
  (rw[lJr,lKm])
  refine⟨fun z=> ?_,kXu nd.2 fun q hq=>lt q (lJ2 _ hq)⟩
  obtain⟨q,hq,e⟩:=lJj.mp z
  have h1:=dm (e:=p.1) (lt p (lJ1 ..)).2
  have h2:=dm (e:=q.1) (lt q (lJ2 _ hq)).2
  rw[e] at h2
  have:q=p:=Prod.ext (h2.1.symm.trans h1.1) (h2.2.symm.trans h1.2)
  exact nd.1 (this▸hq)
theorem kQx {n:Nat} {F:List (Nat×Nat)} (nd:F.Nodup) (lt:∀p,p∈F->p.1<n/\p.2<n):F.length<=n*n:=by
 have h:=jVr (n:=n*n) (kXu nd lt) fun x hx=>by
  obtain⟨p,hp,rfl⟩:=lJj.mp hx
  obtain⟨h1,h2⟩:=lt p hp
  have:p.1*n+n<=n*n:=by rw[<-lQp];exact lXt _ h1
  omega
 rwa [lJe] at h
structure Clo (W:Web) (a b:Nat) (F:List (Nat×Nat)):Prop where
 lt:∀p,p∈F->p.1<W.length/\p.2<W.length
 hd:(a,b)∈F
 got:∀P:Nat->Nat->Prop,P a b->(∀x y i e g,P x y->en W x i=some e->en W y i=some g->P e.1 g.1)->∀p,p∈F->P p.1 p.2
 cl:∀p,p∈F->∀i e g,en W p.1 i=some e->en W p.2 i=some g->(e.1,g.1)∈F
 len:F.length<=600
noncomputable def jQk:Sp3:=fun xs G Q=>∃(W:Web) (a b:Nat),xs=[encW W,.int (a:Nat),.int (b:Nat)]/\AnyWeb W/\a<W.length/\b<W.length/\∀q F G',G q=none->G' q=some (.lst (F.map encE))->Clo W a b F->Sub G G'->Q (.ref q) G'
def kZq:List Str:=["_law_web_here","_law_a","_law_b","_law_found","_law_at","_law_left","_law_right"]
noncomputable def jV8:TS3:=
 (tSeq (tAsg (tLst (jJa (tTup (jJa (tVar 1) (jJa (tVar 2) tNil))) tNil)) (jJh 3))
 (tSeq (tAsg (tC (.int 0)) (jJh 4))
 (tSeq (jXf (jJs (tOp rLt (tVar 4) (tCB rLen (jJa (tVar 3) tNil)))) (tSeq (tFor (iZip (jJa (tOp rIxF (tVar 0) (tOp rIxF (tOp rIxF (tVar 3) (tVar 4)) (tC (.int 0)))) (jJa (tOp rIxF (tVar 0) (tOp rIxF (tOp rIxF (tVar 3) (tVar 4)) (tC (.int 1)))) tNil))) (gTup 2 (jKd (jJh 5) (jKd (jJh 6) gNil))) (tIfS (jJs (tOp jZs (tTup (jJa (tOp rIxF (tVar 5) (tC (.int 0))) (jJa (tOp rIxF (tVar 6) (tC (.int 0))) tNil))) (tVar 3))) (jUq (tBM "list" jKv (tVar 3) (jJa (tTup (jJa (tOp rIxF (tVar 5) (tC (.int 0))) (jJa (tOp rIxF (tVar 6) (tC (.int 0))) tNil))) tNil))) jJ8))
 (tAsg (tOp jJr (tVar 4) (tC (.int 1))) (jJh 4))))
 (tRet (tVar 3)))))
theorem kKy:RdOk jQk jV8 kZq:=by
 intro xs G Q h_;apply xe3 h_;clear h_;intro W a b h_;apply ae4 h_;clear h_;intro any ha hb kk
 show jV8 _ [some (.tup (W.map encR)),some (.int (a:Nat)),some (.int (b:Nat)),none,none,none,none] G
 have hs:=sz
 have fine:=any.fine
 have hW2:=any.len
 have hWW:W.length*W.length<=576:=Nat.mul_le_mul hW2 hW2
 wp_walk using 1,jV8,jXf,jJ0,iZip
 refine⟨by omega,by omega,fun q hq=> ?_⟩
 refine⟨fun m τ G'=>∃(k:Nat) (v5 v6:Option T) (F:List (Nat×Nat)),τ=[some (.tup (W.map encR)),some (.int (a:Nat)),some (.int (b:Nat)),some (.ref q),some (.int (k:Nat)),v5,v6]/\G' q=some (.lst (F.map encE))/\ClI W a b k F/\Sub G G'/\m=W.length*W.length-k,?_,?_⟩
 ·refine⟨_,0,none,none,[(a,b)],rfl,jJi,⟨by simp,fun p hp=> ?_,by simp,fun P h0 _ p hp=> ?_,fun j p hj=>absurd hj (lKt _)⟩,.new hq,rfl⟩
  ·cases lJz.mp hp;exact⟨ha,hb⟩
  ·cases lJz.mp hp;exact h0
 intro m τ G1 h_;apply xe4 h_;clear h_;intro k v5 v6 F h_;apply ae4 h_;clear h_;intro h1 ci s1 e3_
 subst e3_
 have hFl:=kQx ci.nd ci.lt
 wp_walk using 1,jJn h1,List.length_map
 by_cases c:k<F.length
 ·rw[lJc (by omega)]
  have hp:F[k]? =some F[k]:=lJg c
  generalize F[k]=p at hp
  obtain⟨l1,l2⟩:=ci.lt p (lJl hp)
  have w1:W[p.1]? =some (row W p.1):=by unfold row;rw[lJg l1];rfl
  have w2:W[p.2]? =some (row W p.2):=by unfold row;rw[lJg l2];rfl
  refine⟨fun τ' G'=>∃(v5 v6:Option T) (F':List (Nat×Nat)),τ'=[some (.tup (W.map encR)),some (.int (a:Nat)),some (.int (b:Nat)),some (.ref q),some (.int ((k+1:Nat):Int)),v5,v6]/\G' q=some (.lst (F'.map encE))/\ClI W a b (k+1) F'/\Sub G G',?_,?_⟩
  ·intro τ' G' h_;apply xe3 h_;clear h_;intro v5 v6 F' h_;apply ae3 h_;clear h_;intro i1 i2 i3
   exact⟨W.length*W.length-(k+1),by omega,k+1,v5,v6,rfl,F',i1,i2,i3,rfl⟩
  have atp:L2.atI (F.map encE) (k:Int)=some (encE p):=by rw[atN,lJq,hp];rfl
  wp_walk using 1,jJ1 h1,atp,encE,jUg w1,jUg w2,encR
  have hzip:zipT ((row W p.1).map encE) ((row W p.2).map encE)=((row W p.1).zip (row W p.2)).map fun eg=>T.tup [encE eg.1,encE eg.2]:=zipE
  have hen:∀(i:Nat) (eg:(Nat×Nat)×(Nat×Nat)),((row W p.1).zip (row W p.2))[i]? =some eg->en W p.1 i=some eg.1/\en W p.2 i=some eg.2:=fun i eg h=>by
   obtain⟨z1,z2⟩:=lVp.mp h
   exact⟨jQt w1 z1,jQt w2 z2⟩
  have hne:∀i e g,en W p.1 i=some e->en W p.2 i=some g->((row W p.1).zip (row W p.2))[i]? =some (e,g):=fun i e g he hg=>by
   obtain⟨es,z1,z2⟩:=jKx he
   obtain⟨fs,z3,z4⟩:=jKx hg
   rw[w1] at z1;cases z1
   rw[w2] at z3;cases z3
   exact lVp.mpr ⟨z2,z4⟩
  rw[hzip]
  generalize (row W p.1).zip (row W p.2)=zs at hen hne
  let J2:Nat->St3->Gp->Prop:=fun i τ G'=>∃(v5 v6:Option T) (F':List (Nat×Nat)),τ=[some (.tup (W.map encR)),some (.int (a:Nat)),some (.int (b:Nat)),some (.ref q),some (.int (k:Nat)),v5,v6]/\G' q=some (.lst (F'.map encE))/\(∃E,F'=F++E)/\ClI W a b k F'/\(∀(j:Nat) (eg:(Nat×Nat)×(Nat×Nat)),j<i->zs[j]? =some eg->(eg.1.1,eg.2.1)∈F')/\Sub G G'
  refine⟨J2,?_,?_,?_,?_⟩
  ·exact⟨v5,v6,F,rfl,h1,⟨[],by simp⟩,ci,fun j eg hj=>absurd hj (lKt _),s1⟩
  ·intros;trivial
  ·intro i z τ G2 hz h_;apply xe3 h_;clear h_;intro v5 v6 F' h_;apply ae5 h_;clear h_;intro i1 q1_ i2 i3 i4
   obtain⟨E,iE⟩:=q1_
   obtain⟨eg,heg,rfl⟩:=jKs hz
   obtain⟨e1,e2⟩:=hen i eg heg
   have hF'l:=kQx i2.nd i2.lt
   have hpF:p∈F':=by rw[iE];exact lKx _ (lJl hp)
   wp_walk using 1,encE
   refine⟨by omega,qKd i1 ⟨_,rfl,?_⟩⟩
   cases c2:F'.contains (eg.1.1,eg.2.1) with
   | true=>
    rw[lJb (by decide)]
    refine⟨_,_,F',rfl,i1,⟨E,iE⟩,i2,fun j eg' hj hj'=> ?_,i4⟩
    rcases Nat.lt_or_eq_of_le (lVe hj) with y | rfl
    ·exact i3 j eg' y hj'
    ·rw[heg] at hj';cases hj';exact lVr.mp c2
   | false=>
    (rw[lJc (show (!false)=true from rfl)])
    have hnm:(eg.1.1,eg.2.1)∉F':=fun z=>by rw[lVr.mpr z] at c2;cases c2
    wp_walk using 1,jKu i1,i1
    refine⟨by omega,by rw[lJe];omega,?_⟩
    refine⟨_,_,F'++[(eg.1.1,eg.2.1)],rfl,by rw[jJi,lK6];rfl,⟨E++[(eg.1.1,eg.2.1)],by rw[iE,lXy]⟩,⟨?_,fun r hr=> ?_,lKx _ i2.hd,fun P h0 hc r hr=> ?_,fun j r hj hr i' e g he hg=> ?_⟩,fun j eg' hj hj'=> ?_,i4.over hq⟩
    ·rw[lVq]
     exact⟨i2.nd,by simp,fun x hx y hy z=>by cases lJz.mp hy;subst z;exact hnm hx⟩
    ·rcases (lKc.mp hr) with hr | hr
     ·exact i2.lt r hr
     ·cases lJz.mp hr
      exact⟨fine.rng _ _ _ _ e1,fine.rng _ _ _ _ e2⟩
    ·rcases (lKc.mp hr) with hr | hr
     ·exact i2.got P h0 hc r hr
     ·cases lJz.mp hr
      exact hc p.1 p.2 i eg.1 eg.2 (i2.got P h0 hc p hpF) e1 e2
    ·have hjl:j<F'.length:=by
      have:F.length<=F'.length:=by rw[iE,lKd];omega
      omega
     rw[lQc hjl] at hr
     exact lKx _ (i2.cl j r hj hr i' e g he hg)
    ·rcases Nat.lt_or_eq_of_le (lVe hj) with y | rfl
     ·exact lKx _ (i3 j eg' y hj')
     ·rw[heg] at hj';cases hj';simp
  ·intro τ G2 h_;apply xe3 h_;clear h_;intro v5 v6 F' h_;apply ae5 h_;clear h_;intro i1 q1_ i2 i3 i4
   obtain⟨E,iE⟩:=q1_
   rw[lJe] at i3
   wp_walk using 1,tSeq
   refine⟨by omega,F',i1,⟨i2.nd,i2.lt,i2.hd,i2.got,fun j r hj hr i' e g he hg=> ?_⟩,i4⟩
   rcases Nat.lt_or_eq_of_le (lVe hj) with y | rfl
   ·exact i2.cl j r y hr i' e g he hg
   ·rw[iE,lQc c,hp] at hr
    cases hr
    have hz:=hne i' e g he hg
    exact i3 i' (e,g) (lJf.mp hz).1 hz
 ·rw[lJb (by omega)]
  have hk:F.length<=k:=by omega
  exact kk q F G1 hq h1 ⟨ci.lt,ci.hd,ci.got,fun p hp i e g he hg=>by
   obtain⟨j,hj⟩:=lJ8 hp
   exact ci.cl j p (by have:=(lJf.mp hj).1;omega) hj i e g he hg,by omega⟩ s1
def R0 (b:Addr) (G:Gp) (x:T):Prop:=∃d,RdG (er b G) x d
def Th (b:Addr) (G:Gp) (x:T):Prop:=∃d,RdG (er b G) x d/\∀ds,seqD d=some ds->ds.length<=5000
theorem Th.r0 {b:Addr} {G:Gp} {x:T} (h:Th b G x):R0 b G x:=let ⟨d,h1,_⟩:=h;⟨d,h1⟩
theorem Th.keep {b:Addr} {G G':Gp} {x:T} (h:Th b G x) (q:Keep b G G'):Th b G' x:=let ⟨d,h1,h2⟩:=h;⟨d,jQl (qK5 q) h1,h2⟩
theorem R0.keep {b:Addr} {G G':Gp} {x:T} (h:R0 b G x) (q:Keep b G G'):R0 b G' x:=let ⟨d,h1⟩:=h;⟨d,jQl (qK5 q) h1⟩
theorem r0s {b:Addr} {G:Gp}:∀xs:List T,(∀x,x∈xs->R0 b G x)->∃ds,RdGs (er b G) xs ds
 | [],_=>⟨[],.nil⟩
 | x::xs,h=>by
  obtain⟨ds,h1⟩:=r0s xs fun y hy=>h y (lJ2 _ hy)
  obtain⟨d,g1⟩:=h x (lJ1 ..)
  exact⟨d::ds,.cons g1 h1⟩
theorem jU8 {b:Addr} {G:Gp} {xs:List T} (h:∀x,x∈xs->R0 b G x) (hl:xs.length<=5000):Th b G (.tup xs):=by
 obtain⟨ds,h1⟩:=r0s xs h
 exact⟨_,.tup h1,fun ds' e=>by cases e;rw[jXo h1];exact hl⟩
theorem jYh {b:Addr} {G:Gp} {p:Addr} {xs:List T} (hp:G p=some (.lst xs)) (hb:p≠b) (h:∀x,x∈xs->R0 b G x) (hl:xs.length<=5000):Th b G (.ref p):=by
 obtain⟨ds,h1⟩:=r0s xs h
 exact⟨_,.lst (by rw[er_ne hb];exact hp) h1,fun ds' e=>by cases e;rw[jXo h1];exact hl⟩
theorem th_n {b:Addr} {G:Gp} {x:T} {d:PyData} (h:RdG (er b G) x d) (e:seqD d=none):Th b G x:=⟨d,h,fun ds z=>by rw[e] at z;cases z⟩
theorem r0_i {b:Addr} {G:Gp} {i:Int}:R0 b G (.int i):=⟨_,.int i⟩
theorem mem2 {P:T->Prop} {x:T} {xs:List T} (h:P x) (hs:∀y,y∈xs->P y):∀y,y∈x::xs->P y:=fun y hy=>by
 rcases (lJv.mp hy) with rfl | hy
 ·exact h
 ·exact hs y hy
theorem mem0 {P:T->Prop}:∀y:T,y∈[]->P y:=fun y hy=>nomatch hy
theorem qY6 {P:T->Prop} {xs ys:List T} (h:∀y,y∈xs->P y) (g:∀y,y∈ys->P y):∀y,y∈xs++ys->P y:=fun y hy=>by
 rcases (lKc.mp hy) with hy | hy
 ·exact h y hy
 ·exact g y hy
theorem r0_e {b:Addr} {G:Gp} {e:Nat×Nat}:R0 b G (encE e):=(jU8 (mem2 r0_i (mem2 r0_i mem0)) (by simp)).r0
theorem kK5 {b:Addr} {G:Gp} {F:List (Nat×Nat)}:∀x,x∈F.map encE->R0 b G x:=fun x hx=>by
 obtain⟨e,_,rfl⟩:=lJj.mp hx
 exact r0_e
theorem qQh {xs:List T} {lo hi:Option Int}:(cutT xs lo hi).length<=xs.length:=by
 unfold cutT;rw[lQy,lXm];omega
theorem qQg {xs:List T} {lo hi:Option Int} {x:T} (h:x∈cutT xs lo hi):x∈xs:=by
 unfold cutT at h;exact List.mem_of_mem_drop (List.mem_of_mem_take h)
def jVo:Sp3:=fun xs G Q=>∃(b:Addr) (n:Nat),xs=[.ref b]/\BoxAt G b n/\n+10<2^40/\∀t G',Th b G' t->BoxAt G' b (n+1)->Keep b G G'->Q t G'
def uJc:List Str:=["_law_box_here","_law_some"]
noncomputable def kK1:TS3:=
 (tSeq (tAsg (tLst (jJa (tC .non) (jJa (tC (.bl true)) (jJa (tUn rNeg (tC (.int 1))) (jJa (tC (.int 99)) (jJa (tC (.str (PySem.Str.ofString "room"))) (jJa (tTup tNil) (jJa (tLst tNil) (jJa (tTup (jJa (tC (.int 0)) tNil)) (jJa (tTup (jJa (tC (.int 0)) (jJa (tC (.int 0)) tNil))) (jJa (tTup (jJa (tC (.int 0)) (jJa (tC (.int 1)) (jJa (tC (.int 2)) tNil)))) (jJa (tTup (jJa (tC (.bl true)) (jJa (tC (.int 0)) tNil))) (jJa (tTup (jJa (tTup (jJa (tC (.int 0)) (jJa (tC (.int 1)) tNil))) tNil)) tNil))))))))))))) (jJh 1))
 (tSeq (tAsg (tOp jJr (tVar 1) (tLst (jJa (tLst (jJa (tC (.int 1)) (jJa (tC (.int 0)) tNil))) (jJa (tTup (jJa (tC (.int 0)) (jJa (tC (.int 99)) tNil))) (jJa (tTup (jJa (tC (.str (PySem.Str.ofString "a"))) (jJa (tC (.str (PySem.Str.ofString "b"))) tNil))) tNil))))) (jJh 1))
 (tRet (tOp rIxF (tVar 1) (jJp jJl (jJa (tVar 0) (jJa (tCB rLen (jJa (tVar 1) tNil)) tNil)))))))
theorem kYv:RdOk jVo kK1 uJc:=by
 intro xs G Q h_;apply xe2 h_;clear h_;intro b n h_;apply ae3 h_;clear h_;intro hb hn kk
 show kK1 _ [some (.ref b),none] G
 have hs:=sz
 obtain⟨bo,hbo⟩:=hb.some
 wp_walk using 1,kK1,tUn,rNeg
 refine⟨by omega,by omega,fun p0 h0=> ?_⟩
 have b0:=jJf hbo h0
 have g0:(gup G p0 (GO.lst [])) p0=some (.lst []):=jJi
 have k0:Keep b G (gup G p0 (GO.lst [])):= .new h0
 have x0:=hb.gup (o:=GO.lst []) b0
 generalize gup G p0 (GO.lst [])=G0 at g0 k0 x0 ⊢
 refine⟨by omega,by omega,by omega,by omega,by omega,by omega,by omega,fun p1 h1=> ?_⟩
 obtain⟨bo0,hbo0⟩:=x0.some
 have b1:=jJf hbo0 h1
 obtain⟨L,hL⟩:∃L,L=[T.non,T.bl true,T.int (-1),T.int 99,T.str (Str.ofString "room"),T.tup [],T.ref p0,T.tup [T.int 0],T.tup [T.int 0,T.int 0],T.tup [T.int 0,T.int 1,T.int 2],T.tup [T.bl true,T.int 0],T.tup [T.tup [T.int 0,T.int 1]]]:=⟨_,rfl⟩
 rw[<-hL]
 have g1:(gup G0 p1 (GO.lst L)) p1=some (.lst L):=jJi
 have k1:Keep b G0 (gup G0 p1 (GO.lst L)):= .new h1
 have x1:=x0.gup (o:=GO.lst L) b1
 generalize gup G0 p1 (GO.lst L)=G1 at g1 k1 x1 ⊢
 refine⟨by omega,fun p2 h2=> ?_⟩
 obtain⟨bo1,hbo1⟩:=x1.some
 have b2:=jJf hbo1 h2
 have g2:(gup G1 p2 (GO.lst [T.int 1,T.int 0])) p2=some (.lst [T.int 1,T.int 0]):=jJi
 have k2:Keep b G1 (gup G1 p2 (GO.lst [T.int 1,T.int 0])):= .new h2
 have x2:=x1.gup (o:=GO.lst [T.int 1,T.int 0]) b2
 generalize gup G1 p2 (GO.lst [T.int 1,T.int 0])=G2 at g2 k2 x2 ⊢
 refine⟨by omega,by omega,by omega,fun p3 h3=> ?_⟩
 obtain⟨bo2,hbo2⟩:=x2.some
 have b3:=jJf hbo2 h3
 obtain⟨M,hM⟩:∃M,M=[T.ref p2,T.tup [T.int 0,T.int 99],T.tup [T.str (Str.ofString "a"),T.str (Str.ofString "b")]]:=⟨_,rfl⟩
 rw[<-hM]
 have g3:(gup G2 p3 (GO.lst M)) p3=some (.lst M):=jJi
 have k3:Keep b G2 (gup G2 p3 (GO.lst M)):= .new h3
 have x3:=x2.gup (o:=GO.lst M) b3
 generalize gup G2 p3 (GO.lst M)=G3 at g3 k3 x3 ⊢
 refine⟨_,jZb (k3 _ _ b1.symm (k2 _ _ b1.symm g1)) g3 (by rw[hL,hM];simp;omega),?_⟩
 rw[kJd]
 intro u hu
 obtain⟨bo3,hbo3⟩:=x3.some
 have bu:=jJf hbo3 hu
 have gu:(gup G3 u (GO.lst (L++M))) u=some (.lst (L++M)):=jJi
 have ku:Keep b G3 (gup G3 u (GO.lst (L++M))):= .new hu
 have xu:=x3.gup (o:=GO.lst (L++M)) bu
 generalize gup G3 u (GO.lst (L++M))=G7 at gu ku xu ⊢
 have hl:(L++M).length=15:=by rw[hL,hM];rfl
 refine⟨_,jJn gu,?_⟩
 rw[hl]
 refine⟨b,15,n,rfl,xu,by omega,by omega,by omega,fun c G8 c0 c1 b8 k8=> ?_⟩
 obtain⟨c,rfl⟩:=lJ7 c0
 have hc:c<(L++M).length:=by omega
 refine⟨(L++M)[c],by rw[jJ1 (k8 _ _ bu.symm gu),atN];exact lJg hc,?_⟩
 have k38:=(k3.trans ku).trans k8
 refine kk _ G8 ?_ b8 (((k0.trans k1).trans k2).trans k38)
 have hm:=lQ0 hc
 generalize (L++M)[c]=t at hm
 have q0:=k38 _ _ b0.symm (k2 _ _ b0.symm (k1 _ _ b0.symm g0))
 have q2:=k38 _ _ b2.symm g2
 revert t
 rw[hL,hM]
 have ri:∀i,R0 b G8 (.int i):=fun i=>r0_i
 exact mem2 (th_n .non rfl) (mem2 (th_n (.bl true) rfl) (mem2 (th_n (.int _) rfl) (mem2 (th_n (.int _) rfl) (mem2 (th_n (.str _) rfl) (mem2 (jU8 mem0 (by simp)) (mem2 (jYh q0 b0.symm mem0 (by simp)) (mem2 (jU8 (mem2 (ri 0) mem0) (by simp)) (mem2 (jU8 (mem2 (ri 0) (mem2 (ri 0) mem0)) (by simp)) (mem2 (jU8 (mem2 (ri 0) (mem2 (ri 1) (mem2 (ri 2) mem0))) (by simp)) (mem2 (jU8 (mem2 ⟨_,.bl true⟩ (mem2 (ri 0) mem0)) (by simp)) (mem2 (jU8 (mem2 (jU8 (mem2 (ri 0) (mem2 (ri 1) mem0)) (by simp)).r0 mem0) (by simp)) (mem2 (jYh q2 b2.symm (mem2 (ri 1) (mem2 (ri 0) mem0)) (by simp)) (mem2 (jU8 (mem2 (ri 0) (mem2 (ri 99) mem0)) (by simp)) (mem2 (jU8 (mem2 ⟨_,.str _⟩ (mem2 ⟨_,.str _⟩ mem0)) (by simp)) mem0))))))))))))))
noncomputable def jUi:Sp3:=fun xs G Q=>∃(b:Addr) (W:Web) (q:Addr) (F:List (Nat×Nat)) (n:Nat),xs=[.ref b,encW W,.ref q]/\BoxAt G b n/\n+40<2^40/\AnyWeb W/\q≠b/\G q=some (.lst (F.map encE))/\1<=F.length/\F.length<=600/\∀t G',Th b G' t->BoxAt G' b (n+10)->Keep b G G'->Q t G'
def qXf:List Str:=["_law_box_here","_law_web_here","_law_pairs_here","_law_at","_law_way","_law_other","_law_pair"]
noncomputable def jZr:TS3:=
 (tSeq (tAsg (jJp jJl (jJa (tVar 0) (jJa (tCB rLen (jJa (tVar 2) tNil)) tNil))) (jJh 3))
 (tSeq (tAsg (jJp jJl (jJa (tVar 0) (jJa (tC (.int 8)) tNil))) (jJh 4))
 (tSeq (tAsg (tTup (jJa (jJp jJl (jJa (tVar 0) (jJa (tCB rLen (jJa (tVar 1) tNil)) tNil))) (jJa (jJp jJl (jJa (tVar 0) (jJa (tCB rLen (jJa (tVar 1) tNil)) tNil))) tNil))) (jJh 5))
 (tSeq (tIfS (jJs (tOp rEqA (tVar 4) (tC (.int 0)))) (tRet (tOp jJr (tSl rSlF (tVar 2) jJ2 (jKo (tVar 3))) (tSl rSlF (tVar 2) (jKo (tOp jJr (tVar 3) (tC (.int 1)))) jJ2))) jJ8)
 (tSeq (tIfS (jJs (tOp rEqA (tVar 4) (tC (.int 1)))) (tRet (tOp jJr (tOp jJr (tSl rSlF (tVar 2) jJ2 (jKo (tVar 3))) (tLst (jJa (tVar 5) tNil))) (tSl rSlF (tVar 2) (jKo (tVar 3)) jJ2))) jJ8)
 (tSeq (tIfS (jJs (tOp rEqA (tVar 4) (tC (.int 2)))) (tRet (tOp jJr (tOp jJr (tSl rSlF (tVar 2) jJ2 (jKo (tVar 3))) (tLst (jJa (tVar 5) tNil))) (tSl rSlF (tVar 2) (jKo (tOp jJr (tVar 3) (tC (.int 1)))) jJ2))) jJ8)
 (tSeq (tIfS (jJs (tOp rEqA (tVar 4) (tC (.int 3)))) (tRet (tOp jJr (tVar 2) (tSl rSlF (tVar 2) (jKo (tVar 3)) (jKo (tOp jJr (tVar 3) (tC (.int 1))))))) jJ8)
 (tSeq (tIfS (jJs (tOp rEqA (tVar 4) (tC (.int 4)))) (tRet (tOp jJr (tOp jJr (tSl rSlF (tVar 2) jJ2 (jKo (tVar 3))) (tLst (jJa (kXh (jJa (tOp rIxF (tVar 2) (tVar 3)) tNil)) tNil))) (tSl rSlF (tVar 2) (jKo (tOp jJr (tVar 3) (tC (.int 1)))) jJ2))) jJ8)
 (tSeq (tIfS (jJs (tOp rEqA (tVar 4) (tC (.int 5)))) (tRet (tOp jJr (tOp jJr (tSl rSlF (tVar 2) jJ2 (jKo (tVar 3))) (tLst (jJa (jJp jVo (jJa (tVar 0) tNil)) tNil))) (tSl rSlF (tVar 2) (jKo (tOp jJr (tVar 3) (tC (.int 1)))) jJ2))) jJ8)
 (tSeq (tIfS (jJs (tOp rEqA (tVar 4) (tC (.int 6)))) (tRet (jJp jVo (jJa (tVar 0) tNil))) jJ8)
 (tRet (tCB jKj (jJa (jKz [false,false,false,false,false,false,true] (iRev (jJa (tVar 2) tNil)) (jJh 6) jQ2 (tCB jZu (jJa (tVar 6) tNil))) tNil)))))))))))))
noncomputable def qXt:TS3:=(tSeq (tIfS (jJs (tOp rEqA (tVar 4) (tC (.int 6)))) (tRet (jJp jVo (jJa (tVar 0) tNil))) jJ8)
 (tRet (tCB jKj (jJa (jKz [false,false,false,false,false,false,true] (iRev (jJa (tVar 2) tNil)) (jJh 6) jQ2 (tCB jZu (jJa (tVar 6) tNil))) tNil))))
noncomputable def qXu:TS3:=tSeq (tIfS (jJs (tOp rEqA (tVar 4) (tC (.int 5)))) (tRet (tOp jJr (tOp jJr (tSl rSlF (tVar 2) jJ2 (jKo (tVar 3))) (tLst (jJa (jJp jVo (jJa (tVar 0) tNil)) tNil))) (tSl rSlF (tVar 2) (jKo (tOp jJr (tVar 3) (tC (.int 1)))) jJ2))) jJ8) qXt
noncomputable def qXv:TS3:=tSeq (tIfS (jJs (tOp rEqA (tVar 4) (tC (.int 4)))) (tRet (tOp jJr (tOp jJr (tSl rSlF (tVar 2) jJ2 (jKo (tVar 3))) (tLst (jJa (kXh (jJa (tOp rIxF (tVar 2) (tVar 3)) tNil)) tNil))) (tSl rSlF (tVar 2) (jKo (tOp jJr (tVar 3) (tC (.int 1)))) jJ2))) jJ8) qXu
noncomputable def qXw:TS3:=tSeq (tIfS (jJs (tOp rEqA (tVar 4) (tC (.int 3)))) (tRet (tOp jJr (tVar 2) (tSl rSlF (tVar 2) (jKo (tVar 3)) (jKo (tOp jJr (tVar 3) (tC (.int 1))))))) jJ8) qXv
noncomputable def qXx:TS3:=tSeq (tIfS (jJs (tOp rEqA (tVar 4) (tC (.int 2)))) (tRet (tOp jJr (tOp jJr (tSl rSlF (tVar 2) jJ2 (jKo (tVar 3))) (tLst (jJa (tVar 5) tNil))) (tSl rSlF (tVar 2) (jKo (tOp jJr (tVar 3) (tC (.int 1)))) jJ2))) jJ8) qXw
noncomputable def qXy:TS3:=tSeq (tIfS (jJs (tOp rEqA (tVar 4) (tC (.int 1)))) (tRet (tOp jJr (tOp jJr (tSl rSlF (tVar 2) jJ2 (jKo (tVar 3))) (tLst (jJa (tVar 5) tNil))) (tSl rSlF (tVar 2) (jKo (tVar 3)) jJ2))) jJ8) qXx
noncomputable def qXz:TS3:=tSeq (tIfS (jJs (tOp rEqA (tVar 4) (tC (.int 0)))) (tRet (tOp jJr (tSl rSlF (tVar 2) jJ2 (jKo (tVar 3))) (tSl rSlF (tVar 2) (jKo (tOp jJr (tVar 3) (tC (.int 1)))) jJ2))) jJ8) qXy
theorem qUs:jZr=tSeq (tAsg (jJp jJl (jJa (tVar 0) (jJa (tCB rLen (jJa (tVar 2) tNil)) tNil))) (jJh 3)) (tSeq (tAsg (jJp jJl (jJa (tVar 0) (jJa (tC (.int 8)) tNil))) (jJh 4)) (tSeq (tAsg (tTup (jJa (jJp jJl (jJa (tVar 0) (jJa (tCB rLen (jJa (tVar 1) tNil)) tNil))) (jJa (jJp jJl (jJa (tVar 0) (jJa (tCB rLen (jJa (tVar 1) tNil)) tNil))) tNil))) (jJh 5)) qXz)):=rfl
theorem kUm {b u v:Addr} {G:Gp} {n:Nat} {xs ys:List T} {Q:VK3} (hb:BoxAt G b n) (h1:G u=some (.lst xs)) (h2:G v=some (.lst ys)) (hz:xs.length+ys.length<=5000) (r1:∀x,x∈xs->R0 b G x) (r2:∀x,x∈ys->R0 b G x) (k:∀w G',G w=none->w≠b->G' w=some (.lst (xs++ys))->(∀x,x∈xs++ys->R0 b G' x)->BoxAt G' b n->Keep b G G'->Q (.ref w) G'):jJr (.ref u) (.ref v) G Q:=by
 have hs:=sz
 obtain⟨o,ho⟩:=hb.some
 refine⟨_,jZb h1 h2 (by omega),?_⟩
 rw[kJd]
 intro w hw
 have hwb:=jJf ho hw
 exact k w _ hw hwb.symm jJi (fun x hx=>(qY6 r1 r2 x hx).keep (.new hw)) (hb.gup hwb) (.new hw)
theorem jYn {b q:Addr} {G:Gp} {n:Nat} {xs:List T} {lo hi:Option Int} {Q:VK3} (hb:BoxAt G b n) (hq:G q=some (.lst xs)) (k:∀w G',G w=none->w≠b->G' w=some (.lst (cutT xs lo hi))->BoxAt G' b n->Keep b G G'->Q (.ref w) G'):∃r,slR G (.ref q) lo hi=some r/\fin3 r G Q:=by
 obtain⟨o,ho⟩:=hb.some
 refine⟨.newL (cutT xs lo hi),by simp only[slR,hq],?_⟩
 rw[kJd]
 intro w hw
 have hwb:=jJf ho hw
 exact k w _ hw hwb.symm jJi (hb.gup hwb) (.new hw)
theorem kXr {b q u p:Addr} {G:Gp} {n:Nat} {xs ys:List T} {z:T} {lo:Option Int} {Q:VK3} (hb:BoxAt G b n) (hqb:q≠b) (hq:G q=some (.lst ys)) (hu:G u=some (.lst xs)) (hp:G p=some (.lst [z])) (hx:xs.length<=600) (hy:ys.length<=600) (r1:∀x,x∈xs->R0 b G x) (rz:R0 b G z) (r2:∀G' x,x∈ys->R0 b G' x) (k:∀w G',Th b G' (.ref w)->BoxAt G' b n->Keep b G G'->Q (.ref w) G'):jJr (.ref u) (.ref p) G fun x G1=>∃r,slR G1 (.ref q) lo none=some r/\fin3 r G1 fun y G2=>jJr x y G2 Q:=by
 refine kUm hb hu hp (by simp;omega) r1 (mem2 rz mem0) fun w G1 hw hwb gw rw1 b1 k1=> ?_
 have hcl:=qQh (xs:=ys) (lo:=lo) (hi:=none)
 refine jYn b1 (k1 _ _ hqb hq) fun v G2 hv hvb gv b2 k2=> ?_
 refine kUm b2 (k2 _ _ hwb gw) gv (by simp;omega) (fun x hx=>(rw1 x hx).keep k2) (fun x hx=>r2 G2 x (qQg hx)) fun t G3 ht htb gt rt b3 k3=> ?_
 exact k t G3 (jYh gt htb rt (by simp;omega)) b3 ((k1.trans k2).trans k3)
theorem kVa:RdOk jUi jZr qXf:=by
 intro xs G Q h_;apply xe5 h_;clear h_;intro b W q F n h_;apply ae8 h_;clear h_;intro hb hn any hqb hq hF1 hF kk
 show jZr _ [some (.ref b),some (.tup (W.map encR)),some (.ref q),none,none,none,none] G
 have hs:=sz
 have hW1:=any.pos
 have hW2:=any.len
 rw[qUs]
 wp_walk using 1,jJn hq,List.length_map
 refine⟨b,_,n,rfl,hb,by omega,by omega,by omega,fun a G1 a0 a1 b1 k1=> ?_⟩
 refine⟨b,_,_,rfl,b1,by omega,by omega,by omega,fun w G2 w0 w1 b2 k2=> ?_⟩
 refine⟨b,_,_,rfl,b2,by omega,by omega,by omega,fun x G3 x0 x1 b3 k3=> ?_⟩
 refine⟨b,_,_,rfl,b3,by omega,by omega,by omega,fun y G4 y0 y1 b4 k4=> ?_⟩
 have k04:=(k1.trans k2).trans (k3.trans k4)
 have hq4:=k04 _ _ hqb hq
 obtain⟨w,rfl⟩:=lJ7 w0
 obtain⟨x,rfl⟩:=lJ7 x0
 obtain⟨y,rfl⟩:=lJ7 y0
 have eq:∀G (c:Nat),eqG G (T.int (w:Nat)) (T.int (c:Nat))=some (decide (w=c)):=fun _ _=>jKw
 have e0:=fun G=>eq G 0
 have e1:=fun G=>eq G 1
 have e2:=fun G=>eq G 2
 have e3:=fun G=>eq G 3
 have e4:=fun G=>eq G 4
 have e5:=fun G=>eq G 5
 have e6:=fun G=>eq G 6
 have hml:(F.map encE).length<=600:=by rw[lJe];exact hF
 have cl:∀lo hi,(cutT (F.map encE) lo hi).length<=600:=fun lo hi=>lKf qQh hml
 have cm:∀G' lo hi,∀x,x∈cutT (F.map encE) lo hi->R0 b G' x:=fun G' lo hi x hx=>kK5 x (qQg hx)
 refine⟨by omega,?_⟩
 wp_walk using 1,qXz,rEqA,tSl,jJ2,jKo,rSlF
 refine⟨_,e0 G4,?_⟩
 by_cases c0:w=0
 ·rw[lJc (lJn c0)]
  refine jYn b4 hq4 fun u G5 hu hub gu b5 k5=> ?_
  refine jYn b5 (k5 _ _ hqb hq4) fun v G6 hv hvb gv b6 k6=> ?_
  have c5:=cl none (some a)
  have c6:=cl (some (a+1)) none
  refine kUm b6 (k6 _ _ hub gu) gv (by omega) (cm G6 none (some a)) (cm G6 (some (a+1)) none) fun t G7 ht htb gt rt b7 k7=> ?_
  exact kk _ G7 (jYh gt htb rt (by rw[lKd];omega)) (b7.mono (by omega)) (k04.trans ((k5.trans k6).trans k7))
 rw[lJb (by simpa using c0)]
 have oth:∀G',R0 b G' (.tup [.int (x:Nat),.int (y:Nat)]):=fun G'=>r0_e (e:=(x,y))
 wp_walk using 1,qXy,rEqA,tSl,jJ2,jKo,rSlF
 refine⟨_,e1 G4,?_⟩
 by_cases c1:w=1
 ·rw[lJc (lJn c1)]
  refine jYn b4 hq4 fun u G5 hu hub gu b5 k5=>⟨by omega,fun p hp=> ?_⟩
  obtain⟨o5,ho5⟩:=b5.some
  have hpb:=jJf ho5 hp
  have kp:Keep b G5 (gup G5 p (.lst [T.tup [.int (x:Nat),.int (y:Nat)]])):= .new hp
  exact kXr (b5.gup hpb) hqb (kp _ _ hqb (k5 _ _ hqb hq4)) (kp _ _ hub gu) jJi (cl _ _) hml (cm _ _ _) (oth _) (fun G'=>kK5) fun t G7 th b7 k7=>kk _ G7 th (b7.mono (by omega)) (k04.trans ((k5.trans kp).trans k7))
 rw[lJb (by simpa using c1)]
 wp_walk using 1,qXx,rEqA,tSl,jJ2,jKo,rSlF
 refine⟨_,e2 G4,?_⟩
 by_cases c2:w=2
 ·rw[lJc (lJn c2)]
  refine jYn b4 hq4 fun u G5 hu hub gu b5 k5=>⟨by omega,fun p hp=> ?_⟩
  obtain⟨o5,ho5⟩:=b5.some
  have hpb:=jJf ho5 hp
  have kp:Keep b G5 (gup G5 p (.lst [T.tup [.int (x:Nat),.int (y:Nat)]])):= .new hp
  exact kXr (b5.gup hpb) hqb (kp _ _ hqb (k5 _ _ hqb hq4)) (kp _ _ hub gu) jJi (cl _ _) hml (cm _ _ _) (oth _) (fun G'=>kK5) fun t G7 th b7 k7=>kk _ G7 th (b7.mono (by omega)) (k04.trans ((k5.trans kp).trans k7))
 rw[lJb (by simpa using c2)]
 wp_walk using 1,qXw,rEqA,tSl,jJ2,jKo,rSlF
 refine⟨_,e3 G4,?_⟩
 by_cases c3:w=3
 ·rw[lJc (lJn c3)]
  refine jYn b4 hq4 fun u G5 hu hub gu b5 k5=> ?_
  have c5:=cl (some a) (some (a+1))
  refine kUm b5 (k5 _ _ hqb hq4) gu (by omega) kK5 (cm G5 _ _) fun t G7 ht htb gt rt b7 k7=> ?_
  exact kk _ G7 (jYh gt htb rt (by rw[lKd];omega)) (b7.mono (by omega)) (k04.trans (k5.trans k7))
 rw[lJb (by simpa using c3)]
 have ha:∃p,F[a.toNat]? =some p:=⟨_,lJg (by omega)⟩
 obtain⟨pa,hpa⟩:=ha
 have ata:L2.atI (F.map encE) a=some (encE pa):=by
  obtain⟨a,rfl⟩:=lJ7 a0
  rw[atN,lJq]
  rw[show (a:Int).toNat=a by omega] at hpa
  rw[hpa];rfl
 wp_walk using 1,qXv,rEqA,kXh,tSl,jJ2,jKo,rSlF
 refine⟨_,e4 G4,?_⟩
 by_cases c4:w=4
 ·rw[lJc (lJn c4)]
  refine jYn b4 hq4 fun u G5 hu hub gu b5 k5=> ?_
  have hq5:=k5 _ _ hqb hq4
  wp_walk using 1,jJ1 hq5,ata,encE
  refine⟨by omega,fun p hp=> ?_⟩
  obtain⟨o5,ho5⟩:=b5.some
  have hpb:=jJf ho5 hp
  have kp:Keep b G5 (gup G5 p (.lst [T.tup [T.int (pa.1:Nat),T.int (pa.2:Nat)].reverse])):= .new hp
  exact kXr (b5.gup hpb) hqb (kp _ _ hqb hq5) (kp _ _ hub gu) jJi (cl _ _) hml (cm _ _ _) (r0_e (e:=(pa.2,pa.1))) (fun G'=>kK5) fun t G7 th b7 k7=>kk _ G7 th (b7.mono (by omega)) (k04.trans ((k5.trans kp).trans k7))
 rw[lJb (by simpa using c4)]
 wp_walk using 1,qXu,rEqA,tSl,jJ2,jKo,rSlF
 refine⟨_,e5 G4,?_⟩
 by_cases c5:w=5
 ·rw[lJc (lJn c5)]
  refine jYn b4 hq4 fun u G5 hu hub gu b5 k5=> ?_
  refine⟨b,_,rfl,b5,by omega,fun t G6 ht b6 k6=>⟨by omega,fun p hp=> ?_⟩⟩
  obtain⟨o6,ho6⟩:=b6.some
  have hpb:=jJf ho6 hp
  have kp:Keep b G6 (gup G6 p (.lst [t])):= .new hp
  exact kXr (b6.gup hpb) hqb (kp _ _ hqb (k6 _ _ hqb (k5 _ _ hqb hq4))) (kp _ _ hub (k6 _ _ hub gu)) jJi (cl _ _) hml (cm _ _ _) (ht.r0.keep kp) (fun G'=>kK5) fun t' G7 th b7 k7=>kk _ G7 th (b7.mono (by omega)) (k04.trans (((k5.trans k6).trans kp).trans k7))
 rw[lJb (by simpa using c5)]
 wp_walk using 1,qXt,rEqA,iRev,jZu,jZt
 refine⟨_,e6 G4,?_⟩
 by_cases c6:w=6
 ·rw[lJc (lJn c6)]
  exact⟨b,_,rfl,b4,by omega,fun t G6 ht b6 k6=>kk t G6 ht (b6.mono (by omega)) (k04.trans k6)⟩
 rw[lJb (by simpa using c6)]
 refine⟨F.map encE,by simp only[jUf,hq4,asL],?_⟩
 rw[<-List.map_reverse]
 obtain⟨o4,ho4⟩:=b4.some
 refine jYf (es:=F.reverse) (enc:=encE) (fun e=>[.int (e.1:Nat),.int (e.2:Nat)]) (by rw[lX1];omega) (fun G' s=>by simp only[jUf,s _ _ hq4,asL]) ?_ ?_
 ·intro i e he G' K K0 s hK
  wp_walk using 1,encE,jZu,jZt
  exact fun p hp=>hK p _ hp jJi (.new hp)
 ·intro D rs G5 hD d5 s5 hrl hnd hrs
  refine⟨_,jJn d5,?_⟩
  rw[lX1] at hrl
  refine kk _ G5 (jU8 (fun z hz=> ?_) (by rw[lJe];omega)) ((b4.sub s5).mono (by omega)) (k04.trans (.sub s5))
  obtain⟨r,hr,rfl⟩:=lJj.mp hz
  obtain⟨i,hi⟩:=lJ8 hr
  have hil:i<F.reverse.length:=by rw[lX1,<-hrl];exact (lJf.mp hi).1
  obtain⟨z1,z2⟩:=hrs i r _ hi (lJg hil)
  exact (jYh z2 (fun z=>by rw[z,ho4] at z1;cases z1) (mem2 r0_i (mem2 r0_i mem0)) (by simp)).r0
def pD (e:Nat×Nat):PyData:= .tuple [.int (e.1:Nat),.int (e.2:Nat)]
theorem rd_p {G:Gp} {e:Nat×Nat}:RdG G (encE e) (pD e):= .tup (.cons (.int _) (.cons (.int _) .nil))
theorem rd_ps {G:Gp}:∀F:List (Nat×Nat),RdGs G (F.map encE) (F.map pD)
 | []=> .nil
 | e::F=> .cons rd_p (rd_ps F)
theorem qJr {n:Nat} {F:List (Nat×Nat)} (h:∀p,p∈F->p.1<n/\p.2<n):prsD n (.list (F.map pD))=some F:=by
 have h1:(F.map pD).all (jQg n)=true:=by
  rw[lKk]
  intro d hd
  obtain⟨e,he,rfl⟩:=lJj.mp hd
  obtain⟨l1,l2⟩:=h e he
  show (jV5 n (.int (e.1:Nat))&&jV5 n (.int (e.2:Nat)))=true
  show ((decide ((0:Int)<=(e.1:Nat))&&decide (((e.1:Nat):Int)<(n:Nat)))&&(decide ((0:Int)<=(e.2:Nat))&&decide (((e.2:Nat):Int)<(n:Nat))))=true
  rw[lJn (by omega),lJn (by omega),lJn (by omega),lJn (by omega)];rfl
 rw[kK6 (ds:=F.map pD) rfl h1,lJx]
 congr 1
 have:(toP∘pD:Nat×Nat->Nat×Nat)=id:=by
  funext e
  show (kY6 (.int (e.1:Nat)),kY6 (.int (e.2:Nat)))=e
  show (((e.1:Nat):Int).toNat,((e.2:Nat):Int).toNat)=e
  rw[show ((e.1:Nat):Int).toNat=e.1 by omega,show ((e.2:Nat):Int).toNat=e.2 by omega]
 rw[this,List.map_id]
theorem kVk {W:Web} (any:AnyWeb W) {a b:Nat} {F:List (Nat×Nat)} (ha:a<W.length) (hb:b<W.length) (hab:a≠b) (e:(mk W)[a]? =(mk W)[b]?) (c:Clo W a b F):nvB W a b (.list (F.map pD))=true:=by
 have f:=any.fine
 have all:=c.got (fun x y=>x<W.length/\y<W.length/\x≠y/\(mk W)[x]? =(mk W)[y]?) ⟨ha,hb,hab,e⟩ fun x y i u v ⟨h1,h2,h3,h4⟩ hu hv=>by
  obtain⟨s,s1,s2⟩:=kV5 f h1 h2 h4 (s:=u.1) (j:=u.2) hu
  rw[hv] at s1
  have s1:=lJ4 s1
  refine⟨f.rng _ _ _ _ hu,f.rng _ _ _ _ hv,fun z=> ?_,by rw[s1];exact s2.symm⟩
  have b1:=any.sym _ _ _ _ (show en W x i=some (u.1,u.2) from hu)
  have b2:=any.sym _ _ _ _ (show en W y i=some (v.1,v.2) from hv)
  have:v.2=u.2:=by rw[s1]
  rw[z,<-this,b2] at b1
  exact h3 (lJ9 Prod.fst (lJ4 b1)).symm
 rw[qJ9 (qJr c.lt),lJ6,lJ6]
 refine⟨⟨lVr.mpr c.hd,?_⟩,?_⟩
 ·rw[lKk]
  intro p hp
  obtain⟨l1,l2,_,l4⟩:=all p hp
  have w1:W[p.1]? =some (row W p.1):=by unfold row;rw[lJg l1];rfl
  have w2:W[p.2]? =some (row W p.2):=by unfold row;rw[lJg l2];rfl
  have le:∀x y,x<W.length->y<W.length->(mk W)[x]? =(mk W)[y]? ->W[x]? =some (row W x)->W[y]? =some (row W y)->(row W x).length<=(row W y).length:=fun x y hx hy hm wx wy=>by
   rcases lQ8 (row W y).length (row W x).length with z | z
   ·have he:en W x (row W y).length=some (row W x)[(row W y).length]:=jQt wx (lJg z)
    obtain⟨s,s1,_⟩:=kV5 f hx hy hm (s:=_) (j:=_) he
    obtain⟨es,q1,q2⟩:=jKx s1
    rw[wy] at q1;cases q1
    have:=(lJf.mp q2).1
    omega
   ·exact z
  unfold jVz
  rw[lJ6,lKz,lKk]
  refine⟨Nat.le_antisymm (le _ _ l1 l2 l4 w1 w2) (le _ _ l2 l1 l4.symm w2 w1),fun eg heg=> ?_⟩
  obtain⟨i,hi⟩:=lJ8 heg
  obtain⟨z1,z2⟩:=lVp.mp hi
  have e1:=jQt w1 z1
  have e2:=jQt w2 z2
  obtain⟨s,s1,_⟩:=kV5 f l1 l2 l4 (s:=eg.1.1) (j:=eg.1.2) e1
  rw[e2] at s1
  rw[lJ6,lKz]
  exact⟨(lJ9 Prod.snd (lJ4 s1)).symm,lVr.mpr (c.cl p hp i _ _ e1 e2)⟩
 ·rw[lKk]
  intro p hp
  rw[lJo (all p hp).2.2.1];rfl
theorem kX2 {W:Web} {r:Nat} (h:r<W.length):L2.atI (jJt (mk W)) (r:Int)=some (.int (nuF (mk W) r:Nat)):=by
 obtain⟨v,h1,_⟩:=qKg h
 rw[atN];simp[jJt,h1,qKc h1]
def kZ1:Sp3:=fun xs G Q=>∃ns:List Int,xs=[.scr (jK9 ns)]/\ns.length<=63/\∀G',Q (.bl true) G'
noncomputable def N_law:List Str:=["_law_script","_law_cells","_law_k","_law_box_here","_law_web_here","_law_numbers_here","_law_turn_here","_law_a","_law_b","_law_alike","_law_paper","_law_more","_law_some","_law_found","_law_room"]
noncomputable def kXp:TS3:=
 (tSeq (tAsg (jJp jUr (jJa (tVar 0) (jJa (tC (.int 8)) tNil))) (jJh 1))
 (tSeq (tFor (jKb (jJa (tCB rMax (jJa (tC (.int 3)) (jJa (tCB rLen (jJa (tVar 1) tNil)) tNil))) tNil)) (jJh 2) (tSeq (tAsg (jJp jYy (jJa (tVar 1) (jJa (tVar 2) tNil))) (jJh 3))
 (tSeq (tAsg (jJp jVp (jJa (tVar 3) tNil)) (jJh 4))
 (tSeq (tAsg (jJp jQ8 (jJa (tVar 4) tNil)) (jJh 5))
 (tFor (jKb (jJa (tC (.int 6)) tNil)) (jJh 6) (tSeq (tAsg (tTup (jJa (jJp jJl (jJa (tVar 3) (jJa (tCB rLen (jJa (tVar 4) tNil)) tNil))) (jJa (jJp jJl (jJa (tVar 3) (jJa (tCB rLen (jJa (tVar 4) tNil)) tNil))) tNil))) (gTup 2 (jKd (jJh 7) (jKd (jJh 8) gNil))))
 (tSeq (tAsg (jKz [false,false,false,false,false,false,false,false,false,false,false,false,false,false,true] (jKb (jJa (tCB rLen (jJa (tVar 4) tNil)) tNil)) (jJh 14) (tAnd (jJs (tOp rEqA (tOp rIxF (tVar 5) (tVar 14)) (tOp rIxF (tVar 5) (tVar 7)))) (jJs (tOp rNeA (tVar 14) (tVar 7)))) (tVar 14)) (jJh 9))
 (tSeq (tIfS (tAnd (jJs (tOp rNeA (tVar 9) (tLst tNil))) (jJs (tOp rEqA (tOp rMod (tVar 6) (tC (.int 2))) (tC (.int 0))))) (tAsg (tOp rIxF (tVar 9) (jJp jJl (jJa (tVar 3) (jJa (tCB rLen (jJa (tVar 9) tNil)) tNil)))) (jJh 8)) jJ8)
 (tSeq (tAsg (jJp jQk (jJa (tVar 4) (jJa (tVar 7) (jJa (tVar 8) tNil)))) (jJh 10))
 (tSeq (tIfS (tAnd (jJs (tOp rEqA (tOp rIxF (tVar 5) (tVar 7)) (tOp rIxF (tVar 5) (tVar 8)))) (tAnd (jJs (tOp rNeA (tVar 7) (tVar 8))) (jJs (tOp qUw (jJp jKr (jJa (tVar 4) (jJa (tVar 7) (jJa (tVar 8) (jJa (tVar 10) tNil))))) (tC (.bl true)))))) (tRet (tC (.bl false))) jJ8)
 (tSeq (tAsg (jJp jQk (jJa (tVar 4) (jJa (tVar 8) (jJa (tVar 7) tNil)))) (jJh 11))
 (tFor (iSeq (tTup (jJa (tVar 10) (jJa (tOp jJr (tVar 10) (tVar 11)) (jJa (jJp jUi (jJa (tVar 3) (jJa (tVar 4) (jJa (tVar 10) tNil)))) (jJa (jJp jUi (jJa (tVar 3) (jJa (tVar 4) (jJa (tVar 10) tNil)))) tNil)))))) (jJh 12) (tSeq (tAsg (jJp jKr (jJa (tVar 4) (jJa (tVar 7) (jJa (tVar 8) (jJa (tVar 12) tNil))))) (jJh 13))
 (tIfS (tOr (tNot (jJs (tCB rIsi (jJa (tVar 13) (jJa (tC (.ty "bool")) tNil))))) (jJs (tOp rNeA (tVar 13) (jJp jYx (jJa (tVar 4) (jJa (tVar 7) (jJa (tVar 8) (jJa (tVar 12) tNil)))))))) (tRet (tC (.bl false))) jJ8))))))))))))))
 (tRet (tC (.bl true)))))
noncomputable def qJi:TS3:=(tSeq (tAsg (jJp jQk (jJa (tVar 4) (jJa (tVar 8) (jJa (tVar 7) tNil)))) (jJh 11))
 (tFor (iSeq (tTup (jJa (tVar 10) (jJa (tOp jJr (tVar 10) (tVar 11)) (jJa (jJp jUi (jJa (tVar 3) (jJa (tVar 4) (jJa (tVar 10) tNil)))) (jJa (jJp jUi (jJa (tVar 3) (jJa (tVar 4) (jJa (tVar 10) tNil)))) tNil)))))) (jJh 12) (tSeq (tAsg (jJp jKr (jJa (tVar 4) (jJa (tVar 7) (jJa (tVar 8) (jJa (tVar 12) tNil))))) (jJh 13))
 (tIfS (tOr (tNot (jJs (tCB rIsi (jJa (tVar 13) (jJa (tC (.ty "bool")) tNil))))) (jJs (tOp rNeA (tVar 13) (jJp jYx (jJa (tVar 4) (jJa (tVar 7) (jJa (tVar 8) (jJa (tVar 12) tNil)))))))) (tRet (tC (.bl false))) jJ8))))
noncomputable def qJj:TS3:=(tSeq (tAsg (jJp jQk (jJa (tVar 4) (jJa (tVar 7) (jJa (tVar 8) tNil)))) (jJh 10))
 (tSeq (tIfS (tAnd (jJs (tOp rEqA (tOp rIxF (tVar 5) (tVar 7)) (tOp rIxF (tVar 5) (tVar 8)))) (tAnd (jJs (tOp rNeA (tVar 7) (tVar 8))) (jJs (tOp qUw (jJp jKr (jJa (tVar 4) (jJa (tVar 7) (jJa (tVar 8) (jJa (tVar 10) tNil))))) (tC (.bl true)))))) (tRet (tC (.bl false))) jJ8)
 qJi))
theorem qUr:kXp=(tSeq (tAsg (jJp jUr (jJa (tVar 0) (jJa (tC (.int 8)) tNil))) (jJh 1))
 (tSeq (tFor (jKb (jJa (tCB rMax (jJa (tC (.int 3)) (jJa (tCB rLen (jJa (tVar 1) tNil)) tNil))) tNil)) (jJh 2) (tSeq (tAsg (jJp jYy (jJa (tVar 1) (jJa (tVar 2) tNil))) (jJh 3))
 (tSeq (tAsg (jJp jVp (jJa (tVar 3) tNil)) (jJh 4))
 (tSeq (tAsg (jJp jQ8 (jJa (tVar 4) tNil)) (jJh 5))
 (tFor (jKb (jJa (tC (.int 6)) tNil)) (jJh 6) (tSeq (tAsg (tTup (jJa (jJp jJl (jJa (tVar 3) (jJa (tCB rLen (jJa (tVar 4) tNil)) tNil))) (jJa (jJp jJl (jJa (tVar 3) (jJa (tCB rLen (jJa (tVar 4) tNil)) tNil))) tNil))) (gTup 2 (jKd (jJh 7) (jKd (jJh 8) gNil))))
 (tSeq (tAsg (jKz [false,false,false,false,false,false,false,false,false,false,false,false,false,false,true] (jKb (jJa (tCB rLen (jJa (tVar 4) tNil)) tNil)) (jJh 14) (tAnd (jJs (tOp rEqA (tOp rIxF (tVar 5) (tVar 14)) (tOp rIxF (tVar 5) (tVar 7)))) (jJs (tOp rNeA (tVar 14) (tVar 7)))) (tVar 14)) (jJh 9))
 (tSeq (tIfS (tAnd (jJs (tOp rNeA (tVar 9) (tLst tNil))) (jJs (tOp rEqA (tOp rMod (tVar 6) (tC (.int 2))) (tC (.int 0))))) (tAsg (tOp rIxF (tVar 9) (jJp jJl (jJa (tVar 3) (jJa (tCB rLen (jJa (tVar 9) tNil)) tNil)))) (jJh 8)) jJ8)
 qJj))))))))
 (tRet (tC (.bl true))))):=rfl
theorem qUq:RdOk kZ1 kXp N_law:=by
 intro xs G Q h_;apply xe1 h_;clear h_;intro ns h_;apply ae2 h_;clear h_;intro hl kk
 show kXp _ [some (.scr (jK9 ns)),none,none,none,none,none,none,none,none,none,none,none,none,none,none] G
 have hs:=sz
 rw[qUr]
 wp_walk using 1,rMax,jJ0,jKb
 refine⟨ns,8,rfl,hl,by decide,by decide,fun pc G1 ms hpc hpc1 hm1 hm2 s1=> ?_⟩
 refine⟨_,jJn hpc1,by split<;>omega,by simp only[lJe];split<;>omega,?_⟩
 let J1:Nat->St3->Gp->Prop:=fun k τ G'=>∃(v2 v3 v4 v5 v6 v7 v8 v9 v10 v11 v12 v13:Option T),τ=[some (.scr (jK9 ns)),some (.ref pc),v2,v3,v4,v5,v6,v7,v8,v9,v10,v11,v12,v13,none]/\G' pc=some (.lst (jK9 ms))
 refine⟨J1,?_,?_,?_,?_⟩
 ·exact xi12 _ _ _ _ _ _ _ _ _ _ _ _ rfl hpc1
 ·intros;trivial
 ·intro k x τ G2 hx h_;apply xe12 h_;clear h_;intro v2 v3 v4 v5 v6 v7 v8 v9 v10 v11 v12 v13 hp2
  have hk:k<63/\x= .int (k:Nat):=by
   obtain⟨z1,z2⟩:=jVq hx
   refine⟨?_,z2⟩
   rw[lJe] at z1
   split at z1<;>omega
  obtain⟨hk,rfl⟩:=hk
  wp_walk using 1,jJ0,jKb
  refine⟨pc,ms,k,rfl,hp2,hm2,by omega,by omega,fun b G3 hb3 bx3 s3=> ?_⟩
  have hpb:=jJf hp2 hb3
  refine⟨b,0,rfl,bx3,by decide,fun W G4 any bx4 k4=> ?_⟩
  have hp4:=k4 _ _ hpb (s3 _ _ hp2)
  have fine:=any.fine
  have hW1:=any.pos
  have hW2:=any.len
  refine⟨W,rfl,fine,by omega,fun q G5 hq h5 s5=> ?_⟩
  have hqb:q≠b:=by
   rintro rfl
   obtain⟨o,ho⟩:=bx4.some
   rw[ho] at hq;cases hq
  refine⟨by decide,by decide,?_⟩
  let J2:Nat->St3->Gp->Prop:=fun t τ G'=>∃(v6 v7 v8 v9 v10 v11 v12 v13:Option T),τ=[some (.scr (jK9 ns)),some (.ref pc),some (.int (k:Nat)),some (.ref b),some (encW W),some (.ref q),v6,v7,v8,v9,v10,v11,v12,v13,none]/\G' pc=some (.lst (jK9 ms))/\G' q=some (.lst (jJt (mk W)))/\BoxAt G' b (3000+50*t)
  refine⟨J2,?_,?_,?_,?_⟩
  ·exact xi8 _ _ _ _ _ _ _ _ rfl ⟨s5 _ _ hp4,h5,(bx4.sub s5).mono (by omega)⟩
  ·intros;trivial
  ·intro t x τ G6 hx h_;apply xe8 h_;clear h_;intro v6 v7 v8 v9 v10 v11 v12 v13 h_;apply ae3 h_;clear h_;intro i1 i2 i3
   obtain⟨ht,rfl⟩:=jVq hx
   wp_walk using 1,jKb
   refine⟨W.map encR,rfl,b,_,_,rfl,i3,by omega,by rw[lJe];omega,by rw[lJe];omega,fun a G7 a0 a1 b7 k7=> ?_⟩
   refine⟨W.map encR,rfl,b,_,_,rfl,b7,by omega,by rw[lJe];omega,by rw[lJe];omega,fun c G8 c0 c1 b8 k8=> ?_⟩
   rw[lJe] at a1 c1
   obtain⟨a,rfl⟩:=lJ7 a0
   obtain⟨c,rfl⟩:=lJ7 c0
   have ha:a<W.length:=by omega
   have hc:c<W.length:=by omega
   have k68:=k7.trans k8
   have hp8:=k68 _ _ hpb i1
   have hq8:=k68 _ _ hqb i2
   refine⟨by omega,W.map encR,rfl,by omega,by rw[lJe];omega,?_⟩
   rw[lJe,show (((W.length:Nat):Int)).toNat=W.length by omega,jQz]
   have go:∀(c:Nat) (v9:Option T) (G9:Gp),c<W.length->G9 pc=some (.lst (jK9 ms))->G9 q=some (.lst (jJt (mk W)))->BoxAt G9 b (3000+50*t+10)->qJj {nx:=J2 (t+1),rt:=Q,bk:=J1 (k+1),ct:=J2 (t+1)} [some (.scr (jK9 ns)),some (.ref pc),some (.int (k:Nat)),some (.ref b),some (encW W),some (.ref q),some (.int (t:Nat)),some (.int (a:Nat)),some (.int (c:Nat)),v9,v10,v11,v12,v13,none] G9:=fun c v9 G9 hc hp9 hq9 b9=>by
    wp_walk using 1,qJj,rEqA,rNeA,jJ1 hq9
    refine⟨W,a,c,rfl,any,ha,hc,fun p1 F1 G11 hp1 g11 clo1 s11=> ?_⟩
    have hq11:=s11 _ _ hq9
    have b11:=b9.sub s11
    have hp11:=s11 _ _ hp9
    obtain⟨o9,ho9⟩:=b9.some
    have hp1b:p1≠b:=fun z=>by rw[z,ho9] at hp1;cases hp1
    wp_walk using 1,jJ1 hq11,kX2 ha,kX2 hc,jKw
    have go2:∀G12,Sub G11 G12->qJi {nx:=J2 (t+1),rt:=Q,bk:=J1 (k+1),ct:=J2 (t+1)} [some (.scr (jK9 ns)),some (.ref pc),some (.int (k:Nat)),some (.ref b),some (encW W),some (.ref q),some (.int (t:Nat)),some (.int (a:Nat)),some (.int (c:Nat)),v9,some (.ref p1),v11,v12,v13,none] G12:=fun G12 s12=>by
     have g12:=s12 _ _ g11
     have b12:=b11.sub s12
     wp_walk using 1,qJi,jJ0,iSeq
     refine⟨W,c,a,rfl,any,hc,ha,fun p2 F2 G13 hp2 g13 clo2 s13=> ?_⟩
     have g1':=s13 _ _ g12
     have l1:=clo1.len
     have l2:=clo2.len
     have l0:=lX9 clo1.hd
     have kA:Keep b G9 G13:= .sub ((s11.trans s12).trans s13)
     refine kUm (b12.sub s13) g1' g13 (by rw[lJe,lJe];omega) kK5 kK5 fun w G14 hw hwb gw rw1 b14 k14=> ?_
     have g14:=k14 _ _ hp1b g1'
     refine⟨b,W,p1,F1,_,rfl,b14,by omega,any,hp1b,g14,l0,l1,fun t1 G15 h15 b15 k15=> ?_⟩
     have g15:=k15 _ _ hp1b g14
     refine⟨b,W,p1,F1,_,rfl,b15,by omega,any,hp1b,g15,l0,l1,fun t2 G16 h16 b16 k16=> ?_⟩
     have g16:=k16 _ _ hp1b g15
     refine⟨by omega,?_⟩
     have kB:=(k14.trans k15).trans k16
     have hA:∀z,z∈[T.ref p1,T.ref w,t1,t2]->Th b G16 z:=mem2 (jYh g16 hp1b kK5 (by rw[lJe];omega)) (mem2 (jYh (k16 _ _ hwb (k15 _ _ hwb gw)) hwb (fun x hx=>(rw1 x hx).keep (k15.trans k16)) (by rw[lKd,lJe,lJe];omega)) (mem2 (h15.keep k16) (mem2 h16 mem0)))
     have hp16:=kB _ _ hpb (kA _ _ hpb hp9)
     have hq16:=kB _ _ hqb (kA _ _ hqb hq9)
     generalize [T.ref p1,T.ref w,t1,t2]=zs at hA
     let J3:Nat->St3->Gp->Prop:=fun i τ G'=>∃(v12 v13:Option T),τ=[some (.scr (jK9 ns)),some (.ref pc),some (.int (k:Nat)),some (.ref b),some (encW W),some (.ref q),some (.int (t:Nat)),some (.int (a:Nat)),some (.int (c:Nat)),v9,some (.ref p1),some (.ref p2),v12,v13,none]/\Sub G16 G'
     refine⟨J3,?_,?_,?_,?_⟩
     ·exact xi2 _ _ rfl (.refl _)
     ·intros;trivial
     ·intro i x τ G17 hx h_;apply xe2 h_;clear h_;intro v12 v13 j1
      obtain⟨d,d1,d2⟩:=hA x (lJl hx)
      have d1:=jQl (er_sub.trans j1) d1
      wp_walk using 1,tSeq
      refine⟨W,a,c,x,d,rfl,any,d1,d2,fun G18 s18=> ?_⟩
      wp_walk using 1,rIsi,show isiT G18 (.bl (nvB W a c d)) (.ty "bool")=some true from rfl
      refine⟨W,a,c,x,d,rfl,any,jQl s18 d1,d2,fun G19 s19=> ?_⟩
      wp_walk using 1,rNeA
      refine⟨true,by cases nvB W a c d<;>rfl,?_⟩
      rw[lJb (by decide)]
      exact xi2 _ _ rfl ((j1.trans s18).trans s19)
     ·intro τ G17 h_;apply xe2 h_;clear h_;intro v12 v13 j1
      exact xi8 _ _ _ _ _ _ _ _ rfl ⟨j1 _ _ hp16,j1 _ _ hq16,(b16.sub j1).mono (by omega)⟩
    by_cases e1:nuF (mk W) a=nuF (mk W) c
    ·rw[lJc e1]
     by_cases e2:a=c
     ·rw[lJb (by simp[e2])]
      exact go2 G11 (.refl _)
     ·rw[lJc (by simp[e2])]
      refine⟨W,a,c,_,_,rfl,any,.lst g11 (rd_ps F1),fun ds z=>by cases z;have:=clo1.len;rw[lJe];omega,fun G12 s12=> ?_⟩
      have hm:(mk W)[a]? =(mk W)[c]? :=by
       obtain⟨v,q1,_⟩:=qKg ha
       obtain⟨u,q2,_⟩:=qKg hc
       rw[qKc q1,qKc q2] at e1
       rw[q1,q2,e1]
      rw[kVk any ha hc e2 hm clo1]
      wp_walk using 1,qUw
      exact go2 G12 s12
    ·rw[lJb e1]
     exact go2 G11 (.refl _)
   refine jUy (es:=List.range W.length) (enc:=fun (r:Nat)=>T.int r) (fun r=>if nuF (mk W) r=nuF (mk W) a/\r≠a then some (.int (r:Nat)) else none) (by simp;omega) (fun _ _=>trivial) ?_ ?_
   ·intro i r hr G' K K0 s hK hK0
    have hrl:r<W.length:=lJ0.mp (lJl hr)
    have hq':=s _ _ hq8
    wp_walk using 1,rEqA,rNeA,jJ1 hq',kX2 hrl,kX2 ha,jKw
    by_cases c1:nuF (mk W) r=nuF (mk W) a
    ·rw[lJc c1]
     by_cases c2:r=a
     ·rw[lJb (by simp[c2])]
      exact hK0 (lJb fun z=>z.2 c2) _ (.refl _)
     ·rw[lJc (by simp[c2])]
      exact hK _ _ (lJc ⟨c1,c2⟩) (.refl _)
    ·rw[lJb c1]
     exact hK0 (lJb fun z=>c1 z.1) _ (.refl _)
   intro D G9 hD d9 s9
   obtain⟨As,hAs,hAl⟩:∃As:List Nat,(List.range W.length).filterMap (fun r=>if nuF (mk W) r=nuF (mk W) a/\r≠a then some (T.int (r:Nat)) else none)=jJt As/\(∀r,r∈As->r<W.length)/\As.length<=W.length:=by
    refine⟨(List.range W.length).filter fun r=>decide (nuF (mk W) r=nuF (mk W) a/\r≠a),?_,fun r hr=>lJ0.mp (lQl.mp hr).1,lKf (lVx _ _) (by simp)⟩
    generalize List.range W.length=l
    induction l with
    | nil=>rfl
    | cons r l ih=>
     rw[lQm,lVy,ih]
     by_cases c:nuF (mk W) r=nuF (mk W) a/\r≠a
     ·rw[lJc c,lJc (lJn c)];rfl
     ·rw[lJb c,lJb (by simpa using c)]
   rw[hAs] at d9
   refine⟨by omega,fun e he=> ?_⟩
   have hDe:=jJf d9 he
   have d10:gup G9 e (.lst []) D=some (.lst (jJt As)):=by rw[jJv hDe];exact d9
   have e10:gup G9 e (.lst []) e=some (.lst (jJt [])):=jJi
   have s10:Sub G9 (gup G9 e (.lst [])):= .new he
   generalize gup G9 e (.lst [])=G10 at d10 e10 s10 ⊢
   have b10:=(b8.sub s9).sub s10
   have hp10:=s10 _ _ (s9 _ _ hp8)
   have hq10:=s10 _ _ (s9 _ _ hq8)
   wp_walk using 1,rNeA,qK7 d10 e10,rEqA
   by_cases cA:As=[]
   ·rw[lJb (by simp[cA])]
    exact go c _ G10 hc hp10 hq10 (b10.mono (by omega))
   rw[lJc (by simp[cA])]
   have hA1:1<=As.length:=by
    cases As with
    | nil=>exact absurd rfl cA
    | cons _ _=>simp
   refine⟨by decide,decide (t%2=0),by rw[show ((t:Nat):Int)%2=((t%2:Nat):Int) by omega];exact jKw (c:=0),?_⟩
   by_cases cM:t%2=0
   ·rw[lJn cM,lJc rfl]
    have hil:(jJt As).length=As.length:=by simp[jJt]
    refine⟨_,jJn d10,b,_,_,rfl,b10,by omega,by omega,by omega,fun y G12 y0 y1 b12 k12=> ?_⟩
    obtain⟨y,rfl⟩:=lJ7 y0
    obtain⟨bo10,hbo10⟩:=b10.some
    have hDb:D≠b:=fun z=>by
     obtain⟨o8,ho8⟩:=b8.some
     rw[z,ho8] at hD;cases hD
    have hy:As[y]? =some As[y]:=lJg (by omega)
    refine⟨.int (As[y]:Nat),by rw[jJ1 (k12 _ _ hDb d10),atN];simp[jJt,hy],?_⟩
    exact go As[y] _ G12 (hAl.1 _ (lJl hy)) (k12 _ _ hpb hp10) (k12 _ _ hqb hq10) (b12.mono (by omega))
   ·rw[lJo cM,lJb (by decide)]
    exact go c _ G10 hc hp10 hq10 (b10.mono (by omega))
  ·intro τ G6 h_;apply xe8 h_;clear h_;intro v6 v7 v8 v9 v10 v11 v12 v13 h_;apply ae3 h_;clear h_;intro i1 i2 i3
   exact xi12 _ _ _ _ _ _ _ _ _ _ _ _ rfl i1
 ·intro τ G2 h_;apply xe12 h_;clear h_;intro v2 v3 v4 v5 v6 v7 v8 v9 v10 v11 v12 v13 hp2
  wp_walk using 1,tSeq
  exact kk G2
end W
namespace W
open PySem PySem.Spec PyProof.Rows L2 L3
theorem ln1 {α:Type} {us:List α} {C:List α->Prop} (h:us.length=1) (k:∀a0,C [a0]):C us:=by
 obtain⟨a0,us,rfl⟩:=lKu h
 replace h:=lKv h
 cases lVb.mp h
 exact k a0
theorem ln2 {α:Type} {us:List α} {C:List α->Prop} (h:us.length=2) (k:∀a0 a1,C [a0,a1]):C us:=by
 obtain⟨a0,us,rfl⟩:=lKu h
 replace h:=lKv h
 obtain⟨a1,us,rfl⟩:=lKu h
 replace h:=lKv h
 cases lVb.mp h
 exact k a0 a1
theorem ln3 {α:Type} {us:List α} {C:List α->Prop} (h:us.length=3) (k:∀a0 a1 a2,C [a0,a1,a2]):C us:=by
 obtain⟨a0,us,rfl⟩:=lKu h
 replace h:=lKv h
 obtain⟨a1,us,rfl⟩:=lKu h
 replace h:=lKv h
 obtain⟨a2,us,rfl⟩:=lKu h
 replace h:=lKv h
 cases lVb.mp h
 exact k a0 a1 a2
theorem ln4 {α:Type} {us:List α} {C:List α->Prop} (h:us.length=4) (k:∀a0 a1 a2 a3,C [a0,a1,a2,a3]):C us:=by
 obtain⟨a0,us,rfl⟩:=lKu h
 replace h:=lKv h
 obtain⟨a1,us,rfl⟩:=lKu h
 replace h:=lKv h
 obtain⟨a2,us,rfl⟩:=lKu h
 replace h:=lKv h
 obtain⟨a3,us,rfl⟩:=lKu h
 replace h:=lKv h
 cases lVb.mp h
 exact k a0 a1 a2 a3
theorem ln5 {α:Type} {us:List α} {C:List α->Prop} (h:us.length=5) (k:∀a0 a1 a2 a3 a4,C [a0,a1,a2,a3,a4]):C us:=by
 obtain⟨a0,us,rfl⟩:=lKu h
 replace h:=lKv h
 obtain⟨a1,us,rfl⟩:=lKu h
 replace h:=lKv h
 obtain⟨a2,us,rfl⟩:=lKu h
 replace h:=lKv h
 obtain⟨a3,us,rfl⟩:=lKu h
 replace h:=lKv h
 obtain⟨a4,us,rfl⟩:=lKu h
 replace h:=lKv h
 cases lVb.mp h
 exact k a0 a1 a2 a3 a4
def top (i:Nat):Stmt:=PySem.Challenge.pw_stonewalker_k66_never_shown.main.body.getD i (.Pass ⟨0,0,0,0⟩)
def FnAt (K:PySem.W.Frag) (mg:Str->Option Value) (x:Str) (i:Nat):Prop:=∃f fd,mg x=some (.ref f)/\Fun K x x (top i) f fd
structure Txt (K:PySem.W.Frag) (mg:Str->Option Value):Prop where
 n_abs:mg "abs"=none
 n_all:mg "all"=none
 n_any:mg "any"=none
 n_bool:mg "bool"=none
 n_divmod:mg "divmod"=none
 n_enumerate:mg "enumerate"=none
 n_int:mg "int"=none
 n_isinstance:mg "isinstance"=none
 n_len:mg "len"=none
 n_list:mg "list"=none
 n_max:mg "max"=none
 n_range:mg "range"=none
 n_reversed:mg "reversed"=none
 n_set:mg "set"=none
 n_sorted:mg "sorted"=none
 n_sum:mg "sum"=none
 n_tuple:mg "tuple"=none
 n_zip:mg "zip"=none
 f_is_number:FnAt K mg "is_number" 1
 f_is_number_of_room:FnAt K mg "is_number_of_room" 2
 f_is_pair:FnAt K mg "is_pair" 4
 f_is_kept:FnAt K mg "is_kept" 5
 f_shows_pairing:FnAt K mg "shows_pairing" 6
 f_shows_never:FnAt K mg "shows_never" 8
 f_l_box:FnAt K mg "_law_box" 10
 f_l_take:FnAt K mg "_law_take" 11
 f_l_folded:FnAt K mg "_law_folded" 12
 f_l_joined:FnAt K mg "_law_joined" 13
 f_l_doors_put:FnAt K mg "_law_doors_put" 14
 f_l_web:FnAt K mg "_law_web" 15
 f_l_even:FnAt K mg "_law_even" 16
 f_l_ring:FnAt K mg "_law_ring" 17
 f_l_ends:FnAt K mg "_law_ends" 18
 f_l_reached:FnAt K mg "_law_reached" 19
 f_l_sheeted:FnAt K mg "_law_sheeted" 20
 f_l_turn:FnAt K mg "_law_turn" 21
 f_l_covered:FnAt K mg "_law_covered" 22
 f_l_kinds:FnAt K mg "_law_kinds" 23
 f_l_line:FnAt K mg "_law_line" 24
 f_l_eight:FnAt K mg "_law_eight" 25
 f_l_numbers:FnAt K mg "_law_numbers" 26
 f_l_is_pair:FnAt K mg "_law_is_pair" 28
 f_l_due:FnAt K mg "_law_due" 29
 f_l_closed:FnAt K mg "_law_closed" 30
 f_l_odd:FnAt K mg "_law_odd" 31
 f_l_bent:FnAt K mg "_law_bent" 32
 f_law:FnAt K mg "law" 33
variable {P:Program} {w:World} {K:PySem.W.Frag} {mg:Str->Option Value} {base:Heap}
theorem cal3 {x:Str} {i k:Nat} {N ps:List Str} {sp:Sp3} {t:TS3} (F:FnAt K mg x i) (h:∀xs G Q,sp xs G Q->t {nx:=fun _ G'=>Q .non G',rt:=Q} (jZh N xs) G)
  (d:∀(f:Addr) (cdv:Value) (A:Around) (outer:List Env) (s:Shared) (H:Hp) (E:XK),Room k (A.deeper (envOfC x (jKf (top i)) s.heap.objs.size f cdv))->(A.deeper (envOfC x (jKf (top i)) s.heap.objs.size f cdv)).units+20<cLine->N.Nodup->PSs3 (cxOf CX0 P w K mg base N x (jKf (top i)) f cdv A outer s H E).nox (jUx (top i)) t)
  (S:FnScope N ps (jKf (top i)):=by exact⟨rfl,rfl,rfl,by decide +kernel,rfl,by decide +kernel,by decide +kernel⟩)
  (b:∀(kV doc pm:Value) (an:Option Addr) (cdv ct:Value) (us:List Value),us.length=ps.length->bindArgs (PySem.W.fnOf x x (jYe (top i)) (jUx (top i)) (jKf (top i)) .none kV doc pm an cdv ct) ⟨us,[]⟩=pure (ps.zip us):=by (intro _ _ _ _ _ _ us hl;first | (apply ln1 hl;intros;rfl) | (apply ln2 hl;intros;rfl) | (apply ln3 hl;intros;rfl) | (apply ln4 hl;intros;rfl) | (apply ln5 hl;intros;rfl)))
  (m:Mono sp:=by (intro xs G Q Q' hq;(repeat' (first | (refine Exists.imp fun _=> ?_) | (refine And.imp_right ?_)));intro k;intros;apply hq;apply k<;>assumption))
  (n:∀xs G Q,sp xs G Q->xs.length=ps.length:=by (intro xs G Q h;repeat (first | exact (lJ9 List.length h.1).trans rfl | obtain⟨_,h⟩:=h))):Cal P w K mg base (k+1) x ps sp:=by
 obtain⟨f,fd,a,F⟩:=F
 exact⟨⟨f,fd,fn3 F S fun cdv A outer s H E hr=>⟨t,d f cdv A outer s H E hr (hu_of hr) S.nd,h⟩,a,F.kp,F.binds b⟩,m,n⟩
theorem kQ7 (T:Txt K mg):Cal P w K mg base 1 "is_number" ["thing"] jVd:=
 cal3 T.f_is_number kJx fun _ _ _ _ _ _ _ hr hu nd=>
  (jJk (jJ5 (qQc (jJm kQi (by rfl) T.n_isinstance rfl (jJb (jJc 0) (jJb (e_ty rfl T.n_int rfl) jJd))) (qQb (e_not (jJm kQi (by rfl) T.n_isinstance rfl (jJb (jJc 0) (jJb (e_ty rfl T.n_bool rfl) jJd))))))))
theorem jQw (T:Txt K mg):Cal P w K mg base 2 "is_number_of_room" ["web","thing"] jKm:=
 cal3 T.f_is_number_of_room jU4 fun _ _ _ _ _ _ _ hr hu nd=>
  (jJk (jJ5 (qQc (jJ4 (kQ7 T) (hr.mono (by decide)) (jJb (jJc 1) jJd)) (qQb (qZ0 (qU7 hu) o_lt jJj (jJc 1) (jJm jKq (by rfl) T.n_len lJp (jJb (jJc 0) jJd)))))))
theorem kY3 (T:Txt K mg):Cal P w K mg base 3 "is_pair" ["one","other","thing"] jX2:=
 cal3 T.f_is_pair kQt fun _ _ _ _ _ _ _ hr hu nd=>
  (jJe (s_if (PW3.pt (w_or (kJq (jZe (jJm kQi (by rfl) T.n_isinstance rfl (jJb (jJc 2) (jJb (jKn (jJb (e_ty rfl T.n_tuple rfl) (jJb (e_ty rfl T.n_list rfl) jJd))) jJd))))) (kKi (jKi (jZz hr.units) (jJm jKq (by rfl) T.n_len lJp (jJb (jJc 2) jJd)) jJj (jJq _))))) (jJk (jJ5 e_bl)) jJ9)
   (jJk (jJ5 (qQc (jJ4 (jQw T) (hr.mono (by decide)) (jJb (jJc 0) (jJb (e_ix (ix_F hu) (jJc 2) jJj (fun _ _=>rfl)) jJd))) (qQb (jJ4 (jQw T) (hr.mono (by decide)) (jJb (jJc 1) (jJb (e_ix (ix_F hu) (jJc 2) jJj (fun _ _=>rfl)) jJd))))))))
theorem kY4 (T:Txt K mg):Cal P w K mg base 1 "is_kept" ["left_ends","right_ends","known"] jX3:=
 cal3 T.f_is_kept kQu fun _ _ _ _ _ _ _ hr hu nd=>
  (jJe (s_if (jKi (jZz hr.units) (jJm jKq (by rfl) T.n_len lJp (jJb (jJc 0) jJd)) (jJm jKq (by rfl) T.n_len lJp (jJb (jJc 1) jJd)) (jJq _)) (jJk (jJ5 e_bl)) jJ9)
   (jJe (jK0 lJt rfl (qZp rfl T.n_zip rfl (jJb (jJc 0) (jJb (jJc 1) jJd))) (jVl rfl (jJz (jJo (i:=3) nd) (jJz (jJo (i:=4) nd) jQn))) (jJk (s_if (PW3.pt (w_or (jKi (jZz hr.units) (e_ix (ix_F hu) (jJc 3) jJj (fun _ _=>rfl)) (e_ix (ix_F hu) (jJc 4) jJj (fun _ _=>rfl)) (jJq _)) (kKi (jKi (jZy hu) (jKn (jJb (e_ix (ix_F hu) (jJc 3) jJj (fun _ _=>rfl)) (jJb (e_ix (ix_F hu) (jJc 4) jJj (fun _ _=>rfl)) jJd))) (jJc 2) (jJq _))))) (jJk (jJ5 e_bl)) jJ9)))
   (jJk (jJ5 e_bl))))
theorem jYr (T:Txt K mg):Cal P w K mg base 4 "shows_pairing" ["one","a","other","b","pairs"] jQp:=
 cal3 T.f_shows_pairing jXn fun _ _ _ _ _ _ _ hr hu nd=>
  (jJe (s_if (PW3.pt (w_or (kJq (jZe (jJm kQi (by rfl) T.n_isinstance rfl (jJb (jJc 4) (jJb (jKn (jJb (e_ty rfl T.n_tuple rfl) (jJb (e_ty rfl T.n_list rfl) jJd))) jJd))))) (kKi (kJq (jZe (jJm (qQq rfl) (by rfl) T.n_all rfl (jJb (jQo (mask:=[false,false,false,false,false,false,false,true]) rfl ⟨rfl,rfl,rfl,rfl,rfl,rfl,rfl⟩ (jQs (jJc 4)) jJ6 (fun C fp s H=>(jJo (i:=7) nd)) (fun C fp s H=>jQh) (fun C fp s H=>(jJ4 (kY3 T) (hr.mono (by decide)) (jJb (jJc 0) (jJb (jJc 2) (jJb (jJc 7) jJd)))))) jJd))))))) (jJk (jJ5 e_bl)) jJ9)
   (jJe (jKa (i:=5) nd e_dct)
   (jJe (jK0 lJt rfl (jQs (jJc 4)) (jJo (i:=6) nd) (jJk (jVx e_bl (jXb (jJc 5) (jKl jQu (by rfl) T.n_tuple rfl (jJb (jJc 6) jJd)) (s_F hu)))))
   (jJk (jJ5 (qQc (kUi (o_inFu hu) (jKn (jJb (jJc 1) (jJb (jJc 3) jJd))) (jJc 5) (jJq _)) (qQb (jJm (qQq rfl) (by rfl) T.n_all rfl (jJb (jQo (mask:=[false,false,false,false,false,false,true,false]) rfl ⟨rfl,rfl,rfl,rfl,rfl,rfl,rfl⟩ (i_fd (jJc 5)) jJ6 (fun C fp s H=>(jJo (i:=6) nd)) (fun C fp s H=>jQh) (fun C fp s H=>(jJ4 (kY4 T) (hr.mono (by decide)) (jJb (e_ix (ix_F hu) (jJc 0) (e_ix (ix_F hu) (jJc 6) jJj (fun _ _=>rfl)) (fun _ _=>rfl)) (jJb (e_ix (ix_F hu) (jJc 2) (e_ix (ix_F hu) (jJc 6) jJj (fun _ _=>rfl)) (fun _ _=>rfl)) (jJb (jJc 5) jJd)))))) jJd)))))))))
theorem jV2 (T:Txt K mg):Cal P w K mg base 5 "shows_never" ["web","a","b","pairs"] jKr:=
 cal3 T.f_shows_never jYp fun _ _ _ _ _ _ _ hr hu nd=>
  (jJk (jJ5 (qQc (jJ4 (jYr T) (hr.mono (by decide)) (jJb (jJc 0) (jJb (jJc 1) (jJb (jJc 0) (jJb (jJc 2) (jJb (jJc 3) jJd)))))) (qQb (jJm (qQq rfl) (by rfl) T.n_all rfl (jJb (jQo (mask:=[false,false,false,false,true]) rfl ⟨rfl,rfl,rfl,rfl,rfl,rfl,rfl⟩ (jQs (jJc 3)) jJ6 (fun C fp s H=>(jJo (i:=4) nd)) (fun C fp s H=>jQh) (fun C fp s H=>(kUi (jZz hr.units) (e_ix (ix_F hu) (jJc 4) jJj (fun _ _=>rfl)) (e_ix (ix_F hu) (jJc 4) jJj (fun _ _=>rfl)) (jJq _)))) jJd))))))
theorem qU6 (T:Txt K mg):Cal P w K mg base 1 "_law_box" ["_law_script","_law_k"] jYy:=
 cal3 T.f_l_box kYx fun _ _ _ _ _ _ _ hr hu nd=>
  (jJe (jKa (i:=2) nd (e_ix (ix_F hu) (e_op jJx (jJc 0) (e_op jQ5 (jQf (jJb jJj jJd)) (e_op jJx (jJc 1) jJj))) (jJc 1) (fun _ _=>rfl)))
   (jJk (jJ5 (jQf (jJb (e_op jQ5 (jJm c_abs (by rfl) T.n_abs rfl (jJb (jJc 2) jJd)) (jKl qZ8 (by rfl) T.n_int rfl (jJb (kUi o_ge (jJm c_abs (by rfl) T.n_abs rfl (jJb (jJc 2) jJd)) (e_op o_pow jJj jJj) (jJq _)) jJd))) (jJb (e_op jXs (e_op jQ5 (e_op jJx (e_op jJx (e_op jXs (jJc 2) jJj) (e_op jQ5 jJj (jJc 1))) jJj) jJj) jJj) (jJb jJj jJd)))))))
theorem jJw (T:Txt K mg):Cal P w K mg base 1 "_law_take" ["_law_box_here","_law_many"] jJl:=
 cal3 T.f_l_take kU5 fun _ _ _ _ _ _ _ hr hu nd=>
  (jJe (s_if (jKi o_gt (e_ix (ix_F hu) (jJc 0) jJj (fun _ _=>rfl)) jJj (jJq _)) (jJe (jVx (jJm qV6 (by rfl) T.n_divmod rfl (jJb (e_ix (ix_F hu) (jJc 0) jJj (fun _ _=>rfl)) (jJb (jJc 1) jJd))) (jVl rfl (jJz (jXb (jJc 0) jJj (s_F hu)) (jJz (jJo (i:=2) nd) jQn))))
   (jJk (jJ5 (jJc 2)))) jJ9)
   (jJe (jVx (e_op jJx (e_ix (ix_F hu) (jJc 0) jJj (fun _ _=>rfl)) jJj) (jXb (jJc 0) jJj (s_F hu)))
   (jJe (jKa (i:=3) nd (e_op jXs (e_op jQ5 (e_op jJx (e_ix (ix_F hu) (jJc 0) jJj (fun _ _=>rfl)) (e_op jQ5 jJj (e_ix (ix_F hu) (jJc 0) jJj (fun _ _=>rfl)))) (e_op jJx jJj (e_ix (ix_F hu) (jJc 0) jJj (fun _ _=>rfl)))) jJj))
   (jJe (jVx (e_op jXs (e_op jJx (e_op jQ5 (jJc 3) (e_op jJx (e_op jXs (jJc 3) jJj) jJj)) (e_ix (ix_F hu) (jJc 0) jJj (fun _ _=>rfl))) jJj) (jXb (jJc 0) jJj (s_F hu)))
   (jJk (jJ5 (e_op jXs (e_op o_fdiv (e_op jXs (e_op jQ5 (e_ix (ix_F hu) (jJc 0) jJj (fun _ _=>rfl)) (e_op jJx (e_op jXs (e_ix (ix_F hu) (jJc 0) jJj (fun _ _=>rfl)) jJj) jJj)) jJj) jJj) (jJc 1))))))))
theorem kVh (T:Txt K mg):Cal P w K mg base 1 "_law_folded" ["_law_script","_law_many"] jUr:=
 cal3 T.f_l_folded kKx fun _ _ _ _ _ _ _ hr hu nd=>
  (jJe (jKa (i:=2) nd (jKl qQp (by rfl) T.n_list rfl (jJb (jQe sl_F (jJc 0) jU1 (jQv (jJc 1))) jJd)))
   (jJe (jK0 lJt rfl (kX8 rfl T.n_enumerate rfl (jJb (jQe sl_F (jJc 0) (jQv (jJc 1)) (jQv jJj)) jJd)) (jVl rfl (jJz (jJo (i:=3) nd) (jJz (jJo (i:=4) nd) jQn))) (jJk (jVx (e_op jJx (e_ix (ix_F hu) (jJc 2) (e_op jXs (jJc 3) (jJc 1)) (fun _ _=>rfl)) (e_op jQ5 (jJc 4) (e_op jJx (jJc 3) jJj))) (jXb (jJc 2) (e_op jXs (jJc 3) (jJc 1)) (s_F hu)))))
   (jJk (jJ5 (jJc 2)))))
theorem kVg (T:Txt K mg):Cal P w K mg base 1 "_law_joined" ["_law_halves"] jV4:=
 cal3 T.f_l_joined kKw fun _ _ _ _ _ _ _ hr hu nd=>
  (jJe (jKa (i:=1) nd e_dct)
   (jJe (jK0 lJt rfl (jKc rfl T.n_range (jJb (jJm jKq (by rfl) T.n_len lJp (jJb (jJc 0) jJd)) jJd)) (jJo (i:=2) nd) (jJk (jK0 lJt rfl (kX8 rfl T.n_enumerate rfl (jJb (e_ix (ix_F hu) (jJc 0) (jJc 2) (fun _ _=>rfl)) jJd)) (jVl rfl (jJz (jJo (i:=3) nd) (jJz (jJo (i:=4) nd) jQn))) (jJk (jVx (jKn (jJb (jJc 2) (jJb (jJc 3) jJd))) (jXb (jJc 1) (jJc 4) (s_F hu)))))))
   (jJe (jKa (i:=5) nd (jQf jJd))
   (jJe (jK0 lJt rfl (jQs (jJc 0)) (jJo (i:=6) nd) (jJk (jUk (e_bm lKo lQh lQi jK5 (jJc 5) (jJb (jKl jQu (by rfl) T.n_tuple rfl (jJb (jQo (mask:=[false,false,false,false,false,false,false,true,true]) rfl ⟨rfl,rfl,rfl,rfl,rfl,rfl,rfl⟩ (jQs (jJc 6)) (qKy (jYc jJ6 jUw (jYc jJ6 jUw qKz kKc) (kVt jUw kKc))) (fun C fp s H=>(jVl rfl (jJz (jJo (i:=7) nd) (jJz (jJo (i:=8) nd) jQn)))) (fun C fp s H=>jQh) (fun C fp s H=>(e_ix (ix_F hu) (jJc 1) (jKn (jJb (jJc 7) (jJb (e_ix (ix_F hu) (jQf (jJb jJj (jJb jJj (jJb jJj jJd)))) (jJc 8) (fun _ _=>rfl)) jJd))) (fun _ _=>rfl)))) jJd)) jJd)))))
   (jJk (jJ5 (jKl jQu (by rfl) T.n_tuple rfl (jJb (jJc 5) jJd))))))))
theorem jV3 (T:Txt K mg):Cal P w K mg base 2 "_law_doors_put" ["_law_box_here","_law_pairs_here","_law_many"] jK4:=
 cal3 T.f_l_doors_put jYq fun _ _ _ _ _ _ _ hr hu nd=>
  (jJe (jZj (i:=3) (mask:=[false,false,false,false,false,false,false,false,true,false]) rfl nd ⟨rfl,rfl,rfl,rfl,rfl,rfl,rfl⟩ (jKc rfl T.n_range (jJb (jJc 2) jJd)) jJ6 (fun C fp s H=>(jJo (i:=8) nd)) (fun C fp s H=>jQh) (fun C fp s H=>(jQf jJd)))
   (jJe (jK0 lJt rfl (kX8 rfl T.n_enumerate rfl (jJb (jJc 1) jJd)) (jVl rfl (jJz (jJo (i:=4) nd) (jJz (jVl rfl (jJz (jJo (i:=5) nd) (jJz (jJo (i:=6) nd) jQn))) jQn))) (jJe (jKa (i:=7) nd (qZz (jKi (jU5 hr.units) (jJc 6) (jJc 2) (jJq _)) (jQf (jJb (jKn (jJb (jJc 5) (jJb jJj jJd))) jJd)) (jQf (jJb (jKn (jJb (jJc 5) (jJb jJj jJd))) (jJb (jKn (jJb (jJc 6) (jJb jJj jJd))) jJd)))))
   (jJk (jK0 lJt rfl (jQs (jJc 7)) (jVl rfl (jJz (jJo (i:=8) nd) (jJz (jJo (i:=9) nd) jQn))) (jJk (jUk (e_bm lKo PySem.F.slot_list_insert PySem.F.type_list_insert kX3 (e_ix (ix_F hu) (jJc 3) (jJc 8) (fun _ _=>rfl)) (jJb (jJ4 (jJw T) (hr.mono (by decide)) (jJb (jJc 0) (jJb (e_op jJx (jJm jKq (by rfl) T.n_len lJp (jJb (e_ix (ix_F hu) (jJc 3) (jJc 8) (fun _ _=>rfl)) jJd)) jJj) jJd))) (jJb (jKn (jJb (jJc 4) (jJb (jJc 9) jJd))) jJd)))))))))
   (jJk (jJ5 (jJ4 (kVg T) (hr.mono (by decide)) (jJb (jJc 3) jJd))))))
theorem kXy (T:Txt K mg):Cal P w K mg base 3 "_law_web" ["_law_box_here","_law_many","_law_most"] jVn:=
 cal3 T.f_l_web kYu fun _ _ _ _ _ _ _ hr hu nd=>
  (jJe (jKa (i:=3) nd (e_op jQ5 (jQf (jJb jJj jJd)) (jJc 1)))
   (jJe (jKa (i:=4) nd (jQf jJd))
   (jJe (jK0 lJt rfl (kQa rfl T.n_range (jJb jJj (jJb (jJc 1) jJd))) (jJo (i:=5) nd) (jJe (jZj (i:=6) (mask:=[false,false,false,false,false,false,false,false,false,false,false,true]) rfl nd ⟨rfl,rfl,rfl,rfl,rfl,rfl,rfl⟩ (jKc rfl T.n_range (jJb (jJc 5) jJd)) jJ6 (fun C fp s H=>(jJo (i:=11) nd)) (fun C fp s H=>(kKa (jKi o_lt (e_ix (ix_F hu) (jJc 3) (jJc 11) (fun _ _=>rfl)) (jJc 2) (jJq _)))) (fun C fp s H=>(jJc 11)))
   (jJe (jUk (e_bm lKo lQh lQi jK5 (jJc 4) (jJb (jKn (jJb (e_ix (ix_F hu) (jJc 6) (jJ4 (jJw T) (hr.mono (by decide)) (jJb (jJc 0) (jJb (jJm jKq (by rfl) T.n_len lJp (jJb (jJc 6) jJd)) jJd))) (fun _ _=>rfl)) (jJb (jJc 5) jJd))) jJd)))
   (jJk (jK0 lJt rfl (jQs (e_ix (ix_F hu) (jJc 4) (e_un qYd jJj) (fun _ _=>rfl))) (jJo (i:=7) nd) (jJk (jVx (e_op jJx (e_ix (ix_F hu) (jJc 3) (jJc 7) (fun _ _=>rfl)) jJj) (jXb (jJc 3) (jJc 7) (s_F hu)))))))))
   (jJe (jK0 lJt rfl (jKc rfl T.n_range (jJb (jJ4 (jJw T) (hr.mono (by decide)) (jJb (jJc 0) (jJb (e_op jJx (jJc 1) jJj) jJd))) jJd)) (jJo (i:=8) nd) (jJe (jKa (i:=9) nd (jKn (jJb (jJ4 (jJw T) (hr.mono (by decide)) (jJb (jJc 0) (jJb (jJc 1) jJd))) (jJb (jJ4 (jJw T) (hr.mono (by decide)) (jJb (jJc 0) (jJb (e_op jJx (jJc 1) jJj) jJd))) jJd))))
   (jJe (jKa (i:=10) nd (jQo (mask:=[false,false,false,false,false,false,false,true,false,false,false,false]) rfl ⟨rfl,rfl,rfl,rfl,rfl,rfl,rfl⟩ (jQs (jJc 9)) jJ6 (fun C fp s H=>(jJo (i:=7) nd)) (fun C fp s H=>(kKa (jKi o_lt (jJc 7) (jJc 1) (jJq _)))) (fun C fp s H=>(jJc 7))))
   (jJk (s_if (jZe (jJm (qQq rfl) (by rfl) T.n_all rfl (jJb (jQo (mask:=[false,false,false,false,false,false,false,true,false,false,false,false]) rfl ⟨rfl,rfl,rfl,rfl,rfl,rfl,rfl⟩ (jQs (jJc 10)) jJ6 (fun C fp s H=>(jJo (i:=7) nd)) (fun C fp s H=>jQh) (fun C fp s H=>(kUi (qU7 hu) (e_op jJx (e_ix (ix_F hu) (jJc 3) (jJc 7) (fun _ _=>rfl)) (e_bm lKo PySem.F.slot_list_count PySem.F.type_list_count qY9 (jJc 10) (jJb (jJc 7) jJd))) (jJc 2) (jJq _)))) jJd))) (jJe (jUk (e_bm lKo lQh lQi jK5 (jJc 4) (jJb (jJc 9) jJd)))
   (jJk (jK0 lJt rfl (jQs (jJc 10)) (jJo (i:=7) nd) (jJk (jVx (e_op jJx (e_ix (ix_F hu) (jJc 3) (jJc 7) (fun _ _=>rfl)) jJj) (jXb (jJc 3) (jJc 7) (s_F hu))))))) jJ9)))))
   (jJk (jJ5 (jJ4 (jV3 T) (hr.mono (by decide)) (jJb (jJc 0) (jJb (jJc 4) (jJb (jJc 1) jJd))))))))))
theorem qJ5 (T:Txt K mg):Cal P w K mg base 3 "_law_even" ["_law_box_here","_law_many","_law_doors"] jXj:=
 cal3 T.f_l_even kU8 fun _ _ _ _ _ _ _ hr hu nd=>
  (jJe (jKa (i:=3) nd (e_op jQ5 (jQf (jJb (jJc 2) jJd)) (jJc 1)))
   (jJe (jKa (i:=4) nd (jQf jJd))
   (jJe (jK0 lJt rfl (kQa rfl T.n_range (jJb jJj (jJb (jJc 1) jJd))) (jJo (i:=5) nd) (jJe (jZj (i:=6) (mask:=[false,false,false,false,false,false,false,false,true,false,false]) rfl nd ⟨rfl,rfl,rfl,rfl,rfl,rfl,rfl⟩ (jKc rfl T.n_range (jJb (jJc 5) jJd)) jJ6 (fun C fp s H=>(jJo (i:=8) nd)) (fun C fp s H=>(kKa (jKi o_gt (e_ix (ix_F hu) (jJc 3) (jJc 8) (fun _ _=>rfl)) jJj (jJq _)))) (fun C fp s H=>(jJc 8)))
   (jJe (jUk (e_bm lKo lQh lQi jK5 (jJc 4) (jJb (jKn (jJb (e_ix (ix_F hu) (jJc 6) (jJ4 (jJw T) (hr.mono (by decide)) (jJb (jJc 0) (jJb (jJm jKq (by rfl) T.n_len lJp (jJb (jJc 6) jJd)) jJd))) (fun _ _=>rfl)) (jJb (jJc 5) jJd))) jJd)))
   (jJk (jK0 lJt rfl (jQs (e_ix (ix_F hu) (jJc 4) (e_un qYd jJj) (fun _ _=>rfl))) (jJo (i:=7) nd) (jJk (jVx (e_op kJy (e_ix (ix_F hu) (jJc 3) (jJc 7) (fun _ _=>rfl)) jJj) (jXb (jJc 3) (jJc 7) (s_F hu)))))))))
   (jJe (kU1 lJt (jKi o_gt (jJm (c_sumE rfl) (by rfl) T.n_sum rfl (jJb (jJc 3) jJd)) jJj (jJq _)) (jJe (jKa (i:=8) nd (e_ix (ix_F hu) (jQo (mask:=[false,false,false,false,false,true,false,false,false,false,false]) rfl ⟨rfl,rfl,rfl,rfl,rfl,rfl,rfl⟩ (jKc rfl T.n_range (jJb (jJc 1) jJd)) jJ6 (fun C fp s H=>(jJo (i:=5) nd)) (fun C fp s H=>(kKa (jKi o_gt (e_ix (ix_F hu) (jJc 3) (jJc 5) (fun _ _=>rfl)) jJj (jJq _)))) (fun C fp s H=>(jJc 5))) jJj (fun _ _=>rfl)))
   (jJe (jVx (e_op kJy (e_ix (ix_F hu) (jJc 3) (jJc 8) (fun _ _=>rfl)) jJj) (jXb (jJc 3) (jJc 8) (s_F hu)))
   (jJe (jKa (i:=9) nd (e_op jJx (jQo (mask:=[false,false,false,false,false,true,false,false,false,false,false]) rfl ⟨rfl,rfl,rfl,rfl,rfl,rfl,rfl⟩ (jKc rfl T.n_range (jJb (jJc 1) jJd)) jJ6 (fun C fp s H=>(jJo (i:=5) nd)) (fun C fp s H=>(kKa (jKi o_gt (e_ix (ix_F hu) (jJc 3) (jJc 5) (fun _ _=>rfl)) jJj (jJq _)))) (fun C fp s H=>(jJc 5))) (jQf (jJb (jJc 1) jJd))))
   (jJe (jKa (i:=10) nd (e_ix (ix_F hu) (jJc 9) (jJ4 (jJw T) (hr.mono (by decide)) (jJb (jJc 0) (jJb (jJm jKq (by rfl) T.n_len lJp (jJb (jJc 9) jJd)) jJd))) (fun _ _=>rfl)))
   (jJe (jUk (e_bm lKo lQh lQi jK5 (jJc 4) (jJb (jKn (jJb (jJc 8) (jJb (jJc 10) jJd))) jJd)))
   (jJk (s_if (jKi o_lt (jJc 10) (jJc 1) (jJq _)) (jJk (jVx (e_op kJy (e_ix (ix_F hu) (jJc 3) (jJc 10) (fun _ _=>rfl)) jJj) (jXb (jJc 3) (jJc 10) (s_F hu)))) jJ9))))))))
   (jJk (jJ5 (jJ4 (jV3 T) (hr.mono (by decide)) (jJb (jJc 0) (jJb (jJc 4) (jJb (jJc 1) jJd))))))))))
theorem qJ3 (T:Txt K mg):Cal P w K mg base 1 "_law_ring" ["_law_many"] jXh:=
 cal3 T.f_l_ring kU6 fun _ _ _ _ _ _ _ hr hu nd=>
  (jJk (jJ5 (jKl jQu (by rfl) T.n_tuple rfl (jJb (jQo (mask:=[false,true]) rfl ⟨rfl,rfl,rfl,rfl,rfl,rfl,rfl⟩ (jKc rfl T.n_range (jJb (jJc 0) jJd)) jJ6 (fun C fp s H=>(jJo (i:=1) nd)) (fun C fp s H=>jQh) (fun C fp s H=>(jKn (jJb (jKn (jJb (e_op jXs (e_op jJx (jJc 1) jJj) (jJc 0)) (jJb jJj jJd))) (jJb (jKn (jJb (e_op jXs (e_op kJy (jJc 1) jJj) (jJc 0)) (jJb jJj jJd))) jJd))))) jJd))))
theorem kQ4 (T:Txt K mg):Cal P w K mg base 1 "_law_ends" ["_law_web_here"] jVc:=
 cal3 T.f_l_ends kU9 fun _ _ _ _ _ _ _ hr hu nd=>
  (jJe (jKa (i:=1) nd (jQf jJd))
   (jJe (jK0 lJt rfl (jKc rfl T.n_range (jJb (jJm jKq (by rfl) T.n_len lJp (jJb (jJc 0) jJd)) jJd)) (jJo (i:=2) nd) (jJk (jK0 lJt rfl (jKc rfl T.n_range (jJb (jJm jKq (by rfl) T.n_len lJp (jJb (e_ix (ix_F hu) (jJc 0) (jJc 2) (fun _ _=>rfl)) jJd)) jJd)) (jJo (i:=3) nd) (jJk (s_if (jKi (qU7 hu) (jKn (jJb (jJc 2) (jJb (jJc 3) jJd))) (e_ix (ix_F hu) (e_ix (ix_F hu) (jJc 0) (jJc 2) (fun _ _=>rfl)) (jJc 3) (fun _ _=>rfl)) (jJq _)) (jJk (jUk (e_bm lKo lQh lQi jK5 (jJc 1) (jJb (jKn (jJb (jKn (jJb (jJc 2) (jJb (jJc 3) jJd))) (jJb (e_ix (ix_F hu) (e_ix (ix_F hu) (jJc 0) (jJc 2) (fun _ _=>rfl)) (jJc 3) (fun _ _=>rfl)) jJd))) jJd)))) jJ9)))))
   (jJk (jJ5 (jJc 1)))))
theorem kQ1 (T:Txt K mg):Cal P w K mg base 1 "_law_reached" ["_law_web_here","_law_room"] jVa:=
 cal3 T.f_l_reached kJt fun _ _ _ _ _ _ _ hr hu nd=>
  (jJe (jKa (i:=2) nd (jQf (jJb (jJc 1) jJd)))
   (jJe (jKa (i:=3) nd jJj)
   (jJe (kU1 lJt (jKi o_lt (jJc 3) (jJm jKq (by rfl) T.n_len lJp (jJb (jJc 2) jJd)) (jJq _)) (jJe (jK0 lJt rfl (jQs (e_ix (ix_F hu) (jJc 0) (e_ix (ix_F hu) (jJc 2) (jJc 3) (fun _ _=>rfl)) (fun _ _=>rfl))) (jVl rfl (jJz (jJo (i:=4) nd) (jJz (jJo (i:=5) nd) jQn))) (jJk (s_if (jKi (jZy hu) (jJc 4) (jJc 2) (jJq _)) (jJk (jUk (e_bm lKo lQh lQi jK5 (jJc 2) (jJb (jJc 4) jJd)))) jJ9)))
   (jJk (jKa (i:=3) nd (e_op jJx (jJc 3) jJj)))))
   (jJk (jJ5 (jJc 2))))))
theorem kQ0 (T:Txt K mg):Cal P w K mg base 2 "_law_sheeted" ["_law_web_here","_law_turns","_law_many"] jU9:=
 cal3 T.f_l_sheeted kJs fun _ _ _ _ _ _ _ hr hu nd=>
  (jJe (jZj (i:=3) (mask:=[false,false,false,false,false,false,false,false,false,false,true,false]) rfl nd ⟨rfl,rfl,rfl,rfl,rfl,rfl,rfl⟩ (jKc rfl T.n_range (jJb (e_op jQ5 (jJc 2) (jJm jKq (by rfl) T.n_len lJp (jJb (jJc 0) jJd))) jJd)) jJ6 (fun C fp s H=>(jJo (i:=10) nd)) (fun C fp s H=>jQh) (fun C fp s H=>(e_op jQ5 (jQf (jJb e_non jJd)) (jJm jKq (by rfl) T.n_len lJp (jJb (e_ix (ix_F hu) (jJc 0) (e_op jXs (jJc 10) (jJm jKq (by rfl) T.n_len lJp (jJb (jJc 0) jJd))) (fun _ _=>rfl)) jJd)))))
   (jJe (jK0 lJt rfl (kX8 rfl T.n_enumerate rfl (jJb (jJ4 (kQ4 T) (hr.mono (by decide)) (jJb (jJc 0) jJd)) jJd)) (jVl rfl (jJz (jJo (i:=4) nd) (jJz (jVl rfl (jJz (jJo (i:=5) nd) (jJz (jJo (i:=6) nd) jQn))) jQn))) (jJk (jK0 lJt rfl (jKc rfl T.n_range (jJb (jJc 2) jJd)) (jJo (i:=7) nd) (jJe (jKa (i:=8) nd (e_op jJx (e_ix (ix_F hu) (jJc 5) jJj (fun _ _=>rfl)) (e_op jQ5 (jJc 7) (jJm jKq (by rfl) T.n_len lJp (jJb (jJc 0) jJd)))))
   (jJe (jKa (i:=9) nd (e_op jJx (e_ix (ix_F hu) (jJc 6) jJj (fun _ _=>rfl)) (e_op jQ5 (e_ix (ix_F hu) (e_ix (ix_F hu) (jJc 1) (jJc 4) (fun _ _=>rfl)) (jJc 7) (fun _ _=>rfl)) (jJm jKq (by rfl) T.n_len lJp (jJb (jJc 0) jJd)))))
   (jJe (jVx (jKn (jJb (jJc 9) (jJb (e_ix (ix_F hu) (jJc 6) jJj (fun _ _=>rfl)) jJd))) (jXb (e_ix (ix_F hu) (jJc 3) (jJc 8) (fun _ _=>rfl)) (e_ix (ix_F hu) (jJc 5) jJj (fun _ _=>rfl)) (s_F hu)))
   (jJk (jVx (jKn (jJb (jJc 8) (jJb (e_ix (ix_F hu) (jJc 5) jJj (fun _ _=>rfl)) jJd))) (jXb (e_ix (ix_F hu) (jJc 3) (jJc 9) (fun _ _=>rfl)) (e_ix (ix_F hu) (jJc 6) jJj (fun _ _=>rfl)) (s_F hu))))))))))
   (jJk (jJ5 (jKl jQu (by rfl) T.n_tuple rfl (jJb (jQo (mask:=[false,false,false,false,false,false,false,false,false,false,false,true]) rfl ⟨rfl,rfl,rfl,rfl,rfl,rfl,rfl⟩ (jQs (jJc 3)) jJ6 (fun C fp s H=>(jJo (i:=11) nd)) (fun C fp s H=>jQh) (fun C fp s H=>(jKl jQu (by rfl) T.n_tuple rfl (jJb (jJc 11) jJd)))) jJd))))))
theorem qJ2 (T:Txt K mg):Cal P w K mg base 2 "_law_turn" ["_law_box_here","_law_many","_law_own"] jZi:=
 cal3 T.f_l_turn kU4 fun _ _ _ _ _ _ _ hr hu nd=>
  (jJe (jKa (i:=3) nd (jQf jJd))
   (jJe (jK0 lJt rfl (jKc rfl T.n_range (jJb (jJc 1) jJd)) (jJo (i:=4) nd) (jJk (jUk (e_bm lKo PySem.F.slot_list_insert PySem.F.type_list_insert kX3 (jJc 3) (jJb (jJ4 (jJw T) (hr.mono (by decide)) (jJb (jJc 0) (jJb (e_op jJx (jJc 4) jJj) jJd))) (jJb (jJc 4) jJd))))))
   (jJe (s_if (kJq (t_tru qYg (jJc 2))) (jJk (jJ5 (jKl jQu (by rfl) T.n_tuple rfl (jJb (jJc 3) jJd)))) jJ9)
   (jJe (jKa (i:=5) nd (kVy rfl T.n_list rfl T.n_range rfl (jJb (jJc 1) jJd)))
   (jJe (jK0 lJt rfl (qVr rfl T.n_range (jJb jJj (jJb (e_op kJy (jJc 1) jJj) (jJb jJj jJd)))) (jJo (i:=4) nd) (jJe (s_par (i:=6) (j:=7) rfl nd (by decide) (jJb (e_ix (ix_F hu) (jJc 3) (jJc 4) (fun _ _=>rfl)) (jJb (e_ix (ix_F hu) (jJc 3) (e_op jJx (jJc 4) jJj) (fun _ _=>rfl)) jJd)))
   (jJe (jVx (jJc 7) (jXb (jJc 5) (jJc 6) (s_F hu)))
   (jJk (jVx (jJc 6) (jXb (jJc 5) (jJc 7) (s_F hu)))))))
   (jJk (jJ5 (jKl jQu (by rfl) T.n_tuple rfl (jJb (jJc 5) jJd)))))))))
theorem kQ5 (T:Txt K mg):Cal P w K mg base 3 "_law_covered" ["_law_box_here","_law_web_here","_law_many"] jQ9:=
 cal3 T.f_l_covered kJw fun _ _ _ _ _ _ _ hr hu nd=>
  (jJe (jK0 lJt rfl (jKc rfl T.n_range (jJb jJj jJd)) (jJo (i:=3) nd) (jJe (jZj (i:=4) (mask:=[false,false,false,false,false,false,true]) rfl nd ⟨rfl,rfl,rfl,rfl,rfl,rfl,rfl⟩ (jQs (jJ4 (kQ4 T) (hr.mono (by decide)) (jJb (jJc 1) jJd))) jJ6 (fun C fp s H=>(jJo (i:=6) nd)) (fun C fp s H=>jQh) (fun C fp s H=>(jJ4 (qJ2 T) (hr.mono (by decide)) (jJb (jJc 0) (jJb (jJc 2) (jJb (kUi (jU5 hr.units) (e_ix (ix_F hu) (jJc 6) jJj (fun _ _=>rfl)) (e_ix (ix_F hu) (jJc 6) jJj (fun _ _=>rfl)) (jJq _)) jJd))))))
   (jJe (jKa (i:=5) nd (jJ4 (kQ0 T) (hr.mono (by decide)) (jJb (jJc 1) (jJb (jJc 4) (jJb (jJc 2) jJd)))))
   (jJk (s_if (jKi (jU5 hr.units) (jJm jKq (by rfl) T.n_len lJp (jJb (jJ4 (kQ1 T) (hr.mono (by decide)) (jJb (jJc 5) (jJb jJj jJd))) jJd)) (jJm jKq (by rfl) T.n_len lJp (jJb (jJc 5) jJd)) (jJq _)) (jJk (jJ5 (jJc 5))) jJ9)))))
   (jJk (jJ5 (jJc 1))))
theorem kY1 (T:Txt K mg):Cal P w K mg base 1 "_law_kinds" ["_law_web_here"] jX1:=
 cal3 T.f_l_kinds kQr fun _ _ _ _ _ _ _ hr hu nd=>
  (jJe (jKa (i:=1) nd (jQo (mask:=[false,false,false,false,false,false,true,false,false,false]) rfl ⟨rfl,rfl,rfl,rfl,rfl,rfl,rfl⟩ (jQs (jJc 0)) jJ6 (fun C fp s H=>(jJo (i:=6) nd)) (fun C fp s H=>jQh) (fun C fp s H=>(jJm jKq (by rfl) T.n_len lJp (jJb (jJc 6) jJd)))))
   (jJe (jK0 lJt rfl (jKc rfl T.n_range (jJb (jJm jKq (by rfl) T.n_len lJp (jJb (jJc 0) jJd)) jJd)) (jJo (i:=2) nd) (jJe (jKa (i:=3) nd (jQf jJd))
   (jJe (jK0 lJt rfl (jKc rfl T.n_range (jJb (jJm jKq (by rfl) T.n_len lJp (jJb (jJc 0) jJd)) jJd)) (jJo (i:=4) nd) (jJk (jUk (e_bm lKo lQh lQi jK5 (jJc 3) (jJb (jKn (jJb (e_ix (ix_F hu) (jJc 1) (jJc 4) (fun _ _=>rfl)) (jJb (jKl jQu (by rfl) T.n_tuple rfl (jJb (jQo (mask:=[false,false,false,false,false,false,false,true,true,false]) rfl ⟨rfl,rfl,rfl,rfl,rfl,rfl,rfl⟩ (jQs (e_ix (ix_F hu) (jJc 0) (jJc 4) (fun _ _=>rfl))) (qKy (jYc jJ6 jUw (jYc jJ6 jUw qKz kKc) (kVt jUw kKc))) (fun C fp s H=>(jVl rfl (jJz (jJo (i:=7) nd) (jJz (jJo (i:=8) nd) jQn)))) (fun C fp s H=>jQh) (fun C fp s H=>(jKn (jJb (jJc 8) (jJb (e_ix (ix_F hu) (jJc 1) (jJc 7) (fun _ _=>rfl)) jJd))))) jJd)) jJd))) jJd)))))
   (jJe (jKa (i:=5) nd (e_sset rfl hu (by rfl) T.n_sorted rfl (by rfl) T.n_set rfl (jJb (jJc 3) jJd)))
   (jJk (jKa (i:=1) nd (jQo (mask:=[false,false,false,false,false,false,false,false,false,true]) rfl ⟨rfl,rfl,rfl,rfl,rfl,rfl,rfl⟩ (jQs (jJc 3)) jJ6 (fun C fp s H=>(jJo (i:=9) nd)) (fun C fp s H=>jQh) (fun C fp s H=>(e_bm lKo PySem.F.slot_list_index PySem.F.type_list_index (qVg hu) (jJc 5) (jJb (jJc 9) jJd))))))))))
   (jJk (jJ5 (jJc 1)))))
theorem qJ4 (T:Txt K mg):Cal P w K mg base 1 "_law_line" ["_law_many"] jXi:=
 cal3 T.f_l_line kU7 fun _ _ _ _ _ _ _ hr hu nd=>
  (jJe (jKa (i:=1) nd (jQf (jJb (jKn (jJb (jKn (jJb jJj (jJb jJj jJd))) jJd)) jJd)))
   (jJe (jK0 lJt rfl (kQa rfl T.n_range (jJb jJj (jJb (jJc 0) jJd))) (jJo (i:=2) nd) (jJe (jKa (i:=3) nd (jQf (jJb (jKn (jJb (e_op kJy (jJc 2) jJj) (jJb (jKl qZ8 (by rfl) T.n_int rfl (jJb (kUi o_gt (jJc 2) jJj (jJq _)) jJd)) jJd))) (jJb (jKn (jJb (e_op jJx (jJc 2) jJj) (jJb jJj jJd))) jJd))))
   (jJk (jUk (e_bm lKo lQh lQi jK5 (jJc 1) (jJb (jKl jQu (by rfl) T.n_tuple rfl (jJb (jQe sl_F (jJc 3) jU1 (jQv (e_op jJx jJj (jKl qZ8 (by rfl) T.n_int rfl (jJb (kUi o_lt (jJc 2) (e_op kJy (jJc 0) jJj) (jJq _)) jJd))))) jJd)) jJd))))))
   (jJk (jJ5 (jKl jQu (by rfl) T.n_tuple rfl (jJb (jJc 1) jJd))))))
theorem kY2 (T:Txt K mg):Cal P w K mg base 4 "_law_eight" ["_law_box_here"] jVp:=
 cal3 T.f_l_eight kQs fun _ _ _ _ _ _ _ hr hu nd=>
  (jJe (jKa (i:=1) nd (jJ4 (jJw T) (hr.mono (by decide)) (jJb (jJc 0) (jJb jJj jJd))))
   (jJe (s_if (jKi (jU5 hr.units) (jJc 1) jJj (jJq _)) (jJk (jJ5 (jJ4 (qJ4 T) (hr.mono (by decide)) (jJb (e_op jJx jJj (jJ4 (jJw T) (hr.mono (by decide)) (jJb (jJc 0) (jJb jJj jJd)))) jJd)))) jJ9)
   (jJe (s_if (jKi (jU5 hr.units) (jJc 1) jJj (jJq _)) (jJk (jJ5 (jJ4 (kXy T) (hr.mono (by decide)) (jJb (jJc 0) (jJb (e_op jJx jJj (jJ4 (jJw T) (hr.mono (by decide)) (jJb (jJc 0) (jJb jJj jJd)))) (jJb (e_op jJx jJj (jJ4 (jJw T) (hr.mono (by decide)) (jJb (jJc 0) (jJb jJj jJd)))) jJd)))))) jJ9)
   (jJe (s_if (jKi (jU5 hr.units) (jJc 1) jJj (jJq _)) (jJk (jJ5 (jJ4 (qJ3 T) (hr.mono (by decide)) (jJb (e_op jJx jJj (jJ4 (jJw T) (hr.mono (by decide)) (jJb (jJc 0) (jJb jJj jJd)))) jJd)))) jJ9)
   (jJe (s_if (jKi (jU5 hr.units) (jJc 1) jJj (jJq _)) (jJk (jJ5 (jJ4 (qJ5 T) (hr.mono (by decide)) (jJb (jJc 0) (jJb (e_op jJx jJj (jJ4 (jJw T) (hr.mono (by decide)) (jJb (jJc 0) (jJb jJj jJd)))) (jJb (e_op jJx jJj (jJ4 (jJw T) (hr.mono (by decide)) (jJb (jJc 0) (jJb jJj jJd)))) jJd)))))) jJ9)
   (jJe (jKa (i:=2) nd (jJ4 (kXy T) (hr.mono (by decide)) (jJb (jJc 0) (jJb (e_op jJx jJj (jJ4 (jJw T) (hr.mono (by decide)) (jJb (jJc 0) (jJb jJj jJd)))) (jJb (e_op jJx jJj (jJ4 (jJw T) (hr.mono (by decide)) (jJb (jJc 0) (jJb jJj jJd)))) jJd)))))
   (jJk (jJ5 (jJ4 (kQ5 T) (hr.mono (by decide)) (jJb (jJc 0) (jJb (jJc 2) (jJb (e_op kJy (e_ix (ix_F hu) (jQf (jJb jJj (jJb jJj (jJb jJj (jJb jJj jJd))))) (e_op kJy (jJm jKq (by rfl) T.n_len lJp (jJb (jJc 2) jJd)) jJj) (fun _ _=>rfl)) (jJ4 (jJw T) (hr.mono (by decide)) (jJb (jJc 0) (jJb (e_ix (ix_F hu) (jQf (jJb jJj (jJb jJj (jJb jJj (jJb jJj jJd))))) (e_op kJy (jJm jKq (by rfl) T.n_len lJp (jJb (jJc 2) jJd)) jJj) (fun _ _=>rfl)) jJd)))) jJd))))))))))))
theorem kQ2 (T:Txt K mg):Cal P w K mg base 2 "_law_numbers" ["_law_web_here"] jQ8:=
 cal3 T.f_l_numbers kJu fun _ _ _ _ _ _ _ hr hu nd=>
  (jJe (jKa (i:=1) nd (jJ4 (kY1 T) (hr.mono (by decide)) (jJb (jJc 0) jJd)))
   (jJe (jKa (i:=2) nd (jQf jJd))
   (jJe (jK0 lJt rfl (jQs (jJc 1)) (jJo (i:=3) nd) (jJk (s_if (jKi (jZy hu) (jJc 3) (jJc 2) (jJq _)) (jJk (jUk (e_bm lKo lQh lQi jK5 (jJc 2) (jJb (jJc 3) jJd)))) jJ9)))
   (jJk (jJ5 (jQo (mask:=[false,false,false,true]) rfl ⟨rfl,rfl,rfl,rfl,rfl,rfl,rfl⟩ (jQs (jJc 1)) jJ6 (fun C fp s H=>(jJo (i:=3) nd)) (fun C fp s H=>jQh) (fun C fp s H=>(e_bm lKo PySem.F.slot_list_index PySem.F.type_list_index qY8 (jJc 2) (jJb (jJc 3) jJd)))))))))
theorem kQ3 (T:Txt K mg):Cal P w K mg base 1 "_law_is_pair" ["_law_web_here","_law_thing"] jVb:=
 cal3 T.f_l_is_pair kJv fun _ _ _ _ _ _ _ hr hu nd=>
  (jJe (s_if (PW3.pt (w_or (kJq (jZe (jJm kQi (by rfl) T.n_isinstance rfl (jJb (jJc 1) (jJb (jKn (jJb (e_ty rfl T.n_tuple rfl) (jJb (e_ty rfl T.n_list rfl) jJd))) jJd))))) (kKi (jKi (jZz hr.units) (jJm jKq (by rfl) T.n_len lJp (jJb (jJc 1) jJd)) jJj (jJq _))))) (jJk (jJ5 e_bl)) jJ9)
   (jJe (jK0 lJt rfl (jQs (jJc 1)) (jJo (i:=2) nd) (jJk (s_if (PW3.pt (w_or (kJq (jZe (jJm kQi (by rfl) T.n_isinstance rfl (jJb (jJc 2) (jJb (e_ty rfl T.n_int rfl) jJd))))) (w_or (jZe (jJm kQi (by rfl) T.n_isinstance rfl (jJb (jJc 2) (jJb (e_ty rfl T.n_bool rfl) jJd)))) (kKi (kJq (qYh (qU7 hu) o_lt jJj (jJc 2) (jJm jKq (by rfl) T.n_len lJp (jJb (jJc 0) jJd)))))))) (jJk (jJ5 e_bl)) jJ9)))
   (jJk (jJ5 e_bl))))
theorem qU5 (T:Txt K mg):Cal P w K mg base 2 "_law_due" ["_law_web_here","_law_a","_law_b","_law_thing"] jYx:=
 cal3 T.f_l_due kYw fun _ _ _ _ _ _ _ hr hu nd=>
  (jJe (s_if (PW3.pt (w_or (kJq (jZe (jJm kQi (by rfl) T.n_isinstance rfl (jJb (jJc 3) (jJb (jKn (jJb (e_ty rfl T.n_tuple rfl) (jJb (e_ty rfl T.n_list rfl) jJd))) jJd))))) (kKi (kJq (jZe (jJm (qQq rfl) (by rfl) T.n_all rfl (jJb (jQo (mask:=[false,false,false,false,false,false,false,false,false,true]) rfl ⟨rfl,rfl,rfl,rfl,rfl,rfl,rfl⟩ (jQs (jJc 3)) jJ6 (fun C fp s H=>(jJo (i:=9) nd)) (fun C fp s H=>jQh) (fun C fp s H=>(jJ4 (kQ3 T) (hr.mono (by decide)) (jJb (jJc 0) (jJb (jJc 9) jJd))))) jJd))))))) (jJk (jJ5 e_bl)) jJ9)
   (jJe (jZj (i:=4) (mask:=[false,false,false,false,false,false,false,false,false,true]) rfl nd ⟨rfl,rfl,rfl,rfl,rfl,rfl,rfl⟩ (jQs (jJc 3)) jJ6 (fun C fp s H=>(jJo (i:=9) nd)) (fun C fp s H=>jQh) (fun C fp s H=>(jKn (jJb (e_ix (ix_F hu) (jJc 9) jJj (fun _ _=>rfl)) (jJb (e_ix (ix_F hu) (jJc 9) jJj (fun _ _=>rfl)) jJd)))))
   (jJe (s_if (PW3.pt (w_or (jKi (kK8 hr.units) (jKn (jJb (jJc 1) (jJb (jJc 2) jJd))) (jJc 4) (jJq _)) (kKi (jZe (jJm (c_any rfl) (by rfl) T.n_any rfl (jJb (jQo (mask:=[false,false,false,false,false,true,true,false,false,false]) rfl ⟨rfl,rfl,rfl,rfl,rfl,rfl,rfl⟩ (jQs (jJc 4)) (qKy (jYc jJ6 jUw (jYc jJ6 jUw qKz kKc) (kVt jUw kKc))) (fun C fp s H=>(jVl rfl (jJz (jJo (i:=5) nd) (jJz (jJo (i:=6) nd) jQn)))) (fun C fp s H=>jQh) (fun C fp s H=>(kUi (jU5 hr.units) (jJc 5) (jJc 6) (jJq _)))) jJd)))))) (jJk (jJ5 e_bl)) jJ9)
   (jJe (jK0 lJt rfl (jQs (jJc 4)) (jVl rfl (jJz (jJo (i:=5) nd) (jJz (jJo (i:=6) nd) jQn))) (jJe (s_if (jKi (jZz hr.units) (jJm jKq (by rfl) T.n_len lJp (jJb (e_ix (ix_F hu) (jJc 0) (jJc 5) (fun _ _=>rfl)) jJd)) (jJm jKq (by rfl) T.n_len lJp (jJb (e_ix (ix_F hu) (jJc 0) (jJc 6) (fun _ _=>rfl)) jJd)) (jJq _)) (jJk (jJ5 e_bl)) jJ9)
   (jJk (jK0 lJt rfl (qZp rfl T.n_zip rfl (jJb (e_ix (ix_F hu) (jJc 0) (jJc 5) (fun _ _=>rfl)) (jJb (e_ix (ix_F hu) (jJc 0) (jJc 6) (fun _ _=>rfl)) jJd))) (jVl rfl (jJz (jJo (i:=7) nd) (jJz (jJo (i:=8) nd) jQn))) (jJk (s_if (PW3.pt (w_or (jKi (jZz hr.units) (e_ix (ix_F hu) (jJc 7) jJj (fun _ _=>rfl)) (e_ix (ix_F hu) (jJc 8) jJj (fun _ _=>rfl)) (jJq _)) (kKi (jKi (kK8 hr.units) (jKn (jJb (e_ix (ix_F hu) (jJc 7) jJj (fun _ _=>rfl)) (jJb (e_ix (ix_F hu) (jJc 8) jJj (fun _ _=>rfl)) jJd))) (jJc 4) (jJq _))))) (jJk (jJ5 e_bl)) jJ9))))))
   (jJk (jJ5 e_bl))))))
theorem jZx (T:Txt K mg):Cal P w K mg base 1 "_law_closed" ["_law_web_here","_law_a","_law_b"] jQk:=
 cal3 T.f_l_closed kKy fun _ _ _ _ _ _ _ hr hu nd=>
  (jJe (jKa (i:=3) nd (jQf (jJb (jKn (jJb (jJc 1) (jJb (jJc 2) jJd))) jJd)))
   (jJe (jKa (i:=4) nd jJj)
   (jJe (kU1 lJt (jKi o_lt (jJc 4) (jJm jKq (by rfl) T.n_len lJp (jJb (jJc 3) jJd)) (jJq _)) (jJe (jK0 lJt rfl (qZp rfl T.n_zip rfl (jJb (e_ix (ix_F hu) (jJc 0) (e_ix (ix_F hu) (e_ix (ix_F hu) (jJc 3) (jJc 4) (fun _ _=>rfl)) jJj (fun _ _=>rfl)) (fun _ _=>rfl)) (jJb (e_ix (ix_F hu) (jJc 0) (e_ix (ix_F hu) (e_ix (ix_F hu) (jJc 3) (jJc 4) (fun _ _=>rfl)) jJj (fun _ _=>rfl)) (fun _ _=>rfl)) jJd))) (jVl rfl (jJz (jJo (i:=5) nd) (jJz (jJo (i:=6) nd) jQn))) (jJk (s_if (jKi (kK8 hr.units) (jKn (jJb (e_ix (ix_F hu) (jJc 5) jJj (fun _ _=>rfl)) (jJb (e_ix (ix_F hu) (jJc 6) jJj (fun _ _=>rfl)) jJd))) (jJc 3) (jJq _)) (jJk (jUk (e_bm lKo lQh lQi jK5 (jJc 3) (jJb (jKn (jJb (e_ix (ix_F hu) (jJc 5) jJj (fun _ _=>rfl)) (jJb (e_ix (ix_F hu) (jJc 6) jJj (fun _ _=>rfl)) jJd))) jJd)))) jJ9)))
   (jJk (jKa (i:=4) nd (e_op jJx (jJc 4) jJj)))))
   (jJk (jJ5 (jJc 3))))))
theorem kXz (T:Txt K mg):Cal P w K mg base 2 "_law_odd" ["_law_box_here"] jVo:=
 cal3 T.f_l_odd kYv fun _ _ _ _ _ _ _ hr hu nd=>
  PSsi.out (kXk (qXl (i:=1) nd (kYf (jJ3 ei_non (jJ3 ei_bl (jJ3 (ei_neg jQ7) (jJ3 jQ7 (jJ3 qQa (jJ3 (jXx jUp) (jJ3 (kYf jUp) (jJ3 (jXx (jJ3 jQ7 jUp)) (jJ3 (jXx (jJ3 jQ7 (jJ3 jQ7 jUp))) (jJ3 (jXx (jJ3 jQ7 (jJ3 jQ7 (jJ3 jQ7 jUp)))) (jJ3 (jXx (jJ3 ei_bl (jJ3 jQ7 jUp))) (jJ3 (jXx (jJ3 (jXx (jJ3 jQ7 (jJ3 jQ7 jUp))) jUp)) jUp))))))))))))))
  (kXk (qXl (i:=1) nd (ei_op jJx ⟨jJc 1⟩ (kYf (jJ3 (kYf (jJ3 jQ7 (jJ3 jQ7 jUp))) (jJ3 (jXx (jJ3 jQ7 (jJ3 jQ7 jUp))) (jJ3 (jXx (jJ3 qQa (jJ3 qQa jUp))) jUp))))))
  (qYj (si_ret ⟨(e_ix (ix_F hu) (jJc 1) (jJ4 (jJw T) (hr.mono (by decide)) (jJb (jJc 0) (jJb (jJm jKq (by rfl) T.n_len lJp (jJb (jJc 1) jJd)) jJd))) (fun _ _=>rfl))⟩))))
theorem kQ6 (T:Txt K mg):Cal P w K mg base 3 "_law_bent" ["_law_box_here","_law_web_here","_law_pairs_here"] jUi:=
 cal3 T.f_l_bent kVa fun _ _ _ _ _ _ _ hr hu nd=>
  (jJe (jKa (i:=3) nd (jJ4 (jJw T) (hr.mono (by decide)) (jJb (jJc 0) (jJb (jJm jKq (by rfl) T.n_len lJp (jJb (jJc 2) jJd)) jJd))))
   (jJe (jKa (i:=4) nd (jJ4 (jJw T) (hr.mono (by decide)) (jJb (jJc 0) (jJb jJj jJd))))
   (jJe (jKa (i:=5) nd (jKn (jJb (jJ4 (jJw T) (hr.mono (by decide)) (jJb (jJc 0) (jJb (jJm jKq (by rfl) T.n_len lJp (jJb (jJc 1) jJd)) jJd))) (jJb (jJ4 (jJw T) (hr.mono (by decide)) (jJb (jJc 0) (jJb (jJm jKq (by rfl) T.n_len lJp (jJb (jJc 1) jJd)) jJd))) jJd))))
   (jJe (s_if (jKi (jU5 hr.units) (jJc 4) jJj (jJq _)) (jJk (jJ5 (e_op jJx (jQe sl_F (jJc 2) jU1 (jQv (jJc 3))) (jQe sl_F (jJc 2) (jQv (e_op jJx (jJc 3) jJj)) jU1)))) jJ9)
   (jJe (s_if (jKi (jU5 hr.units) (jJc 4) jJj (jJq _)) (jJk (jJ5 (e_op jJx (e_op jJx (jQe sl_F (jJc 2) jU1 (jQv (jJc 3))) (jQf (jJb (jJc 5) jJd))) (jQe sl_F (jJc 2) (jQv (jJc 3)) jU1)))) jJ9)
   (jJe (s_if (jKi (jU5 hr.units) (jJc 4) jJj (jJq _)) (jJk (jJ5 (e_op jJx (e_op jJx (jQe sl_F (jJc 2) jU1 (jQv (jJc 3))) (jQf (jJb (jJc 5) jJd))) (jQe sl_F (jJc 2) (jQv (e_op jJx (jJc 3) jJj)) jU1)))) jJ9)
   (jJe (s_if (jKi (jU5 hr.units) (jJc 4) jJj (jJq _)) (jJk (jJ5 (e_op jJx (jJc 2) (jQe sl_F (jJc 2) (jQv (jJc 3)) (jQv (e_op jJx (jJc 3) jJj)))))) jJ9)
   (jJe (s_if (jKi (jU5 hr.units) (jJc 4) jJj (jJq _)) (jJk (jJ5 (e_op jJx (e_op jJx (jQe sl_F (jJc 2) jU1 (jQv (jJc 3))) (jQf (jJb (qZy rfl rfl T.n_tuple rfl T.n_reversed rfl (jJb (e_ix (ix_F hu) (jJc 2) (jJc 3) (fun _ _=>rfl)) jJd)) jJd))) (jQe sl_F (jJc 2) (jQv (e_op jJx (jJc 3) jJj)) jU1)))) jJ9)
   (jJe (s_if (jKi (jU5 hr.units) (jJc 4) jJj (jJq _)) (jJk (jJ5 (e_op jJx (e_op jJx (jQe sl_F (jJc 2) jU1 (jQv (jJc 3))) (jQf (jJb (jJ4 (kXz T) (hr.mono (by decide)) (jJb (jJc 0) jJd)) jJd))) (jQe sl_F (jJc 2) (jQv (e_op jJx (jJc 3) jJj)) jU1)))) jJ9)
   (jJe (s_if (jKi (jU5 hr.units) (jJc 4) jJj (jJq _)) (jJk (jJ5 (jJ4 (kXz T) (hr.mono (by decide)) (jJb (jJc 0) jJd)))) jJ9)
   (jJk (jJ5 (jKl jQu (by rfl) T.n_tuple rfl (jJb (jQo (mask:=[false,false,false,false,false,false,true]) rfl ⟨rfl,rfl,rfl,rfl,rfl,rfl,rfl⟩ (kZg rfl T.n_reversed rfl (jJb (jJc 2) jJd)) jJ6 (fun C fp s H=>(jJo (i:=6) nd)) (fun C fp s H=>jQh) (fun C fp s H=>(jKl qQp (by rfl) T.n_list rfl (jJb (jJc 6) jJd)))) jJd))))))))))))))
theorem ok_law (T:Txt K mg) {f:Addr} {fd:FuncData} (F:Fun K "law" "law" (top 33) f fd):Fn3 P w K mg base 6 f fd ["_law_script"] kZ1:=by
 have S:FnScope N_law ["_law_script"] (jKf (top 33)):=⟨rfl,rfl,rfl,by decide +kernel,rfl,by decide +kernel,by decide +kernel⟩
 refine fn3 F S fun cdv A outer s H E hr=>⟨kXp,?_,qUq⟩
 have hu:=hu_of hr
 have nd:=S.nd
 exact (jJe (jKa (i:=1) nd (jJ4 (kVh T) (hr.mono (by decide)) (jJb (jJc 0) (jJb jJj jJd))))
   (jJe (jK0 lJt rfl (jKc rfl T.n_range (jJb (jJm (c_max rfl) (by rfl) T.n_max rfl (jJb jJj (jJb (jJm jKq (by rfl) T.n_len lJp (jJb (jJc 1) jJd)) jJd))) jJd)) (jJo (i:=2) nd) (jJe (jKa (i:=3) nd (jJ4 (qU6 T) (hr.mono (by decide)) (jJb (jJc 1) (jJb (jJc 2) jJd))))
   (jJe (jKa (i:=4) nd (jJ4 (kY2 T) (hr.mono (by decide)) (jJb (jJc 3) jJd)))
   (jJe (jKa (i:=5) nd (jJ4 (kQ2 T) (hr.mono (by decide)) (jJb (jJc 4) jJd)))
   (jJk (jK0 lJt rfl (jKc rfl T.n_range (jJb jJj jJd)) (jJo (i:=6) nd) (jJe (jVx (jKn (jJb (jJ4 (jJw T) (hr.mono (by decide)) (jJb (jJc 3) (jJb (jJm jKq (by rfl) T.n_len lJp (jJb (jJc 4) jJd)) jJd))) (jJb (jJ4 (jJw T) (hr.mono (by decide)) (jJb (jJc 3) (jJb (jJm jKq (by rfl) T.n_len lJp (jJb (jJc 4) jJd)) jJd))) jJd))) (jVl rfl (jJz (jJo (i:=7) nd) (jJz (jJo (i:=8) nd) jQn))))
   (jJe (jZj (i:=9) (mask:=[false,false,false,false,false,false,false,false,false,false,false,false,false,false,true]) rfl nd ⟨rfl,rfl,rfl,rfl,rfl,rfl,rfl⟩ (jKc rfl T.n_range (jJb (jJm jKq (by rfl) T.n_len lJp (jJb (jJc 4) jJd)) jJd)) jJ6 (fun C fp s H=>(jJo (i:=14) nd)) (fun C fp s H=>(kKa (PW3.pt (qQ5 (jKi (jU5 hr.units) (e_ix (ix_F hu) (jJc 5) (jJc 14) (fun _ _=>rfl)) (e_ix (ix_F hu) (jJc 5) (jJc 7) (fun _ _=>rfl)) (jJq _)) (kZt (jKi (jZz hr.units) (jJc 14) (jJc 7) (jJq _))))))) (fun C fp s H=>(jJc 14)))
   (jJe (s_if (PW3.pt (qQ5 (jKi (jZz hr.units) (jJc 9) (jQf jJd) (jJq _)) (kZt (jKi (jU5 hr.units) (e_op jXs (jJc 6) jJj) jJj (jJq _))))) (jJk (jKa (i:=8) nd (e_ix (ix_F hu) (jJc 9) (jJ4 (jJw T) (hr.mono (by decide)) (jJb (jJc 3) (jJb (jJm jKq (by rfl) T.n_len lJp (jJb (jJc 9) jJd)) jJd))) (fun _ _=>rfl)))) jJ9)
   (jJe (jKa (i:=10) nd (jJ4 (jZx T) (hr.mono (by decide)) (jJb (jJc 4) (jJb (jJc 7) (jJb (jJc 8) jJd)))))
   (jJe (s_if (PW3.pt (qQ5 (jKi (jU5 hr.units) (e_ix (ix_F hu) (jJc 5) (jJc 7) (fun _ _=>rfl)) (e_ix (ix_F hu) (jJc 5) (jJc 8) (fun _ _=>rfl)) (jJq _)) (qQ5 (jKi (jZz hr.units) (jJc 7) (jJc 8) (jJq _)) (kZt (jKi o_notB (jJ4 (jV2 T) (hr.mono (by decide)) (jJb (jJc 4) (jJb (jJc 7) (jJb (jJc 8) (jJb (jJc 10) jJd))))) e_bl (jJq _)))))) (jJk (jJ5 e_bl)) jJ9)
   (jJe (jKa (i:=11) nd (jJ4 (jZx T) (hr.mono (by decide)) (jJb (jJc 4) (jJb (jJc 8) (jJb (jJc 7) jJd)))))
   (jJk (jK0 lJt rfl (jQs (jKn (jJb (jJc 10) (jJb (e_op jJx (jJc 10) (jJc 11)) (jJb (jJ4 (kQ6 T) (hr.mono (by decide)) (jJb (jJc 3) (jJb (jJc 4) (jJb (jJc 10) jJd)))) (jJb (jJ4 (kQ6 T) (hr.mono (by decide)) (jJb (jJc 3) (jJb (jJc 4) (jJb (jJc 10) jJd)))) jJd)))))) (jJo (i:=12) nd) (jJe (jKa (i:=13) nd (jJ4 (jV2 T) (hr.mono (by decide)) (jJb (jJc 4) (jJb (jJc 7) (jJb (jJc 8) (jJb (jJc 12) jJd))))))
   (jJk (s_if (PW3.pt (w_or (kJq (jZe (jJm kQi (by rfl) T.n_isinstance rfl (jJb (jJc 13) (jJb (e_ty rfl T.n_bool rfl) jJd))))) (kKi (jKi (jZz hr.units) (jJc 13) (jJ4 (qU5 T) (hr.mono (by decide)) (jJb (jJc 4) (jJb (jJc 7) (jJb (jJc 8) (jJb (jJc 12) jJd))))) (jJq _))))) (jJk (jJ5 e_bl)) jJ9)))))))))))))))))
   (jJk (jJ5 e_bl))))
def qYk (K:PySem.W.Frag):Sp:=dn K 1 kZ1
theorem fn_at {K:PySem.W.Frag} {h:Heap} {mg:Str->Option Value} {x:Str} {i:Nat} {f:Addr} {oc:Value} {od an:Option Addr} {osl:Array (Option Value)} {kV doc pm cdv ct:Value} (X:K.In h) (G:h.Ns mainGlobals mg) (a:PySem.W.nsIn K mainGlobals x=some (some (.ref f)))
  (l:K.lookup f=some ⟨oc,od,.func (PySem.W.fnOf x x (jYe (top i)) (jUx (top i)) (jKf (top i)) .none kV doc pm an cdv ct),osl⟩) (c:PySem.W.codeIn K cdv x=true) (k:PySem.W.keepIn K (.ref f)=true):FnAt K mg x i:=⟨f,_,PySem.W.mg_of X G a,fun_mk l c k⟩
theorem all_mk {l:PySem.W.OpenLaw} {w:World} {K:PySem.W.Frag} {mg:Str->Option Value} {fa:Addr} (hfa:mg "law"=some (.ref fa)) (T:Txt K mg):
  ∃fd:FuncData,(∀(s:Shared) (v:Value),BindsTo s fd ⟨[v],[]⟩ [("_law_script",v)])/\∀base:Heap,K.In base->base.Ns mainGlobals mg->FnOk l.prog w K mg base CX0 6 fa fd ["_law_script"] (qYk K):=by
 obtain⟨f,fd,a,F⟩:=T.f_law
 cases hfa.symm.trans a
 refine⟨fd,fun s v=> ?_,fun base _ _=>ok_law T F⟩
 obtain⟨_,_,kV,doc,pm,an,cdv,ct,_,e,_⟩:=F.ex
 subst e
 exact .of_eq rfl
theorem fr_of {K:PySem.W.Frag} {H:Hp} {a:Addr} {xs:List V} (hO:Only H) (hS:SqL K H a xs):FrL K H a xs:=by
 rcases hS with h | h
 ·rcases h with h | ⟨ob,h⟩
  ·rcases hO a with z | ⟨o,ys,z⟩
   ·rw[z] at h;cases h
   ·rw[z] at h;cases h
  ·exact .inl ⟨ob,h⟩
 ·exact .inr h
theorem jQ3 {K:PySem.W.Frag} {H:Hp}:∀ns:List Int,Reps K H (jK9 ns) (ns.map V.int)
 | []=>rfl
 | n::ns=>⟨_,_,rfl,rfl,jQ3 ns⟩
theorem walk {l:PySem.W.OpenLaw} {q:Program} {loose:List Str} {XP:(Str->Option Value)->Heap->Prop} {YP:World->Heap->Prop} {d:DefRec} {K:Params->PySem.W.Frag} (hn:l.most=some 63) (hdf:d.params.defaults=[])
  (hY:∀(w:World) (h:Heap),YP w h->(K w.params).In h)
  (F:∀(w:World) (mg:Str->Option Value) (fa:Addr) (h:Heap),(K w.params).In h->h.Ns mainGlobals mg->mg d.name=some (.ref fa)->
   ∃fd:FuncData,(∀(s:Shared) (u:Value),BindsTo s fd ⟨[u],[]⟩ [("_law_script",u)])/\∀base:Heap,(K w.params).In base->base.Ns mainGlobals mg->FnOk l.prog w (K w.params) mg base CX0 6 fa fd ["_law_script"] (qYk (K w.params))):
  PySem.W.WalkO q loose XP YP l.row.toRowW d [] (fun f vs=>PySem.call f vs):=
 L2.walk_of (n:=63) (k:=6) (x:="_law_script") (CX:=fun _=>CX0) (sp:=fun w=>qYk (K w.params)) hn (by decide) hdf ⟨rfl,rfl,by decide,by decide⟩ hY F
  (fun _ _ a ns hl hO hS=>⟨rfl,[.scr (jK9 ns)],fun _=>none,⟨_,_,rfl,⟨a,_,rfl,fr_of hO hS,jQ3 ns⟩,rfl⟩,(fun _ _ h=>nomatch h),ns,rfl,hl,fun G' v H' _ _ r=>r⟩) fun _ _ _ _ _ z=>z
end W
def PySem.W.Fast.tw3947345910927483871 : Unit := ()
def PySem.W.Fast.tw14241247729679062742 : Unit := ()
def PySem.W.Fast.tw2187699121797537465 : Unit := ()
def PySem.W.Fast.tw7678429007312671144 : Unit := ()
def PySem.W.Fast.tw18178567806033185797 : Unit := ()
def PySem.W.Fast.tw6401104728486858467 : Unit := ()
def PySem.W.Fast.tw699689472370217566 : Unit := ()
def PySem.W.Fast.tw14366495556316348378 : Unit := ()
def PySem.W.Fast.tw9212394922491589416 : Unit := ()
def PySem.W.Fast.tw5601083357666079134 : Unit := ()
def PySem.W.Fast.tw6647786426789323412 : Unit := ()
def PySem.W.Fast.tw9637784546675311538 : Unit := ()
def PySem.W.Fast.tw16852778373495150473 : Unit := ()
open PySem PySem.W PyProof.Rows
set_option maxRecDepth 100000 in
set_option maxHeartbeats 0 in
theorem PySem.Challenge.cw_stonewalker_k66_never_shown_holds : PySem.Challenge.rw_stonewalker_k66_never_shown.Holds := by
 w_on;o_law;k_head;(case hw=>w_witness2)
 k_fill
 refine W.walk (l:=PySem.Challenge.rw_stonewalker_k66_never_shown) rfl rfl (fun w h Y=>PySem.W.kIn_of Y) ?F
 case F=>
  intro w mg fa h KX G hmg
  refine W.all_mk hmg ?T
  constructor
  iterate 18 (refine PySem.W.mg_none_of KX G ?_;k_is)
  iterate 29 (refine' W.fn_at KX G ?a ?l ?c ?k;(case a=>k_is);(case l=>k_is);(case c=>k_is);(case k=>k_is))
