
import PyProof.Rows.All
import Wide.All
import OpenK.AllK
import Wide.FinOn
import Lean
import PyProof.EqAt
import PyProof.EqKinds
import PyProof.TupleCall
import PySem.Challenge.RW_stonewalker_k59_ties_forgotten
set_option linter.all false
noncomputable section
def lJa:=@PySem.wpAny_bind
def lJb:=@if_neg
def lJc:=@if_pos
def lJd:=@PySem.wpAny_pure
def lJe:=@List.getElem?_eq_some_iff
def lJf:=@Nat.le_refl
def lJg:=@List.length_map
def lJh:=@PySem.Heap.lt_size
def lJi:=@List.getElem?_eq_getElem
def lJj:=@List.mem_cons
def lJk:=@Bool.false_ne_true
def lJl:=@PySem.Heap.get?_push_of_some
def lJm:=@List.mem_of_getElem?
def lJn:=@Nat.ne_of_lt
def lJo:=@decide_eq_false
def lJp:=@List.size_toArray
def lJq:=@Option.some.inj
def lJr:=@List.map_cons
def lJs:=@List.getElem?_map
def lJt:=@if_false
def lJu:=@PySem.PassesOwn.never
def lJv:=@List.not_mem_nil
def lJw:=@List.mem_map
def lJx:=@congrArg
def lJy:=@PySem.boot_len
def lJz:=@PySem.Heap.get?_push_size
def lJ0:=@PySem.W.mg_of
def lJ1:=@List.mem_singleton
def lJ2:=@Nat.zero_le
def lJ3:=@Nat.lt_of_lt_of_le
def lJ4:=@if_true
def lJ5:=@PySem.F.plainAttrs_list
def lJ6:=@List.getElem?_eq_none
def lJ7:=@List.length_append
def lJ8:=@List.getElem?_of_mem
def lJ9:=@Nat.le_trans
def lKa:=@List.mem_cons_of_mem
def lKb:=@Option.isSome_iff_exists
def lKc:=@or_false
def lKd:=@List.nodup_cons
def lKe:=@Nat.lt_or_ge
def lKf:=@List.getElem?_set_ne
def lKg:=@List.getElem?_append_left
def lKh:=@List.find?_cons
def lKi:=@List.range_succ
def lKj:=@Bool.false_eq_true
def lKk:=@List.getElem?_set_self
def lKl:=@List.any_cons
def lKm:=@List.mem_cons_self
def lKn:=@List.length_cons
def lKo:=@Bool.and_eq_true
def lKp:=@List.exists_cons_of_length_eq_add_one
def lKq:=@Nat.succ.inj
def lKr:=@Option.bind_eq_some_iff
def lKs:=@PySem.wpAny_mono
def lKt:=@List.mem_append
def lKu:=@List.mem_append_right
def lKv:=@Int.eq_ofNat_of_zero_le
def lKw:=@List.length_range
def lKx:=@PySem.wpAny_field
def lKy:=@List.mem_range
def lKz:=@List.lookup_cons
def lK0:=@List.map_map
def lK1:=@PySem.F.slot_list_append
def lK2:=@PySem.F.type_list_append
def lK3:=@PySem.wpAny_holding
def lK4:=@PyProof.Rows.callWith_type1
def lK5:=@Nat.not_lt_zero
def lK6:=@Nat.mod_eq_of_lt
def lK7:=@PySem.wpAny_newObj_type
def lK8:=@List.filter_cons
def lK9:=@decide_eq_true
def lQa:=@List.append_nil
def lQb:=@List.replicate_succ
def lQc:=@PySem.F.plainAttrs_dict
def lQd:=@PySem.Paired.length
def lQe:=@List.mem_append_left
def lQf:=@List.getElem?_append_right
def lQg:=@List.all_cons
def lQh:=@List.length_eq_zero_iff
def lQi:=@Option.map_some
def lQj:=@List.filterMap_append
def lQk:=@List.nodup_append
def lQl:=@PySem.F.slot_dict_get
def lQm:=@PySem.wpAny_specialOf
def lQn:=@PySem.sizeLine_eq
def lQo:=@PySem.codeAny_builtin
def lQp:=@List.ext_getElem?
def lQq:=@List.mem_filter
def lQr:=@Nat.ne_of_gt
def lQs:=@PySem.Heap.get?_update_self
def lQt:=@List.length_set
def lQu:=@Nat.succ_mul
def lQv:=@List.all_eq_true
def lQw:=@PySem.Around.under_plainId
def lQx:=@List.getElem?_range
def lQy:=@PySem.wpAny_truthy_bool
def lQz:=@PySem.wpAny_call_entry
def lQ0:=@PySem.wpAny_typeOf
def lQ1:=@List.filterMap_cons
def lQ2:=@List.mem_filterMap
def lQ3:=@List.flatten_cons
def lQ4:=@List.mem_flatMap
def lQ5:=@Nat.mod_lt
def lQ6:=@PySem.call_meets
def lQ7:=@PySem.wpAny_Call_Name_kw
def lQ8:=@PySem.wpAny_rule
def lQ9:=@PySem.wpAny_passesOwn
def lVa:=@PySem.plainId_quiet
def lVb:=@PySem.wpAny_dictEntries
def lVc:=@Nat.lt_irrefl
def lVd:=@Array.length_toList
def lVe:=@List.of_mem_zip
def lVf:=@List.length_take
def lVg:=@PySem.mem_of_lookup
def lVh:=@PyProof.Rows.slot_tuple_getitem
def lVi:=@Option.map_eq_some_iff
def lVj:=@PySem.Heap.SameBut.update
def lVk:=@List.take_length
def lVl:=@PySem.F.called_tuple
def lVm:=@List.getElem_mem
def lVn:=@List.getElem?_inj
def lVo:=@List.length_filter_le
def lVp:=@PySem.F.slot_dict_pop
def lVq:=@List.map_append
def lVr:=@List.getD_eq_getElem?_getD
def lVs:=@PySem.F.type_dict_get
def lVt:=@PySem.wpAny_callSpecial?_slot
def lVu:=@PySem.wpAny_execs_nil
def lVv:=@Array.forIn_toList
def lVw:=@PySem.Heap.size_push
def lVx:=@PySem.Heap.get?_update_other
def lVy:=@List.nodup_nil
def lVz:=@List.getElem?_zipWith
def lV0:=@PySem.W.callWith_K
def lV1:=@List.take_succ
def lV2:=@List.length_filterMap_le
def lV3:=@PySem.W.methodCall_KW
def lV4:=@List.flatMap_append
def lV5:=@Int.emod_nonneg
def lV6:=@Int.emod_lt_of_pos
def lV7:=@PySem.wpAny_isInstance
def lV8:=@PySem.wpAny_loadPart'
def lV9:=@decide_eq_true_eq
def lXa:=@PySem.pairTrees_cons_walk
def lXb:=@Classical.byContradiction
def lXc:=@List.getElem?_replicate
def lXd:=@List.reverse_cons
def lXe:=@List.append_assoc
def lXf:=@Option.isSome_map
def lXg:=@PySem.F.plain_tuple_new
def lXh:=@PySem.F.slot_zip_next
def lXi:=@PySem.F.plain_extend_loop
def lXj:=@Nat.lt_succ_of_lt
def lXk:=@Nat.mul_le_mul_right
def lXl:=@PySem.F.slot_list_index
def lXm:=@PySem.F.type_list_index
def lXn:=@PySem.F.type_dict_pop
def lXo:=@PySem.W.mg_none_of
def lXp:=@PySem.wpAny_pyIter_enum
def lXq:=@PySem.builtinLookup_eq_fast
def lXr:=@PySem.wpAny_notOrdered_dict
def lXs:=@PySem.F.args_tuple_add_2
def lXt:=@PyProof.Rows.callWith_builtin1
def lXu:=@Array.getElem?_eq_getElem
def lXv:=@List.pairwise_iff_getElem
def lXw:=@Nat.add_mul_mod_self_right
def lXx:=@List.idxOf_lt_length_of_mem
local macro_rules
 | `(tactic| omega) => `(tactic| lia)
set_option Elab.async false
set_option linter.all false
set_option maxRecDepth 100000
namespace L2
open PySem PySem.Spec PyProof.Rows
abbrev Key:=Sum Int Str
def kVi:Key->Value->Bool
 | .inl k,v=>Value.isInt k v
 | .inr x,v=>Value.isStrOf x v
def keyH (w:World):Key->Int
 | .inl k=>hashInt k
 | .inr x=>hashStr w x
theorem jJ2:∀ {k:Key} {v:Value},kVi k v=true->(∃i t,k=Sum.inl i/\v=Value.int i t)\/(∃x t,k=Sum.inr x/\v=Value.str x t)
 | .inl i,v,h=>by
  obtain⟨t,e⟩:=Value.isInt_shape (k:=i) (v:=v) h
  exact .inl ⟨i,t,rfl,e⟩
 | .inr x,v,h=>by
  obtain⟨t,e⟩:=Value.isStrOf_shape (x:=x) (v:=v) h
  exact .inr ⟨x,t,rfl,e⟩
theorem qQr (i:Int) (t:Tok):kVi (.inl i) (.int i t)=true:=by simp[kVi,Value.isInt]
theorem qQq (x:Str) (t:Tok):kVi (.inr x) (.str x t)=true:=by simp[kVi,Value.isStrOf]
theorem key_ll (a b:Int):decide ((Sum.inl a:Key)=Sum.inl b)=(a == b):=by
 by_cases e:a=b
 ·subst e;simp
 ·have h:¬ (Sum.inl a:Key)=Sum.inl b:=fun q=>e (Sum.inl.inj q)
  rw[lJo h]
  exact (beq_eq_false_iff_ne.mpr e).symm
theorem key_rr (a b:Str):decide ((Sum.inr a:Key)=Sum.inr b)=decide (a=b):=by
 by_cases e:a=b
 ·subst e;simp
 ·have h:¬ (Sum.inr a:Key)=Sum.inr b:=fun q=>e (Sum.inr.inj q)
  rw[lJo h,lJo e]
theorem key_lr (a:Int) (b:Str):decide ((Sum.inl a:Key)=Sum.inr b)=false:=lJo (fun q=>nomatch q)
theorem key_rl (a:Str) (b:Int):decide ((Sum.inr a:Key)=Sum.inl b)=false:=lJo (fun q=>nomatch q)
noncomputable def jKq (prog:Program) (w:World):PySem.KeyKind prog w Key where
 is:=kVi
 hash:=keyH w
 inj:=fun v a b ha hb=>by
  rcases jJ2 ha with ⟨i,t,rfl,rfl⟩ | ⟨x,t,rfl,rfl⟩
  ·rcases jJ2 hb with ⟨j,u,rfl,e⟩ | ⟨y,u,rfl,e⟩
   ·injection e with e1 _;rw[e1]
   ·exact nomatch e
  ·rcases jJ2 hb with ⟨j,u,rfl,e⟩ | ⟨y,u,rfl,e⟩
   ·exact nomatch e
   ·injection e with e1 _;rw[e1]
 byValue:=fun k v h=>by
  rcases jJ2 h with ⟨i,t,rfl,rfl⟩ | ⟨x,t,rfl,rfl⟩<;>rfl
 pyHash:=fun hv h=>by
  rcases jJ2 hv with ⟨i,t,rfl,rfl⟩ | ⟨x,t,rfl,rfl⟩
  ·exact wpAny_pyHash_int h
  ·exact wpAny_pyHash_str h
 eqBool:=fun hu hv h=>by
  rcases jJ2 hu with ⟨i,t,rfl,rfl⟩ | ⟨x,t,rfl,rfl⟩
  ·rcases jJ2 hv with ⟨j,u,rfl,rfl⟩ | ⟨y,u,rfl,rfl⟩
   ·rw[key_ll] at h;exact wpAny_eqBool_int h
   ·rw[key_lr] at h;exact SeqAt.EqAt.int_str i t y u _ _ _ _ h
  ·rcases jJ2 hv with ⟨j,u,rfl,rfl⟩ | ⟨y,u,rfl,rfl⟩
   ·rw[key_rl] at h;exact SeqAt.EqAt.str_int x t j u _ _ _ _ h
   ·rw[key_rr] at h;exact wpAny_eqBool_str h
 «strs» :=fun k x t v h=>by
  rcases jJ2 h with ⟨i,u,rfl,e⟩ | ⟨y,u,rfl,e⟩
  ·exact nomatch e
  ·injection e with e1 _
   subst e1
   cases v<;>rfl
theorem kX5 (prog:Program) (w:World) (i:Int) (t:Tok):(jKq prog w).is (.inl i) (.int i t)=true:=qQr i t
theorem kX4 (prog:Program) (w:World) (x:Str) (t:Tok):(jKq prog w).is (.inr x) (.str x t)=true:=qQq x t
end L2
set_option synthInstance.maxSize 1000
namespace L2
open PySem PySem.Spec PyProof.Rows
structure KeyV (prog:Program) (w:World) (K:Type) [DecidableEq K] (c:Nat) where
 is:Heap->K->Value->Prop
 hash:K->Int
 draws:K->Nat
 inj:∀ {h:Heap} {v:Value} {x y:K},is h x v->is h y v->x=y
 keeps:∀ {h h':Heap} {k:K} {v:Value} {d:Addr} {o:Obj} {es:Array DictEntry} {ep:Nat},is h k v->h.get? d=some o->o.data= .dict es ep->Heap.SameBut d h h'->is h' k v
 hashed:∀ {A:Around} {E:Value->Shared->Prop} {s:Shared} {k:K} {v:Value} {Q:Int->Shared->Prop},A.units+c<cLine->is s.heap k v->Q (hash k) {s with toks:=s.toks+draws k}->wpAny (model prog w) A (PySem.pyHash v) Q E s
 eqAt:∀ {A:Around} {s:Shared} {x y:K} {u v:Value},A.units+c<cLine->is s.heap x u->is s.heap y v->SeqAt.EqAt A s u v (decide (x=y))
 quiet:∀ {A:Around} {E:Value->Shared->Prop} {s:Shared} {k:K} {v:Value} {Q:Bool->Shared->Prop} (n:Nat),c<=n->is s.heap k v->Q true s->wpAny (model prog w) A (eqIsQuiet n v) Q E s
noncomputable def kZz (prog:Program) (w:World):KeyV prog w Key 0 where
 is:=fun _ k v=>kVi k v=true
 hash:=keyH w
 draws:=fun _=>1
 inj:=fun hx hy=>(jKq prog w).inj _ _ _ hx hy
 keeps:=fun x _ _ _=>x
 hashed:=fun _ hv h=>(jKq prog w).pyHash hv h
 eqAt:=fun _ hx hy prog' w' _ _ h=>(jKq prog' w').eqBool hx hy h
 quiet:=fun n _ hv h=>by rw[eqIsQuiet_byValue n ((jKq prog w).byValue _ _ hv)];exact lJd h
section
variable {prog:Program} {w:World} {K:Type} [DecidableEq K] {c:Nat}
inductive ItemsV (V:KeyV prog w K c) (h:Heap):List K->List Value->Prop
 | nil:ItemsV V h [] []
 | cons {k:K} {v:Value} {ks:List K} {vs:List Value}:V.is h k v->ItemsV V h ks vs->ItemsV V h (k::ks) (v::vs)
theorem ItemsV.inj {V:KeyV prog w K c} {h:Heap} {x:List K} {vs:List Value} (hx:ItemsV V h x vs):∀ {y:List K},ItemsV V h y vs->x=y:=by
 induction hx with
 | nil=>intro y hy;cases hy;rfl
 | cons a _ ih=>intro y hy;cases hy with | cons b t=>rw[V.inj a b,ih t]
theorem ItemsV.length {V:KeyV prog w K c} {h:Heap} {x:List K} {vs:List Value} (hx:ItemsV V h x vs):x.length=vs.length:=by
 induction hx with
 | nil=>rfl
 | cons _ _ ih=>simp[ih]
theorem ItemsV.get {V:KeyV prog w K c} {h:Heap} {x:List K} {vs:List Value} (hx:ItemsV V h x vs):∀ {j:Nat} {v:Value},vs[j]? =some v->∃k,x[j]? =some k/\V.is h k v:=by
 induction hx with
 | nil=>intro j v e;simp at e
 | cons a _ ih=>
  intro j v e
  cases j with
  | zero=>simp at e;subst e;exact⟨_,rfl,a⟩
  | succ j=>obtain⟨k,h1,h2⟩:=ih (j:=j) (v:=v) (by simpa using e);exact⟨k,by simpa using h1,h2⟩
theorem ItemsV.keeps {V:KeyV prog w K c} {h h':Heap} {x:List K} {vs:List Value} {d:Addr} {o:Obj} {es:Array DictEntry} {ep:Nat} (hx:ItemsV V h x vs) (ho:h.get? d=some o) (hd:o.data= .dict es ep) (hs:Heap.SameBut d h h'):ItemsV V h' x vs:=by
 induction hx with
 | nil=>exact .nil
 | cons a _ ih=>exact .cons (V.keeps a ho hd hs) ih
def qU4 (V:KeyV prog w K c) (h:Heap) (ks:List K) (v:Value):Prop:=∃(a:Addr) (o:Obj) (items:Array Value) (n:Nat),v= .ref a/\h.get? a=some o/\o.cls= .type "tuple"/\o.data= .seq items n/\ItemsV V h ks items.toList
theorem all_eq:∀(x y:List K),((List.range (min x.length y.length)).all (fun j=>decide (x[j]? =y[j]?))&&x.length == y.length)=decide (x=y):=by
 intro x y
 by_cases e:x=y
 ·subst e;simp
 ·rw[lJo e,Bool.and_eq_false_iff]
  by_cases l:x.length=y.length
  ·left
   rw[List.all_eq_false]
   have:∃j:Nat,x[j]? ≠y[j]? :=by
    apply lXb
    intro q
    exact e (lQp fun j=>lXb fun z=>q ⟨j,z⟩)
   obtain⟨j,hj⟩:=this
   refine⟨j,lKy.mpr ?_,by simpa using hj⟩
   rcases lKe j (min x.length y.length) with z | z
   ·exact z
   ·exact absurd (by rw[lJ6 (by omega),lJ6 (by omega)]) hj
  ·right;simpa using l
noncomputable def jXy (V:KeyV prog w K c):KeyV prog w (List K) (c+2) where
 is:=qU4 V
 hash:=fun ks=>reduceHash (Builtin.Tuple.tupleHashOf (ks.map V.hash))
 draws:=fun ks=>(ks.map V.draws).sum+1
 inj:=by
  rintro h v x y ⟨a,o,items,n,rfl,ho,_,hd,hi⟩ ⟨a',o',items',n',e,ho',_,hd',hi'⟩
  cases e
  rw[ho] at ho';cases ho'
  rw[hd] at hd';cases hd'
  exact hi.inj hi'
 keeps:=by
  rintro h h' k v d o es ep ⟨a,o',items,n,rfl,ho',hc,hd',hi⟩ ho hd hs
  have ne:a≠d:=by
   rintro rfl
   rw[ho] at ho';cases ho'
   rw[hd] at hd';cases hd'
  exact⟨a,o',items,n,rfl,(hs.2 a ne).trans ho',hc,hd',hi.keeps ho hd hs⟩
 hashed:=by
  rintro A E s ks v Q hu ⟨a,o,items,n,rfl,ho,hc,hd,hi⟩ h
  refine PySem.W.pyHash_slot (T:="tuple") ⟨o,ho,hc⟩ F.slot_tuple_hash F.entry_tuple_hash (F.args_tuple_hash_1 _) (beq_builtin_none _) (.inr (by omega)) ?_
  refine (show wpAny _ _ (Builtin.Tuple.tupleItemsOf (.ref a) >>= _) _ _ s from lJa (wpAny_tupleItemsOf ho hd (lJa ?_)))
  rw[<-lVv]
  refine wpAny_forIn_list _ (fun rest (b:Array Int) z=>∃done left,ks=done++left/\ItemsV V s.heap left rest/\b.toList=done.map V.hash/\z={s with toks:=s.toks+(done.map V.draws).sum}) _ ?_ ?_ _ _ ⟨[],ks,rfl,hi,rfl,rfl⟩
  ·rintro x rest b z ⟨done,left,rfl,hl,hb,rfl⟩
   cases hl with
   | @cons k _ ks' _ h1 hl'=>
    refine lJa (V.hashed (by rw[Around.in1_units];omega) h1 ?_)
    first
     | exact lJd ⟨done++[k],ks',by simp,hl',by simp[hb],(by simp[Nat.add_assoc])⟩
     | exact lJa (lJd (lJd ⟨done++[k],ks',by simp,hl',by simp[hb],(by simp[Nat.add_assoc])⟩))
  ·rintro b z ⟨done,left,rfl,hl,hb,rfl⟩
   cases hl
   rw[lQa] at h
   refine (show wpAny _ _ (retInt (Builtin.Tuple.tupleHashOf b.toList)) _ _ _ from ?_)
   rw[hb]
   exact lJa (wpAny_mkInt (lJd ⟨_,_,rfl,by simpa[Nat.add_assoc] using h⟩))
 eqAt:=by
  rintro A s x y u v hu ⟨a,o,items,n,rfl,ho,hc,hd,hi⟩ ⟨a',o',items',n',rfl,ho',hc',hd',hi'⟩
  by_cases e:a=a'
  ·subst e
   rw[ho] at ho';cases ho'
   rw[hd] at hd';cases hd'
   rw[hi.inj hi',lK9 rfl]
   exact SeqAt.EqAt.same _
  ·have R:=SeqAt.RcAt.tuples (A:=A) (s:=s) (l:=a) (b:=a') (e:=fun j=>decide (x[j]? =y[j]?)) ⟨o,ho,hc,n,hd⟩ ⟨o',ho',hc',n',hd'⟩ (by omega) (fun j j1 j2=> ?_)
   ·have l1:=hi.length
    have l2:=hi'.length
    rw[<-all_eq x y,l1,l2]
    have R':=SeqAt.EqAt.of_refs e R
    simpa using R'
   ·obtain⟨k,h1,h2⟩:=hi.get (j:=j) (v:=items[j]) (by simp[j1])
    obtain⟨k',h1',h2'⟩:=hi'.get (j:=j) (v:=items'[j]) (by simp[j2])
    have:=V.eqAt (A:=A.in1) (s:=s) (by rw[Around.in1_units];omega) h2 h2'
    rw[h1,h1']
    simpa using this
 quiet:=by
  rintro A E s ks v Q n hn ⟨a,o,items,m,rfl,ho,hc,hd,hi⟩ h
  obtain⟨n,rfl⟩:∃nn,n=nn+1:=⟨n-1,by omega⟩
  have hT:s.TypeIs (.ref a) "tuple":=⟨o,ho,hc⟩
  unfold eqIsQuiet;refine lJa (lQm hT F.slot_tuple_eq.lookup ?_)
  refine (show wpAny _ _ (isInstance (.ref a) (.type "tuple") >>= _) _ _ s from lJa (lV7 hT isSubtype_tuple_tuple ?_))
  simp only[lJt,Bool.not_true,lKj]
  refine lJa (wpAny_seqItems ho hd (lJa ?_))
  refine (show wpAny _ _ (forIn items _ _) _ _ s from ?_)
  rw[<-lVv]
  refine wpAny_forIn_list _ (fun rest r z=>r.1=none/\z=s/\∃left,ItemsV V s.heap left rest) _ ?_ ?_ _ _ ⟨rfl,rfl,ks,hi⟩
  ·rintro x rest r z ⟨hr,rfl,left,hl⟩
   cases hl with
   | cons h1 hl'=>
    refine lJa (V.quiet n (by omega) h1 ?_)
    simp only[lJt,Bool.not_true,lKj]
    exact lJd ⟨rfl,rfl,_,hl'⟩
  ·rintro⟨r1,r2⟩ z ⟨hr,rfl,_⟩
   simp only at hr;subst hr
   exact lJd h
theorem qZ7 {α β:Type} [DecidableEq α] [DecidableEq β] (a b:α):decide ((Sum.inl a:α ⊕ β)=Sum.inl b)=decide (a=b):=by
 by_cases e:a=b
 ·simp[e]
 ·rw[lJo e,lJo fun z=>e (Sum.inl.inj z)]
theorem qZ6 {α β:Type} [DecidableEq α] [DecidableEq β] (a b:β):decide ((Sum.inr a:α ⊕ β)=Sum.inr b)=decide (a=b):=by
 by_cases e:a=b
 ·simp[e]
 ·rw[lJo e,lJo fun z=>e (Sum.inr.inj z)]
noncomputable def sumVK (V:KeyV prog w K c):KeyV prog w (Key ⊕ List K) (c+2) where
 is:=fun h k v=>match k with
  | .inl k=>kVi k v=true
  | .inr ks=>qU4 V h ks v
 hash:=fun k=>match k with
  | .inl k=>keyH w k
  | .inr ks=>(jXy V).hash ks
 draws:=fun k=>match k with
  | .inl _=>1
  | .inr ks=>(jXy V).draws ks
 inj:=by
  rintro h v (x | x) (y | y) hx hy
  ·rw[(jKq prog w).inj _ _ _ hx hy]
  ·obtain⟨a,_,_,_,rfl,_⟩:=hy
   rcases jJ2 hx with ⟨i,t,_,e⟩ | ⟨i,t,_,e⟩<;>cases e
  ·obtain⟨a,_,_,_,rfl,_⟩:=hx
   rcases jJ2 hy with ⟨i,t,_,e⟩ | ⟨i,t,_,e⟩<;>cases e
  ·rw[(jXy V).inj hx hy]
 keeps:=by
  rintro h h' (k | k) v d o es ep hx ho hd hs
  ·exact hx
  ·exact (jXy V).keeps hx ho hd hs
 hashed:=by
  rintro A E s (k | k) v Q hu hx h
  ·exact (jKq prog w).pyHash hx h
  ·exact (jXy V).hashed hu hx h
 eqAt:=by
  rintro A s (x | x) (y | y) u v hu hx hy
  ·rw[qZ7]
   exact (kZz prog w).eqAt (by omega) hx hy
  ·rw[lJo fun z=>nomatch z]
   obtain⟨a,o,items,n,rfl,ho,hc,hd,_⟩:=hy
   rcases jJ2 hx with ⟨i,t,_,rfl⟩ | ⟨i,t,_,rfl⟩
   ·exact SeqAt.EqAt.int_tuple i t ⟨o,ho,hc,n,hd⟩ (by omega)
   ·exact SeqAt.EqAt.str_tuple i t ⟨o,ho,hc,n,hd⟩ (by omega)
  ·rw[lJo fun z=>nomatch z]
   obtain⟨a,o,items,n,rfl,ho,hc,hd,_⟩:=hx
   rcases jJ2 hy with ⟨i,t,_,rfl⟩ | ⟨i,t,_,rfl⟩
   ·exact SeqAt.EqAt.tuple_int i t ⟨o,ho,hc,n,hd⟩ (by omega)
   ·exact SeqAt.EqAt.tuple_str i t ⟨o,ho,hc,n,hd⟩ (by omega)
  ·rw[qZ6]
   exact (jXy V).eqAt hu hx hy
 quiet:=by
  rintro A E s (k | k) v Q n hn hx h
  ·exact (kZz prog w).quiet n (lJ2 _) hx h
  ·exact (jXy V).quiet n hn hx h
end
abbrev K1:=Key ⊕ List Key
abbrev K2:=Key ⊕ List K1
abbrev TKey:=List K2
def vk1 (prog:Program) (w:World):KeyV prog w K1 2:=sumVK (kZz prog w)
def vk2 (prog:Program) (w:World):KeyV prog w K2 4:=sumVK (vk1 prog w)
noncomputable def jKf (prog:Program) (w:World):HeapKind prog w TKey where
 is:=fun h ks a=>(jXy (vk2 prog w)).is h ks (.ref a)
 hash:=(jXy (vk2 prog w)).hash
 draws:=(jXy (vk2 prog w)).draws
 room:=fun A=>A.units+6<cLine
 inj:=fun hx hy=>(jXy (vk2 prog w)).inj hx hy
 keeps:=fun x ho hd hs=>(jXy (vk2 prog w)).keeps x ho hd hs
 pyHash:=fun hu hk h=>(jXy (vk2 prog w)).hashed hu hk h
 eqBool:=fun hu hx hy h=>(jXy (vk2 prog w)).eqAt hu hx hy _ _ _ _ h
 quiet:=fun hk h=>(jXy (vk2 prog w)).quiet 8 (by decide) hk h
theorem jJy {prog:Program} {w:World} {A:Around} (hu:A.units+20<cLine):(jKf prog w).room A.in1:=by
 show A.in1.units+6<cLine
 rw[Around.in1_units];omega
inductive V where
 | non | bl (b:Bool) | int (i:Int) | str (x:Str) | byt (b:Array UInt8) | flt (b:UInt64) | ref (a:Addr) | ty (n:String)
 deriving DecidableEq
noncomputable def RelV:V->Value->Prop
 | .non,u=>u=Value.none
 | .bl b,u=>u=Value.bool b
 | .int i,u=>∃t,u=Value.int i t
 | .str x,u=>∃t,u=Value.str x t
 | .byt b,u=>∃t,u=Value.bytes b t
 | .flt b,u=>∃t,u=Value.float b t
 | .ref a,u=>u=Value.ref a
 | .ty n,u=>u=Value.type n
abbrev Vals:List V->List Value->Prop:=Paired RelV
theorem Vals.length {xs:List V} {us:List Value} (r:Vals xs us):xs.length=us.length:=lQd r
theorem Vals.get:∀ {xs:List V} {us:List Value} {i:Nat} {x:V},Vals xs us->xs[i]? =some x->∃u,us[i]? =some u/\RelV x u
 | _,_,_,_,.nil,e=>by simp at e
 | _,_,0,_,.cons r _,e=>by simp at e;subst e;exact⟨_,rfl,r⟩
 | _,_,i+1,x,.cons _ t,e=>by
  obtain⟨u,h1,h2⟩:=Vals.get (i:=i) (x:=x) t (by simpa using e)
  exact⟨u,by simpa using h1,h2⟩
theorem Vals.set {x:V} {u:Value} (r:RelV x u):∀ {xs:List V} {us:List Value} (i:Nat),Vals xs us->Vals (xs.set i x) (us.set i u)
 | _,_,_,.nil=> .nil
 | _,_,0,.cons _ t=> .cons r t
 | _,_,i+1,.cons q t=> .cons q (Vals.set r i t)
theorem Vals.append:∀ {xs ys:List V} {us ws:List Value},Vals xs us->Vals ys ws->Vals (xs++ys) (us++ws)
 | _,_,_,_,.nil,s=>s
 | _,_,_,_,.cons r t,s=> .cons r (Vals.append t s)
theorem Vals.take:∀ {xs:List V} {us:List Value} (n:Nat),Vals xs us->Vals (xs.take n) (us.take n)
 | _,_,0,_=> .nil
 | _,_,_+1,.nil=> .nil
 | _,_,n+1,.cons r t=> .cons r (Vals.take n t)
theorem Vals.drop:∀ {xs:List V} {us:List Value} (n:Nat),Vals xs us->Vals (xs.drop n) (us.drop n)
 | _,_,0,r=>r
 | _,_,_+1,.nil=> .nil
 | _,_,n+1,.cons _ t=>Vals.drop n t
def RelO:Option V->Option Value->Prop
 | some v,some u=>RelV v u
 | none,none=>True
 | _,_=>False
def KV {κ:Type}:List (κ×V)->List (κ×Value)->Prop:=Paired fun (p:κ×V) (q:κ×Value)=>p.1=q.1/\RelV p.2 q.2
def kV:Key->V
 | .inl i=> .int i
 | .inr x=> .str x
inductive HO where
  | lst (xs:List V)
  | tup (xs:List V)
  | dK (kvs:List (Key×V)) | dT (kvs:List (TKey×V))
  | set (S:Int->Bool) (n:Nat)
  | ins (C dx:Addr) (fs:List (Str×V))
  | own (x:Addr)
  | xd (fs:List (Str×V))
  | met (f x:Addr)
  | rng (lo hi:Int)
  | frz (o:Obj) (u:HO)
  | tbl (ps:Array Value)
  | ext (φ:Heap->Prop)
abbrev Hp:=Addr->Option HO
def upd (H:Hp) (a:Addr) (o:HO):Hp:=fun b=>if b=a then some o else H b
theorem jJ3 {H:Hp} {a:Addr} {o:HO}:upd H a o a=some o:=by unfold upd;rw[lJc rfl]
theorem jJx {H:Hp} {a b:Addr} {o:HO} (h:b≠a):upd H a o b=H b:=by unfold upd;rw[lJb h]
theorem ne_of {H:Hp} {a b:Addr} {o u:HO} (h:H a=some o) (h':H b=some u) (d:o≠u):a≠b:=by
 intro e;subst e;rw[h] at h';exact d (lJq h')
theorem jU6 {H:Hp} {a b:Addr} {o:HO} (h:H a=some o) (h':H b=none):a≠b:=by
 intro e;subst e;rw[h] at h';cases h'
def Rk1 (H:Hp) (k:K1) (v:V):Prop:=match k with
 | .inl k=>v=kV k
 | .inr ks=>∃p vs,v= .ref p/\H p=some (.tup vs)/\Paired (fun k v=>v=kV k) ks vs
def Rk2 (H:Hp) (k:K2) (v:V):Prop:=match k with
 | .inl k=>v=kV k
 | .inr ks=>∃p vs,v= .ref p/\H p=some (.tup vs)/\Paired (Rk1 H) ks vs
def TKeyAt (H:Hp) (ks:TKey) (a:Addr):Prop:=∃vs,H a=some (.tup vs)/\Paired (Rk2 H) ks vs
theorem jX9 {α β:Type} {F G:α->β->Prop} (f:∀a b,F a b->G a b):∀ {l:List α} {m:List β},Paired F l m->Paired G l m
 | _,_,.nil=> .nil
 | _,_,.cons r t=> .cons (f _ _ r) (jX9 f t)
theorem Rk1.mono {H H':Hp} (ht:∀b ys,H b=some (.tup ys)->H' b=some (.tup ys)) (k:K1) (v:V) (r:Rk1 H k v):Rk1 H' k v:=by
 cases k with
 | inl k=>exact r
 | inr ks=>obtain⟨p,vs,e,h,t⟩:=r;exact⟨p,vs,e,ht _ _ h,t⟩
theorem Rk2.mono {H H':Hp} (ht:∀b ys,H b=some (.tup ys)->H' b=some (.tup ys)) (k:K2) (v:V) (r:Rk2 H k v):Rk2 H' k v:=by
 cases k with
 | inl k=>exact r
 | inr ks=>obtain⟨p,vs,e,h,t⟩:=r;exact⟨p,vs,e,ht _ _ h,jX9 (Rk1.mono ht) t⟩
theorem TKeyAt.mono {H H':Hp} {ks:TKey} {a:Addr} (r:TKeyAt H ks a) (ht:∀b ys,H b=some (.tup ys)->H' b=some (.tup ys)):TKeyAt H' ks a:=by
 obtain⟨vs,h,t⟩:=r;exact⟨vs,ht _ _ h,jX9 (Rk2.mono ht) t⟩
section
variable (P:Program) (w:World)
def TupD (h:Heap) (a:Addr) (items:Array Value):Prop:=∃o,h.get? a=some o/\o.cls= .type "tuple"/\∃n,o.data= .seq items n/\o.dict=none
theorem TupD.is {h:Heap} {a:Addr} {items:Array Value} (x:TupD h a items):IsTup h a items:=let ⟨o,e,c,n,d,_⟩:=x;⟨o,e,c,n,d⟩
theorem TupD.new (h:Heap) (items:Array Value):TupD (h.push {cls:= .type "tuple",data:= .seq items}) h.objs.size items:=⟨_,lJz _ rfl,rfl,_,rfl,rfl⟩
noncomputable def ObjOk (H:Hp) (h:Heap) (a:Addr):HO->Prop
 | .lst xs=>xs.length<=sizeLine/\∃(its:List Value) (n:Nat),Vals xs its/\h.get? a=some {cls:= .type "list",data:= .seq its.toArray n}
 | .tup xs=>xs.length<=sizeLine/\∃its:List Value,Vals xs its/\TupD h a its.toArray
 | .dK kvs=>kvs.length<=sizeLine/\(a == sysModules)=false/\∃vs,KV kvs vs/\h.DictOf (jKq P w) a vs
 | .dT kvs=>kvs.length<=sizeLine/\(a == sysModules)=false/\∃xs:List (TKey×Addr×Value),
   Paired (fun (p:TKey×V) (q:TKey×Addr×Value)=>p.1=q.1/\TKeyAt H p.1 q.2.1/\RelV p.2 q.2.2) kvs xs/\
   ∃o es ep,h.get? a=some o/\o.ExactDict/\o.data= .dict es ep/\es.toList=xs.map (entryOfKey (jKf P w))/\(xs.map (·.1)).Nodup
 | .set S n=>h.SetOf (intKind P w) a S n
 | .ins C dx fs=>H dx=some (.own a)/\fs.length<=1000/\dx≠a/\h.get? a=some (PySem.W.instObj C dx)/\
   ∃mA,h.Ns1 dx mA/\(∀f,RelO (fs.lookup f) (mA f))/\PySem.Within mA (fs.map (·.1))
 | .own _=>∃o,h.get? a=some o
 | .xd fs=>∃mA,h.Ns1 a mA/\∀f,RelO (fs.lookup f) (mA f)
 | .rng lo hi=>∃t u v,h.get? a=some {cls:= .type "range",data:= .fields #[.int lo t,.int hi u,.int 1 v]}
 | .frz o u=>h.get? a=some o/\ObjOk H h a u
 | .tbl ps=>h.get? a=some {cls:= .none,data:= .fields ps}
 | .met f x=>h.get? a=some (PySem.W.methodObj (.ref f) (.ref x))
 | .ext φ=>φ h/\(∃o,h.get? a=some o)/\∀h1 h2:Heap,φ h1->(∀o,h1.get? a=some o->h2.get? a=some o)->φ h2
def HOk (H:Hp) (h:Heap):Prop:=∀a o,H a=some o->ObjOk P w H h a o
end
section
variable {P:Program} {w:World} {H H':Hp} {h h':Heap} {a:Addr} {o:HO}
theorem ObjOk.lt (x:ObjOk P w H h a o):a<h.objs.size:=by
 cases o with
 | lst xs=>obtain⟨_,_,_,_,e⟩:=x;exact lJh e
 | tup xs=>obtain⟨_,_,_,p⟩:=x;exact p.is.lt
 | dK kvs=>obtain⟨_,_,_,_,o,_,_,e,_⟩:=x;exact lJh e
 | dT kvs=>obtain⟨_,_,_,_,o,_,_,e,_⟩:=x;exact lJh e
 | set S n=>obtain⟨o,_,_,_,e,_⟩:=x;exact lJh e
 | ins C dx fs=>obtain⟨_,_,_,e,_⟩:=x;exact lJh e
 | own y=>obtain⟨_,e⟩:=x;exact lJh e
 | xd fs=>obtain⟨_,⟨_,_,_,e,_⟩,_⟩:=x;exact lJh e
 | rng lo hi=>obtain⟨_,_,_,e⟩:=x;exact lJh e
 | frz ob u=>obtain⟨e,_⟩:=x;exact lJh e
 | tbl ps=>exact lJh (show h.get? a=some _ from x)
 | met f y=>exact lJh (show h.get? a=some _ from x)
 | ext φ=>obtain⟨_,⟨_,e⟩,_⟩:=x;exact lJh e
theorem Paired.mapP {α β:Type} {F G:α->β->Prop}:∀ {l₁:List α} {l₂:List β},Paired F l₁ l₂->(∀a b,F a b->G a b)->Paired G l₁ l₂
 | _,_,.nil,_=> .nil
 | _,_,.cons r t,f=> .cons (f _ _ r) (Paired.mapP t f)
theorem ObjOk.stay (x:ObjOk P w H h a o) (k:∀b u,(b=a\/H b=some (.own a))->h.get? b=some u->h'.get? b=some u)
  (ho:∀b,H b=some (.own a)->H' b=some (.own a)) (ht:∀b xs,H b=some (.tup xs)->H' b=some (.tup xs)):ObjOk P w H' h' a o:=by
 induction o with
 | lst xs=>obtain⟨z,its,n,r,e⟩:=x;exact⟨z,its,n,r,k _ _ (.inl rfl) e⟩
 | tup xs=>obtain⟨z,its,r,ob,e,c⟩:=x;exact⟨z,its,r,ob,k _ _ (.inl rfl) e,c⟩
 | dK kvs=>obtain⟨z,y,vs,r,ob,es,ep,e,c⟩:=x;exact⟨z,y,vs,r,ob,es,ep,k _ _ (.inl rfl) e,c⟩
 | dT kvs=>
  obtain⟨z,y,xs,r,ob,es,ep,e,c⟩:=x
  exact⟨z,y,xs,Paired.mapP r fun p q z=>⟨z.1,z.2.1.mono ht,z.2.2⟩,ob,es,ep,k _ _ (.inl rfl) e,c⟩
 | set S n=>obtain⟨ob,es,ep,t,e,c⟩:=x;exact⟨ob,es,ep,t,k _ _ (.inl rfl) e,c⟩
 | ins C dx fs=>
  obtain⟨d,z,ne,e,mA,⟨od,es,ep,e2,c⟩,r⟩:=x
  exact⟨ho _ d,z,ne,k _ _ (.inl rfl) e,mA,⟨od,es,ep,k _ _ (.inr d) e2,c⟩,r⟩
 | own y=>obtain⟨ob,e⟩:=x;exact⟨ob,k _ _ (.inl rfl) e⟩
 | xd fs=>obtain⟨mA,⟨od,es,ep,e,c⟩,r⟩:=x;exact⟨mA,⟨od,es,ep,k _ _ (.inl rfl) e,c⟩,r⟩
 | rng lo hi=>obtain⟨t,u,v,e⟩:=x;exact⟨t,u,v,k _ _ (.inl rfl) e⟩
 | frz ob u ih=>obtain⟨e,q⟩:=x;exact⟨k _ _ (.inl rfl) e,ih q⟩
 | tbl ps=>
  have e:h.get? a=some {cls:= .none,data:= .fields ps}:=x
  show h'.get? a=some {cls:= .none,data:= .fields ps}
  exact k a _ (.inl rfl) e
 | met f y=>
  have e:h.get? a=some (PySem.W.methodObj (.ref f) (.ref y)):=x
  show h'.get? a=some (PySem.W.methodObj (.ref f) (.ref y))
  exact k a _ (.inl rfl) e
 | ext φ=>obtain⟨p,⟨o,e⟩,st⟩:=x;exact⟨st _ _ p fun o q=>k _ _ (.inl rfl) q,⟨o,k _ _ (.inl rfl) e⟩,st⟩
theorem HOk.lt (x:HOk P w H h) (e:H a=some o):a<h.objs.size:=(x a o e).lt
theorem HOk.fresh (x:HOk P w H h) (e:h.objs.size<=a):H a=none:=by
 cases q:H a with
 | none=>rfl
 | some u=>exact absurd (lJ3 (x.lt q) e) (lVc _)
theorem HOk.kept (x:HOk P w H h) (k:∀b u,h.get? b=some u->h'.get? b=some u):HOk P w H h':=fun a o e=>
 (x a o e).stay (fun b u _ q=>k b u q) (fun _ q=>q) fun _ _ q=>q
theorem HOk.laid (x:HOk P w H h) (k:∀b u,h.get? b=some u->h'.get? b=some u) (hp:h.objs.size<=a) (new:ObjOk P w (upd H a o) h' a o):HOk P w (upd H a o) h':=fun b u e=>by
 have hn:=x.fresh hp
 by_cases hb:b=a
 ·subst hb;rw[jJ3] at e;cases e;exact new
 ·rw[jJx hb] at e
  exact (x b u e).stay (fun c v _ q=>k c v q) (fun c q=>by rw[jJx (jU6 q hn)];exact q) fun c xs q=>by rw[jJx (jU6 q hn)];exact q
end
def Rd (H:Hp) (a:Addr) (u:HO):Prop:=H a=some u\/∃o,H a=some (.frz o u)
theorem Rd.ok {P:Program} {w:World} {H:Hp} {h:Heap} {a:Addr} {u:HO} (r:Rd H a u) (x:HOk P w H h):ObjOk P w H h a u:=by
 rcases r with r | ⟨o,r⟩
 ·exact x a u r
 ·obtain⟨_,q⟩:=x a _ r
  exact q
def Mut:Option HO->Prop
 | some (.lst _)=>True
 | some (.dK _)=>True
 | some (.dT _)=>True
 | some (.set _ _)=>True
 | some (.ins _ _ _)=>True
 | some (.ext _)=>True
 | _=>False
section
variable {P:Program} {w:World} {H:Hp} {h h':Heap} {x e:Addr} {o':HO}
theorem HOk.write (ok:HOk P w H h) (mu:Mut (H x)) (he:e=x\/H e=some (.own x)) (k:∀b u,b≠e->h.get? b=some u->h'.get? b=some u) (heo:∃u,h'.get? e=some u)
  (new:ObjOk P w (upd H x o') h' x o'):HOk P w (upd H x o') h':=fun b u q=>by
 have nown:∀c y,H c=some (.own y)->c≠x:=fun c y r z=>by subst z;rw[r] at mu;exact mu
 have ntup:∀c xs,H c=some (.tup xs)->c≠x:=fun c xs r z=>by subst z;rw[r] at mu;exact mu
 by_cases hb:b=x
 ·subst hb;rw[jJ3] at q;cases q;exact new
 ·rw[jJx hb] at q
  by_cases hbe:b=e
  ·have q':H b=some (.own x):=by
    rcases he with z | z
    ·exact absurd (hbe.trans z) hb
    ·rw[hbe];exact z
   rw[q] at q';cases q'
   obtain⟨v,hv⟩:=heo
   exact⟨v,by rw[hbe];exact hv⟩
  ·refine (ok b u q).stay (fun c v hc r=>k c v ?_ r) (fun c r=>by rw[jJx (nown c b r)];exact r) fun c xs r=>by rw[jJx (ntup c xs r)];exact r
   rcases hc with rfl | hc
   ·exact hbe
   ·rintro rfl
    rcases he with z | z
    ·exact nown c b hc z
    ·rw[hc] at z;cases z;exact hb rfl
end
structure Un (fs ex:List Addr) (H H':Hp) (h h':Heap):Prop where
 keep:∀b o,h.get? b=some o->H b=none->b∉fs->b∉ex->h'.get? b=some o
 slot:∀b o,h.get? b=some o->H b=none->b∈fs->b∉ex->∃sl,h'.get? b=some {o with slots:=sl}
 free:∀b o,h.get? b=some o->H b=none->b∉ex->H' b=none
 there:∀b o,h.get? b=some o->b∉ex->∃o',h'.get? b=some o'
 tups:∀b xs,H b=some (.tup xs)->H' b=some (.tup xs)
 frzs:∀b o u,H b=some (.frz o u)->H' b=some (.frz o u)
 tbls:∀b ps,H b=some (.tbl ps)->∃more,H' b=some (.tbl (ps++more))
section
variable {fs fs' ex ex':List Addr} {H H1 H2:Hp} {h h1 h2 h':Heap} {a x e:Addr} {o:HO}
theorem Un.any (u:Un fs ex H H1 h h1) {b:Addr} {ob:Obj} (q:h.get? b=some ob) (n:H b=none) (hx:b∉ex):∃sl,h1.get? b=some {ob with slots:=sl}:=by
 by_cases hb:b∈fs
 ·exact u.slot b ob q n hb hx
 ·exact⟨ob.slots,u.keep b ob q n hb hx⟩
theorem Un.kept (k:∀b u,h.get? b=some u->h'.get? b=some u):Un fs ex H H h h':=
 ⟨fun b ob q _ _ _=>k b ob q,fun b ob q _ _ _=>⟨ob.slots,k b ob q⟩,fun _ _ _ n _=>n,fun b ob q _=>⟨ob,k b ob q⟩,fun _ _ q=>q,fun _ _ _ q=>q,fun _ ps q=>⟨#[],by rw[q];simp⟩⟩
theorem Un.refl:Un fs ex H H h h:=Un.kept fun _ _ q=>q
theorem Un.laid (k:∀b u,h.get? b=some u->h'.get? b=some u) (hp:h.objs.size<=a) (hn:H a=none):Un fs ex H (upd H a o) h h' where
 keep:=fun b u q _ _ _=>k b u q
 slot:=fun b u q _ _ _=>⟨u.slots,k b u q⟩
 free:=fun b u q n _=>by rw[jJx (lJn (lJ3 (lJh q) hp))];exact n
 there:=fun b u q _=>⟨u,k b u q⟩
 tups:=fun b xs q=>by rw[jJx (jU6 q hn)];exact q
 frzs:=fun b u xs q=>by rw[jJx (jU6 q hn)];exact q
 tbls:=fun b ps q=>⟨#[],by rw[jJx (jU6 q hn),q];simp⟩
theorem Un.write (mu:Mut (H x)) (he:e=x\/H e=some (.own x)) (k:∀b u,b≠e->h.get? b=some u->h'.get? b=some u) (heo:∃u,h'.get? e=some u):Un fs ex H (upd H x o) h h':=by
 have hx:∀b,H b=none->b≠x:=fun b n z=>by subst z;rw[n] at mu;exact mu
 have hb:∀b,H b=none->b≠e:=fun b n z=>by
  subst z
  rcases he with r | r
  ·exact hx b n r
  ·rw[n] at r;cases r
 have hm:∀b u,H b=some u->¬ Mut (some u)->b≠x:=fun b u q nm z=>by subst z;rw[q] at mu;exact nm mu
 refine⟨fun b u q n _ _=>k b u (hb b n) q,fun b u q n _ _=>⟨u.slots,k b u (hb b n) q⟩,fun b u q n _=>by rw[jJx (hx b n)];exact n,fun b u q _=> ?_,
  fun b xs q=>by rw[jJx (hm b _ q fun z=>z)];exact q,fun b u xs q=>by rw[jJx (hm b _ q fun z=>z)];exact q,fun b ps q=>⟨#[],by rw[jJx (hm b _ q fun z=>z),q];simp⟩⟩
 by_cases hbe:b=e
 ·subst hbe;exact heo
 ·exact⟨u,k b u hbe q⟩
end
def trk (h:Heap) (H:Hp):List Addr:=(List.range h.objs.size).filter fun a=>(H a).isSome
def hidT (h:Heap) (H:Hp):Heap:=PySem.W.hideAll h (trk h H)
theorem qQ2 (h:Heap) (H:Hp):(hidT h H).objs.size=h.objs.size:=PySem.W.hideAll_size _ _
theorem qXo {h:Heap} {H:Hp} {b:Addr} {o:Obj} (e:h.get? b=some o) (n:H b=none):(hidT h H).get? b=some o:=
 PySem.W.hideAll_get _ e fun hm=>by
  have q:(H b).isSome=true:=(lQq.mp hm).2
  rw[n] at q;simp at q
theorem qZh {h:Heap} {H:Hp} {b:Addr} {o:Obj} (e:(hidT h H).get? b=some o):h.get? b=some o/\H b=none:=by
 have e':h.get? b=some o:=PySem.W.of_hideAll (trk h H) e
 refine⟨e',?_⟩
 cases q:H b with
 | none=>rfl
 | some x=>
  have hm:b∈trk h H:=lQq.mpr ⟨lKy.mpr (lJh e'),by simp[q]⟩
  have z:(hidT h H).get? b=none:=PySem.W.hideAll_none (trk h H) hm
  rw[z] at e;cases e
def uJg (g h:Heap) (L:Addr):List (Addr×Obj):=(List.range h.objs.size).filterMap fun a=>if a=L\/(g.get? a).isSome=true then none else (h.get? a).map fun o=>(a,o)
def rest (g h:Heap) (L d:Addr):List (Addr×Obj):=(uJg g h L).filter fun p=>decide (p.1≠d)
structure Mod (K:PySem.W.Frag) (mg:Str->Option Value) (base:Heap):Prop where
 kin:K.In base
 glob:base.Ns mainGlobals mg
 blt:∃mb,base.Ns builtinsNs mb/\∀x:Str,x≠"__name__"->mb x=bootBuiltins x
 nolimit:base.NoLimit
structure Cx where
 prog:Program
 w:World
 K:PySem.W.Frag
 mg:Str->Option Value
 base:Heap
 A:Around
 N:List Str
 s₀:Shared
 H₀:Hp
 env:Env
 outer:List Env
 stack:List Env
 ex:List Addr
 fn:Str->Bool
 calm:Bool
 pn:List (Addr×Obj)
 xe:Value->Shared->Prop
def frs (l:List Env):List Addr:=l.filterMap (·.frame)
abbrev Cx.fs (X:Cx):List Addr:=frs X.outer
def Vis (sc:Scope) (x:Str):Prop:=sc.names.lookup x=some .local\/sc.names.lookup x=some .cell\/sc.names.lookup x=some .free
def Loc (sc:Scope) (x:Str):Prop:=sc.names.lookup x=some .local\/sc.names.lookup x=some .cell
def Look (env:Env) (h:Heap) (m:Str->Option Value) (x:Str) (u:Value):Prop:=
 (env.kindOf x=some .local/\m x=some u)\/((env.kindOf x=some .cell\/env.kindOf x=some .free)/\∃c,env.cells.lookup x=some c/\h.IsCell c (some u))
structure Cx.Ok (X:Cx):Prop where
 mod:Mod X.K X.mg X.base
 kind:X.env.scope.kind= .function
 glob:X.env.globals=mainGlobals
 blt:X.env.builtins=builtinsNs
 above:X.s₀.heap.objs.size<=X.env.locals
 inj:∀x y c,X.env.cells.lookup x=some c->X.env.cells.lookup y=some c->x=y
 has:∀x,(X.env.kindOf x=some .cell\/X.env.kindOf x=some .free)->∃c,X.env.cells.lookup x=some c
 cab:∀x c,X.fn x=true->X.env.cells.lookup x=some c->X.s₀.heap.objs.size<=c
 hd:X.calm=true->X.A.handled=none
 gd:X.calm=true->X.A.guards=some []
 frames:X.A.frames=some X.stack
 stk:X.stack=X.outer\/(X.stack=X.env::X.outer/\X.env.frame=some X.env.locals)
 exf:∀b∈X.ex,b≠X.env.locals/\∀x c,X.env.cells.lookup x=some c->c≠b
 bs:∀b o,X.base.get? b=some o->X.s₀.heap.get? b=some o/\X.H₀ b=none
 bsz:X.base.objs.size<=X.s₀.heap.objs.size
 noex:∀b o,X.base.get? b=some o->b∉X.ex
 exfs:∀b∈X.ex,b∉X.fs
 funs:X.s₀.heap.FunFrames X.base X.outer
 frf:∀b∈X.fs,X.H₀ b=none
structure Inv (X:Cx) (pins:List (Addr×Obj)) (σ:List (Option V)) (H:Hp) (s:Shared):Prop where
 ok:X.Ok
 os:s.os=X.s₀.os
 bare:AllBare s.gens
 base:Un X.fs X.ex X.H₀ H X.s₀.heap s.heap
 loc:∃m,s.heap.Ns X.env.locals m/\∀(i:Nat) (x:Str) (v:V),X.N[i]? =some x->σ[i]? =some (some v)->Vis X.env.scope x->∃u,RelV v u/\Look X.env s.heap m x u
 cell:∀x c,X.env.cells.lookup x=some c->∃v,s.heap.IsCell c v
 free:H X.env.locals=none
 freeC:∀x c,X.env.cells.lookup x=some c->H c=none
 pin:∀p∈X.pn++pins,s.heap.get? p.1=some p.2/\H p.1=none/\p.1≠X.env.locals/\p.1∉X.fs/\∀v,p.2.data≠ .cell v
 hok:HOk X.prog X.w H s.heap
 len:σ.length=X.N.length
section
variable {X:Cx} {pins:List (Addr×Obj)} {σ:List (Option V)} {H H':Hp} {s:Shared} {h':Heap}
theorem Cx.Ok.nofr (ok:X.Ok) {b:Addr} {o:Obj} (e:X.base.get? b=some o):b∉X.fs:=fun hb=>by
 have:=(ok.funs.mem hb).1
 rw[e] at this;cases this
theorem Inv.bs (I:Inv X pins σ H s):∀b o,X.base.get? b=some o->s.heap.get? b=some o/\H b=none:=fun b o e=>
 ⟨I.base.keep b o (I.ok.bs b o e).1 (I.ok.bs b o e).2 (I.ok.nofr e) (I.ok.noex b o e),I.base.free b o (I.ok.bs b o e).1 (I.ok.bs b o e).2 (I.ok.noex b o e)⟩
theorem Inv.bk (I:Inv X pins σ H s):∀b o,X.base.get? b=some o->s.heap.get? b=some o:=fun b o e=>(I.bs b o e).1
theorem Inv.mod (I:Inv X pins σ H s):Mod X.K X.mg X.base:=I.ok.mod
theorem Inv.kIn (I:Inv X pins σ H s):X.K.In s.heap:=I.ok.mod.kin.keeps I.bk
theorem Inv.lt (I:Inv X pins σ H s):X.env.locals<s.heap.objs.size:=let ⟨_,hn,_⟩:=I.loc;hn.lt
theorem Inv.sz (I:Inv X pins σ H s):X.s₀.heap.objs.size<=s.heap.objs.size:=lJ9 I.ok.above (Nat.le_of_lt I.lt)
theorem Inv.nofs (I:Inv X pins σ H s) {a:Addr} (h:s.heap.objs.size<=a):a∉X.fs:=fun hb=>by
 obtain⟨_,o,ho,_⟩:=I.ok.funs.mem hb
 exact absurd (lJ3 (lJh ho) (lJ9 I.sz h)) (lVc _)
theorem Inv.cne (I:Inv X pins σ H s):∀x c,X.env.cells.lookup x=some c->c≠X.env.locals:=fun x c e z=>by
 obtain⟨v,o,ho,hd⟩:=I.cell x c e
 obtain⟨m,⟨o',es,ep,ho',hd',_⟩,_⟩:=I.loc
 rw[z,ho'] at ho;cases ho;rw[hd'] at hd;cases hd
theorem Inv.funs (I:Inv X pins σ H s):s.heap.FunFrames X.base X.outer:=by
 have all:∀(l:List Env),(∀b∈frs l,b∈X.fs)->X.s₀.heap.FunFrames X.base l->s.heap.FunFrames X.base l:=by
  intro l
  induction l with
  | nil=>intro _ _;trivial
  | cons env r ih=>
   intro hs hl
   obtain⟨hk,⟨L,o,hf,hn,ho,hd⟩,hr⟩:=hl
   have hL:L∈X.fs:=hs L (by unfold frs;rw[lQ1,hf];exact lKm)
   obtain⟨sl,e⟩:=I.base.slot L o ho (I.ok.frf L hL) hL fun z=>I.ok.exfs L z hL
   exact⟨hk,⟨L,_,hf,hn,e,hd⟩,ih (fun b hb=>hs b (by unfold frs;rw[lQ1,hf];exact lKa _ hb)) hr⟩
 exact all X.outer (fun _ hb=>hb) I.ok.funs
theorem Inv.stack (I:Inv X pins σ H s):s.heap.FunFrames X.base X.stack:=by
 rcases I.ok.stk with e | ⟨e,hf⟩
 ·rw[e];exact I.funs
 ·rw[e]
  obtain⟨m,hn,_⟩:=I.loc
  refine .cons (by rw[I.ok.kind];decide) hf hn ?_ I.funs
  exact Heap.get?_none_of_le (lJ9 I.ok.bsz I.ok.above)
theorem Inv.stkSub (I:Inv X pins σ H s):∀b∈frs X.stack,b∈X.env.locals::X.fs:=fun b hb=>by
 rcases I.ok.stk with e | ⟨e,hf⟩
 ·rw[e] at hb;exact lKa _ hb
 ·rw[e] at hb
  unfold frs at hb
  rw[lQ1,hf] at hb
  exact hb
theorem Inv.stkFree (I:Inv X pins σ H s):∀b∈frs X.stack,H b=none:=fun b hb=>by
 rcases lJj.mp (I.stkSub b hb) with e | hb
 ·rw[e];exact I.free
 ·obtain⟨_,o,ho,_⟩:=I.ok.funs.mem hb
  exact I.base.free b o ho (I.ok.frf b hb) fun z=>I.ok.exfs b z hb
theorem Inv.step {g':Array GenState} {t':Nat} {d':Drawn} {ch:List Addr} (I:Inv X pins σ H s)
  (hch:∀b∈ch,(b∈X.ex\/X.s₀.heap.objs.size<=b)/\b≠X.env.locals/\(∀x c,X.env.cells.lookup x=some c->c≠b)/\∀p∈X.pn++pins,p.1≠b)
  (keep:∀b o,b≠X.env.locals->b∉X.fs->b∉ch->s.heap.get? b=some o->H b=none->h'.get? b=some o)
  (slot:∀b o,b≠X.env.locals->b∈X.fs->b∉ch->s.heap.get? b=some o->H b=none->∃sl,h'.get? b=some {o with slots:=sl}) (free:∀b o,b∉ch->s.heap.get? b=some o->H b=none->H' b=none)
  (there:∀b o,b∉ch->s.heap.get? b=some o->∃o',h'.get? b=some o')
  (tups:∀b xs,H b=some (.tup xs)->H' b=some (.tup xs)) (frzs:∀b o u,H b=some (.frz o u)->H' b=some (.frz o u)) (tbls:∀b ps,H b=some (.tbl ps)->∃more,H' b=some (.tbl (ps++more)))
  (ns:∀m,s.heap.Ns X.env.locals m->h'.Ns X.env.locals m) (hok:HOk X.prog X.w H' h') (hg:AllBare g'):
  Inv X pins σ H' {s with heap:=h',gens:=g',drawn:=d',toks:=t'}:=by
 have neL:∀b o,X.s₀.heap.get? b=some o->b≠X.env.locals:=fun b o e=>lJn (lJ3 (lJh e) I.ok.above)
 have neC:∀b o,X.s₀.heap.get? b=some o->b∉X.ex->b∉ch:=fun b o e hx hb=>by
  rcases (hch b hb).1 with z | z
  ·exact hx z
  ·exact absurd (lJ3 (lJh e) z) (lVc _)
 have cellK:∀x c,X.env.cells.lookup x=some c->∀v,s.heap.IsCell c v->h'.IsCell c v:=fun x c e v ⟨o,ho,hd⟩=>by
  have nch:c∉ch:=fun z=>(hch c z).2.2.1 x c e rfl
  by_cases hc:c∈X.fs
  ·obtain⟨sl,q⟩:=slot c o (I.cne x c e) hc nch ho (I.freeC x c e)
   exact⟨_,q,hd⟩
  ·exact⟨o,keep c o (I.cne x c e) hc nch ho (I.freeC x c e),hd⟩
 refine⟨I.ok,I.os,hg,⟨fun b o e n hb hx=> ?_,fun b o e n hb hx=> ?_,fun b o e n hx=> ?_,fun b o e hx=> ?_,fun b xs e=>tups b xs (I.base.tups b xs e),fun b o xs e=>frzs b o xs (I.base.frzs b o xs e),fun b ps e=> ?_⟩,?_,fun x c e=> ?_,?_,fun x c e=> ?_,fun p hp=> ?_,hok,I.len⟩
 ·exact keep b o (neL b o e) hb (neC b o e hx) (I.base.keep b o e n hb hx) (I.base.free b o e n hx)
 ·obtain⟨sl,e1⟩:=I.base.slot b o e n hb hx
  obtain⟨sl',e2⟩:=slot b _ (neL b o e) hb (neC b o e hx) e1 (I.base.free b o e n hx)
  exact⟨sl',e2⟩
 ·obtain⟨o',e1⟩:=I.base.there b o e hx
  exact free b o' (neC b o e hx) e1 (I.base.free b o e n hx)
 ·obtain⟨o',e1⟩:=I.base.there b o e hx
  exact there b o' (neC b o e hx) e1
 ·obtain⟨m1,e1⟩:=I.base.tbls b ps e
  obtain⟨m2,e2⟩:=tbls b _ e1
  exact⟨m1++m2,by rw[e2,Array.append_assoc]⟩
 ·obtain⟨m,hn,hl⟩:=I.loc
  refine⟨m,ns m hn,fun i x v e1 e2 e3=> ?_⟩
  obtain⟨u,r,l⟩:=hl i x v e1 e2 e3
  refine⟨u,r,?_⟩
  rcases l with l | ⟨k,c,e,z⟩
  ·exact .inl l
  ·exact .inr ⟨k,c,e,cellK x c e _ z⟩
 ·obtain⟨v,z⟩:=I.cell x c e
  exact⟨v,cellK x c e v z⟩
 ·obtain⟨m,⟨o,_,_,ho,_⟩,_⟩:=I.loc
  exact free _ o (fun z=>(hch _ z).2.1 rfl) ho I.free
 ·obtain⟨v,o,ho,hd⟩:=I.cell x c e
  exact free c o (fun z=>(hch c z).2.2.1 x c e rfl) ho (I.freeC x c e)
 ·obtain⟨e,n,ne,nf,d⟩:=I.pin p hp
  have nch:p.1∉ch:=fun z=>(hch p.1 z).2.2.2 p hp rfl
  exact⟨keep p.1 p.2 ne nf nch e n,free p.1 p.2 nch e n,ne,nf,d⟩
theorem Inv.un {t':Nat} (I:Inv X pins σ H s) (u:Un X.fs [] H H' s.heap h') (hok:HOk X.prog X.w H' h'):Inv X pins σ H' {s with heap:=h',toks:=t'}:=by
 obtain⟨m,⟨o,es,ep,ho,r⟩,_⟩:=id I.loc
 obtain⟨sl,hL⟩:=u.any ho I.free (by simp)
 exact I.step (g':=s.gens) (d':=s.drawn) (ch:=[]) (fun _ z=>nomatch z) (fun b o _ hb _ e n=>u.keep b o e n hb (by simp)) (fun b o _ hb _ e n=>u.slot b o e n hb (by simp)) (fun b o _ e n=>u.free b o e n (by simp)) (fun b o _ e=>u.there b o e (by simp)) u.tups u.frzs u.tbls (fun m' hm=>by
  obtain⟨o',es',ep',ho',r'⟩:=hm
  rw[ho] at ho';cases ho'
  exact⟨_,es',ep',hL,r'⟩) hok I.bare
theorem Inv.call {g':Array GenState} {t':Nat} {d':Drawn} {ch:List Addr} (I:Inv X pins σ H s) (u:Un (frs X.stack) ch H H' s.heap h') (hok:HOk X.prog X.w H' h') (hg:AllBare g')
  (hch:∀b∈ch,(b∈X.ex\/X.s₀.heap.objs.size<=b)/\b≠X.env.locals/\(∀x c,X.env.cells.lookup x=some c->c≠b)/\∀p∈X.pn++pins,p.1≠b):
  Inv X pins σ H' {s with heap:=h',gens:=g',drawn:=d',toks:=t'}:=by
 obtain⟨m,⟨o,es,ep,ho,r⟩,_⟩:=id I.loc
 obtain⟨sl,hL⟩:=u.any ho I.free fun z=>(hch _ z).2.1 rfl
 exact I.step (ch:=ch) hch (fun b o hL hb hc e n=>u.keep b o e n (fun z=>(lJj.mp (I.stkSub b z)).elim hL hb) hc) (fun b o _ _ hc e n=>u.any e n hc) (fun b o hc e n=>u.free b o e n hc) (fun b o hc e=>u.there b o e hc) u.tups u.frzs u.tbls (fun m' hm=>by
  obtain⟨o',es',ep',ho',r'⟩:=hm
  rw[ho] at ho';cases ho'
  exact⟨_,es',ep',hL,r'⟩) hok hg
theorem Inv.turned {t':Nat} {it:Addr} (I:Inv X pins σ H s) (k:∀b o,b≠it->s.heap.get? b=some o->h'.get? b=some o) (hn:H it=none) (hL:it≠X.env.locals)
  (h1:it∈X.ex\/X.s₀.heap.objs.size<=it) (h2:∀x c,X.env.cells.lookup x=some c->c≠it) (h3:∀p∈X.pn++pins,p.1≠it):Inv X pins σ H {s with heap:=h',toks:=t'}:=by
 have nit:∀b u,H b=some u->b≠it:=fun b u e z=>by rw[z,hn] at e;cases e
 refine I.step (g':=s.gens) (d':=s.drawn) (ch:=[it]) (fun b hb=> ?_) (fun b o _ _ hc e _=>k b o (fun z=>hc (by simp[z])) e) (fun b o _ _ hc e _=>⟨o.slots,k b o (fun z=>hc (by simp[z])) e⟩) (fun _ _ _ _ n=>n)
  (fun b o hc e=>⟨o,k b o (fun z=>hc (by simp[z])) e⟩) (fun _ _ e=>e) (fun _ _ _ e=>e) (fun b ps e=>⟨#[],by rw[e];simp⟩) (fun m hm=> ?_) (fun b u e=> ?_) I.bare
 ·have e:b=it:=by simpa using hb
  subst e
  exact⟨h1,hL,h2,h3⟩
 ·obtain⟨o,es,ep,ho,r⟩:=hm
  exact⟨o,es,ep,k _ o (Ne.symm hL) ho,r⟩
 ·refine (I.hok b u e).stay (fun c v hc q=>k c v ?_ q) (fun _ q=>q) fun _ _ q=>q
  rcases hc with z | z
  ·rw[z];exact nit b u e
  ·exact nit c _ z
theorem Inv.tok (I:Inv X pins σ H s) (t:Nat):Inv X pins σ H {s with toks:=t}:=I.un (h':=s.heap) (t':=t) Un.refl I.hok
theorem Inv.kept {t':Nat} (I:Inv X pins σ H s) (k:∀b u,s.heap.get? b=some u->h'.get? b=some u):Inv X pins σ H {s with heap:=h',toks:=t'}:=I.un (Un.kept k) (I.hok.kept k)
theorem Inv.laid {a:Addr} {o:HO} {t':Nat} (I:Inv X pins σ H s) (k:∀b u,s.heap.get? b=some u->h'.get? b=some u) (hp:s.heap.objs.size<=a) (new:ObjOk X.prog X.w (upd H a o) h' a o):
  Inv X pins σ (upd H a o) {s with heap:=h',toks:=t'}:=I.un (Un.laid k hp (I.hok.fresh hp)) (I.hok.laid k hp new)
theorem Inv.write {x e:Addr} {o:HO} {t':Nat} (I:Inv X pins σ H s) (mu:Mut (H x)) (he:e=x\/H e=some (.own x)) (k:∀b u,b≠e->s.heap.get? b=some u->h'.get? b=some u) (heo:∃u,h'.get? e=some u)
  (new:ObjOk X.prog X.w (upd H x o) h' x o):Inv X pins σ (upd H x o) {s with heap:=h',toks:=t'}:=I.un (Un.write mu he k heo) (I.hok.write mu he k heo new)
theorem Inv.weak {σ':List (Option V)} (I:Inv X pins σ H s) (hl:σ'.length=σ.length) (w:∀(i:Nat) v,σ'[i]? =some (some v)->σ[i]? =some (some v)):Inv X pins σ' H s:=
 ⟨I.ok,I.os,I.bare,I.base,let ⟨m,hn,hl'⟩:=I.loc;⟨m,hn,fun i x v e1 e2 e3=>hl' i x v e1 (w i v e2) e3⟩,I.cell,I.free,I.freeC,I.pin,I.hok,hl.trans I.len⟩
theorem Inv.pins_of {pins':List (Addr×Obj)} (I:Inv X pins σ H s) (h:∀p∈pins',s.heap.get? p.1=some p.2/\H p.1=none/\p.1≠X.env.locals/\p.1∉X.fs/\∀v,p.2.data≠ .cell v):Inv X pins' σ H s:=
 ⟨I.ok,I.os,I.bare,I.base,I.loc,I.cell,I.free,I.freeC,fun p hp=>(lKt.mp hp).elim (fun z=>I.pin p (lQe _ z)) (h p),I.hok,I.len⟩
theorem kUb {N:List Str} (hN:N.Nodup) {i j:Nat} {x:Str} (a:N[i]? =some x) (b:N[j]? =some x):i=j:=by
 obtain⟨h1,e1⟩:=lJe.mp a
 obtain⟨h2,e2⟩:=lJe.mp b
 exact (List.getElem_inj hN).mp (e1.trans e2.symm)
theorem qKl {M:Model} {A:Around} {E:Value->Shared->Prop} {i:Nat} {x:Str} {v:V} {u:Value} {Q:Unit->Shared->Prop} (I:Inv X pins σ H s) (hN:X.N.Nodup) (hi:X.N[i]? =some x) (hx:Loc X.env.scope x) (r:RelV v u)
  (h:∀s',Inv X pins (σ.set i (some v)) H s'->(∃a,Heap.SameBut a s.heap s'.heap/\(a=X.env.locals\/X.env.cells.lookup x=some a))->Q () s') (hf:X.fn x=true\/X.env.scope.names.lookup x=some .local:=by first | exact .inl rfl | exact .inr rfl | assumption):wpAny M A (storeName X.env x u) Q E s:=by
 obtain⟨m,hn,hl⟩:=id I.loc
 have hcls:(X.env.scope.kind == .class||(X.env.scope.kind == .module&&X.env.locals != X.env.globals))=false:=by rw[I.ok.kind];rfl
 have hiσ:i<σ.length:=by rw[I.len];exact (lJe.mp hi).1
 have cne:=I.cne
 have tracked:∀ {a:Addr} {h':Heap},(∃o,s.heap.get? a=some o/\H a=none)->Heap.SameBut a s.heap h'->HOk X.prog X.w H h':=fun {a h'} ha hs b ob e=>by
  obtain⟨_,_,hfree⟩:=ha
  refine (I.hok b ob e).stay (fun c w' hc q=>(hs.2 c ?_).trans q) (fun _ q=>q) fun _ _ q=>q
  rintro rfl
  rcases hc with rfl | hc
  ·rw[hfree] at e;cases e
  ·rw[hfree] at hc;cases hc
 rcases hx with hk | hk
 ·refine wpAny_storeName_local hk hn (fun h' hn' hs=> ?_) hcls
  obtain⟨oL,_,_,hoL,_⟩:=id hn
  refine h _ ⟨I.ok,I.os,I.bare,⟨fun b o e n hb hx=> ?_,fun b o e n hb hx=> ?_,I.base.free,fun b o e hx=> ?_,I.base.tups,I.base.frzs,I.base.tbls⟩,⟨_,hn',fun j y v' e1 e2 e3=> ?_⟩,fun y c e=> ?_,I.free,I.freeC,fun p hp=> ?_,tracked ⟨oL,hoL,I.free⟩ hs,by simpa using I.len⟩ ⟨_,hs,.inl rfl⟩
  ·exact (hs.2 b (lJn (lJ3 (lJh e) I.ok.above))).trans (I.base.keep b o e n hb hx)
  ·obtain⟨sl,e1⟩:=I.base.slot b o e n hb hx
   exact⟨sl,(hs.2 b (lJn (lJ3 (lJh e) I.ok.above))).trans e1⟩
  ·obtain⟨o',e1⟩:=I.base.there b o e hx
   exact⟨o',(hs.2 b (lJn (lJ3 (lJh e) I.ok.above))).trans e1⟩
  ·by_cases hj:j=i
   ·subst hj
    rw[hi] at e1;cases e1
    rw[lKk hiσ] at e2
    cases e2
    exact⟨u,r,.inl ⟨hk,by simp⟩⟩
   ·rw[lKf (Ne.symm hj)] at e2
    obtain⟨u',r',q⟩:=hl j y v' e1 e2 e3
    refine⟨u',r',?_⟩
    rcases q with ⟨k,e⟩ | ⟨k,c,e,z⟩
    ·refine .inl ⟨k,?_⟩
     have:y≠x:=fun e=>hj (kUb hN e1 (e▸hi))
     simp[this,e]
    ·exact .inr ⟨k,c,e,z.sameBut hs (cne y c e)⟩
  ·obtain⟨w',z⟩:=I.cell y c e
   exact⟨w',z.sameBut hs (cne y c e)⟩
  ·obtain⟨e,n,ne,nf,d⟩:=I.pin p hp
   exact⟨(hs.2 p.1 ne).trans e,n,ne,nf,d⟩
 ·have hfn:X.fn x=true:=by
   rcases hf with z | z
   ·exact z
   ·rw[z] at hk;cases hk
  obtain⟨c,hc⟩:=I.ok.has x (.inl hk)
  obtain⟨w',z⟩:=I.cell x c hc
  refine wpAny_storeName_cell I.ok.kind hk hc z (fun h' hc' hs=> ?_)
  obtain⟨oc,hoc,hocd⟩:=id z
  refine h {s with heap:=h'} ⟨I.ok,I.os,I.bare,⟨fun b o e n hb hx=> ?_,fun b o e n hb hx=> ?_,I.base.free,fun b o e hx=> ?_,I.base.tups,I.base.frzs,I.base.tbls⟩,⟨m,hn.sameBut hs (Ne.symm (cne x c hc)),fun j y v' e1 e2 e3=> ?_⟩,fun y c' e=> ?_,I.free,I.freeC,fun p hp=> ?_,tracked ⟨oc,hoc,I.freeC x c hc⟩ hs,by simpa using I.len⟩ ⟨c,hs,.inr hc⟩
  ·exact (hs.2 b (lJn (lJ3 (lJh e) (I.ok.cab x c hfn hc)))).trans (I.base.keep b o e n hb hx)
  ·obtain⟨sl,e1⟩:=I.base.slot b o e n hb hx
   exact⟨sl,(hs.2 b (lJn (lJ3 (lJh e) (I.ok.cab x c hfn hc)))).trans e1⟩
  ·obtain⟨o',e1⟩:=I.base.there b o e hx
   exact⟨o',(hs.2 b (lJn (lJ3 (lJh e) (I.ok.cab x c hfn hc)))).trans e1⟩
  ·by_cases hj:j=i
   ·subst hj
    rw[hi] at e1;cases e1
    rw[lKk hiσ] at e2
    cases e2
    exact⟨u,r,.inr ⟨.inl hk,c,hc,hc'⟩⟩
   ·rw[lKf (Ne.symm hj)] at e2
    obtain⟨u',r',q⟩:=hl j y v' e1 e2 e3
    refine⟨u',r',?_⟩
    rcases q with q | ⟨k,c',e,z'⟩
    ·exact .inl q
    ·refine .inr ⟨k,c',e,z'.sameBut hs ?_⟩
     rintro rfl
     exact hj (kUb hN e1 (I.ok.inj _ _ _ e hc▸hi))
  ·by_cases hcc:c'=c
   ·subst hcc;exact⟨_,hc'⟩
   ·obtain⟨w2,z2⟩:=I.cell y c' e
    exact⟨w2,z2.sameBut hs hcc⟩
  ·obtain⟨e,n,ne,nf,d⟩:=I.pin p hp
   refine⟨(hs.2 p.1 ?_).trans e,n,ne,nf,d⟩
   intro q
   rw[q,hoc] at e
   have q':oc=p.2:=lJq e
   exact d w' (by rw[<-q'];exact hocd)
theorem jUm {M:Model} {A:Around} {E:Value->Shared->Prop} {i:Nat} {x:Str} {v:V} {u:Value} {Q:Unit->Shared->Prop} (I:Inv X pins σ H s) (hN:X.N.Nodup) (hi:X.N[i]? =some x) (hx:Loc X.env.scope x) (r:RelV v u)
  (h:∀s',Inv X pins (σ.set i (some v)) H s'->Q () s') (hf:X.fn x=true\/X.env.scope.names.lookup x=some .local:=by first | exact .inl rfl | exact .inr rfl | assumption):wpAny M A (storeName X.env x u) Q E s:=
 qKl I hN hi hx r (fun s' I' _=>h s' I') hf
theorem Inv.call' {s':Shared} {ch:List Addr} (I:Inv X pins σ H s) (ho:s'.os=s.os) (u:Un (frs X.stack) ch H H' s.heap s'.heap) (hok:HOk X.prog X.w H' s'.heap) (hg:AllBare s'.gens)
  (hch:∀b∈ch,(b∈X.ex\/X.s₀.heap.objs.size<=b)/\b≠X.env.locals/\(∀x c,X.env.cells.lookup x=some c->c≠b)/\∀p∈X.pn++pins,p.1≠b):Inv X pins σ H' s':=by
 obtain⟨h',g',d',t',o'⟩:=s'
 have e:o'=s.os:=ho
 subst e
 exact I.call (g':=g') (t':=t') (d':=d') u hok hg hch
end
abbrev XK:=Value->Option Addr->Hp->Prop
abbrev St:=List (Option V)
abbrev VK:=V->Hp->Prop
abbrev TE:=St->Hp->VK->Prop
abbrev TT:=St->Hp->(Bool->Hp->Prop)->Prop
abbrev TA:=St->Hp->(List V->Hp->Prop)->Prop
structure Ends where
 nx:St->Hp->Prop
 rt:VK
 bk:St->Hp->Prop:=fun _ _=>False
 ct:St->Hp->Prop:=fun _ _=>False
abbrev TS:=Ends->St->Hp->Prop
def EP (X:Cx) (pins:List (Addr×Obj)) (σ:St) (Q:VK) (u:Value) (s':Shared):Prop:=∃v H',Inv X pins σ H' s'/\RelV v u/\Q v H'
def TP (X:Cx) (pins:List (Addr×Obj)) (σ:St) (Q:Bool->Hp->Prop) (b:Bool) (s':Shared):Prop:=∃H',Inv X pins σ H' s'/\Q b H'
def SP (X:Cx) (pins:List (Addr×Obj)) (D:Ends) (f:Flow) (s':Shared):Prop:=
 match f with
 | .next=>∃ σ' H',Inv X pins σ' H' s'/\D.nx σ' H'
 | .brk=>∃ σ' H',Inv X pins σ' H' s'/\D.bk σ' H'
 | .cont=>∃ σ' H',Inv X pins σ' H' s'/\D.ct σ' H'
 | .ret u=>∃v σ' H',Inv X pins σ' H' s'/\RelV v u/\D.rt v H'
def PE (X:Cx) (e:Expr) (t:TE):Prop:=
 ∀(pins:List (Addr×Obj)) (s:Shared) (σ:St) (H:Hp) (Q:VK),Inv X pins σ H s->t σ H Q->wpAny (model X.prog X.w) X.A (eval e X.env) (EP X pins σ Q) X.xe s
def PSs (X:Cx) (st:List Stmt) (t:TS):Prop:=
 ∀(pins:List (Addr×Obj)) (s:Shared) (σ:St) (H:Hp) (D:Ends),Inv X pins σ H s->t D σ H->wpAny (model X.prog X.w) X.A (execs st X.env) (SP X pins D) X.xe s
theorem thn {α:Type} {t:Sem α} {Q Q':α->Shared->Prop} {M:Model} {A:Around} {E:Value->Shared->Prop} {s:Shared} (h:wpAny M A t Q E s) (hQ:∀a s,Q a s->Q' a s):wpAny M A t Q' E s:=lKs h hQ fun _ _ x=>x
section
variable {X:Cx}
def tVar (i:Nat):TE:=fun σ H Q=>∃v,σ[i]? =some (some v)/\Q v H
def tC (v:V):TE:=fun _ H Q=>Q v H
theorem pe_var {i:Nat} {x:Str} {pos:Pos} (hN:X.N[i]? =some x) (hv:Vis X.env.scope x) (hd:(x == ("__debug__":Str))=false:=by decide) (hcd:(x == ("__classdict__":Str))=false:=by decide):PE X (.Name x pos) (tVar i):=by
 intro pins s σ H Q I h
 obtain⟨v,e,h⟩:=h
 obtain⟨m,hn,hl⟩:=I.loc
 obtain⟨u,r,l⟩:=hl i x v hN e hv
 have fin:EP X pins σ Q u s:=⟨v,H,I,r,h⟩
 rcases l with ⟨hk,hm⟩ | ⟨hk,c,hc,hcell⟩
 ·exact wpAny_Name (wpAny_loadName_local I.ok.kind hk hn hm fin) hd
 ·rcases hk with hk | hk
  ·exact wpAny_Name (wpAny_loadName_cell I.ok.kind hk hc hcell fin) hd
  ·exact wpAny_Name (wpAny_loadName_free I.ok.kind hk hc hcell fin hcd) hd
theorem pe_int {i j pos}:PE X (.Constant (.int i) j pos) (tC (.int i)):=fun _ _ _ H _ I h=>wpAny_Constant_int ⟨.int i,H,I.tok _,⟨_,rfl⟩,h⟩
theorem pe_bl {b j pos}:PE X (.Constant (.bool b) j pos) (tC (.bl b)):=fun _ _ _ H _ I h=>Constant_bool ⟨.bl b,H,I,rfl,h⟩
theorem pe_non {j pos}:PE X (.Constant .none j pos) (tC .non):=fun _ _ _ H _ I h=>Constant_none ⟨.non,H,I,rfl,h⟩
theorem pe_str {x j pos}:PE X (.Constant (.str x) j pos) (tC (.str x)):=fun _ _ _ H _ I h=>Calls.Constant_str ⟨.str x,H,I.tok _,⟨_,rfl⟩,h⟩
def Gl (X:Cx) (x:Str):Prop:=X.env.kindOf x=some .globalImplicit
theorem kJz {E:Value->Shared->Prop} {pins:List (Addr×Obj)} {s:Shared} {σ:St} {H:Hp} {x:Str} {u:Value} {pos:Pos} {Q:Value->Shared->Prop} (I:Inv X pins σ H s) (hg:Gl X x) (hm:X.mg x=some u) (h:Q u s)
  (hd:(x == ("__debug__":Str))=false:=by decide):wpAny (model X.prog X.w) X.A (eval (.Name x pos) X.env) Q E s:=
 Calls.Name_function_global I.ok.kind hg (Calls.loadGlobal_global (by rw[I.ok.glob];exact I.mod.glob.keeps I.bk) hm h) hd
theorem jQ7 {E:Value->Shared->Prop} {pins:List (Addr×Obj)} {s:Shared} {σ:St} {H:Hp} {x:Str} {u:Value} {pos:Pos} {Q:Value->Shared->Prop} (I:Inv X pins σ H s) (hg:Gl X x) (hm:X.mg x=none) (hv:bootBuiltins x=some u) (h:Q u s)
  (hn:x≠"__name__":=by decide) (hd:(x == ("__debug__":Str))=false:=by decide):wpAny (model X.prog X.w) X.A (eval (.Name x pos) X.env) Q E s:=by
 obtain⟨mb,h1,h2⟩:=I.mod.blt
 exact Calls.Name_function_global I.ok.kind hg (Calls.loadGlobal_builtin (by rw[I.ok.glob];exact I.mod.glob.keeps I.bk) hm (by rw[I.ok.blt];exact h1.keeps I.bk) ((h2 x hn).trans hv) h) hd
variable {a b:Expr} {ta tb:TE} {pos:Pos}
def tB (t:TE):TT:=fun σ H Q=>t σ H fun x H1=>∃c,x= .bl c/\Q c H1
variable {tA tB':TT} {rest:List Expr}
def tOrV (ta tb:TE):TE:=fun σ H Q=>ta σ H fun x H1=>∃c,x= .bl c/\if c=true then Q (.bl true) H1 else tb σ H1 Q
def tNotV (ta:TE):TE:=fun σ H Q=>ta σ H fun x H1=>∃c,x= .bl c/\Q (.bl (!c)) H1
end
def SqL (K:PySem.W.Frag) (H:Hp) (a:Addr) (xs:List V):Prop:=
 Rd H a (.lst xs)\/
  ∃(o:Obj) (its:Array Value) (n:Nat),K.lookup a=some o/\o.cls= .type "list"/\o.dict=none/\o.data= .seq its n/\its.size<=sizeLine/\Vals xs its.toList
def SqT (K:PySem.W.Frag) (H:Hp) (a:Addr) (xs:List V):Prop:=
 Rd H a (.tup xs)\/
  ∃(o:Obj) (its:Array Value) (n:Nat),K.lookup a=some o/\o.cls= .type "tuple"/\o.data= .seq its n/\its.size<=sizeLine/\Vals xs its.toList
noncomputable def absV:Value->Option V
 | .none=>some .non
 | .bool b=>some (.bl b)
 | .int i _=>some (.int i)
 | .str x _=>some (.str x)
 | .bytes b _=>some (.byt b)
 | .float b _=>some (.flt b)
 | .ref a=>some (.ref a)
 | .type n=>some (.ty n)
 | _=>none
theorem RelV.abs {x:V} {u:Value} (r:RelV x u):absV u=some x:=by
 cases x with
 | non=>cases r;rfl
 | bl _=>cases r;rfl
 | int _=>obtain⟨t,rfl⟩:=r;rfl
 | str _=>obtain⟨t,rfl⟩:=r;rfl
 | byt _=>obtain⟨t,rfl⟩:=r;rfl
 | flt _=>obtain⟨t,rfl⟩:=r;rfl
 | ref _=>cases r;rfl
 | ty _=>cases r;rfl
theorem RelV.inj {x y:V} {u:Value} (r:RelV x u) (q:RelV y u):x=y:=lJq (r.abs.symm.trans q.abs)
theorem Vals.inj {xs ys:List V} {us:List Value} (h:Vals xs us) (g:Vals ys us):xs=ys:=by
 induction h generalizing ys with
 | nil=>(cases g;rfl)
 | cons r _ ih=>(cases g with | cons r' t'=>rw[r.inj r',ih t'])
section
variable {X:Cx} {pins:List (Addr×Obj)} {σ:St} {H:Hp} {s:Shared} {a:Addr} {xs ys:List V}
theorem SqL.of {K:PySem.W.Frag} (h:H a=some (.lst xs)):SqL K H a xs:= .inl (.inl h)
theorem SqT.of {K:PySem.W.Frag} (h:H a=some (.tup xs)):SqT K H a xs:= .inl (.inl h)
theorem Inv.list (I:Inv X pins σ H s) (h:SqL X.K H a xs):∃its:List Value,Vals xs its/\PlainL s.heap a its.toArray/\xs.length<=sizeLine:=by
 rcases h with h | ⟨o,its,n,hk,hc,hd,hs,hz,r⟩
 ·obtain⟨z,its,n,r,e⟩:=h.ok I.hok
  exact⟨its,r,⟨_,n,e,rfl,rfl,rfl⟩,z⟩
 ·refine⟨its.toList,r,⟨o,n,I.kIn a o hk,hc,hd,by simpa using hs⟩,?_⟩
  have e:=r.length
  simp only[lVd] at e
  omega
theorem Inv.tuple (I:Inv X pins σ H s) (h:SqT X.K H a xs):∃its:List Value,Vals xs its/\IsTup s.heap a its.toArray/\xs.length<=sizeLine:=by
 rcases h with h | ⟨o,its,n,hk,hc,hs,hz,r⟩
 ·obtain⟨z,its,r,p⟩:=h.ok I.hok
  exact⟨its,r,p.is,z⟩
 ·refine⟨its.toList,r,⟨o,I.kIn a o hk,hc,n,by simpa using hs⟩,?_⟩
  have e:=r.length
  simp only[lVd] at e
  omega
theorem Inv.list_inj (I:Inv X pins σ H s) (h:SqL X.K H a xs) (h':SqL X.K H a ys):xs=ys:=by
 obtain⟨its,r,⟨o,n,e,_,_,d⟩,_⟩:=I.list h
 obtain⟨its',r',⟨o',n',e',_,_,d'⟩,_⟩:=I.list h'
 rw[e] at e';cases e'
 rw[d] at d'
 injection d' with d1 _
 have:its=its':=by simpa using lJx Array.toList d1
 subst this
 exact r.inj r'
theorem Inv.tuple_inj (I:Inv X pins σ H s) (h:SqT X.K H a xs) (h':SqT X.K H a ys):xs=ys:=by
 obtain⟨its,r,⟨o,e,_,n,d⟩,_⟩:=I.tuple h
 obtain⟨its',r',⟨o',e',_,n',d'⟩,_⟩:=I.tuple h'
 rw[e] at e';cases e'
 rw[d] at d'
 injection d' with d1 _
 have:its=its':=by simpa using lJx Array.toList d1
 subst this
 exact r.inj r'
end
abbrev Cx.wish (X:Cx) (E:Value->Shared->Prop):Cx:={X with xe:=E}
abbrev Cx.nox (X:Cx):Cx:=X.wish fun _ _=>False
theorem Cx.Ok.wish {X:Cx} (ok:X.Ok) (E:Value->Shared->Prop):(X.wish E).Ok:=
 ⟨ok.mod,ok.kind,ok.glob,ok.blt,ok.above,ok.inj,ok.has,ok.cab,ok.hd,ok.gd,ok.frames,ok.stk,ok.exf,ok.bs,ok.bsz,ok.noex,ok.exfs,ok.funs,ok.frf⟩
theorem Cx.Ok.unwish {X:Cx} {E:Value->Shared->Prop} (ok:(X.wish E).Ok):X.Ok:=
 ⟨ok.mod,ok.kind,ok.glob,ok.blt,ok.above,ok.inj,ok.has,ok.cab,ok.hd,ok.gd,ok.frames,ok.stk,ok.exf,ok.bs,ok.bsz,ok.noex,ok.exfs,ok.funs,ok.frf⟩
section
variable {X:Cx} {pins:List (Addr×Obj)} {σ:St} {H:Hp} {s:Shared} {E:Value->Shared->Prop}
theorem Inv.wish (I:Inv X pins σ H s) (E:Value->Shared->Prop):Inv (X.wish E) pins σ H s:=⟨I.ok.wish E,I.os,I.bare,I.base,I.loc,I.cell,I.free,I.freeC,I.pin,I.hok,I.len⟩
theorem Inv.unwish (I:Inv (X.wish E) pins σ H s):Inv X pins σ H s:=⟨I.ok.unwish,I.os,I.bare,I.base,I.loc,I.cell,I.free,I.freeC,I.pin,I.hok,I.len⟩
theorem SP.unwish {D:Ends} {f:Flow} {s':Shared} (h:SP (X.wish E) pins D f s'):SP X pins D f s':=by
 cases f with
 | next=>obtain⟨σ',H',I,q⟩:=h;exact⟨σ',H',I.unwish,q⟩
 | brk=>obtain⟨σ',H',I,q⟩:=h;exact⟨σ',H',I.unwish,q⟩
 | cont=>obtain⟨σ',H',I,q⟩:=h;exact⟨σ',H',I.unwish,q⟩
 | ret u=>obtain⟨v,σ',H',I,r,q⟩:=h;exact⟨v,σ',H',I.unwish,r,q⟩
theorem PSs.nox {st:List Stmt} {t:TS} (h:PSs X.nox st t):PSs X st t:=fun pins s σ H D I hw=>
 lKs (h pins s σ H D (I.wish _) hw) (fun _ _ q=>q.unwish) fun _ _ z=>False.elim z
end
section
variable {X:Cx} {st:Stmt} {rest:List Stmt} {t u:TS} {e:Expr} {te:TE} {pos:Pos}
theorem Inv.quiet {pins:List (Addr×Obj)} {σ:St} {H:Hp} {s:Shared} (I:Inv X pins σ H s):interactive X.env=false:=by simp[interactive,I.ok.kind]
def tRetN:TS:=fun D _ H=>D.rt .non H
end
abbrev TSet:=V->V->V->Hp->(Hp->Prop)->Prop
def PSet (X:Cx) (t:TSet):Prop:=
 ∀(pins:List (Addr×Obj)) (s:Shared) (σ:St) (H:Hp) (o i v:V) (ov iv u:Value) (Q:Hp->Prop),Inv X pins σ H s->RelV o ov->RelV i iv->RelV v u->t o i v H Q->
  wpAny (model X.prog X.w) X.A (setItem ov iv u) (fun _ s'=>∃H',Inv X pins σ H' s'/\Q H') X.xe s
section
variable {X:Cx} {pos:Pos}
end
section
variable {X:Cx} {pos:Pos}
end
structure It where
 go:Nat->Hp->Prop
 yld:Nat->Hp->V->Hp->Prop
 stop:Nat->Hp->Prop
def FpOk (X:Cx) (pins:List (Addr×Obj)) (H:Hp) (b:Addr):Prop:=
 H b=none/\b≠X.env.locals/\b∉X.fs/\(b∈X.ex\/X.s₀.heap.objs.size<=b)/\(∀x c,X.env.cells.lookup x=some c->c≠b)/\∀p∈X.pn++pins,p.1≠b
theorem Inv.fpOk {X:Cx} {pins:List (Addr×Obj)} {σ:St} {H H':Hp} {s:Shared} {b:Addr} (I:Inv X pins σ H s) (hb:s.heap.objs.size<=b) (hn:H' b=none):FpOk X pins H' b:=by
 refine⟨hn,lQr (lJ3 I.lt hb),I.nofs hb,.inr (lJ9 I.sz hb),fun x c e z=> ?_,fun p hp z=> ?_⟩
 ·obtain⟨v,q⟩:=I.cell x c e
  exact absurd (lJ3 q.lt (by rw[z];exact hb)) (lVc _)
 ·exact absurd (lJ3 (lJh (I.pin p hp).1) (by rw[z];exact hb)) (lVc _)
structure Turn (P:Program) (w:World) (K:PySem.W.Frag) (tg:Expr) (J:It) (fp:List Addr) (it:Addr) (tn:Nat->Heap->Prop):Prop where
 mem:it∈fp
 obj:∀i h,tn i h->∀b∈fp,∃o,h.get? b=some o/\∀v,o.data≠ .cell v
 keep:∀i h h',tn i h->(∀b∈fp,∀o,h.get? b=some o->h'.get? b=some o)->tn i h'
 item:∀(X:Cx),X.prog=P->X.w=w->X.K=K->X.calm=true->∀(i:Nat) (pins:List (Addr×Obj)) (s:Shared) (σ:St) (H:Hp) (E:Value->Shared->Prop),Inv X pins σ H s->(∀b∈fp,FpOk X pins H b)->tn i s.heap->J.go i H->
  wpAny (model P w) X.A (pyNext (.ref it)) (fun r s1=>∃u,r=some u/\
   wpAny (model P w) X.A (letOwnedTupleGo tg (.ref it) u) (fun _ s2=>∃x H',Inv X pins σ H' s2/\RelV x u/\J.yld i H x H'/\tn (i+1) s2.heap/\∀b∈fp,H' b=none) E s1) E s
 done:∀(X:Cx),X.prog=P->X.w=w->X.K=K->X.calm=true->∀(i:Nat) (pins:List (Addr×Obj)) (s:Shared) (σ:St) (H:Hp) (E:Value->Shared->Prop),Inv X pins σ H s->(∀b∈fp,FpOk X pins H b)->tn i s.heap->J.stop i H->
  wpAny (model P w) X.A (pyNext (.ref it)) (fun r s1=>r=none/\Inv X pins σ H s1) E s
 self:∀(A:Around) (i:Nat) (s:Shared) (Q:Value->Shared->Prop) (E:Value->Shared->Prop),tn i s.heap->Q (.ref it) s->wpAny (model P w) A (pyIter (.ref it)) Q E s
abbrev TI:=St->Hp->(It->Hp->Prop)->Prop
def PIE (X:Cx) (pins:List (Addr×Obj)) (σ:St) (tg:Expr) (R:It->Hp->Prop) (itv:Value) (s2:Shared):Prop:=
 ∃(it:Addr) (fp:List Addr) (tn:Nat->Heap->Prop) (J:It) (H':Hp),itv= .ref it/\Inv X pins σ H' s2/\Turn X.prog X.w X.K tg J fp it tn/\tn 0 s2.heap/\(∀b∈fp,FpOk X pins H' b)/\R J H'
theorem qXp {M:Model} {A:Around} {E:Value->Shared->Prop} {s:Shared} {tg:Expr} {it:Addr} {u:Value} {o:Obj} {n:String} {vs:Array Value} {Q:Unit->Shared->Prop} (ho:s.heap.get? it=some o) (hc:o.cls= .type n) (hd:o.data= .fields vs)
  (hn:["enumerate","zip","dict_itemiterator","dict_reverseitemiterator","odict_iterator","itertools.zip_longest","itertools.pairwise"].contains n=false) (hQ:Q () s):wpAny M A (letOwnedTupleGo tg (.ref it) u) Q E s:=by
 unfold letOwnedTupleGo
 cases tg<;>first
  | exact lJd hQ
  | (cases u<;>first
    | exact lJd hQ
    | (refine lJa (wpAny_load ho ?_)
       rw[hc,hd]
       show wpAny M A (if (["enumerate","zip","dict_itemiterator","dict_reverseitemiterator","odict_iterator","itertools.zip_longest","itertools.pairwise"].contains n&&vs[0]? == some (rawInt _))=true then _ else _) Q E s
       rw[lJb (by intro h;rw[hn,Bool.false_and] at h;cases h)]
       exact lJd hQ))
noncomputable def Itl (K:PySem.W.Frag) (a:Addr):It:=
 ⟨fun i H=>∃xs x,SqL K H a xs/\xs[i]? =some x,fun i H x H'=>H'=H/\∀xs,SqL K H a xs->xs[i]? =some x,fun i H=>∃xs,SqL K H a xs/\xs.length<=i⟩
noncomputable def Itt (K:PySem.W.Frag) (a:Addr):It:=
 ⟨fun i H=>∃xs x,SqT K H a xs/\xs[i]? =some x,fun i H x H'=>H'=H/\∀xs,SqT K H a xs->xs[i]? =some x,fun i H=>∃xs,SqT K H a xs/\xs.length<=i⟩
def Itr (lo:Int) (n:Nat):It:=⟨fun i _=>i<n,fun i H x H'=>H'=H/\x= .int (lo+i),fun i _=>n<=i⟩
theorem qKe {P:Program} {w:World} {K:PySem.W.Frag} {tg:Expr} (a it:Addr):Turn P w K tg (Itl K a) [it] it (fun i h=>h.IsListIter it a i) where
 mem:=by simp
 obj:=fun i h st b hb=>by
  have e:b=it:=by simpa using hb
  subst e
  obtain⟨o,e,c,d⟩:=st
  exact⟨o,e,fun v z=>by rw[d] at z;cases z⟩
 keep:=fun i h h' st k=>st.at fun o e=>k it (by simp) o e
 item:=by
  intro X hP hw hK hc i pins s σ H E I hf st hg
  subst hP hw hK
  obtain⟨xs,x,hq,hx⟩:=hg
  obtain⟨its,rv,p,hz⟩:=I.list hq
  obtain⟨u,hu,ru⟩:=rv.get hx
  obtain⟨f0,f1,f2,f3,f4,f5⟩:=hf it (by simp)
  refine wpAny_pyNext_list_item st p.isList (x:=u) (by simpa using hu) fun h' st' sb=> ?_
  have I1:Inv X pins σ H {s with heap:=h'}:=I.turned (t':=s.toks) (fun b o hb e=>(sb.2 b hb).trans e) f0 f1 f3 f4 f5
  obtain⟨o,e,c,d⟩:=id st'
  exact⟨u,rfl,qXp (s:={s with heap:=h'}) e c d (by decide) ⟨x,H,I1,ru,⟨rfl,fun ys hy=>by rw[I.list_inj hy hq];exact hx⟩,st',fun b hb=>(hf b hb).1⟩⟩
 done:=by
  intro X hP hw hK hc i pins s σ H E I hf st hg
  subst hP hw hK
  obtain⟨xs,hq,hx⟩:=hg
  obtain⟨its,rv,p,hz⟩:=I.list hq
  obtain⟨f0,f1,f2,f3,f4,f5⟩:=hf it (by simp)
  have hl:=rv.length
  exact wpAny_pyNext_list_end (I.ok.hd hc) st p.isList (by simp;omega) fun h' eb=>⟨rfl,I.turned (t':=s.toks) (fun b o hb e=>eb b o hb e) f0 f1 f3 f4 f5⟩
 self:=fun _ _ _ _ _ st h=>wpAny_pyIter_listiter st h
theorem kZ6 {P:Program} {w:World} {K:PySem.W.Frag} {tg:Expr} (a it:Addr):Turn P w K tg (Itt K a) [it] it (fun i h=>h.IsTupleIter it a i) where
 mem:=by simp
 obj:=fun i h st b hb=>by
  have e:b=it:=by simpa using hb
  subst e
  obtain⟨o,e,c,d⟩:=st
  exact⟨o,e,fun v z=>by rw[d] at z;cases z⟩
 keep:=fun i h h' st k=>st.at fun o e=>k it (by simp) o e
 item:=by
  intro X hP hw hK hc i pins s σ H E I hf st hg
  subst hP hw hK
  obtain⟨xs,x,hq,hx⟩:=hg
  obtain⟨its,rv,p,hz⟩:=I.tuple hq
  obtain⟨u,hu,ru⟩:=rv.get hx
  obtain⟨f0,f1,f2,f3,f4,f5⟩:=hf it (by simp)
  refine wpAny_pyNext_tuple_item st (show s.heap.IsTuple a its.toArray from p) (x:=u) (by simpa using hu) fun h' st' sb=> ?_
  have I1:Inv X pins σ H {s with heap:=h'}:=I.turned (t':=s.toks) (fun b o hb e=>(sb.2 b hb).trans e) f0 f1 f3 f4 f5
  obtain⟨o,e,c,d⟩:=id st'
  exact⟨u,rfl,qXp (s:={s with heap:=h'}) e c d (by decide) ⟨x,H,I1,ru,⟨rfl,fun ys hy=>by rw[I.tuple_inj hy hq];exact hx⟩,st',fun b hb=>(hf b hb).1⟩⟩
 done:=by
  intro X hP hw hK hc i pins s σ H E I hf st hg
  subst hP hw hK
  obtain⟨xs,hq,hx⟩:=hg
  obtain⟨its,rv,p,hz⟩:=I.tuple hq
  obtain⟨f0,f1,f2,f3,f4,f5⟩:=hf it (by simp)
  have hl:=rv.length
  exact wpAny_pyNext_tuple_end (I.ok.hd hc) st (show s.heap.IsTuple a its.toArray from p) (by simp;omega) fun h' eb=>⟨rfl,I.turned (t':=s.toks) (fun b o hb e=>eb b o hb e) f0 f1 f3 f4 f5⟩
 self:=fun _ _ _ _ _ st h=>wpAny_pyIter_tupleiter st h
theorem kZ7 {P:Program} {w:World} {K:PySem.W.Frag} {tg:Expr} (it:Addr) (lo:Int) (n:Nat):Turn P w K tg (Itr lo n) [it] it (fun i h=>IsRangeIter h it (lo+(i:Nat)*1) ((n:Int)-(i:Nat)) 1) where
 mem:=by simp
 obj:=fun i h st b hb=>by
  have e:b=it:=by simpa using hb
  subst e
  exact⟨_,st,fun v z=>by
   have z':Data.fields _=Data.cell v:=z
   cases z'⟩
 keep:=fun i h h' st k=>k it (by simp) _ st
 item:=by
  intro X hP hw hK hc i pins s σ H E I hf st hg
  subst hP hw hK
  obtain⟨f0,f1,f2,f3,f4,f5⟩:=hf it (by simp)
  have W:=Walks.range (prog:=X.prog) (w:=X.w) (I.ok.hd hc) it lo 1 n
  refine W.item i s _ _ hg st fun v h' tk hv st' kk=> ?_
  obtain⟨t,rfl⟩:=hv
  have I1:Inv X pins σ H {s with heap:=h',toks:=tk}:=I.turned (fun b o hb e=>kk b o (by simpa using hb) e) f0 f1 f3 f4 f5
  refine⟨_,rfl,qXp (s:={s with heap:=h',toks:=tk}) (n:="range_iterator") st' rfl rfl (by decide) ⟨.int (lo+i),H,I1,⟨t,?_⟩,⟨rfl,rfl⟩,st',fun b hb=>(hf b hb).1⟩⟩
  rw[Int.mul_one]
 done:=by
  intro X hP hw hK hc i pins s σ H E I hf st hg
  subst hP hw hK
  obtain⟨f0,f1,f2,f3,f4,f5⟩:=hf it (by simp)
  exact wpAny_pyNext_range_end (I.ok.hd hc) st (by have:n<=i:=hg;omega) fun h' eb=>⟨rfl,I.turned (t':=s.toks) (fun b o hb e=>eb b o hb e) f0 f1 f3 f4 f5⟩
 self:=fun _ _ _ _ _ st h=>wpAny_pyIter_rangeiter st h
section
variable {X:Cx} {tg:Expr}
theorem kY5 {pins:List (Addr×Obj)} {σ:St} {H:Hp} {s:Shared} {R:It->Hp->Prop} {E:Value->Shared->Prop} {lo hi:Int} {t u v:Tok} {tk:Nat} (I:Inv X pins σ H s) (h1: -(2^62)<=lo) (h2:lo<2^62) (h3: -(2^62)<=hi) (h4:hi<2^62)
  (q:R (Itr lo (hi-lo).toNat) H):wpAny (model X.prog X.w) X.A (pyIter (.ref s.heap.objs.size)) (PIE X pins σ tg R) E {s with heap:=s.heap.push {cls:= .type "range",data:= .fields #[.int lo t,.int hi u,.int 1 v]},toks:=tk}:=by
 refine wpAny_pyIter_range (IsRange.new ..) (small_one h1 h2 h3 h4) ?_
 have I1:Inv X pins σ H {s with heap:=s.heap.push {cls:= .type "range",data:= .fields #[.int lo t,.int hi u,.int 1 v]},toks:=tk}:=I.kept fun b o e=>lJl _ e
 refine⟨(s.heap.push {cls:= .type "range",data:= .fields #[.int lo t,.int hi u,.int 1 v]}).objs.size,[(s.heap.push {cls:= .type "range",data:= .fields #[.int lo t,.int hi u,.int 1 v]}).objs.size],_,_,H,rfl,
  I1.kept (t':=tk) fun b o e=>lJl _ e,kZ7 _ lo (hi-lo).toNat,?_,fun b hb=> ?_,q⟩
 ·have e1:lo+((0:Nat):Int)*1=lo:=by simp
  have e2:(((hi-lo).toNat:Nat):Int)-((0:Nat):Int)=Builtin.Range.rangeSize lo hi 1:=by rw[rangeSize_one];split<;>omega
  show IsRangeIter _ _ (lo+((0:Nat):Int)*1) ((((hi-lo).toNat:Nat):Int)-((0:Nat):Int)) 1
  rw[e1,e2]
  exact lJz _ rfl
 ·have e:b=(s.heap.push {cls:= .type "range",data:= .fields #[.int lo t,.int hi u,.int 1 v]}).objs.size:=by simpa using hb
  subst e
  exact I1.fpOk (lJf _) (I1.hok.fresh (lJf _))
def jXw (fp:List Addr) (h:Heap):List (Addr×Obj):=fp.filterMap fun b=>(h.get? b).map fun o=>(b,o)
theorem jXl {fp:List Addr} {h:Heap} {b:Addr} {o:Obj} (hb:b∈fp) (e:h.get? b=some o):(b,o)∈jXw fp h:=lQ2.mpr ⟨b,hb,by rw[e];rfl⟩
theorem qQd {fp:List Addr} {h:Heap} {p:Addr×Obj} (hp:p∈jXw fp h):p.1∈fp/\h.get? p.1=some p.2:=by
 obtain⟨b,hb,e⟩:=lQ2.mp hp
 cases q:h.get? b with
 | none=>rw[q] at e;cases e
 | some o=>
  rw[q] at e
  have e':(b,o)=p:=lJq e
  subst e'
  exact⟨hb,q⟩
theorem Inv.pinned {pins:List (Addr×Obj)} {σ:St} {H:Hp} {s:Shared} {fp:List Addr} (I:Inv X pins σ H s) (hf:∀b∈fp,FpOk X pins H b) (ho:∀b∈fp,∃o,s.heap.get? b=some o/\∀v,o.data≠ .cell v):Inv X (pins++jXw fp s.heap) σ H s:=
 I.pins_of fun p hp=>(lKt.mp hp).elim (fun z=>I.pin p (lKu _ z)) fun z=>by
  obtain⟨hb,e⟩:=qQd z
  obtain⟨f0,f1,f2,_⟩:=hf p.1 hb
  obtain⟨o,e',d⟩:=ho p.1 hb
  rw[e] at e';cases e'
  exact⟨e,f0,f1,f2,d⟩
theorem Inv.unpinned {pins pl:List (Addr×Obj)} {σ:St} {H:Hp} {s:Shared} (I:Inv X (pins++pl) σ H s):Inv X pins σ H s:=I.pins_of fun p hp=>I.pin p (lKu _ (lQe _ hp))
end
abbrev R2:=V->V->Hp->VK->Prop
def OpR (X:Cx) (f:Value->Value->Sem Value) (r:R2):Prop:=
 ∀(pins:List (Addr×Obj)) (s:Shared) (σ:St) (H:Hp) (x y:V) (v u:Value) (Q:VK),Inv X pins σ H s->RelV x v->RelV y u->r x y H Q->
  wpAny (model X.prog X.w) X.A (f v u) (EP X pins σ Q) X.xe s
def UnR (X:Cx) (f:Value->Sem Value) (r:V->Hp->VK->Prop):Prop:=
 ∀(pins:List (Addr×Obj)) (s:Shared) (σ:St) (H:Hp) (x:V) (v:Value) (Q:VK),Inv X pins σ H s->RelV x v->r x H Q->
  wpAny (model X.prog X.w) X.A (f v) (EP X pins σ Q) X.xe s
def kYu (X:Cx) (f:Value) (r:List V->Hp->VK->Prop):Prop:=
 ∀(pins:List (Addr×Obj)) (s:Shared) (σ:St) (H:Hp) (xs:List V) (us:List Value) (Q:VK),Inv X pins σ H s->Vals xs us->r xs H Q->
  wpAny (model X.prog X.w) X.A (call f us) (EP X pins σ Q) X.xe s
def TruR (X:Cx) (r:V->Hp->(Bool->Hp->Prop)->Prop):Prop:=
 ∀(pins:List (Addr×Obj)) (s:Shared) (σ:St) (H:Hp) (x:V) (v:Value) (Q:Bool->Hp->Prop),Inv X pins σ H s->RelV x v->r x H Q->
  wpAny (model X.prog X.w) X.A (truthy v) (TP X pins σ Q) X.xe s
def rI (C:Int->Int->Prop) (g:Int->Int->V):R2:=fun x y H Q=>∃i j,x= .int i/\y= .int j/\C i j/\Q (g i j) H
def rI0 (g:Int->Int->V):R2:=fun x y H Q=>∃i j,x= .int i/\y= .int j/\Q (g i j) H
def rU (g:Int->V):V->Hp->VK->Prop:=fun x H Q=>∃i,x= .int i/\Q (g i) H
section
variable {X:Cx} {a b c:Expr} {ta tb tc:TE} {pos:Pos}
theorem opI {f:Value->Value->Sem Value} {C:Int->Int->Prop} {g:Int->Int->Int}
  (rule:∀(i j:Int) (t u:Tok) (s:Shared) (Q:Value->Shared->Prop) (E:Value->Shared->Prop),C i j->Q (.int (g i j) s.toks) {s with toks:=s.toks+1}->wpAny (model X.prog X.w) X.A (f (.int i t) (.int j u)) Q E s):
  OpR X f (rI C fun i j=> .int (g i j)):=by
 intro pins s σ H x y v u Q I rx ry h
 obtain⟨i,j,rfl,rfl,hc,q⟩:=h
 obtain⟨t,rfl⟩:=rx
 obtain⟨t',rfl⟩:=ry
 exact rule i j t t' s _ _ hc ⟨.int (g i j),H,I.tok _,⟨_,rfl⟩,q⟩
theorem opI0 {f:Value->Value->Sem Value} {g:Int->Int->Int}
  (rule:∀(i j:Int) (t u:Tok) (s:Shared) (Q:Value->Shared->Prop) (E:Value->Shared->Prop),Q (.int (g i j) s.toks) {s with toks:=s.toks+1}->wpAny (model X.prog X.w) X.A (f (.int i t) (.int j u)) Q E s):
  OpR X f (rI0 fun i j=> .int (g i j)):=by
 intro pins s σ H x y v u Q I rx ry h
 obtain⟨i,j,rfl,rfl,q⟩:=h
 obtain⟨t,rfl⟩:=rx
 obtain⟨t',rfl⟩:=ry
 exact rule i j t t' s _ _ ⟨.int (g i j),H,I.tok _,⟨_,rfl⟩,q⟩
theorem opB0 {f:Value->Value->Sem Value} {g:Int->Int->Bool}
  (rule:∀(i j:Int) (t u:Tok) (s:Shared) (Q:Value->Shared->Prop) (E:Value->Shared->Prop),Q (.bool (g i j)) s->wpAny (model X.prog X.w) X.A (f (.int i t) (.int j u)) Q E s):
  OpR X f (rI0 fun i j=> .bl (g i j)):=by
 intro pins s σ H x y v u Q I rx ry h
 obtain⟨i,j,rfl,rfl,q⟩:=h
 obtain⟨t,rfl⟩:=rx
 obtain⟨t',rfl⟩:=ry
 exact rule i j t t' s _ _ ⟨.bl (g i j),H,I,rfl,q⟩
def CDiv (i j:Int):Prop:=0<j/\j<1073741824
def CPow (i j:Int):Prop:=0<=j/\j<=1000000/\i.natAbs<2^64
def CMul (i j:Int):Prop:=(-(2^64)<i/\i<2^64)\/(-(2^64)<j/\j<2^64)
theorem CMul.ok {i j:Int} (h:CMul i j):IntMulOk i j:=by
 rcases h with ⟨h1,h2⟩ | ⟨h1,h2⟩
 ·exact .of_left (intBits_le_64 h1 h2)
 ·exact .of_right (intBits_le_64 h1 h2)
theorem op_add:OpR X (binaryOp .Add) (rI0 fun i j=> .int (i+j)):=opI0 fun _ _ _ _ _ _ _ q=>add_int q
theorem op_sub:OpR X (binaryOp .Sub) (rI0 fun i j=> .int (i-j)):=opI0 fun _ _ _ _ _ _ _ q=>sub_int q
theorem op_mul:OpR X (binaryOp .Mult) (rI CMul fun i j=> .int (i*j)):=opI fun _ _ _ _ _ _ _ hc q=>mul_int q hc.ok
theorem qZd:OpR X (binaryOp .FloorDiv) (rI CDiv fun i j=> .int (i / j)):=opI fun i j _ _ _ _ _ hc q=>by
 have h1:(0:Int)<j:=hc.1
 have h2:j<1073741824:=hc.2
 exact floordiv_int (by omega) (by rw[Int.fdiv_eq_ediv_of_nonneg i (by omega)];exact q) (.inl (PyProof.noPylong_small (by omega)))
theorem op_mod:OpR X (binaryOp .Mod) (rI (fun _ j=>0<j) fun i j=> .int (i%j)):=opI fun i j _ _ _ _ _ hc q=>by
 have h1:(0:Int)<j:=hc
 exact mod_int' (by omega) (by rw[Int.fmod_eq_emod_of_nonneg i (by omega)];exact q)
theorem op_pow:OpR X (binaryOp .Pow) (rI CPow fun i j=> .int (i^j.toNat)):=opI fun _ _ _ _ _ _ _ hc q=>pow_int_small hc.1 hc.2.1 hc.2.2 q
theorem unI {f:Value->Sem Value} {g:Int->Int}
  (rule:∀(i:Int) (t:Tok) (s:Shared) (Q:Value->Shared->Prop) (E:Value->Shared->Prop),Q (.int (g i) s.toks) {s with toks:=s.toks+1}->wpAny (model X.prog X.w) X.A (f (.int i t)) Q E s):
  UnR X f (rU fun i=> .int (g i)):=by
 intro pins s σ H x v Q I rx h
 obtain⟨i,rfl,q⟩:=h
 obtain⟨t,rfl⟩:=rx
 exact rule i t s _ _ ⟨.int (g i),H,I.tok _,⟨_,rfl⟩,q⟩
theorem un_neg:UnR X (unaryOp .USub) (rU fun i=> .int (-i)):=unI fun _ _ _ _ _ q=>neg_int q
end
section
variable {X:Cx} {a b c:Expr} {ta tb tc:TE} {pos:Pos}
theorem qYq {pins:List (Addr×Obj)} {σ:St} {H:Hp} {s:Shared} {Q:VK} {k k':Bool} (I:Inv X pins σ H s) (q:Q (.bl k) H) (e:k=k'):EP X pins σ Q (.bool k') s:=by
 subst e
 exact⟨.bl k,H,I,rfl,q⟩
theorem op_lt:OpR X (compareOp .Lt) (rI0 fun i j=> .bl (decide (i<j))):=opB0 fun _ _ _ _ _ _ _ q=>lt_int q
theorem op_le:OpR X (compareOp .LtE) (rI0 fun i j=> .bl (decide (i<=j))):=opB0 fun _ _ _ _ _ _ _ q=>le_int q
theorem op_gt:OpR X (compareOp .Gt) (rI0 fun i j=> .bl (decide (j<i))):=opB0 fun _ _ _ _ _ _ _ q=>gt_int q
theorem op_ge:OpR X (compareOp .GtE) (rI0 fun i j=> .bl (decide (j<=i))):=opB0 fun _ _ _ _ _ _ _ q=>ge_int q
theorem op_isN:OpR X (compareOp .Is) (fun x y H Q=>y= .non/\Q (.bl (decide (x= .non))) H):=by
 intro pins s σ H x y v u Q I rx ry h
 obtain⟨rfl,q⟩:=h
 cases ry
 refine is_none_gen (qYq I q ?_)
 cases x<;>first
  | (cases rx;rfl)
  | (obtain⟨t,rfl⟩:=rx;rfl)
theorem qZc:OpR X (compareOp .IsNot) (fun x y H Q=>y= .non/\Q (.bl (!decide (x= .non))) H):=by
 intro pins s σ H x y v u Q I rx ry h
 obtain⟨rfl,q⟩:=h
 cases ry
 refine isnot_none_gen (qYq I q ?_)
 cases x<;>first
  | (cases rx;rfl)
  | (obtain⟨t,rfl⟩:=rx;rfl)
theorem nomark (b:Expr) {op:CmpOp} (h:op≠ .In:=by decide) (h2:op≠ .NotIn:=by decide):behindInMarks op b=false:=by
 have e1:(op == CmpOp.In)=false:=by cases op<;>first | rfl | exact absurd rfl h
 have e2:(op == CmpOp.NotIn)=false:=by cases op<;>first | rfl | exact absurd rfl h2
 cases b<;>simp[behindInMarks,e1,e2]
def TruV (K:PySem.W.Frag) (x:V) (H:Hp) (k:Bool):Prop:=
 match x with
 | .non=>k=false
 | .bl b=>k=b
 | .int i=>k=(i != 0)
 | .str y=>y.length<=sizeLine/\k=((y.length:Int) != 0)
 | .byt y=>y.size<=sizeLine/\k=((y.size:Int) != 0)
 | .ref p=>(∃xs,SqL K H p xs/\k= !xs.isEmpty)\/(∃xs,SqT K H p xs/\k= !xs.isEmpty)\/∃kvs,H p=some (.dK kvs)/\k= !kvs.isEmpty
 | _=>False
theorem qJt {κ:Type} {kvs:List (κ×V)} {vs:List (κ×Value)} (r:KV kvs vs):(!vs.isEmpty)= !kvs.isEmpty:=by
 cases r<;>rfl
theorem kQb {xs:List V} {its:List Value} (r:Vals xs its):(!its.toArray.isEmpty)= !xs.isEmpty:=by
 cases r<;>simp
theorem kJx:(sizeLine:Nat)<2^63:=by rw[lQn];decide
theorem tru_ok:TruR X (fun x H Q=>∃k,TruV X.K x H k/\Q k H):=by
 intro pins s σ H x v Q I rx h
 obtain⟨k,e,q⟩:=h
 have hl:=kJx
 have hs:sizeLine=16777216:=lQn
 cases x with
 | non=>
  cases rx
  have e':k=false:=e
  subst e'
  exact truthy_none ⟨H,I,q⟩
 | bl b=>
  cases rx
  have e':k=b:=e
  subst e'
  exact lQy ⟨H,I,q⟩
 | int i=>
  obtain⟨t,rfl⟩:=rx
  have e':k=(i != 0):=e
  subst e'
  exact PySem.P.truthy_int ⟨H,I,q⟩
 | str y=>
  obtain⟨t,rfl⟩:=rx
  obtain⟨hy,e'⟩:y.length<=sizeLine/\k=((y.length:Int) != 0):=e
  subst e'
  exact PySem.P.truthy_str (by omega) ⟨H,I.tok _,q⟩
 | byt y=>
  obtain⟨t,rfl⟩:=rx
  obtain⟨hy,e'⟩:y.size<=sizeLine/\k=((y.size:Int) != 0):=e
  subst e'
  exact PySem.W.truthy_bytes (by omega) ⟨H,I.tok _,q⟩
 | ref p=>
  cases rx
  have e':(∃xs,SqL X.K H p xs/\k= !xs.isEmpty)\/(∃xs,SqT X.K H p xs/\k= !xs.isEmpty)\/∃kvs,H p=some (.dK kvs)/\k= !kvs.isEmpty:=e
  rcases e' with ⟨xs,hx,e'⟩ | ⟨xs,hx,e'⟩ | ⟨kvs,hx,e'⟩
  ·subst e'
   obtain⟨its,r,pl,hz⟩:=I.list hx
   have hlen:=r.length
   exact wpAny_truthy_list pl.isList (by simp only[lJp];omega) ⟨H,I.tok _,by rw[kQb r];exact q⟩
  ·subst e'
   obtain⟨its,r,pl,hz⟩:=I.tuple hx
   have hlen:=r.length
   exact truthy_tuple pl (by simp only[lJp];omega) ⟨H,I.tok _,by rw[kQb r];exact q⟩
  ·subst e'
   obtain⟨hz,hS,vs,r,m⟩:kvs.length<=sizeLine/\(p == sysModules)=false/\∃vs,KV kvs vs/\s.heap.DictOf (jKq X.prog X.w) p vs:=I.hok p _ hx
   have hlen:kvs.length=vs.length:=lQd r
   exact wpAny_truthy_dict hS m (by omega) ⟨H,I.tok _,by rw[qJt r];exact q⟩
 | _=>exact (show False from e).elim
theorem qKb {x:V} {us:List Value} (r:Vals [x] us):∃u,us=[u]/\RelV x u:=by
 cases r with
 | cons r1 r2=>cases r2;exact⟨_,rfl,r1⟩
theorem vals2 {x y:V} {us:List Value} (r:Vals [x,y] us):∃u w',us=[u,w']/\RelV x u/\RelV y w':=by
 cases r with
 | cons r1 r2=>
  cases r2 with
  | cons r3 r4=>cases r4;exact⟨_,_,rfl,r1,r3⟩
theorem qX1:kYu X (.builtin "abs") (fun xs H Q=>∃i,xs=[.int i]/\Q (.int (if i<0 then -i else i)) H):=by
 intro pins s σ H xs us Q I r h
 obtain⟨i,rfl,q⟩:=h
 obtain⟨u,rfl,t,rfl⟩:=qKb r
 exact call_abs_int fun u tk=>⟨.int (if i<0 then -i else i),H,I.tok _,⟨_,rfl⟩,q⟩
theorem qUx (hc:X.calm=true):kYu X (.builtin "max") (fun xs H Q=>∃i j,xs=[.int i,.int j]/\Q (.int (if j>i then j else i)) H):=by
 intro pins s σ H xs us Q I r h
 obtain⟨i,j,rfl,q⟩:=h
 obtain⟨u,w',rfl,⟨t,rfl⟩,⟨t',rfl⟩⟩:=vals2 r
 refine max_two_ints (I.ok.hd hc) fun h' tk k=>⟨_,H,I.kept k,?_,q⟩
 by_cases hj:j>i
 ·rw[lJc hj,lJc hj];exact⟨_,rfl⟩
 ·rw[lJb hj,lJb hj];exact⟨_,rfl⟩
theorem qUy:kYu X (.type "int") (fun xs H Q=>(∃i,xs=[.int i]/\Q (.int i) H)\/∃k,xs=[.bl k]/\Q (.int (if k then 1 else 0)) H):=by
 intro pins s σ H xs us Q I r h
 rcases h with ⟨i,rfl,q⟩ | ⟨k,rfl,q⟩
 ·obtain⟨u,rfl,t,rfl⟩:=qKb r
  exact call_int_int ⟨.int i,H,I,⟨_,rfl⟩,q⟩
 ·obtain⟨u,rfl,r1⟩:=qKb r
  cases r1
  exact call_int_bool ⟨.int (if k then 1 else 0),H,I.tok _,⟨_,rfl⟩,q⟩
theorem kYl:kYu X (.builtin "divmod") (fun xs H Q=>∃i j,xs=[.int i,.int j]/\CDiv i j/\∀p,H p=none->Q (.ref p) (upd H p (.tup [.int (i / j),.int (i%j)]))):=by
 intro pins s σ H xs us Q I r h
 obtain⟨i,j,rfl,⟨h1,h2⟩,q⟩:=h
 obtain⟨u,w',rfl,⟨t,rfl⟩,⟨t',rfl⟩⟩:=vals2 r
 refine divmod_int (by omega) ?_ (.inl (PyProof.noPylong_small (by omega)))
 rw[Int.fdiv_eq_ediv_of_nonneg i (by omega),Int.fmod_eq_emod_of_nonneg i (by omega)]
 have hn:H s.heap.objs.size=none:=I.hok.fresh (lJf _)
 refine⟨.ref s.heap.objs.size,_,?_,rfl,q _ hn⟩
 refine I.laid (fun b o e=>lJl _ e) (lJf _) ⟨by simp only[lKn,List.length_nil];rw[lQn];decide,[.int (i / j) s.toks,.int (i%j) (s.toks+1)],.cons ⟨_,rfl⟩ (.cons ⟨_,rfl⟩ .nil),?_⟩
 exact⟨_,lJz s.heap rfl,rfl,0,rfl,rfl⟩
end
structure ObjM (h:Heap) (x dx C:Addr) (mA:Str->Option Value):Prop where
 obj:h.get? x=some (PySem.W.instObj C dx)
 ns:h.Ns1 dx mA
 ne:dx≠x
theorem qQo {h:Heap} {dx:Addr} {mA:Str->Option Value} (n:h.Ns1 dx mA):∃od,h.get? dx=some od/\∀name,PySem.W.lookIn name od=some (mA name):=by
 obtain⟨o,es,ep,ho,hd,hk,_,hm⟩:=n
 refine⟨o,ho,fun name=> ?_⟩
 have e:=hm name
 unfold nsFind findBy at e
 rw[<-Array.find?_toList] at e
 unfold PySem.W.lookIn
 rw[hd]
 dsimp only
 split
 ·rename_i y q
  rw[q] at e
  exact lJx some e
 ·rename_i q
  rw[q] at e
  have a:es.toList.any (·.refKey)=false:=by
   rw[List.any_eq_false]
   intro y hy
   obtain⟨z,t,hkey⟩:=hk y (Array.mem_toList_iff.mp hy)
   simp[DictEntry.refKey,hkey]
  have a':¬ es.toList.any (·.refKey)=true:=by rw[a];exact lJk
  rw[lJb a']
  exact lJx some e
theorem ObjM.look {h:Heap} {x dx C:Addr} {mA:Str->Option Value} (I:ObjM h x dx C mA):∃od,PySem.W.InstAt h x (PySem.W.instObj C dx) C (some od)/\∀name,PySem.W.lookIn name od=some (mA name):=
 let ⟨od,ho,hl⟩:=qQo I.ns
 ⟨od,⟨I.obj,rfl,rfl,ho⟩,hl⟩
section
variable {prog:Program} {w:World} {A:Around} {E:Value->Shared->Prop} {s:Shared} {K:PySem.W.Frag} {x dx C f:Addr} {mA:Str->Option Value} {name:Str} {v:Value}
theorem qZy {expr:Bool} {Q:Value->Shared->Prop} (X:K.In s.heap) (I:ObjM s.heap x dx C mA) (hg:PySem.W.plainGet K C name=true) (hh:PySem.W.hasDictIn K C=true)
  (ha:PySem.W.findIn K (.ref C) name=some none) (hv:mA name=some v) (hv':PySem.W.handedIn v=true) (h:Q v {s with toks:=s.toks+1}):
  wpAny (model prog w) A (getAttr (.ref x) name expr) Q E s:=by
 obtain⟨od,J,hl⟩:=I.look
 exact PySem.W.get_value X J (PySem.W.plainGet_of hg).1 (PySem.W.findObj_own hh ha rfl (by rw[hl,hv])) hv' h
theorem qXq {pl:Sem Bool} {Q:Value×List Value->Shared->Prop} (X:K.In s.heap) (I:ObjM s.heap x dx C mA) (hg:PySem.W.plainGet K C name=true)
  (hf:PySem.W.findIn K (.ref C) name=some (some (.ref f))) (ht:PySem.W.isFn K (.ref f)=true) (hv:mA name=none) (h:Q (.ref f,[.ref x]) s):
  wpAny (model prog w) A (getMethod (.ref x) name pl) Q E s:=by
 obtain⟨od,J,hl⟩:=I.look
 exact PySem.W.method_fn X J (PySem.W.plainGet_of hg).1 (PySem.W.plainGet_of hg).2 hf (beq_iff_eq.mp ht) (by show (PySem.W.lookIn name od).map (·.isSome)=some false;rw[hl,hv];rfl) h
theorem qY2 {ns:List Str} {Q:Unit->Shared->Prop} (X:K.In s.heap) (I:ObjM s.heap x dx C mA)
  (hs:PySem.W.findIn K (.ref C) "__setattr__"=some (some (.builtin "object.__setattr__"))) (hp:PySem.W.plainOver K C=true) (ht:PySem.W.takerIn K C name=some none) (hh:PySem.W.hasDictIn K C=true)
  (hw:PySem.Within mA ns) (hsz:ns.length<=sizeLine)
  (h:∀h',ObjM h' x dx C (fun y=>if y=name then some v else mA y)->Heap.SameBut dx s.heap h'->Q () {s with heap:=h',toks:=s.toks+2}):
  wpAny (model prog w) A (setAttr (.ref x) name v) Q E s:=by
 obtain⟨od,J,hl⟩:=I.look
 refine PySem.W.set_plain X J hs (PySem.W.osa_open (s:={s with toks:=s.toks+1}) (r:=none) X J hp ht fun b=> ?_)
 obtain⟨cd,hc,hd'⟩:=PySem.W.any_some hh
 have hx:s.heap.get? x=some ⟨.ref C,some dx,.plain,#[]⟩:=I.obj
 refine lJa (lJd (lJa (lJa (wpAny_loadPart hx (lJa (PySem.W.Looks.here (s:={s with toks:=s.toks+1}) (PySem.W.looks_clsIn X hc) ?_))))))
 rw[hd']
 refine lJd (a:=some dx) (lJa (lJd (lJa ?_)))
 refine wpAny_nsSet1 (s:={s with toks:=s.toks+1}) I.ns fun h' hn2 hs2=> ?_
 obtain⟨oD,esD,epD,hoD,hdD,hcD⟩:=hn2.count (PySem.Within.cons name v hw)
 refine lJa (wpAny_lookBehind hoD (by rw[hdD];exact pastItsLine_dict (lJ9 hcD (by rw[lKn];omega))) ?_)
 exact lJd (h _ ⟨(hs2.2 _ (Ne.symm I.ne)).trans I.obj,hn2,I.ne⟩ hs2)
theorem qV8 {R:Result->Shared->Prop} {vs:List Value} {kw:List (Str×Value)} (X:K.In s.heap) (hm:PySem.W.makesIn K C=true)
  (hi:PySem.W.findIn K (.ref C) "__init__"=some (some (.ref f))) (hf:PySem.W.typeIn K (.ref f)=some (.type "function"))
  (h:codeAny (model prog w) (A.under (.builtin "type.__call__" ⟨.ref C::vs,kw⟩)) (.call (.ref f) ⟨.ref (s.heap.objs.size+1)::vs,kw⟩) (PySem.W.InitBack (s.heap.objs.size+1) R)
   {s with heap:=(s.heap.push PySem.W.emptyDict).push (PySem.W.instObj C s.heap.objs.size)}):
  codeAny (model prog w) A (.call (.ref C) ⟨vs,kw⟩) R s:=by
 obtain⟨hh,g,d,t,os⟩:=s
 exact PySem.W.make_core (PySem.W.makes_of X hm) (PySem.W.looks_findIn X hi) (fun self=>PySem.W.bind_fn X self hf) (.inl rfl) h
end
def putF (f:Str) (v:V):List (Str×V)->List (Str×V)
 | []=>[(f,v)]
 | (g,x)::r=>if g=f then (g,v)::r else (g,x)::putF f v r
theorem kJw (f g:Str) (v:V):∀fs:List (Str×V),(putF f v fs).lookup g=if g=f then some v else fs.lookup g
 | []=>by
  show List.lookup g [(f,v)]=_
  by_cases h:g=f
  ·have hb:(g == f)=true:=beq_iff_eq.mpr h
   simp only[List.lookup,hb,lJc h]
  ·have hb:(g == f)=false:=beq_eq_false_iff_ne.mpr h
   simp only[List.lookup,hb,lJb h]
 | (k,x)::r=>by
  have ih:=kJw f g v r
  rw[show putF f v ((k,x)::r)=(if k=f then (k,v)::r else (k,x)::putF f v r) from rfl]
  by_cases hk:k=f
  ·rw[lJc hk]
   by_cases h:g=k
   ·have hb:(g == k)=true:=beq_iff_eq.mpr h
    simp only[List.lookup,hb,lJc (h.trans hk)]
   ·have hb:(g == k)=false:=beq_eq_false_iff_ne.mpr h
    simp only[List.lookup,hb,lJb (fun e:g=f=>h (e.trans hk.symm))]
  ·rw[lJb hk]
   by_cases h:g=k
   ·have hb:(g == k)=true:=beq_iff_eq.mpr h
    simp only[List.lookup,hb,lJb (fun e:g=f=>hk (h.symm.trans e))]
   ·have hb:(g == k)=false:=beq_eq_false_iff_ne.mpr h
    simp only[List.lookup,hb]
    exact ih
theorem kJ0 (f:Str) (v:V):∀fs:List (Str×V),f∈(putF f v fs).map (·.1)/\∀g,g∈fs.map (·.1)->g∈(putF f v fs).map (·.1)
 | []=>⟨by simp[putF],fun g h=>by simp at h⟩
 | (k,x)::r=>by
  obtain⟨i1,i2⟩:=kJ0 f v r
  rw[show putF f v ((k,x)::r)=(if k=f then (k,v)::r else (k,x)::putF f v r) from rfl]
  by_cases hk:k=f
  ·rw[lJc hk]
   subst hk
   exact⟨by simp,fun g h=>by simpa using h⟩
  ·rw[lJb hk]
   refine⟨?_,fun g h=> ?_⟩
   ·rw[lJr]
    exact lKa _ i1
   ·rw[lJr] at h ⊢
    rcases (lJj.mp h) with e | e
    ·exact lJj.mpr (.inl e)
    ·exact lKa _ (i2 g e)
theorem kJy (f:Str) (v:V):∀fs:List (Str×V),(putF f v fs).length<=fs.length+1
 | []=>by simp[putF]
 | (k,x)::r=>by
  have ih:=kJy f v r
  rw[show putF f v ((k,x)::r)=(if k=f then (k,v)::r else (k,x)::putF f v r) from rfl]
  by_cases hk:k=f
  ·rw[lJc hk,lKn,lKn];omega
  ·rw[lJb hk,lKn,lKn];omega
theorem RelO.some_of {v:V} {o:Option Value} (r:RelO (some v) o):∃u,o=some u/\RelV v u:=by
 cases o with
 | none=>exact (show False from r).elim
 | some u=>exact⟨u,rfl,r⟩
theorem RelO.none_of {o:Option Value} (r:RelO none o):o=none:=by
 cases o with
 | none=>rfl
 | some u=>exact (show False from r).elim
theorem qQ4 {v:V} {u:Value} (r:RelV v u):PySem.W.handedIn u=true:=by
 cases v with
 | non=>cases (show u=Value.none from r);rfl
 | bl b=>cases (show u=Value.bool b from r);rfl
 | int i=>obtain⟨t,e⟩:=(show ∃t,u=Value.int i t from r);cases e;rfl
 | str x=>obtain⟨t,e⟩:=(show ∃t,u=Value.str x t from r);cases e;rfl
 | byt b=>obtain⟨t,e⟩:=(show ∃t,u=Value.bytes b t from r);cases e;rfl
 | flt b=>obtain⟨t,e⟩:=(show ∃t,u=Value.float b t from r);cases e;rfl
 | ref a=>cases (show u=Value.ref a from r);rfl
 | ty n=>cases (show u=Value.type n from r);rfl
section
variable {P:Program} {w:World} {H H':Hp} {h h':Heap} {a C dx:Addr} {fs fs':List (Str×V)}
theorem kX9 (hok:HOk P w H h) (e:H a=some (.ins C dx fs)):∃mA,ObjM h a dx C mA/\(∀f,RelO (fs.lookup f) (mA f))/\PySem.Within mA (fs.map (·.1))/\fs.length<=1000/\H dx=some (.own a):=by
 obtain⟨d,z,ne,ob,mA,n,r,q⟩:=(show ObjOk P w H h a (.ins C dx fs) from hok a _ e)
 exact⟨mA,⟨ob,n,ne⟩,r,q,z,d⟩
end
structure Cls (K:PySem.W.Frag) (C:Addr):Prop where
 pg:PySem.W.plainGet K C Str.empty=true
 hd:PySem.W.hasDictIn K C=true
 po:PySem.W.plainOver K C=true
 sa:PySem.W.findIn K (.ref C) "__setattr__"=some (some (.builtin "object.__setattr__"))
theorem Cls.get {K:PySem.W.Frag} {C:Addr} (c:Cls K C) (f:Str):PySem.W.plainGet K C f=true:=c.pg
def NoAttr (K:PySem.W.Frag) (C:Addr) (f:Str):Prop:=PySem.W.findIn K (.ref C) f=some none
theorem NoAttr.taker {K:PySem.W.Frag} {C:Addr} {f:Str} (n:NoAttr K C f):PySem.W.takerIn K C f=some none:=by
 unfold PySem.W.takerIn
 rw[show PySem.W.findIn K (.ref C) f=some none from n]
 rfl
structure Meth (K:PySem.W.Frag) (C:Addr) (m:Str) (f:Addr):Prop where
 at_:PySem.W.findIn K (.ref C) m=some (some (.ref f))
 fn:PySem.W.isFn K (.ref f)=true
 kp:PySem.W.keepIn K (.ref f)=true
section
variable {X:Cx} {pins:List (Addr×Obj)} {σ:St} {H:Hp} {s:Shared} {a C dx:Addr} {fs:List (Str×V)} {f:Str} {v:V} {A:Around} {E:Value->Shared->Prop}
theorem qJu {b:Bool} {Q:Value->Shared->Prop} (I:Inv X pins σ H s) (e:H a=some (.ins C dx fs)) (c:Cls X.K C) (n:NoAttr X.K C f) (l:fs.lookup f=some v)
  (h:∀u s',Inv X pins σ H s'->RelV v u->Q u s'):wpAny (model X.prog X.w) A (getAttr (.ref a) f b) Q E s:=by
 obtain⟨mA,O,r,_,_,_⟩:=kX9 I.hok e
 obtain⟨u,hu,ru⟩:=RelO.some_of (v:=v) (o:=mA f) (by rw[<-l];exact r f)
 exact qZy I.kIn O (c.get f) c.hd n hu (qQ4 ru) (h u _ (I.tok _) ru)
theorem jVa {m:Str} {g:Addr} {pl:Sem Bool} {Q:Value×List Value->Shared->Prop} (I:Inv X pins σ H s) (e:H a=some (.ins C dx fs)) (c:Cls X.K C) (k:Meth X.K C m g) (l:fs.lookup m=none)
  (h:Q (.ref g,[.ref a]) s):wpAny (model X.prog X.w) A (getMethod (.ref a) m pl) Q E s:=by
 obtain⟨mA,O,r,_,_,_⟩:=kX9 I.hok e
 have hn:mA m=none:=RelO.none_of (by rw[<-l];exact r m)
 exact qXq I.kIn O (c.get m) k.at_ k.fn hn h
theorem qJb {y:V} {u:Value} {Q:Unit->Shared->Prop} (I:Inv X pins σ H s) (e:H a=some (.ins C dx fs)) (c:Cls X.K C) (n:NoAttr X.K C f) (hl:fs.length<1000) (ry:RelV y u)
  (h:∀s',Inv X pins σ (upd H a (.ins C dx (putF f y fs))) s'->Q () s'):wpAny (model X.prog X.w) A (setAttr (.ref a) f u) Q E s:=by
 obtain⟨mA,O,r,wi,_,ho⟩:=kX9 I.hok e
 have hz:(fs.map (·.1)).length<=sizeLine:=by rw[lJg,lQn];omega
 refine qY2 I.kIn O c.sa c.po n.taker c.hd wi hz fun h' O' sb=>h _ ?_
 have hd:∃o,h'.get? dx=some o:=let ⟨o,_,_,e',_⟩:=O'.ns;⟨o,e'⟩
 refine I.write (x:=a) (e:=dx) (by rw[e];exact True.intro) (.inr ho) (fun b q hb z=>(sb.2 b hb).trans z) hd ?_
 refine⟨by rw[jJx O.ne];exact ho,?_,O.ne,O'.obj,_,O'.ns,fun g=> ?_,fun g hg=> ?_⟩
 ·have:=kJy f y fs;omega
 ·show RelO ((putF f y fs).lookup g) (if g=f then some u else mA g)
  rw[kJw]
  by_cases q:g=f
  ·rw[lJc q,lJc q];exact ry
  ·rw[lJb q,lJb q];exact r g
 ·by_cases q:g=f
  ·rw[q];exact (kJ0 f y fs).1
  ·refine (kJ0 f y fs).2 g (wi g fun z=>hg ?_)
   show (if g=f then some u else mA g)=none
   rw[lJb q];exact z
theorem Inv.made (I:Inv X pins σ H s):Inv X pins σ (upd (upd H s.heap.objs.size (.own (s.heap.objs.size+1))) (s.heap.objs.size+1) (.ins C s.heap.objs.size []))
  {s with heap:=(s.heap.push PySem.W.emptyDict).push (PySem.W.instObj C s.heap.objs.size)}:=by
 have e1:(s.heap.push PySem.W.emptyDict).get? s.heap.objs.size=some PySem.W.emptyDict:=lJz s.heap rfl
 have e2:((s.heap.push PySem.W.emptyDict).push (PySem.W.instObj C s.heap.objs.size)).get? (s.heap.objs.size+1)=some (PySem.W.instObj C s.heap.objs.size):=by
  have:=lJz (s.heap.push PySem.W.emptyDict) (o:=PySem.W.instObj C s.heap.objs.size) rfl
  rwa [lVw] at this
 have e3:(s.heap.push PySem.W.emptyDict).Ns s.heap.objs.size (fun _=>none):=⟨PySem.W.emptyDict,#[],_,e1,rfl,(fun e he=>absurd he (by simp)),fun _=>rfl⟩
 have I1:=I.laid (a:=s.heap.objs.size) (o:= .own (s.heap.objs.size+1)) (h':=s.heap.push PySem.W.emptyDict) (t':=s.toks) (fun b u q=>lJl _ q) (lJf _) ⟨_,e1⟩
 refine I1.laid (a:=s.heap.objs.size+1) (o:= .ins C s.heap.objs.size []) (t':=s.toks) (fun b u q=>lJl _ q) (Nat.le_of_eq (lVw _ _)) ?_
 have ne:s.heap.objs.size≠s.heap.objs.size+1:=lJn (Nat.lt_succ_self _)
 refine⟨by rw[jJx ne,jJ3],lJ2 _,ne,e2,fun _=>none,(Heap.Ns1.of_empty e3).at fun o q=>lJl _ q,fun _=>True.intro,fun y hy=>absurd rfl hy⟩
theorem uJe {prog:Program} {w:World} {env:Env} {e:Expr} {f:Str} {pos:Pos} {s:Shared} {Q:Value->Shared->Prop} (hb:attributeBase e f env (eval e env)=eval e env)
  (h:wpAny (model prog w) A (eval e env) (fun o s₁=>wpAny (model prog w) A (getAttr o f true) Q E s₁) E s):wpAny (model prog w) A (eval (.Attribute e f pos) env) Q E s:=
 Attribute_any_ h (by rw[arm_eval_Attribute,hb])
end
section
variable {X:Cx} {o e value:Expr} {f:Str} {pos pos' tpos:Pos} {ta tv:TE}
end
section
variable {X:Cx} {pins:List (Addr×Obj)} {σ:St} {H:Hp} {s:Shared} {A:Around} {E:Value->Shared->Prop} {Q:Value->Shared->Prop} {c:Value} {b:Bool}
end
structure Room (k:Nat) (A:Around):Prop where
 hd:A.handled=none
 gd:A.guards=some []
 dp:A.depth+3*k+5<recursionLimit
 un:A.units+16*k+200<cLine
theorem Room.mono {j k:Nat} {A:Around} (r:Room k A) (h:j<=k):Room j A:=⟨r.hd,r.gd,by have:=r.dp;omega,by have:=r.un;omega⟩
theorem Room.deeper {k:Nat} {A:Around} (r:Room (k+1) A) (env:Env):Room k (A.deeper env):=
 ⟨r.hd,r.gd,by have:=r.dp;show A.depth+1+3*k+5<_;omega,by have:=r.un;show A.units+3+16*k+200<_;omega⟩
theorem qJo {A:Around} {C:Addr} {us:List Value} {kw:List (Str×Value)}:(A.under (.builtin "type.__call__" ⟨.ref C::us,kw⟩)).depth=A.depth+1:=by
 first | rfl | simp[Around.under,Code.weight,Code.isCreation,Code.isGuard,Code.isCaller,Code.frames,Code.isFrame,guardIds]
theorem qJn {A:Around} {C:Addr} {us:List Value} {kw:List (Str×Value)}:(A.under (.builtin "type.__call__" ⟨.ref C::us,kw⟩)).units=A.units+1:=by
 first | rfl | simp[Around.under,Code.cUnits,Code.frames,Code.isFrame]
theorem Room.make {k:Nat} {A:Around} (r:Room (k+1) A) (C:Addr) (us:List Value) (kw:List (Str×Value)):Room k (A.under (.builtin "type.__call__" ⟨.ref C::us,kw⟩)):=
 ⟨r.hd,r.gd,by have:=r.dp;rw[qJo];omega,by have:=r.un;rw[qJn];omega⟩
theorem Room.depth {k:Nat} {A:Around} (r:Room k A):A.depth<recursionLimit:=by have:=r.dp;omega
theorem Room.units {k:Nat} {A:Around} (r:Room k A):A.units+64<cLine:=by have:=r.un;omega
section
variable {X:Cx} {e:Expr} {es:List Expr} {te:TE} {t:TA} {pos:Pos}
end
abbrev Sp:=List V->Hp->VK->XK->Prop
abbrev CXT:=List Env->Hp->Shared->XK->Value->Shared->Prop
structure Env0 (P:Program) (w:World) (K:PySem.W.Frag) (mg:Str->Option Value) (base:Heap) (A:Around) (outer:List Env) (s:Shared) (H:Hp):Prop where
 frames:A.frames=some outer
 mod:Mod K mg base
 bs:∀b o,base.get? b=some o->s.heap.get? b=some o/\H b=none
 bsz:base.objs.size<=s.heap.objs.size
 funs:s.heap.FunFrames base outer
 frf:∀b∈frs outer,H b=none
 hok:HOk P w H s.heap
 bare:AllBare s.gens
def CE (outer:List Env) (P:Program) (w:World) (H:Hp) (s:Shared) (Q:VK) (u:Value) (s':Shared):Prop:=
 ∃v H',s'.os=s.os/\AllBare s'.gens/\Un (frs outer) [] H H' s.heap s'.heap/\HOk P w H' s'.heap/\RelV v u/\Q v H'
def CR (CX:CXT) (outer:List Env) (P:Program) (w:World) (H:Hp) (s:Shared) (Q:VK) (E:XK) (r:Result) (s':Shared):Prop:=
 match r with
 | .ok (.ret u)=>CE outer P w H s Q u s'
 | .ok _=>False
 | .error e=>CX outer H s E e s'
structure FnOk (P:Program) (w:World) (K:PySem.W.Frag) (mg:Str->Option Value) (base:Heap) (CX:CXT) (k:Nat) (f:Addr) (fd:FuncData) (ps:List Str) (sp:Sp):Prop where
 len:∀vs H Q E,sp vs H Q E->vs.length=ps.length
 run:∀(A:Around) (outer:List Env) (s:Shared) (H:Hp) (args:Args) (us:List Value) (vs:List V) (Q:VK) (E:XK),Room k A->Env0 P w K mg base A outer s H->BindsTo s fd args (ps.zip us)->Vals vs us->sp vs H Q E->
  codeAny (model P w) A (.call (.ref f) args) (CR CX outer P w H s Q E) s
theorem Env0.make {P:Program} {w:World} {K:PySem.W.Frag} {mg:Str->Option Value} {base:Heap} {A:Around} {outer:List Env} {s:Shared} {H:Hp} (e:Env0 P w K mg base A outer s H) (C:Addr) (us:List Value) (kw:List (Str×Value)):
  Env0 P w K mg base (A.under (.builtin "type.__call__" ⟨.ref C::us,kw⟩)) outer s H:=⟨by first | exact e.frames | (simpa[Around.under,Code.envs,Code.isFrame,pushEnvs] using e.frames),e.mod,e.bs,e.bsz,e.funs,e.frf,e.hok,e.bare⟩
section
variable {X:Cx} {pins:List (Addr×Obj)} {σ:St} {H:Hp} {s s':Shared}
theorem Inv.env0 (I:Inv X pins σ H s):Env0 X.prog X.w X.K X.mg X.base X.A X.stack s H:=
 ⟨I.ok.frames,I.ok.mod,I.bs,lJ9 I.ok.bsz I.sz,I.stack,I.stkFree,I.hok,I.bare⟩
theorem Inv.after {Q:VK} {u:Value} (I:Inv X pins σ H s) (h:CE X.stack X.prog X.w H s Q u s'):EP X pins σ Q u s':=by
 obtain⟨v,H',os,bare,un,hok,r,q⟩:=h
 obtain⟨hh,g,d,t,os'⟩:=s'
 obtain rfl:os'=s.os:=os
 exact⟨v,H',I.call (h':=hh) (g':=g) (d':=d) (t':=t) (ch:=[]) un hok bare (fun b z=>absurd z (by simp)),r,q⟩
end
def Binds (K:PySem.W.Frag) (fd:FuncData) (ps:List Str) (ds:List Value):Prop:=
 ∀(s:Shared) (us:List Value),K.In s.heap->(us++ds).length=ps.length->BindsTo s fd ⟨us,[]⟩ (ps.zip (us++ds))
theorem Binds.all {K:PySem.W.Frag} {fd:FuncData} {ps:List Str} (h:∀us:List Value,us.length=ps.length->bindArgs fd ⟨us,[]⟩=pure (ps.zip us)):Binds K fd ps []:=fun s us _ hl=>by
 rw[lQa] at hl ⊢
 exact .of_eq (h us hl)
def qU2 (CX:CXT) (X:Cx) (E:XK):Prop:=∀(pins:List (Addr×Obj)) (σ:St) (H:Hp) (s:Shared) (e:Value) (s':Shared),Inv X pins σ H s->CX X.stack H s E e s'->X.xe e s'
section
variable {X:Cx} {CX:CXT} {k:Nat} {f C:Addr} {fd:FuncData} {ps:List Str} {sp:Sp} {dvs:List V} {ds:List Value} {E:XK} {x m:Str} {p pos apos:Pos} {e o:Expr} {es:List Expr} {ta:TE} {t:TA}
theorem qKr {pins:List (Addr×Obj)} {σ:St} {H:Hp} {s:Shared} {Q:VK} {us:List Value} {vs:List V} (F:FnOk X.prog X.w X.K X.mg X.base CX k f fd ps sp) (hr:Room k X.A) (hb:Binds X.K fd ps ds) (hd:Vals dvs ds) (hx:qU2 CX X E)
  (I:Inv X pins σ H s) (r:Vals vs us) (h:sp (vs++dvs) H Q E):wpAny (model X.prog X.w) X.A (call (.ref f) us) (EP X pins σ Q) X.xe s:=by
 have r2:Vals (vs++dvs) (us++ds):=r.append hd
 have hl:(us++ds).length=ps.length:=by rw[<-r2.length];exact F.len _ _ _ _ h
 refine wpAny_call (codeAny_mono (F.run X.A X.stack s H ⟨us,[]⟩ (us++ds) (vs++dvs) Q E hr I.env0 (hb s us I.kIn hl) r2 h) fun r s' hq=> ?_)
 cases r with
 | error e=>exact hx pins σ H s e s' I hq
 | ok fl=>
  cases fl with
  | ret u=>exact I.after hq
  | next=>exact False.elim hq
  | brk=>exact False.elim hq
  | cont=>exact False.elim hq
structure Mk (K:PySem.W.Frag) (C f:Addr):Prop where
 makes:PySem.W.makesIn K C=true
 init:PySem.W.findIn K (.ref C) "__init__"=some (some (.ref f))
 fn:PySem.W.isFn K (.ref f)=true
 kp:PySem.W.keepIn K (.ref C)=true
theorem qVm {pins:List (Addr×Obj)} {σ:St} {H:Hp} {s:Shared} {Q:VK} {us:List Value} {vs:List V} (M:Mk X.K C f) (F:FnOk X.prog X.w X.K X.mg X.base CX k f fd ps sp) (hr:Room (k+1) X.A) (hb:Binds X.K fd ps ds) (hd:Vals dvs ds)
  (hx:qU2 CX X E) (I:Inv X pins σ H s) (r:Vals vs us)
  (h:∀x dx,H x=none->H dx=none->dx≠x->sp (.ref x::(vs++dvs)) (upd (upd H dx (.own x)) x (.ins C dx [])) (fun v H2=>v= .non/\Q (.ref x) H2) E):
  wpAny (model X.prog X.w) X.A (call (.ref C) us) (EP X pins σ Q) X.xe s:=by
 have hq:=h (s.heap.objs.size+1) s.heap.objs.size (I.hok.fresh (Nat.le_succ _)) (I.hok.fresh (lJf _)) (lJn (Nat.lt_succ_self _))
 have I2:=Inv.made (C:=C) I
 have r2:Vals (V.ref (s.heap.objs.size+1)::(vs++dvs)) (Value.ref (s.heap.objs.size+1)::(us++ds)):= .cons rfl (r.append hd)
 have hl:(Value.ref (s.heap.objs.size+1)::us++ds).length=ps.length:=by
  have e:=r2.length
  rw[F.len _ _ _ _ hq] at e
  exact e.symm
 refine wpAny_call (qV8 (f:=f) I.kIn M.makes M.init (beq_iff_eq.mp M.fn) (codeAny_mono (F.run _ X.stack _ _ ⟨Value.ref (s.heap.objs.size+1)::us,[]⟩ (Value.ref (s.heap.objs.size+1)::(us++ds)) _ _ E (hr.make C us [])
  (I2.env0.make C us []) (hb _ (Value.ref (s.heap.objs.size+1)::us) I2.kIn hl) r2 hq) fun r s' hq'=> ?_))
 cases r with
 | error e=>exact hx pins σ _ _ e s' I2 hq'
 | ok fl=>
  cases fl with
  | ret u=>
   obtain⟨v,H',I3,rv,ev,q3⟩:=I2.after hq'
   subst ev
   exact⟨rv,⟨V.ref (s.heap.objs.size+1),H',I3,rfl,q3⟩⟩
  | next=>exact False.elim hq'
  | brk=>exact False.elim hq'
  | cont=>exact False.elim hq'
end
section
variable {X:Cx} {CX:CXT} {k:Nat} {f C:Addr} {fd:FuncData} {ps ks:List Str} {sp:Sp} {E:XK} {x m:Str} {p pos apos kpos:Pos} {e o:Expr} {es:List Expr} {kws:List Keyword} {te ta:TE} {t tk:TA} {nm:Option Str}
variable {g:List Value->List Value->List Value} {gV:List V->List V->List V}
end
structure FnScope (N P:List Str) (sc:Scope):Prop where
 kind:sc.kind= .function
 co:sc.isCoroutine=false
 gen:sc.isGenerator=false
 nd:N.Nodup
 pre:N.take P.length=P
 par:∀x∈P,sc.names.lookup x=some .local\/sc.names.lookup x=some .cell
 nofree:∀y∈sc.names,y.2≠ .free
theorem kVz {kindOf:Str->Option NameKind} {x:Str}:∀ {binds:List (Str×Value)} {m:Str->Option Value},(∀v,(x,v)∉binds)->bindL kindOf binds m x=m x
 | [],_,_=>rfl
 | (n,v)::r,m,h=>by
  unfold bindL
  rw[kVz fun w hw=>h w (lKa _ hw)]
  split
  ·have:x≠n:=by rintro rfl;exact h v lKm
   simp[this]
  ·rfl
theorem kV1 {kindOf:Str->Option NameKind} {x:Str}:∀ {binds:List (Str×Value)} {m:Str->Option Value},(∀v,(x,v)∉binds)->bindC kindOf binds m x=m x
 | [],_,_=>rfl
 | (n,v)::r,m,h=>by
  unfold bindC
  rw[kV1 fun w hw=>h w (lKa _ hw)]
  split
  ·rfl
  ·have:x≠n:=by rintro rfl;exact h v lKm
   simp[this]
theorem kV0 {kindOf:Str->Option NameKind} {x:Str} {v:Value}:∀ {P:List Str} {vs:List Value} {i:Nat} {m:Str->Option Value},P.Nodup->P[i]? =some x->vs[i]? =some v->kindOf x=some .local->
  bindL kindOf (P.zip vs) m x=some v
 | [],_,_,_,_,h,_,_=>by simp at h
 | _::_,[],_,_,_,_,h,_=>by simp at h
 | p::P,w::vs,0,m,nd,h1,h2,hk=>by
  simp at h1 h2;subst h1;subst h2
  show bindL kindOf ((p,w)::P.zip vs) m p=_
  unfold bindL
  rw[kVz fun v hv=>(lKd.mp nd).1 (lVe hv).1,lJc hk]
  simp
 | p::P,w::vs,i+1,m,nd,h1,h2,hk=>by
  show bindL kindOf ((p,w)::P.zip vs) m x=_
  unfold bindL
  exact kV0 (i:=i) (lKd.mp nd).2 (by simpa using h1) (by simpa using h2) hk
theorem kV2 {kindOf:Str->Option NameKind} {x:Str} {v:Value}:∀ {P:List Str} {vs:List Value} {i:Nat} {m:Str->Option Value},P.Nodup->P[i]? =some x->vs[i]? =some v->kindOf x≠some .local->
  bindC kindOf (P.zip vs) m x=some v
 | [],_,_,_,_,h,_,_=>by simp at h
 | _::_,[],_,_,_,_,h,_=>by simp at h
 | p::P,w::vs,0,m,nd,h1,h2,hk=>by
  simp at h1 h2;subst h1;subst h2
  show bindC kindOf ((p,w)::P.zip vs) m p=_
  unfold bindC
  rw[kV1 fun v hv=>(lKd.mp nd).1 (lVe hv).1,lJb hk]
  simp
 | p::P,w::vs,i+1,m,nd,h1,h2,hk=>by
  show bindC kindOf ((p,w)::P.zip vs) m x=_
  unfold bindC
  exact kV2 (i:=i) (lKd.mp nd).2 (by simpa using h1) (by simpa using h2) hk
def start (N:List Str) (vs:List V):St:=vs.map some++List.replicate (N.length-vs.length) none
noncomputable def cxOf (CX:CXT) (P:Program) (w:World) (K:PySem.W.Frag) (mg:Str->Option Value) (base:Heap) (N:List Str) (qual:Str) (scope:Scope) (f:Addr) (cd:Value) (A:Around) (outer:List Env) (s:Shared) (H:Hp) (E:XK):Cx where
 prog:=P
 w:=w
 K:=K
 mg:=mg
 base:=base
 A:=A.deeper (envOfC qual scope s.heap.objs.size f cd)
 N:=N
 s₀:=s
 H₀:=H
 env:=envOfC qual scope s.heap.objs.size f cd
 outer:=outer
 stack:=envOfC qual scope s.heap.objs.size f cd::outer
 ex:=[]
 calm:=true
 fn:=fun _=>true
 pn:=[]
 xe:=fun e s'=>wpAny (model P w) (A.deeper (envOfC qual scope s.heap.objs.size f cd)) (leaving (envOfC qual scope s.heap.objs.size f cd) e) (fun _ s''=>CX outer H s E e s'') (fun e' s''=>CX outer H s E e' s'') s'
theorem kZx {sc:Scope} {n:Nat} {x:Str} (h:sc.names.lookup x=some .cell):∃c,(cellsFrom n sc.names []).lookup x=some c:=by
 have q:=PySem.W.cellsFrom_some sc.names n [] (.inl h)
 exact lKb.mp q
theorem qQv {CX:CXT} {P:Program} {w:World} {K:PySem.W.Frag} {mg:Str->Option Value} {base:Heap} {N ps:List Str} {qual:Str} {scope:Scope} {f:Addr} {cd:Value} {A:Around} {outer:List Env} {s s1:Shared} {H:Hp} {E:XK} {us:List Value} {vs:List V}
  (S:FnScope N ps scope) (hd:A.handled=none/\A.guards=some []) (e0:Env0 P w K mg base A outer s H) (hl:vs.length=ps.length) (r:Vals vs us)
  (x:InCallC s s.heap.objs.size (bindL (envOfC qual scope s.heap.objs.size f cd).kindOf (ps.zip us) fun _=>none) (cellsFrom (s.heap.objs.size+1) scope.names []) (bindC (envOfC qual scope s.heap.objs.size f cd).kindOf (ps.zip us) fun _=>none) s1):
  Inv (cxOf CX P w K mg base N qual scope f cd A outer s H E) [] (start N vs) H s1:=by
 have hpl:ps.length<=N.length:=by have:=lJx List.length S.pre;rw[lVf] at this;omega
 obtain⟨h1,tk,rfl,hk⟩:=x.done
 have noA:∀b:Addr,b∉(cxOf CX P w K mg base N qual scope f cd A outer s H E).ex:=fun b z=>absurd (show b∈([]:List Addr) from z) (by simp)
 refine⟨⟨e0.mod,S.kind,rfl,rfl,lJf _,fun y z c h1 h2=> ?_,fun y hy=> ?_,fun y c _ h=> ?_,fun _=>hd.1,fun _=>hd.2,Around.frames_deeper e0.frames,.inr ⟨rfl,rfl⟩,fun b z=>absurd z (noA b),e0.bs,e0.bsz,fun b _ _=>noA b,fun b z=>absurd z (noA b),e0.funs,e0.frf⟩,
  rfl,e0.bare,Un.kept hk,⟨_,x.toInCall.ns,fun i y v h1 h2 h3=> ?_⟩,fun y c h=>⟨_,x.cell y c h⟩,e0.hok.fresh (lJf _),fun y c h=> ?_,fun p hp=>absurd (show p∈([]:List (Addr×Obj)) from hp) (by simp),e0.hok.kept hk,?_⟩
 ·exact name_of_addr x.apart (lVg h1) (lVg h2)
 ·have hy:scope.names.lookup y=some .cell\/scope.names.lookup y=some .free:=hy
  rcases hy with hy | hy
  ·exact kZx hy
  ·exact absurd rfl (S.nofree _ (lVg hy))
 ·exact Nat.le_of_lt (x.above y c (lVg h))
 ·have hi:i<vs.length:=by
   unfold start at h2
   by_cases hi:i<vs.length
   ·exact hi
   ·rw[lQf (by simpa using hi)] at h2
    rw[lXc] at h2
    split at h2<;>cases h2
  have ha:vs[i]? =some v:=by
   unfold start at h2
   rw[lKg (by simpa using hi),lJs] at h2
   cases e:vs[i]? with
   | none=>rw[e] at h2;cases h2
   | some a=>rw[e] at h2;cases h2;rfl
  obtain⟨u,hu,rv⟩:=r.get ha
  have hp:ps[i]? =some y:=by
   rw[<-S.pre,List.getElem?_take_of_lt (by omega)];exact h1
  have ndP:ps.Nodup:=by rw[<-S.pre];exact S.nd.sublist (List.take_sublist _ _)
  refine⟨u,rv,?_⟩
  rcases S.par y (lJm hp) with k | k
  ·exact .inl ⟨k,kV0 ndP hp hu k⟩
  ·obtain⟨c,e⟩:=kZx (n:=s.heap.objs.size+1) k
   refine .inr ⟨.inl k,c,e,?_⟩
   have q:=x.cell y c e
   rw[kV2 ndP hp hu (by show scope.names.lookup y≠_;rw[k];decide)] at q
   exact q
 ·exact e0.hok.fresh (Nat.le_of_lt (x.above y c (lVg h)))
 ·unfold start
  show _=N.length
  rw[lJ7,lJg,List.length_replicate]
  omega
theorem fn_of {CX:CXT} {P:Program} {w:World} {K:PySem.W.Frag} {mg:Str->Option Value} {base:Heap} {k:Nat} {f:Addr} {name qual:Str} {params:Arguments} {body:List Stmt} {scope:Scope} {dV kV doc pm cdv ct oc:Value} {an od:Option Addr}
  {osl:Array (Option Value)} {N ps:List Str} {sp:Sp} (lk:K.lookup f=some ⟨oc,od,.func (PySem.W.fnOf name qual params body scope dV kV doc pm an cdv ct),osl⟩) (hcd:PySem.W.codeIn K cdv qual=true) (S:FnScope N ps scope)
  (len:∀vs H Q E,sp vs H Q E->vs.length=ps.length)
  (hbody:∀(A:Around) (outer:List Env) (s:Shared) (H:Hp) (vs:List V) (Q:VK) (E:XK),Room k (A.deeper (envOfC qual scope s.heap.objs.size f cdv))->sp vs H Q E->
   ∃t,PSs (cxOf CX P w K mg base N qual scope f cdv A outer s H E) body t/\t {nx:=fun _ H'=>Q .non H',rt:=Q} (start N vs) H):
  FnOk P w K mg base CX (k+1) f (PySem.W.fnOf name qual params body scope dV kV doc pm an cdv ct) ps sp:=by
 refine⟨len,fun A outer s H args us vs Q E hr e0 hb r hsp=> ?_⟩
 have hl:=len _ _ _ _ hsp
 have KX:K.In s.heap:=e0.mod.kin.keeps fun b o e=>(e0.bs b o e).1
 have lim:s.heap.NoLimit:=e0.mod.nolimit.keeps fun b o e=>(e0.bs b o e).1
 have hkind:∀y∈ps.zip us,scope.names.lookup y.1=some .local\/(scope.names.lookup y.1=some .cell/\((cellsFrom (s.heap.objs.size+1) scope.names []).lookup y.1).isSome=true):=fun ⟨n,v⟩ hy=>by
  rcases S.par n (lVe hy).1 with q | q
  ·exact .inl q
  ·exact .inr ⟨q,PySem.W.cellsFrom_some _ _ _ (.inl q)⟩
 refine codeAny_call_function hr.depth (KX _ _ lk) rfl S.co S.gen rfl (PySem.W.codeRec_of KX hcd) (hb _ _ _ _ ?_)
 refine wpAny_newFunctionEnv_cells S.kind hkind fun env he s1 x=> ?_
 subst he
 refine⟨lim.keeps x.toInCall.keep,codeAny_func ?_⟩
 obtain⟨t,ht,hq⟩:=hbody A outer s H vs Q E (hr.deeper _) hsp
 have I:Inv (cxOf CX P w K mg base N qual scope f cdv A outer s H E) [] (start N vs) H s1:=qQv S ⟨hr.hd,hr.gd⟩ e0 hl r x
 refine lKs (ht [] s1 (start N vs) H _ I hq) (fun fl s' hs=> ?_) fun e s' hs=>hs
 have fin:∀ {σ':St} {H':Hp} {v:V} {u:Value},Inv (cxOf CX P w K mg base N qual scope f cdv A outer s H E) [] σ' H' s'->RelV v u->Q v H'->CE outer P w H s Q u s':=
  fun {σ' H' v u} J rv q=>⟨v,H',J.os,J.bare,J.base,J.hok,rv,q⟩
 cases fl with
 | ret u=>
  obtain⟨v,σ',H',J,rv,q⟩:=hs
  exact fin J rv q
 | next=>
  obtain⟨σ',H',J,q⟩:=hs
  exact fin (v:=V.non) (u:=Value.none) J rfl q
 | brk=>
  obtain⟨_,_,_,q⟩:=hs
  exact False.elim q
 | cont=>
  obtain⟨_,_,_,q⟩:=hs
  exact False.elim q
section
variable {X:Cx} {x:Str} {p pos:Pos} {e:Expr} {es:List Expr} {t:TA} {id T:String} {r:List V->Hp->VK->Prop}
end
end L2
namespace HT
open PySem PyProof.Rows
theorem qXv (A:Around) (s:Shared) (a:Int) (t:Tok) (c:Int) (u:Tok):∃e,SeqAt.EqAt A s (.int a t) (.int c u) e/\(e=true↔a=c):=
 ⟨(a == c),SeqAt.EqAt.int_int a t c u,by simp⟩
section
open PySem.SeqAt
open PySem.AutoSeq1 (wpAny_loadPart')
open PySem.MeetsSeq PySem.MeetsSeq2 PySem.MeetsSeq3
end
section
variable {prog:Program} {w:World} {A:Around} {E:Value->Shared->Prop} {s:Shared}
theorem cat_tup {t b:Addr} {vs ws:List Value} {Q:Value->Shared->Prop} (ht:IsTup s.heap t vs.toArray) (hb:IsTup s.heap b ws.toArray) (hv:vs≠[])
  (h1:ws=[]->Q (.ref t) s) (h2:ws≠[]->Q (.ref s.heap.objs.size) {s with heap:=s.heap.push {cls:= .type "tuple",data:= .seq (vs++ws).toArray} })
  (hsz:vs.length+ws.length<=sizeLine):wpAny (model prog w) A (binaryOp .Add (.ref t) (.ref b)) Q E s:=by
 obtain⟨⟨cls,dd,data,sl⟩,ho,hc,n,hd⟩:=id ht
 obtain⟨⟨cls2,dd2,data2,sl2⟩,ho2,hc2,n2,hd2⟩:=id hb
 simp only at hc hd hc2 hd2
 subst hc hd hc2 hd2
 have e:vs.toArray++ws.toArray=(vs++ws).toArray:=by simp
 by_cases hw:ws=[]
 ·exact concat_meets ⟨_,ho,rfl⟩ ⟨_,ho2,rfl⟩ noFill_tuple_add seq_tuple_add PySem.F.slot_tuple_add PySem.F.entry_tuple_add (lXs _ _)
   (tuple_addW1 t b vs.toArray ws.toArray n n2 dd dd2 sl sl2 (by simpa using hv) (by simp[hw])) ⟨ho,ho2,h1 hw⟩
 ·refine concat_meets ⟨_,ho,rfl⟩ ⟨_,ho2,rfl⟩ noFill_tuple_add seq_tuple_add PySem.F.slot_tuple_add PySem.F.entry_tuple_add (lXs _ _)
   (tuple_addW2 t b vs.toArray ws.toArray n n2 dd dd2 sl sl2 (by simpa using hv) (by simpa using hw) (by rw[lJp,lJp];exact hsz)) ⟨ho,ho2,?_⟩
  rw[e]
  exact h2 hw
def sIx (n d:Nat):Option Int->Nat
 | none=>d
 | some v=>if v<0 then (v+(n:Int)).toNat else min v.toNat n
theorem sIx_le (n d:Nat) (hd:d<=n) (o:Option Int):sIx n d o<=n:=by
 cases o with
 | none=>exact hd
 | some v=>
  show (if v<0 then (v+(n:Int)).toNat else min v.toNat n)<=n
  by_cases hv:v<0
  ·rw[lJc hv];omega
  ·rw[lJb hv];exact Nat.min_le_right _ _
theorem qUw (v:Int) (n d:Nat):(if v<0 then max (v+(n:Int)) 0 else min v (n:Int))=((sIx n d (some v):Nat):Int):=by
 show (if v<0 then max (v+(n:Int)) 0 else min v (n:Int))=(((if v<0 then (v+(n:Int)).toNat else min v.toNat n):Nat):Int)
 by_cases hv:v<0
 ·simp only[lJc hv];omega
 ·simp only[lJb hv];omega
theorem qJ0 (lo hi:Option Int) (n:Nat):Builtin.Slice.sliceAdjust lo hi 1 (n:Int)=(((sIx n 0 lo:Nat):Int),((sIx n n hi:Nat):Int)):=by
 have h1:¬ ((1:Int)<0):=by omega
 unfold Builtin.Slice.sliceAdjust
 simp only[h1,lJt]
 refine Prod.ext ?_ ?_
 ·cases lo with
  | none=>rfl
  | some v=>exact qUw v n 0
 ·cases hi with
  | none=>rfl
  | some v=>exact qUw v n n
theorem qJg (i j:Nat):Builtin.Slice.slicePlaces (i:Int) (j:Int) 1=j-i:=by
 unfold Builtin.Slice.slicePlaces
 have h1:(1:Int)>0:=by omega
 simp only[h1,lJ4,Int.ediv_one]
 split<;>omega
theorem kK3 {v:Value} {o:Option Int} {Q:Option Int->Shared->Prop} (p:IsPart v o) (h:Q o s):wpAny (model prog w) A (Builtin.Slice.slicePartIndex v) Q E s:=by
 cases p with
 | none=>exact slicePart_none h
 | int i t=>exact slicePart_int h
theorem jVu {sl:Addr} {vl vu:Value} {lo hi:Option Int} {n:Nat} {Q:Int×Int×Nat->Shared->Prop} (hs:s.heap.IsSliceOf sl vl vu .none) (pl:IsPart vl lo) (pu:IsPart vu hi)
  (h:Q (((sIx n 0 lo:Nat):Int),1,sIx n n hi-sIx n 0 lo) s):wpAny (model prog w) A (Builtin.Slice.sliceApplied (.ref sl) (pure (n:Int))) Q E s:=by
 obtain⟨os,hos,hcs,hds⟩:=id hs
 unfold Builtin.Slice.sliceApplied Builtin.Slice.sliceFields
 refine lJa (lJa (lKx hos hds (x:=vl) rfl (lJa (lKx hos hds (x:=vu) rfl (lJa (lKx hos hds (x:= .none) rfl (lJd ?_)))))))
 refine lJa (slicePart_none ?_)
 show wpAny _ _ (if ((1:Int) == 0)=true then _ else _) _ _ s
 rw[lJb (by decide)]
 refine lJa (kK3 pl (lJa (kK3 pu (lJa (lJd ?_)))))
 show wpAny _ _ (match Builtin.Slice.sliceAdjust lo hi 1 (n:Int) with | (lo,hi)=>pure (lo,(1:Int),Builtin.Slice.slicePlaces lo hi 1)) _ _ s
 rw[qJ0 lo hi n]
 show wpAny _ _ (pure (((sIx n 0 lo:Nat):Int),(1:Int),Builtin.Slice.slicePlaces ((sIx n 0 lo:Nat):Int) ((sIx n n hi:Nat):Int) 1)) _ _ s
 rw[qJg]
 exact lJd h
theorem qVw (xs:Array Value) (i k:Nat):((List.range k).filterMap fun (m:Nat)=>xs[((i:Int)+(m:Int)*1).toNat]?).toArray=((xs.toList.drop i).take k).toArray:=by
 have e:(fun (m:Nat)=>xs[((i:Int)+(m:Int)*1).toNat]?)=fun m=>xs[i+m]? :=by
  funext m
  have:((i:Int)+(m:Int)*1).toNat=i+m:=by omega
  rw[this]
 rw[e]
 have:=pick_run xs i k
 rw[List.filterMap_map] at this
 have e2:((fun x=>xs[x]?)∘fun x=>i+x)=fun m=>xs[i+m]? :=rfl
 rw[e2] at this
 rw[this]
theorem getItem_tuple_cut {t sl:Addr} {items:Array Value} {vl vu:Value} {lo hi:Option Int} {Q:Value->Shared->Prop} (ht:IsTup s.heap t items) (hs:s.heap.IsSliceOf sl vl vu .none) (pl:IsPart vl lo) (pu:IsPart vu hi)
  (hw:¬ (sIx items.size 0 lo=0/\sIx items.size items.size hi=items.size))
  (h:Q (.ref s.heap.objs.size) {s with heap:=s.heap.push {cls:= .type "tuple",data:= .seq ((items.toList.drop (sIx items.size 0 lo)).take (sIx items.size items.size hi-sIx items.size 0 lo)).toArray} })
  (hsz:items.size<=sizeLine):wpAny (model prog w) A (getItem (.ref t) (.ref sl)) Q E s:=by
 have htake:sizeOk (.seq ((items.toList.drop (sIx items.size 0 lo)).take (sIx items.size items.size hi-sIx items.size 0 lo)).toArray):=by
  show ((items.toList.drop (sIx items.size 0 lo)).take (sIx items.size items.size hi-sIx items.size 0 lo)).toArray.size<=sizeLine
  rw[lJp,lVf,List.length_drop,lVd]
  omega
 have hj:sIx items.size items.size hi<=items.size:=sIx_le _ _ (lJf _) hi
 obtain⟨os,hos,hcs,hds⟩:=id hs
 have hTs:s.TypeIs (.ref sl) "slice":=⟨os,hos,hcs⟩
 unfold getItem
 try with_reducible refine lK3 ?_
 first | refine lJa (lJd ?_) | skip
 refine lJa (wpAny_sequenceKey ht.typeIs (by decide) ?_)
 refine lJa (lVt (name:=Str.ofString "__getitem__") ht.typeIs lVh
  (lQz lVh ht.typeIs entry_tuple_getitem ?_ (args_tuple_getitem _ _)))
 show wpAny _ _ (Builtin.Tuple.tupleItemsOf (.ref t) >>= _) _ _ s
 refine lJa (tupleItemsOf_ ht ?_)
 refine lJa (lQ0 hTs ?_)
 rw[lJc (by decide)]
 refine lJa (jVu hs pl pu ?_)
 have hno:¬ ((((sIx items.size 0 lo:Nat):Int) == 0&&(1:Int) == 1&&(sIx items.size items.size hi-sIx items.size 0 lo) == items.size)=true):=by
  intro q
  rw[lKo,lKo] at q
  have q1:((sIx items.size 0 lo:Nat):Int)=0:=eq_of_beq q.1.1
  have q2:sIx items.size items.size hi-sIx items.size 0 lo=items.size:=eq_of_beq q.2
  exact hw ⟨by omega,by omega⟩
 show wpAny _ _ (if (((sIx items.size 0 lo:Nat):Int) == 0&&(1:Int) == 1&&(sIx items.size items.size hi-sIx items.size 0 lo) == items.size)=true then _ else _) _ _ s
 rw[lJb hno,qVw]
 first
  | exact lJa (m:=Builtin.Tuple.tupleExact _) (lK7 (lJd ⟨_,rfl,lJd h⟩) htake)
  | exact lJa (m:=Builtin.Tuple.tupleExact _) (lK7 (lJa (lJd (lJd ⟨_,rfl,lJd h⟩))) htake)
  | exact lJa (lJa (m:=Builtin.Tuple.tupleExact _) (lK7 (lJd (lJd ⟨_,rfl,lJd h⟩)) htake))
  | exact lJa (lJa (m:=Builtin.Tuple.tupleExact _) (lK7 (lJd ⟨_,rfl,lJd h⟩) htake))
end
end HT
namespace L2
open PySem PySem.Spec PyProof.Rows
abbrev TO:=St->Hp->(Option Int->Hp->Prop)->Prop
theorem kQc {ns:List Int}:∀ {us:List Value},Vals (ns.map V.int) us->IntsAre us ns:=by
 induction ns with
 | nil=>intro us r;rw[List.map_nil] at r;cases r;exact .nil
 | cons n ns ih=>
  intro us r
  rw[lJr] at r
  cases r with
  | cons r1 r2=>
   obtain⟨t,e⟩:=r1
   subst e
   exact .cons n t (ih r2)
section
variable {X:Cx} {e:Expr} {te:TE} {lo hi:Option Expr} {tl th:TO} {pos p2:Pos}
def SlR (X:Cx) (r:V->Option Int->Option Int->Hp->VK->Prop):Prop:=
 ∀(pins:List (Addr×Obj)) (s:Shared) (σ:St) (H:Hp) (x:V) (v vl vu:Value) (lo hi:Option Int) (sl:Addr) (Q:VK),Inv X pins σ H s->RelV x v->s.heap.IsSliceOf sl vl vu .none->IsPart vl lo->IsPart vu hi->r x lo hi H Q->
  ∃T id,typeLookup (.type T) "__getitem__"=pure (some (.builtin id))/\s.TypeIs v T/\wpAny (model X.prog X.w) X.A (getItem v (.ref sl)) (EP X pins σ Q) X.xe s
def cutV (xs:List V) (lo hi:Option Int):List V:=(xs.drop (HT.sIx xs.length 0 lo)).take (HT.sIx xs.length xs.length hi-HT.sIx xs.length 0 lo)
theorem kKb (xs:List V) (lo hi:Option Int):(cutV xs lo hi).length<=xs.length:=by
 unfold cutV
 rw[lVf,List.length_drop]
 omega
noncomputable def rSlT (K:PySem.W.Frag):V->Option Int->Option Int->Hp->VK->Prop:=fun x lo hi H Q=>∃a xs,x= .ref a/\SqT K H a xs/\
 ¬ (HT.sIx xs.length 0 lo=0/\HT.sIx xs.length xs.length hi=xs.length)/\∀p,H p=none->Q (.ref p) (upd H p (.tup (cutV xs lo hi)))
theorem sl_tup:SlR X (rSlT X.K):=by
 intro pins s σ H x v vl vu lo hi sl Q I rx hs pl pu h
 obtain⟨a,xs,rfl,hx,hw,q⟩:=h
 cases rx
 obtain⟨its,r,ht,hz⟩:=I.tuple hx
 have hlen:its.toArray.size=xs.length:=by rw[lJp];exact r.length.symm
 refine⟨"tuple",_,lVh.lookup,ht.typeIs,?_⟩
 refine HT.getItem_tuple_cut ht hs pl pu (by rw[hlen];exact hw) ?_ (by rw[hlen];exact hz)
 rw[hlen]
 refine⟨.ref s.heap.objs.size,_,I.laid (t':=s.toks) (o:= .tup (cutV xs lo hi)) (fun b ob q=>lJl _ q) (lJf _) ?_,rfl,q _ (I.hok.fresh (lJf _))⟩
 exact⟨lJ9 (kKb xs lo hi) hz,_,(r.drop (HT.sIx xs.length 0 lo)).take (HT.sIx xs.length xs.length hi-HT.sIx xs.length 0 lo),TupD.new _ _⟩
noncomputable def qVu (K:PySem.W.Frag):R2:=fun x y H Q=>∃a b xs ys,x= .ref a/\y= .ref b/\SqT K H a xs/\SqT K H b ys/\xs≠[]/\xs.length+ys.length<=sizeLine/\
 (ys=[]->Q (.ref a) H)/\(ys≠[]->∀p,H p=none->Q (.ref p) (upd H p (.tup (xs++ys))))
theorem Vals.nil_iff {xs:List V} {us:List Value} (r:Vals xs us):us=[]↔xs=[]:=by
 cases r with
 | nil=>simp
 | cons _ _=>simp
theorem qZe:OpR X (binaryOp .Add) (qVu X.K):=by
 intro pins s σ H x y v u Q I rx ry h
 obtain⟨a,b,xs,ys,rfl,rfl,ha,hb,hx,hz,q1,q2⟩:=h
 cases rx
 cases ry
 obtain⟨its,r1,p1,_⟩:=I.tuple ha
 obtain⟨its2,r2,p2,_⟩:=I.tuple hb
 refine HT.cat_tup p1 p2 (fun z=>hx (r1.nil_iff.mp z)) (fun z=>⟨.ref a,H,I,rfl,q1 (r2.nil_iff.mp z)⟩) (fun z=> ?_) (by rw[<-r1.length,<-r2.length];exact hz)
 refine⟨.ref s.heap.objs.size,_,I.laid (t':=s.toks) (o:= .tup (xs++ys)) (fun b ob q=>lJl _ q) (lJf _) ?_,rfl,q2 (fun w=>z (r2.nil_iff.mpr w)) _ (I.hok.fresh (lJf _))⟩
 exact⟨by rw[lJ7];exact hz,_,r1.append r2,TupD.new _ _⟩
end
def ixN (n:Nat) (i:Int):Option Nat:=if 0<=i then (if i<n then some i.toNat else none) else if -(n:Int)<=i then some (i+n).toNat else none
def atI {α:Type} (xs:List α) (i:Int):Option α:=(ixN xs.length i).bind fun j=>xs[j]?
theorem qQu {n:Nat} {i:Int} {j:Nat} (h:ixN n i=some j):seqIndex? i n=some j/\j<n/\ -(n:Int)<=i/\i<n:=by
 unfold ixN at h
 by_cases h0:0<=i
 ·rw[lJc h0] at h
  by_cases h1:i<n
  ·rw[lJc h1] at h
   have e:i.toNat=j:=lJq h
   exact⟨by rw[seqIndex_of h0 h1,e],by omega,by omega,h1⟩
  ·rw[lJb h1] at h;cases h
 ·rw[lJb h0] at h
  by_cases h1: -(n:Int)<=i
  ·rw[lJc h1] at h
   have e:(i+n).toNat=j:=lJq h
   exact⟨by rw[seqIndex_neg (by omega) h1,e],by omega,h1,by omega⟩
  ·rw[lJb h1] at h;cases h
theorem qU1 {α:Type} {xs:List α} {i:Int} {v:α} (h:atI xs i=some v):∃j,seqIndex? i xs.length=some j/\xs[j]? =some v/\j<xs.length/\ -(xs.length:Int)<=i/\i<xs.length:=by
 unfold atI at h
 cases e:ixN xs.length i with
 | none=>rw[e] at h;cases h
 | some j=>
  rw[e] at h
  obtain⟨h1,h2,h3,h4⟩:=qQu e
  exact⟨j,h1,h,h2,h3,h4⟩
def uJh (b:Expr):Prop:=∀o i,subscripted b false o i=operate [o,i] (getItem o i)
def IxR (X:Cx) (r:R2):Prop:=
 ∀(value slice:Expr) (pins:List (Addr×Obj)) (s:Shared) (σ:St) (H:Hp) (x y:V) (v u:Value) (Q:VK),Inv X pins σ H s->RelV x v->RelV y u->r x y H Q->
  subscripted slice false v u=operate [v,u] (getItem v u)->wpAny (model X.prog X.w) X.A (subscriptTail value slice v u) (EP X pins σ Q) X.xe s
def MtR (X:Cx) (id:String) (r:V->List V->Hp->VK->Prop):Prop:=
 ∀(pins:List (Addr×Obj)) (s:Shared) (σ:St) (H:Hp) (x:V) (xs:List V) (v:Value) (us:List Value) (Q:VK),Inv X pins σ H s->RelV x v->Vals xs us->r x xs H Q->
  wpAny (model X.prog X.w) X.A (call (.builtin id) (v::us)) (EP X pins σ Q) X.xe s
section
variable {X:Cx} {a b:Expr} {ta tb:TE} {pos:Pos}
theorem IxR.or {r r':R2} (h:IxR X r) (h':IxR X r'):IxR X (fun x y H Q=>r x y H Q\/r' x y H Q):=by
 intro value slice pins s σ H x y v u Q I rx ry q hs
 rcases q with q | q
 ·exact h value slice pins s σ H x y v u Q I rx ry q hs
 ·exact h' value slice pins s σ H x y v u Q I rx ry q hs
def rIxL (K:PySem.W.Frag):R2:=fun x y H Q=>∃p xs i v,x= .ref p/\y= .int i/\SqL K H p xs/\atI xs i=some v/\Q v H
def rIxT (K:PySem.W.Frag):R2:=fun x y H Q=>∃p xs i v,x= .ref p/\y= .int i/\SqT K H p xs/\atI xs i=some v/\Q v H
theorem ix_list:IxR X (rIxL X.K):=by
 intro value slice pins s σ H x y v u Q I rx ry h hs
 obtain⟨p,xs,i,z,rfl,rfl,hq,he,q⟩:=h
 cases rx
 obtain⟨t,rfl⟩:=ry
 obtain⟨its,r,pl,hz⟩:=I.list hq
 obtain⟨j,h1,h2,h3,h4,h5⟩:=qU1 he
 obtain⟨w,ew,rw'⟩:=r.get h2
 have hl:=r.length
 have hn:=kJx
 have fin:EP X pins σ Q w s:=⟨z,H,I,rw',q⟩
 by_cases h0:0<=i
 ·have hj:i.toNat=j:=by
   rw[seqIndex_of h0 h5] at h1
   exact lJq h1
  exact item_listR pl.isList h0 (by omega) (by rw[hj];simpa using ew) fin hs
 ·have hj:(i+(its.toArray.size:Int)).toNat=j:=by
   rw[seqIndex_neg (by omega) h4] at h1
   rw[lJp,<-hl]
   exact lJq h1
  exact subscriptTail_builtinR (x:=w) pl.isList.typeIs slot_list_getitem.lookup
   (wpAny_getItem_list_neg (Q:=fun r s'=>r=w/\EP X pins σ Q r s') pl.isList (by omega) (by rw[lJp]<;>omega) (by omega) (by rw[hj];simpa using ew) ⟨rfl,fin⟩) hs
theorem ix_tup:IxR X (rIxT X.K):=by
 intro value slice pins s σ H x y v u Q I rx ry h hs
 obtain⟨p,xs,i,z,rfl,rfl,hq,he,q⟩:=h
 cases rx
 obtain⟨t,rfl⟩:=ry
 obtain⟨its,r,pl,hz⟩:=I.tuple hq
 obtain⟨j,h1,h2,h3,h4,h5⟩:=qU1 he
 obtain⟨w,ew,rw'⟩:=r.get h2
 have hl:=r.length
 have hn:=kJx
 have fin:EP X pins σ Q w s:=⟨z,H,I,rw',q⟩
 exact subscriptTail_builtinR (x:=w) pl.typeIs slot_tuple_getitem.lookup
  (getItem_tuple (j:=j) (Q:=fun r s'=>r=w/\EP X pins σ Q r s') pl (by omega) (by omega) (by rw[lJp,<-hl];exact h1) (by simpa using ew) ⟨rfl,fin⟩) hs
theorem qJm (its:List Value) (n j:Nat) (u:Value):Obj.mapSeq (·.setIfInBounds j u) {cls:= .type "list",data:= .seq its.toArray n}={cls:= .type "list",data:= .seq (its.set j u).toArray n}:=by
 simp[Obj.mapSeq]
theorem Inv.lst {pins:List (Addr×Obj)} {σ:St} {H:Hp} {s:Shared} {p:Addr} {xs:List V} (I:Inv X pins σ H s) (h:H p=some (.lst xs)):
  ∃(its:List Value) (n:Nat),Vals xs its/\s.heap.get? p=some {cls:= .type "list",data:= .seq its.toArray n}/\xs.length<=sizeLine:=by
 obtain⟨z,its,n,r,e⟩:=I.hok p _ h
 exact⟨its,n,r,e,z⟩
theorem Inv.lstUpd {pins:List (Addr×Obj)} {σ:St} {H:Hp} {s:Shared} {p:Addr} {xs ys:List V} {its its':List Value} {n n':Nat} {f:Obj->Obj} (I:Inv X pins σ H s) (h:H p=some (.lst xs))
  (ho:s.heap.get? p=some {cls:= .type "list",data:= .seq its.toArray n}) (hf:f {cls:= .type "list",data:= .seq its.toArray n}={cls:= .type "list",data:= .seq its'.toArray n'}) (r:Vals ys its') (hz:ys.length<=sizeLine) (t:Nat):
  Inv X pins σ (upd H p (.lst ys)) {s with heap:=s.heap.update p f,toks:=t}:=by
 have e:(s.heap.update p f).get? p=some {cls:= .type "list",data:= .seq its'.toArray n'}:=by
  rw[lQs f ho (by rw[hf]<;>rfl),hf]
 refine I.write (x:=p) (e:=p) (by rw[h];trivial) (.inl rfl) (fun b u hb q=>(lVx _ _ (Ne.symm hb)).trans q) ⟨_,e⟩ ?_
 exact⟨hz,its',n',r,e⟩
def qVs:V->V->V->Hp->(Hp->Prop)->Prop:=fun o i v H Q=>∃p xs k j,o= .ref p/\i= .int k/\H p=some (.lst xs)/\ixN xs.length k=some j/\Q (upd H p (.lst (xs.set j v)))
theorem qVh:PSet X qVs:=by
 intro pins s σ H o i v ov iv u Q I ro ri rv h
 obtain⟨p,xs,k,j,rfl,rfl,hp,hj,q⟩:=h
 cases ro
 obtain⟨t,rfl⟩:=ri
 obtain⟨its,n,r,ho,hz⟩:=I.lst hp
 obtain⟨h1,h2,h3,h4⟩:=qQu hj
 have hl:=r.length
 have hn:=kJx
 have I':Inv X pins σ (upd H p (.lst (xs.set j v))) {s with heap:=s.heap.update p (Obj.mapSeq (·.setIfInBounds j u))}:=
  I.lstUpd hp ho (qJm its n j u) (r.set rv j) (by rw[lQt];exact hz) s.toks
 by_cases h0:0<=k
 ·have hk:k.toNat=j:=by
   rw[seqIndex_of h0 h4] at h1
   exact lJq h1
  exact PySem.W.ki_setAt ho h0 (by omega) (by rw[lJp,<-hl];exact h4) (by rw[hk];exact⟨_,I',q⟩)
 ·have hk:(k+(its.toArray.size:Int)).toNat=j:=by
   rw[seqIndex_neg (by omega) h3] at h1
   rw[lJp,<-hl]
   exact lJq h1
  exact PySem.W.ki_setBack ho (by omega) (by rw[lJp,<-hl];exact h3) (by omega) (by rw[hk];exact⟨_,I',q⟩)
theorem kU3 (lo hi:Option Int) (n:Nat):(sliceBounds lo hi none n).1=((HT.sIx n 0 lo:Nat):Int)/\(sliceBounds lo hi none n).2.1=((HT.sIx n n hi:Nat):Int)/\(sliceBounds lo hi none n).2.2=1:=by
 refine⟨?_,?_,rfl⟩
 ·cases lo with
  | none=>simp[sliceBounds,HT.sIx]
  | some i=>
   simp only[sliceBounds,HT.sIx,Option.getD_none,show (1:Int)>0 by decide,lJ4]
   by_cases h:i<0
   ·simp only[h,lJ4]<;>omega
   ·simp only[h,lJt]<;>omega
 ·cases hi with
  | none=>simp[sliceBounds,HT.sIx]
  | some i=>
   simp only[sliceBounds,HT.sIx,Option.getD_none,show (1:Int)>0 by decide,lJ4]
   by_cases h:i<0
   ·simp only[h,lJ4]<;>omega
   ·simp only[h,lJt]<;>omega
theorem kQt (its:List Value) (lo hi:Option Int):slicePick its.toArray lo hi none=((its.drop (HT.sIx its.length 0 lo)).take (HT.sIx its.length its.length hi-HT.sIx its.length 0 lo)).toArray:=by
 obtain⟨h1,h2,h3⟩:=kU3 lo hi its.toArray.size
 unfold slicePick
 rw[h1,h2,h3]
 simp only[sliceRange_one,pick_run,lJp]<;>rfl
def rSlL (K:PySem.W.Frag):V->Option Int->Option Int->Hp->VK->Prop:=fun x lo hi H Q=>∃a xs,x= .ref a/\SqL K H a xs/\∀p,H p=none->Q (.ref p) (upd H p (.lst (cutV xs lo hi)))
theorem qY1:SlR X (rSlL X.K):=by
 intro pins s σ H x v vl vu lo hi sl Q I rx hs pl pu h
 obtain⟨a,xs,rfl,hx,q⟩:=h
 cases rx
 obtain⟨its,r,ht,hz⟩:=I.list hx
 have hlen:=r.length
 refine⟨"list",_,slot_list_getitem.lookup,ht.isList.typeIs,?_⟩
 refine wpAny_getItem_list_slice ht.isList hs pl pu .none (by simp) ?_ (by rw[lJp]<;>omega)
 rw[kQt,<-hlen]
 refine⟨.ref s.heap.objs.size,_,I.laid (t':=s.toks) (o:= .lst (cutV xs lo hi)) (fun b ob q=>lJl _ q) (lJf _) ?_,rfl,q _ (I.hok.fresh (lJf _))⟩
 exact⟨lJ9 (kKb xs lo hi) hz,_,0,(r.drop (HT.sIx xs.length 0 lo)).take (HT.sIx xs.length xs.length hi-HT.sIx xs.length 0 lo),lJz _ rfl⟩
def kKw:V->Bool
 | .non=>true
 | .bl _=>true
 | .int _=>true
 | .str _=>true
 | _=>false
noncomputable def eqV:V->V->Bool
 | .non,.non=>true
 | .bl a,.bl b=>a == b
 | .bl a,.int b=>(if a then 1 else 0) == b
 | .int a,.bl b=>a == (if b then 1 else 0)
 | .int a,.int b=>a == b
 | .str a,.str b=>a == b
 | _,_=>false
theorem eqAt_V {A:Around} {s:Shared} {y x:V} {u v:Value} (ry:RelV y u) (rx:RelV x v) (fy:kKw y=true) (fx:kKw x=true):SeqAt.EqAt A s u v (eqV y x):=by
 cases y with
 | non=>
  cases ry
  cases x with
  | non=>cases rx;exact SeqAt.EqAt.same _
  | bl b=>cases rx;exact SeqAt.EqAt.none_bool b
  | int b=>obtain⟨t,rfl⟩:=rx;exact SeqAt.EqAt.none_int b t
  | str b=>obtain⟨t,rfl⟩:=rx;exact SeqAt.EqAt.none_str b t
  | _=>exact absurd (show false=true from fx) lJk
 | bl a=>
  cases ry
  cases x with
  | non=>cases rx;exact SeqAt.EqAt.bool_none a
  | bl b=>cases rx;exact SeqAt.EqAt.bool_bool a b
  | int b=>obtain⟨t,rfl⟩:=rx;exact SeqAt.EqAt.bool_int a b t
  | str b=>obtain⟨t,rfl⟩:=rx;exact SeqAt.EqAt.bool_str a b t
  | _=>exact absurd (show false=true from fx) lJk
 | int a=>
  obtain⟨t',rfl⟩:=ry
  cases x with
  | non=>cases rx;exact SeqAt.EqAt.int_none a t'
  | bl b=>cases rx;exact SeqAt.EqAt.int_bool a t' b
  | int b=>obtain⟨t,rfl⟩:=rx;exact SeqAt.EqAt.int_int a t' b t
  | str b=>obtain⟨t,rfl⟩:=rx;exact SeqAt.EqAt.int_str a t' b t
  | _=>exact absurd (show false=true from fx) lJk
 | str a=>
  obtain⟨t',rfl⟩:=ry
  cases x with
  | non=>cases rx;exact SeqAt.EqAt.str_none a t'
  | bl b=>cases rx;exact SeqAt.EqAt.str_bool a t' b
  | int b=>obtain⟨t,rfl⟩:=rx;exact SeqAt.EqAt.str_int a t' b t
  | str b=>obtain⟨t,rfl⟩:=rx;exact SeqAt.EqAt.str_str a t' b t
  | _=>exact absurd (show false=true from fx) lJk
 | _=>exact absurd (show false=true from fy) lJk
def eqU (x:V) (u:Value):Bool:=match u with
 | .none=>eqV .non x
 | .bool b=>eqV (.bl b) x
 | .int i _=>eqV (.int i) x
 | .str z _=>eqV (.str z) x
 | _=>false
theorem kZr {x y:V} {u:Value} (r:RelV y u) (f:kKw y=true):eqU x u=eqV y x:=by
 cases y with
 | non=>cases r;rfl
 | bl b=>cases r;rfl
 | int i=>obtain⟨t,rfl⟩:=r;rfl
 | str z=>obtain⟨t,rfl⟩:=r;rfl
 | _=>exact absurd (show false=true from f) lJk
theorem kKf {x:V}:∀ {xs:List V} {us:List Value},Vals xs us->xs.all kKw=true->us.any (eqU x)=xs.any fun y=>eqV y x
 | _,_,.nil,_=>rfl
 | y::xs,u::us,.cons r t,f=>by
  rw[lQg,lKo] at f
  rw[lKl,lKl,kZr r f.1,kKf t f.2]
theorem jVr {A:Around} {s:Shared} {x:V} {v:Value} (rx:RelV x v) (fx:kKw x=true):∀ {xs:List V} {us:List Value},Vals xs us->xs.all kKw=true->∀u∈us,SeqAt.EqAt A s u v (eqU x u)
 | _,_,.nil,_=>fun u hu=>by cases hu
 | y::xs,u::us,.cons r t,f=>fun u' hu=>by
  rw[lQg,lKo] at f
  rcases (lJj.mp hu) with rfl | hu
  ·rw[kZr r f.1];exact eqAt_V r rx f.1 fx
  ·exact jVr rx fx t f.2 u' hu
def inV (x:V) (xs:List V):Bool:=xs.any fun y=>eqV y x
def rIn (K:PySem.W.Frag) (neg:Bool):R2:=fun x y H Q=>∃p xs,y= .ref p/\(SqL K H p xs\/SqT K H p xs)/\kKw x=true/\xs.all kKw=true/\Q (.bl (if neg then !inV x xs else inV x xs)) H
theorem qK3:OpR X (compareOp .In) (rIn X.K false):=by
 intro pins s σ H x y v u Q I rx ry h
 obtain⟨p,xs,rfl,hq,fx,fs,q⟩:=h
 cases ry
 rcases hq with hq | hq
 ·obtain⟨its,r,pl,hz⟩:=I.list hq
  refine SeqAt.in_listAt (eqU x) pl.isList (fun w hw=>jVr rx fx r fs w (by simpa using hw)) ⟨.bl _,H,I,rfl,?_⟩
  rw[show its.toArray.any (eqU x)=its.any (eqU x) by simp,kKf r fs]
  exact q
 ·obtain⟨its,r,pl,hz⟩:=I.tuple hq
  refine SeqAt.in_tupleAt (eqU x) pl (fun w hw=>jVr rx fx r fs w (by simpa using hw)) ⟨.bl _,H,I,rfl,?_⟩
  rw[show its.toArray.any (eqU x)=its.any (eqU x) by simp,kKf r fs]
  exact q
theorem kU8:OpR X (compareOp .NotIn) (rIn X.K true):=by
 intro pins s σ H x y v u Q I rx ry h
 obtain⟨p,xs,rfl,hq,fx,fs,q⟩:=h
 cases ry
 rcases hq with hq | hq
 ·obtain⟨its,r,pl,hz⟩:=I.list hq
  refine SeqAt.notIn_listAt (eqU x) pl.isList (fun w hw=>jVr rx fx r fs w (by simpa using hw)) ⟨.bl _,H,I,rfl,?_⟩
  rw[show its.toArray.any (eqU x)=its.any (eqU x) by simp,kKf r fs]
  exact q
 ·obtain⟨its,r,pl,hz⟩:=I.tuple hq
  refine SeqAt.notIn_tupleAt (eqU x) pl (fun w hw=>jVr rx fx r fs w (by simpa using hw)) ⟨.bl _,H,I,rfl,?_⟩
  rw[show its.toArray.any (eqU x)=its.any (eqU x) by simp,kKf r fs]
  exact q
theorem kVx:kYu X (.builtin "len") (fun xs H Q=>∃p ys,xs=[.ref p]/\(SqL X.K H p ys\/SqT X.K H p ys)/\Q (.int ys.length) H):=by
 intro pins s σ H xs us Q I r h
 obtain⟨p,ys,rfl,hq,q⟩:=h
 obtain⟨u,rfl,rx⟩:=qKb r
 cases rx
 have hn:=kJx
 rcases hq with hq | hq
 ·obtain⟨its,r',pl,hz⟩:=I.list hq
  have hlen:=r'.length
  exact Calls.call_len_list pl.isList (by simp only[lJp]<;>omega) ⟨.int ys.length,H,I.tok _,⟨s.toks+1,by rw[lJp,hlen]⟩,q⟩
 ·obtain⟨its,r',pl,hz⟩:=I.tuple hq
  have hlen:=r'.length
  exact len_tuple pl (by simp only[lJp]<;>omega) ⟨.int ys.length,H,I.tok _,⟨s.toks+1,by rw[lJp,hlen]⟩,q⟩
theorem kUn:kYu X (.type "tuple") (fun xs H Q=>∃p ys,xs=[.ref p]/\((SqL X.K H p ys/\∀l,H l=none->Q (.ref l) (upd H l (.tup ys)))\/(SqT X.K H p ys/\Q (.ref p) H))):=by
 intro pins s σ H xs us Q I r h
 obtain⟨p,ys,rfl,h⟩:=h
 obtain⟨u,rfl,rx⟩:=qKb r
 cases rx
 rcases h with ⟨hq,q⟩ | ⟨hq,q⟩
 ·obtain⟨its,r',pl,hz⟩:=I.list hq
  have hlen:=r'.length
  refine call_tuple_list pl.isList (fun h' kp=> ?_) (by simp only[lJp]<;>omega)
  have I1:Inv X pins σ H {s with heap:=h'}:=I.kept (t':=s.toks) kp
  have I2:Inv X pins σ (upd H h'.objs.size (.tup ys)) {s with heap:=h'.push {cls:= .type "tuple",data:= .seq its.toArray} }:=
   I1.laid (t':=s.toks) (fun b o e=>lJl _ e) (lJf _) (show ObjOk X.prog X.w _ _ _ (.tup ys) from⟨hz,its,r',TupD.new _ _⟩)
  exact⟨.ref h'.objs.size,_,I2,rfl,q _ (I1.hok.fresh (lJf _))⟩
 ·obtain⟨its,r',pl,hz⟩:=I.tuple hq
  exact call_tuple_same pl ⟨.ref p,H,I,rfl,q⟩
def tyV (K:PySem.W.Frag) (T:String) (x:V) (H:Hp):Prop:=match x with
 | .str _=>T="str"
 | .int _=>T="int"
 | .ref p=>(T="list"/\∃xs,SqL K H p xs)\/(T="tuple"/\∃o,K.lookup p=some o/\o.cls= .type "tuple"/\o.dict=none)\/
   (T="dict"/\((∃kvs,H p=some (.dK kvs))\/∃kvs,H p=some (.dT kvs)))\/(T="set"/\∃S n,H p=some (.set S n))
 | _=>False
theorem tyV_is {pins:List (Addr×Obj)} {σ:St} {H:Hp} {s:Shared} {T:String} {x:V} {v:Value} (I:Inv X pins σ H s) (r:RelV x v) (ty:tyV X.K T x H):
  s.TypeIs v T/\∀a,v= .ref a->∃ob,s.heap.get? a=some ob/\ob.dict=none:=by
 cases x with
 | str z=>
  obtain⟨t,rfl⟩:=r
  cases (show T="str" from ty)
  exact⟨typeIs_str s z t,fun _ e=>nomatch e⟩
 | int i=>
  obtain⟨t,rfl⟩:=r
  cases (show T="int" from ty)
  exact⟨typeIs_int s i t,fun _ e=>nomatch e⟩
 | ref p=>
  cases r
  rcases ty with ⟨rfl,xs,hq⟩ | ⟨rfl,o,hk,hc,hd⟩ | ⟨rfl,hk⟩ | ⟨rfl,S,n,hk⟩
  ·obtain⟨its,_,pl,_⟩:=I.list hq
   refine⟨pl.isList.typeIs,fun a e=> ?_⟩
   cases e
   obtain⟨o,n,e,c,hd,_⟩:=pl
   exact⟨o,e,hd⟩
  ·refine⟨⟨o,I.kIn p o hk,hc⟩,fun a e=> ?_⟩
   cases e
   exact⟨o,I.kIn _ o hk,hd⟩
  ·have z:∃o,s.heap.get? p=some o/\o.ExactDict:=by
    rcases hk with ⟨kvs,hk⟩ | ⟨kvs,hk⟩
    ·obtain⟨_,_,_,_,o,_,_,e,ex,_⟩:=I.hok p _ hk
     exact⟨o,e,ex⟩
    ·obtain⟨_,_,_,_,o,_,_,e,ex,_⟩:=I.hok p _ hk
     exact⟨o,e,ex⟩
   obtain⟨o,e,ex⟩:=z
   refine⟨⟨o,e,ex.1⟩,fun a e2=> ?_⟩
   cases e2
   exact⟨o,e,ex.2.1⟩
  ·obtain⟨o,_,_,_,e,ex,_⟩:=I.hok p _ hk
   refine⟨⟨o,e,ex.1⟩,fun a e2=> ?_⟩
   cases e2
   exact⟨o,e,ex.2.1⟩
 | _=>exact False.elim ty
variable {o e:Expr} {es:List Expr} {to:TE} {t:TA} {name:Str} {apos cpos:Pos} {T id:String} {r:V->List V->Hp->VK->Prop}
end
def MtM (X:Cx) (id:String) (r:V->List V->Hp->VK->Prop):Prop:=
 ∀(pins:List (Addr×Obj)) (s:Shared) (σ:St) (H:Hp) (x:V) (xs:List V) (v:Value) (us:List Value) (Q:VK),Inv X pins σ H s->RelV x v->Vals xs us->r x xs H Q->
  wpAny (model X.prog X.w) X.A (call (.builtin id) (v::us)) (EP X pins σ Q) X.xe s
theorem Vals.one {x:V} {us:List Value} (h:Vals [x] us):∃u,us=[u]/\RelV x u:=by
 cases h with | cons r t=>(cases t;exact⟨_,rfl,r⟩)
theorem Vals.two {x y:V} {us:List Value} (h:Vals [x,y] us):∃u v,us=[u,v]/\RelV x u/\RelV y v:=by
 cases h with | cons r t=>(cases t with | cons q t=>(cases t;exact⟨_,_,rfl,r,q⟩))
theorem Vals.reverse {xs:List V} {us:List Value} (h:Vals xs us):Vals xs.reverse us.reverse:=by
 induction h with
 | nil=>exact .nil
 | cons r t ih=>rw[lXd,lXd];exact Vals.append ih (.cons r .nil)
theorem Vals.rep {xs:List V} {us:List Value} (h:Vals xs us):∀k:Nat,Vals (List.replicate k xs).flatten (List.replicate k us).flatten
 | 0=> .nil
 | k+1=>by
  rw[lQb,lQb,lQ3,lQ3]
  exact Vals.append h (Vals.rep h k)
theorem kVm (its:List Value):∀(k:Nat) (acc:List Value),
  List.foldl (fun x1 x2=>x1++x2) acc.toArray (List.replicate k its.toArray)=(acc++(List.replicate k its).flatten).toArray
 | 0,acc=>by simp
 | k+1,acc=>by
  have e:acc.toArray++its.toArray=(acc++its).toArray:=by simp
  have e2:(acc++its)++(List.replicate k its).flatten=acc++(List.replicate (k+1) its).flatten:=by
   rw[lQb,lQ3,lXe]
  rw[<-e2,<-kVm its k (acc++its),<-e,lQb,List.foldl_cons]
section
variable {X:Cx} {pins:List (Addr×Obj)} {σ:St} {H:Hp} {s:Shared} {l b:Addr} {xs ys zs:List V}
theorem Inv.lset {its its':List Value} {n:Nat} {f:Array Value->Array Value} {t':Nat} (I:Inv X pins σ H s) (hH:H l=some (.lst xs))
  (e:s.heap.get? l=some {cls:= .type "list",data:= .seq its.toArray n}) (hf:f its.toArray=its'.toArray) (hv:Vals ys its') (hz:ys.length<=sizeLine):
  Inv X pins σ (upd H l (.lst ys)) {s with heap:=s.heap.update l (Obj.mapSeq f),toks:=t'}:=by
 have q:=PySem.IsL.update e f
 rw[hf] at q
 refine I.write (x:=l) (e:=l) (by rw[hH];exact trivial) (.inl rfl) (fun b' u hb hu=>(lVx s.heap (Obj.mapSeq f) (Ne.symm hb)).trans hu) ⟨_,q⟩ ?_
 exact⟨hz,its',_,hv,q⟩
theorem Inv.lnew {its:List Value} {t':Nat} (I:Inv X pins σ H s) (hv:Vals ys its) (hz:ys.length<=sizeLine):
  Inv X pins σ (upd H s.heap.objs.size (.lst ys)) {s with heap:=s.heap.push {cls:= .type "list",data:= .seq its.toArray},toks:=t'}:=
 I.laid (fun _ _ q=>lJl _ q) (lJf _) ⟨hz,its,0,hv,lJz _ rfl⟩
theorem Inv.fresh (I:Inv X pins σ H s):H s.heap.objs.size=none:=I.hok.fresh (lJf _)
theorem Inv.lstM (I:Inv X pins σ H s) (hH:H l=some (.lst xs)):xs.length<=sizeLine/\∃(its:List Value) (n:Nat),Vals xs its/\xs.length=its.length/\s.heap.get? l=some {cls:= .type "list",data:= .seq its.toArray n}:=by
 obtain⟨z,its,n,r,e⟩:=I.hok l _ hH
 exact⟨z,its,n,r,r.length,e⟩
theorem qV2 {n:Nat} (h:n<=sizeLine):Builtin.List.listTooLong n=false:=by
 unfold Builtin.List.listTooLong
 exact lJo (by omega)
end
section
variable {X:Cx}
def jK6:V->List V->Hp->VK->Prop:=fun x vs H Q=>∃l xs y,x= .ref l/\vs=[y]/\H l=some (.lst xs)/\xs.length<sizeLine/\Q .non (upd H l (.lst (xs++[y])))
theorem qQi:MtM X "list.append" jK6:=by
 intro pins s σ H x vs v us Q I rx rv h
 obtain⟨l,xs,y,rfl,rfl,hH,hz,q⟩:=h
 cases rx
 obtain⟨u,rfl,ru⟩:=rv.one
 obtain⟨z,its,n,r,hl,e⟩:=I.lstM hH
 refine lQ6 F.slot_list_append ⟨_,e,rfl⟩ F.entry_list_append (F.args_list_append_2 _ _) (PySem.list_append l its.toArray n u (by rw[lJp];omega)) ⟨e,?_⟩
 refine⟨.non,_,I.lset (its':=its++[u]) hH e (by simp) (r.append (.cons ru .nil)) ?_,rfl,q⟩
 rw[lJ7,List.length_singleton]
 omega
noncomputable def rCat:R2:=fun x y H Q=>∃l b xs zs,x= .ref l/\y= .ref b/\H l=some (.lst xs)/\H b=some (.lst zs)/\xs.length+zs.length<=sizeLine/\∀p,H p=none->Q (.ref p) (upd H p (.lst (xs++zs)))
theorem op_cat:OpR X (binaryOp .Add) rCat:=by
 intro pins s σ H x y v u Q I rx ry h
 obtain⟨l,b,xs,zs,rfl,rfl,hH,hB,hz,q⟩:=h
 cases rx
 cases ry
 obtain⟨z,its,n,r,hl,e⟩:=I.lstM hH
 obtain⟨z2,its2,n2,r2,hl2,e2⟩:=I.lstM hB
 refine PySem.P.add_list e e2 ?_ (by rw[lJp,lJp];omega)
 have ea:its.toArray++its2.toArray=(its++its2).toArray:=by simp
 rw[ea]
 exact⟨.ref _,_,I.lnew (t':=s.toks) (r.append r2) (by rw[lJ7];omega),rfl,q _ I.fresh⟩
noncomputable def rRep:R2:=fun x y H Q=>∃l k xs,x= .ref l/\y= .int k/\H l=some (.lst xs)/\ -(2^63)<=k/\k<2^63/\xs.length*k.toNat<=sizeLine/\
 ∀p,H p=none->Q (.ref p) (upd H p (.lst (List.replicate k.toNat xs).flatten))
theorem qZq {α:Type} (xs:List α) (k:Nat):(List.replicate k xs).flatten.length=k*xs.length:=by
 induction k with
 | zero=>simp
 | succ k ih=>rw[lQb,lQ3,lJ7,ih,lQu,Nat.add_comm]
theorem op_rep:OpR X (binaryOp .Mult) rRep:=by
 intro pins s σ H x y v u Q I rx ry h
 obtain⟨l,k,xs,rfl,rfl,hH,h1,h2,hz,q⟩:=h
 cases rx
 obtain⟨t,rfl⟩:=ry
 obtain⟨z,its,n,r,hl,e⟩:=I.lstM hH
 have hlen:its.toArray.size*k.toNat<=sizeLine:=by rw[lJp,<-hl];exact hz
 have hcap:¬ its.toArray.size*k.toNat>(2^63-1) / 8:=by
  have:(sizeLine:Nat)<=(2^63-1) / 8:=by decide
  omega
 have hfit:¬ (!Builtin.List.listFitsIndex k)=true:=by
  rw[fitsIndex_both h1 h2]
  exact lJk
 have hlong:¬ Builtin.List.listTooLong (its.toArray.size*k.toNat)=true:=by
  rw[qV2 hlen]
  exact lJk
 have hnew:List.foldl (fun x1 x2=>x1++x2) #[] (List.replicate (if its.toArray.isEmpty=true then 0 else k.toNat) its.toArray)=(List.replicate k.toNat its).flatten.toArray:=by
  have f0:∀m:Nat,List.foldl (fun x1 x2=>x1++x2) #[] (List.replicate m its.toArray)=(List.replicate m its).flatten.toArray:=fun m=>by
   have:=kVm its m []
   rw[List.nil_append] at this
   exact this
  rw[f0]
  cases its with
  | nil=>simp
  | cons a r'=>rw[lJb (by simp)]
 refine wpAny_binaryOp_repeat_ref (T:="list") (U:="int") (by decide) ⟨_,e,rfl⟩ (fun s'=>typeIs_int s' k t) noFill_list_mul F.fills_int_mul F.slot_int_rmul repeat_list F.slot_int_index.lookup
  (lQ6 F.slot_int_rmul (typeIs_int s k t) F.entry_int_rmul (F.args_int_rmul_2 _ _) (int___rmul___int_list k t l its.toArray n)
   ⟨e,rfl,⟨_,e,rfl⟩,lQ6 F.slot_list_mul ⟨_,e,rfl⟩ F.entry_list_mul (F.args_list_mul_2 _ _) (AutoListH.list___mul___list_int_3 l its.toArray n k t hfit hcap hlong) ⟨e,?_⟩⟩)
 rw[hnew]
 exact⟨.ref _,_,I.lnew (t':=s.toks) (r.rep k.toNat) (by rw[qZq,Nat.mul_comm];exact hz),rfl,q _ I.fresh⟩
end
section
variable {prog:Program} {w:World} {A:Around} {E:Value->Shared->Prop} {s:Shared}
end
section
variable {X:Cx}
end
section
variable {κ:Type} [DecidableEq κ]
def valV (kvs:List (κ×V)) (k:κ):Option V:=(kvs.find? fun kv=>decide (kv.1=k)).map (·.2)
def putK (kvs:List (κ×V)) (k:κ) (v:V):List (κ×V):=
 if (kvs.any fun kv=>decide (kv.1=k))=true then kvs.map (fun kv=>if kv.1=k then (kv.1,v) else kv) else kvs++[(k,v)]
theorem jZw {p:κ×V} {r:List (κ×V)} {k:κ} (e:p.1=k):valV (p::r) k=some p.2:=by simp[valV,lKh,e]
theorem jZx {p:κ×V} {r:List (κ×V)} {k:κ} (e:¬ p.1=k):valV (p::r) k=valV r k:=by simp[valV,lKh,e]
theorem kYx (k:κ):∀kvs:List (κ×V),(kvs.any fun kv=>decide (kv.1=k))=(valV kvs k).isSome
 | []=>rfl
 | p::r=>by
  rw[lKl]
  by_cases e:p.1=k
  ·simp only[jZw e,lK9 e,Bool.true_or,Option.isSome_some]
  ·rw[jZx e,lJo e,Bool.false_or];exact kYx k r
theorem jYb (kvs:List (κ×V)) (k:κ) (v:V):(putK kvs k v).length<=kvs.length+1:=by
 unfold putK
 split
 ·rw[lJg];omega
 ·rw[lJ7,lKn,List.length_nil];omega
theorem RelO.isSome_eq {o:Option V} {u:Option Value} (r:RelO o u):o.isSome=u.isSome:=by
 cases o with
 | none=>cases u with
  | none=>rfl
  | some _=>exact (show False from r).elim
 | some _=>cases u with
  | none=>exact (show False from r).elim
  | some _=>rfl
theorem KV.val {kvs:List (κ×V)} {vs:List (κ×Value)} (r:KV kvs vs) (k:κ):RelO (valV kvs k) (valueAt vs k):=by
 unfold KV at r
 induction r with
 | nil=>exact True.intro
 | @cons p q ps qs h t ih=>
  obtain⟨h1,h2⟩:=h
  by_cases e:p.1=k
  ·have e':q.1=k:=h1.symm.trans e
   have b:valueAt (q::qs) k=some q.2:=by simp[valueAt,lKh,e']
   rw[jZw e,b];exact h2
  ·have e':¬ q.1=k:=fun z=>e (h1.trans z)
   have b:valueAt (q::qs) k=valueAt qs k:=by simp[valueAt,lKh,e']
   rw[jZx e,b];exact ih
theorem KV.any {kvs:List (κ×V)} {vs:List (κ×Value)} (r:KV kvs vs) (k:κ):(kvs.any fun kv=>decide (kv.1=k))=vs.any fun kv=>decide (kv.1=k):=by
 unfold KV at r
 induction r with
 | nil=>rfl
 | cons h t ih=>rw[lKl,lKl,ih,h.1]
theorem KV.repl {kvs:List (κ×V)} {vs:List (κ×Value)} (r:KV kvs vs) (k:κ) {y:V} {u:Value} (ry:RelV y u):
  KV (kvs.map fun kv=>if kv.1=k then (kv.1,y) else kv) (vs.map fun kv=>if kv.1=k then (kv.1,u) else kv):=by
 unfold KV at r ⊢
 induction r with
 | nil=>exact .nil
 | @cons p q ps qs h t ih=>
  rw[lJr,lJr]
  refine .cons ?_ ih
  obtain⟨h1,h2⟩:=h
  by_cases e:p.1=k
  ·rw[lJc e,lJc (h1.symm.trans e)];exact⟨h1,ry⟩
  ·rw[lJb e,lJb (fun z=>e (h1.trans z))];exact⟨h1,h2⟩
theorem KV.put {kvs:List (κ×V)} {vs:List (κ×Value)} (r:KV kvs vs) (k:κ) {y:V} {u:Value} (ry:RelV y u):KV (putK kvs k y) (stored vs k u):=by
 unfold putK stored
 rw[r.any k]
 by_cases e:(vs.any fun kv=>decide (kv.1=k))=true
 ·rw[lJc e,lJc e];exact r.repl k ry
 ·rw[lJb e,lJb e];exact Paired.snoc r ⟨rfl,ry⟩
theorem KV.length {kvs:List (κ×V)} {vs:List (κ×Value)} (r:KV kvs vs):kvs.length=vs.length:=lQd r
end
theorem kUf {P:Program} {w:World} {k:Key} {u:Value} (r:RelV (kV k) u):(jKq P w).is k u=true:=by
 cases k with
 | inl i=>obtain⟨t,e⟩:=(show ∃t,u=Value.int i t from r);subst e;exact kX5 P w i t
 | inr x=>obtain⟨t,e⟩:=(show ∃t,u=Value.str x t from r);subst e;exact kX4 P w x t
abbrev KT (H:Hp):List (TKey×V)->List (TKey×Addr×Value)->Prop:=Paired fun p q=>p.1=q.1/\TKeyAt H p.1 q.2.1/\RelV p.2 q.2.2
theorem KT.val {H:Hp} {kvs:List (TKey×V)} {xs:List (TKey×Addr×Value)} (r:KT H kvs xs) (k:TKey):RelO (valV kvs k) ((atKey xs k).map (·.2)):=by
 induction r with
 | nil=>exact True.intro
 | @cons p q ps qs h t ih=>
  obtain⟨h1,_,h2⟩:=h
  by_cases e:p.1=k
  ·have e':q.1=k:=h1.symm.trans e
   have b:atKey (q::qs) k=some q.2:=by simp[atKey,lKh,e']
   rw[jZw e,b];exact h2
  ·have e':¬ q.1=k:=fun z=>e (h1.trans z)
   have b:atKey (q::qs) k=atKey qs k:=by simp[atKey,lKh,e']
   rw[jZx e,b];exact ih
theorem KT.repl {H:Hp} {kvs:List (TKey×V)} {xs:List (TKey×Addr×Value)} (r:KT H kvs xs) (k:TKey) {y:V} {u:Value} (ry:RelV y u):
  KT H (kvs.map fun kv=>if kv.1=k then (kv.1,y) else kv) (xs.map (putAt k u)):=by
 induction r with
 | nil=>exact .nil
 | @cons p q ps qs h t ih=>
  rw[lJr,lJr]
  refine .cons ?_ ih
  obtain⟨h1,h2,h3⟩:=h
  unfold putAt
  by_cases e:p.1=k
  ·rw[lJc e,lJc (h1.symm.trans e)];exact⟨h1,h2,ry⟩
  ·rw[lJb e,lJb (fun z=>e (h1.trans z))];exact⟨h1,h2,h3⟩
theorem KT.put {H:Hp} {kvs:List (TKey×V)} {xs:List (TKey×Addr×Value)} (r:KT H kvs xs) (k:TKey) {b:Addr} {y:V} {u:Value} (hb:TKeyAt H k b) (ry:RelV y u):
  KT H (putK kvs k y) (storedH xs k b u):=by
 have e:(kvs.any fun kv=>decide (kv.1=k))=(atKey xs k).isSome:=by
  rw[kYx,(r.val k).isSome_eq,lXf]
 unfold putK storedH
 rw[e]
 by_cases q:(atKey xs k).isSome=true
 ·rw[lJc q,lJc q];exact r.repl k ry
 ·rw[lJb q,lJb q];exact Paired.snoc r ⟨rfl,hb,ry⟩
theorem KT.keeps {H H':Hp} {kvs:List (TKey×V)} {xs:List (TKey×Addr×Value)} (r:KT H kvs xs) (ht:∀b ys,H b=some (.tup ys)->H' b=some (.tup ys)):KT H' kvs xs:=
 Paired.mapP r fun _ _ z=>⟨z.1,z.2.1.mono ht,z.2.2⟩
section
variable {P:Program} {w:World} {H:Hp} {h:Heap} {a:Addr}
theorem rd_of {u:HO} (ok:HOk P w H h) (e:Rd H a u):ObjOk P w H h a u:=e.ok ok
theorem qUp {kvs:List (Key×V)} (ok:HOk P w H h) (e:Rd H a (.dK kvs)):kvs.length<=sizeLine/\(a == sysModules)=false/\∃vs,KV kvs vs/\h.DictOf (jKq P w) a vs:=
 show ObjOk P w H h a (.dK kvs) from rd_of ok e
theorem qUq {kvs:List (Key×V)} (ok:HOk P w H h) (e:H a=some (.dK kvs)):kvs.length<=sizeLine/\(a == sysModules)=false/\∃vs,KV kvs vs/\h.DictOf (jKq P w) a vs:=qUp ok (.inl e)
theorem kZk {K:Type} [DecidableEq K] {c:Nat} {T:KeyV P w K c} {R:K->V->Prop} (hR:∀k x u,R k x->RelV x u->T.is h k u):∀ {ks:List K} {xs:List V} {us:List Value},Paired R ks xs->Vals xs us->ItemsV T h ks us
 | _,_,_,.nil,.nil=> .nil
 | _,_,_,.cons r t,.cons q z=> .cons (hR _ _ _ r q) (kZk hR t z)
theorem kXe {K:Type} [DecidableEq K] {c:Nat} {T:KeyV P w K c} {R:K->V->Prop} {ks:List K} {xs:List V} {p:Addr} (ok:HOk P w H h) (hR:∀k x u,R k x->RelV x u->T.is h k u) (e:H p=some (.tup xs)) (r:Paired R ks xs):qU4 T h ks (.ref p):=by
 obtain⟨_,its,q,o,h1,h2,n,h3,_⟩:=(show ObjOk P w H h p (.tup xs) from ok p _ e)
 exact⟨p,o,its.toArray,n,rfl,h1,h2,h3,by simpa using kZk hR r q⟩
theorem r1_of (ok:HOk P w H h) (k:K1) (x:V) (u:Value) (r:Rk1 H k x) (q:RelV x u):(vk1 P w).is h k u:=by
 cases k with
 | inl k=>cases (show x=kV k from r);exact kUf (P:=P) (w:=w) q
 | inr ks=>
  obtain⟨p,vs,rfl,e,t⟩:=(show ∃p vs,x= .ref p/\H p=some (.tup vs)/\Paired (fun k v=>v=kV k) ks vs from r)
  cases (show u=Value.ref p from q)
  exact kXe (T:=kZz P w) ok (fun k x u r q=>by subst r;exact kUf (P:=P) (w:=w) q) e t
theorem r2_of (ok:HOk P w H h) (k:K2) (x:V) (u:Value) (r:Rk2 H k x) (q:RelV x u):(vk2 P w).is h k u:=by
 cases k with
 | inl k=>cases (show x=kV k from r);exact kUf (P:=P) (w:=w) q
 | inr ks=>
  obtain⟨p,vs,rfl,e,t⟩:=(show ∃p vs,x= .ref p/\H p=some (.tup vs)/\Paired (Rk1 H) ks vs from r)
  cases (show u=Value.ref p from q)
  exact kXe (T:=vk1 P w) ok (r1_of ok) e t
theorem jYv {ks:TKey} (ok:HOk P w H h) (e:TKeyAt H ks a):(jKf P w).is h ks a:=by
 obtain⟨vs,h1,t⟩:=e
 exact kXe (T:=vk2 P w) ok (r2_of ok) h1 t
theorem kYh {kvs:List (TKey×V)} (ok:HOk P w H h) (e:Rd H a (.dT kvs)):kvs.length<=sizeLine/\(a == sysModules)=false/\
  ∃xs,KT H kvs xs/\h.DictOfH (jKf P w) a xs:=by
 obtain⟨z,y,xs,r,o,es,ep,h1,h2,h3,h4,h5⟩:=(show ObjOk P w H h a (.dT kvs) from rd_of ok e)
 refine⟨z,y,xs,r,o,es,ep,h1,h2,h3,h4,fun x hx=> ?_,h5⟩
 have all:∀ {l:List (TKey×V)} {m:List (TKey×Addr×Value)},KT H l m->∀x∈m,(jKf P w).is h x.1 x.2.1:=by
  intro l m q
  induction q with
  | nil=>intro x hx;exact nomatch hx
  | @cons p q ps qs hq t ih=>
   intro x hx
   rcases (lJj.mp hx) with e | hx
   ·subst e
    exact jYv ok (by rw[<-hq.1];exact hq.2.1)
   ·exact ih x hx
 exact all r x hx
theorem dt_of {kvs:List (TKey×V)} (ok:HOk P w H h) (e:H a=some (.dT kvs)):kvs.length<=sizeLine/\(a == sysModules)=false/\
  ∃xs,KT H kvs xs/\h.DictOfH (jKf P w) a xs:=kYh ok (.inl e)
end
def DGet (H:Hp) (a:Addr) (y:V) (r:Option V):Prop:=
 (∃kvs k,Rd H a (.dK kvs)/\y=kV k/\r=valV kvs k)\/∃kvs k b,Rd H a (.dT kvs)/\y= .ref b/\TKeyAt H k b/\r=valV kvs k
def DPut (H:Hp) (a:Addr) (y v:V) (H':Hp):Prop:=
 (∃kvs k,H a=some (.dK kvs)/\y=kV k/\kvs.length<sizeLine/\H'=upd H a (.dK (putK kvs k v)))\/
 ∃kvs k b,H a=some (.dT kvs)/\y= .ref b/\TKeyAt H k b/\kvs.length<sizeLine/\H'=upd H a (.dT (putK kvs k v))
theorem DGet.k {H:Hp} {a:Addr} {kvs:List (Key×V)} {k:Key} (e:H a=some (.dK kvs)):DGet H a (kV k) (valV kvs k):= .inl ⟨kvs,k,.inl e,rfl,rfl⟩
theorem DGet.t {H:Hp} {a b:Addr} {kvs:List (TKey×V)} {k:TKey} (e:H a=some (.dT kvs)) (eb:TKeyAt H k b):DGet H a (.ref b) (valV kvs k):= .inr ⟨kvs,k,b,.inl e,rfl,eb,rfl⟩
theorem DPut.k {H:Hp} {a:Addr} {kvs:List (Key×V)} {k:Key} {v:V} (e:H a=some (.dK kvs)) (hl:kvs.length<sizeLine):DPut H a (kV k) v (upd H a (.dK (putK kvs k v))):= .inl ⟨kvs,k,e,rfl,hl,rfl⟩
theorem DPut.t {H:Hp} {a b:Addr} {kvs:List (TKey×V)} {k:TKey} {v:V} (e:H a=some (.dT kvs)) (eb:TKeyAt H k b) (hl:kvs.length<sizeLine):
  DPut H a (.ref b) v (upd H a (.dT (putK kvs k v))):= .inr ⟨kvs,k,b,e,rfl,eb,hl,rfl⟩
section
variable {X:Cx} {pins:List (Addr×Obj)} {σ:St} {H:Hp} {s:Shared} {a:Addr} {y v:V} {u r:Value} {o:Option V} {A:Around} {E:Value->Shared->Prop}
theorem Inv.big (I:Inv X pins σ H s):sysModules<s.heap.objs.size:=by
 have h:mainGlobals<s.heap.objs.size:=(I.mod.glob.keeps I.bk).lt
 exact Nat.lt_trans (by decide) h
theorem qUs {Q:Value->Shared->Prop} (hu:A.units+20<cLine) (I:Inv X pins σ H s) (g:DGet H a y (some v)) (ry:RelV y u) (h:∀w' s',Inv X pins σ H s'->RelV v w'->Q w' s'):
  wpAny (model X.prog X.w) A (getItem (.ref a) u) Q E s:=by
 rcases g with ⟨kvs,k,e,ey,l⟩ | ⟨kvs,k,b,e,ey,eb,l⟩
 ·subst ey
  obtain⟨z,hd,vs,rel,dd⟩:=qUp I.hok e
  obtain⟨w',hw,rw'⟩:=RelO.some_of (v:=v) (o:=valueAt vs k) (by rw[l];exact rel.val k)
  exact wpAny_getItem_of (kUf ry) dd.mapOf hw (h w' _ (I.tok _) rw')
 ·subst ey
  cases (show u=Value.ref b from ry)
  obtain⟨z,hd,xs,rel,dd⟩:=kYh I.hok e
  obtain⟨w',hw,rw'⟩:=RelO.some_of (v:=v) (o:=(atKey xs k).map (·.2)) (by rw[l];exact rel.val k)
  obtain⟨p,hp,hp2⟩:=lVi.mp hw
  refine wpAny_getItem_heap (jJy hu) (jYv I.hok eb) dd hp ?_
  rw[hp2]
  exact h w' _ (I.tok _) rw'
theorem d_in {Q:Value->Shared->Prop} (hu:A.units+20<cLine) (I:Inv X pins σ H s) (g:DGet H a y o) (ry:RelV y u) (h:∀s',Inv X pins σ H s'->Q (.bool o.isSome) s'):
  wpAny (model X.prog X.w) A (compareOp .In u (.ref a)) Q E s:=by
 rcases g with ⟨kvs,k,e,ey,l⟩ | ⟨kvs,k,b,e,ey,eb,l⟩
 ·subst ey
  obtain⟨z,hd,vs,rel,dd⟩:=qUp I.hok e
  refine wpAny_in_of (kUf ry) hd dd.mapOf ?_
  rw[<-(rel.val k).isSome_eq,<-l]
  exact h _ (I.tok _)
 ·subst ey
  cases (show u=Value.ref b from ry)
  obtain⟨z,hd,xs,rel,dd⟩:=kYh I.hok e
  refine wpAny_in_heap (jJy hu) (jYv I.hok eb) hd dd ?_
  have q:=(rel.val k).isSome_eq
  rw[lXf] at q
  rw[<-q,<-l]
  exact h _ (I.tok _)
theorem qZ8 {Q:Value->Shared->Prop} (hu:A.units+20<cLine) (I:Inv X pins σ H s) (g:DGet H a y o) (ry:RelV y u) (h:∀s',Inv X pins σ H s'->Q (.bool (!o.isSome)) s'):
  wpAny (model X.prog X.w) A (compareOp .NotIn u (.ref a)) Q E s:=by
 rcases g with ⟨kvs,k,e,ey,l⟩ | ⟨kvs,k,b,e,ey,eb,l⟩
 ·subst ey
  obtain⟨z,hd,vs,rel,dd⟩:=qUp I.hok e
  refine wpAny_notIn_of (kUf ry) hd dd.mapOf ?_
  rw[<-(rel.val k).isSome_eq,<-l]
  exact h _ (I.tok _)
 ·subst ey
  cases (show u=Value.ref b from ry)
  obtain⟨z,hd,xs,rel,dd⟩:=kYh I.hok e
  refine wpAny_notIn_heap (jJy hu) (jYv I.hok eb) hd dd ?_
  have q:=(rel.val k).isSome_eq
  rw[lXf] at q
  rw[<-q,<-l]
  exact h _ (I.tok _)
theorem kJ9 {h':Heap} {t':Nat} {ob:HO} (I:Inv X pins σ H s) (mu:Mut (H a)) (hs:Heap.SameBut a s.heap h') (he:∃q,h'.get? a=some q) (new:ObjOk X.prog X.w (upd H a ob) h' a ob):
  Inv X pins σ (upd H a ob) {s with heap:=h',toks:=t'}:=
 I.write (x:=a) (e:=a) mu (.inl rfl) (fun b q hb z=>(hs.2 b hb).trans z) he new
theorem qUr {P:Program} {w:World} {H':Hp} {h':Heap} {kvs:List (Key×V)} {vs:List (Key×Value)} (z:kvs.length<=sizeLine) (hd:(a == sysModules)=false) (rel:KV kvs vs) (dd:h'.DictOf (jKq P w) a vs):
  ObjOk P w H' h' a (.dK kvs):=⟨z,hd,vs,rel,dd⟩
theorem kVs {H':Hp} {Q:Unit->Shared->Prop} (hu:A.units+20<cLine) (I:Inv X pins σ H s) (g:DPut H a y v H') (ry:RelV y u) (rv:RelV v r) (h:∀s',Inv X pins σ H' s'->Q () s'):
  wpAny (model X.prog X.w) A (setItem (.ref a) u r) Q E s:=by
 rcases g with ⟨kvs,k,e,ey,l,eH⟩ | ⟨kvs,k,b,e,ey,eb,l,eH⟩
 ·subst ey eH
  obtain⟨z,hd,vs,rel,dd⟩:=qUq I.hok e
  have hz:vs.length<=sizeLine:=by rw[<-rel.length];exact z
  have hl:(putK kvs k v).length<=sizeLine:=by have:=jYb kvs k v;omega
  refine wpAny_setItem_pairs (hsz:=hz) (kUf ry) dd fun h' dd' hs=>h _ ?_
  have he:∃q,h'.get? a=some q:=let ⟨q,_,_,hq,_⟩:=dd';⟨q,hq⟩
  exact kJ9 I (by rw[e];exact True.intro) hs he (qUr hl hd (rel.put k rv) dd')
 ·subst ey eH
  cases (show u=Value.ref b from ry)
  obtain⟨z,hd,xs,rel,dd⟩:=dt_of I.hok e
  have hz:xs.length<=sizeLine:=by rw[<-lQd rel];exact z
  have hl:(putK kvs k v).length<=sizeLine:=by have:=jYb kvs k v;omega
  refine wpAny_setItem_heap (hsz:=hz) (jJy hu) (jYv I.hok eb) dd fun h' dd' hs=>h _ ?_
  obtain⟨q,es,ep,hq,h2,h3,h4,_,h5⟩:=dd'
  refine kJ9 I (by rw[e];exact True.intro) hs ⟨q,hq⟩ ⟨hl,hd,_,(rel.put k eb rv).keeps fun c ys ec=> ?_,q,es,ep,hq,h2,h3,h4,h5⟩
  rw[jJx (ne_of ec e (fun z=>nomatch z))]
  exact ec
end
section
variable {X:Cx} {pins:List (Addr×Obj)} {σ:St} {H:Hp} {s:Shared} {a:Addr} {kvs:List (Key×V)} {k:Key} {u:Value} {A:Around} {E:Value->Shared->Prop}
end
theorem kYi {X:Cx} {pins:List (Addr×Obj)} {σ:St} {H:Hp} {s:Shared} {a:Addr} {y:V} {o:Option V} (I:Inv X pins σ H s) (g:DGet H a y o):s.TypeIs (.ref a) "dict":=by
 rcases g with ⟨kvs,k,e,_,_⟩ | ⟨kvs,k,b,e,_,_,_⟩
 ·obtain⟨_,_,vs,_,dd⟩:=qUp I.hok e
  exact dd.typeIs
 ·obtain⟨_,_,xs,_,dd⟩:=kYh I.hok e
  exact dd.typeIs
section
variable {X:Cx} {o i e value:Expr} {pos pos' tpos:Pos} {td ty tv:TE}
end
theorem kUl {P:Program} {w:World} {H:Hp} (h:Heap) (hb:sysModules<h.objs.size):ObjOk P w H (h.push {cls:= .type "dict",data:= .dict #[]}) h.objs.size (.dK []):=
 ⟨lJ2 _,beq_eq_false_iff_ne.mpr (Ne.symm (lJn hb)),[],.nil,Heap.DictOf.new h⟩
theorem qXy {P:Program} {w:World} {H:Hp} (h:Heap) (hb:sysModules<h.objs.size):ObjOk P w H (h.push {cls:= .type "dict",data:= .dict #[]}) h.objs.size (.dT []):=
 ⟨lJ2 _,beq_eq_false_iff_ne.mpr (Ne.symm (lJn hb)),[],.nil,_,#[],0,lJz _ rfl,⟨rfl,rfl,rfl⟩,rfl,rfl,lVy⟩
def tDNewK:TE:=fun _ H Q=>∀p,H p=none->Q (.ref p) (upd H p (.dK []))
def tDNewT:TE:=fun _ H Q=>∀p,H p=none->Q (.ref p) (upd H p (.dT []))
section
variable {X:Cx} {pos:Pos}
theorem qVy:PE X (.Dict [] [] pos) tDNewK:=fun pins s σ H Q I h=>
 wpAny_Dict_empty ⟨.ref s.heap.objs.size,_,I.laid (a:=s.heap.objs.size) (o:= .dK []) (t':=s.toks) (fun _ _ q=>lJl _ q) (lJf _) (kUl s.heap I.big),rfl,h _ (I.hok.fresh (lJf _))⟩
theorem qVx:PE X (.Dict [] [] pos) tDNewT:=fun pins s σ H Q I h=>
 wpAny_Dict_empty ⟨.ref s.heap.objs.size,_,I.laid (a:=s.heap.objs.size) (o:= .dT []) (t':=s.toks) (fun _ _ q=>lJl _ q) (lJf _) (qXy s.heap I.big),rfl,h _ (I.hok.fresh (lJf _))⟩
end
abbrev VV:List (V×V)->List (Value×Value)->Prop:=Paired fun p q=>RelV p.1 q.1/\RelV p.2 q.2
def kK7 (kvs more:List (Key×V)):List (Key×V):=more.foldl (fun acc kv=>putK acc kv.1 kv.2) kvs
theorem KV.merge:∀ {more:List (Key×V)} {rs:List (Key×Value)} {kvs:List (Key×V)} {vs:List (Key×Value)},KV more rs->KV kvs vs->KV (kK7 kvs more) (merged vs rs):=by
 intro more rs kvs vs r
 unfold KV at r
 induction r generalizing kvs vs with
 | nil=>intro q;exact q
 | @cons p q ps qs h t ih=>
  intro r0
  have e:KV (putK kvs p.1 p.2) (stored vs q.1 q.2):=by
   have:=r0.put p.1 h.2
   rw[<-h.1];exact this
  exact ih e
theorem jYu:∀(more kvs:List (Key×V)),(kK7 kvs more).length<=kvs.length+more.length
 | [],kvs=>by show kvs.length<=kvs.length+0;omega
 | p::r,kvs=>by
  have h1:=jYu r (putK kvs p.1 p.2)
  have h2:=jYb kvs p.1 p.2
  show (kK7 (putK kvs p.1 p.2) r).length<=_
  rw[lKn];omega
theorem jZe {P:Program} {w:World}:∀ {kvs:List (Key×V)} {ws:List (Value×Value)},VV (kvs.map fun kv=>(kV kv.1,kv.2)) ws->∃rs,Carries (jKq P w) ws rs/\KV kvs rs
 | [],_,r=>by rw[List.map_nil] at r;cases r;exact⟨[],True.intro,.nil⟩
 | p::kvs,_,r=>by
  rw[lJr] at r
  cases r with
  | @cons a b as bs h t=>
   obtain⟨rs,c,q⟩:=jZe (P:=P) (w:=w) t
   obtain⟨b1,b2⟩:=b
   exact⟨(p.1,b2)::rs,⟨kUf h.1,rfl,c⟩,.cons ⟨rfl,h.2⟩ q⟩
section
variable {X:Cx} {pins:List (Addr×Obj)} {σ:St} {H:Hp} {s:Shared} {a:Addr} {y d:V} {u r:Value} {o:Option V} {A:Around} {E:Value->Shared->Prop}
end
section
variable {X:Cx} {o e f:Expr} {apos cpos:Pos} {td ty tx:TE}
end
section
variable {X:Cx} {pins:List (Addr×Obj)} {σ:St} {H:Hp} {s:Shared} {a:Addr} {kvs:List (Key×V)} {A:Around} {E:Value->Shared->Prop}
end
section
variable {X:Cx} {pins:List (Addr×Obj)} {σ:St} {H:Hp} {s:Shared} {a:Addr} {y:V} {u:Value} {A:Around} {E:Value->Shared->Prop}
end
end L2
namespace Att
open PySem PySem.W PySem.Calls PyProof.Rows
theorem kJ2 {P:Params} {h:Heap}:∀(ns:List Int) (vs:List Value),WellAll P h vs (ns.map WData.int)->IntsAre vs ns:=by
 intro ns
 induction ns with
 | nil=>
  intro vs w
  rw[List.map_nil] at w
  cases w
  exact .nil
 | cons n ns ih=>
  intro vs w
  rw[lJr] at w
  cases w with
  | cons a b=>
   cases a
   exact .cons _ _ (ih _ b)
theorem qKq {l:OpenLaw} {n:Nat} (hn:l.most=some n) {P:Params} {h:Heap} {args:List WData} {vals:List Value}
  (hpre:l.row.toRowW.claim.pre args=true) (hwl:WellAll P h vals args):
  ∃a vs ns,vals=[Value.ref a]/\args=[WData.list (ns.map WData.int)]/\h.get? a=some {cls:= .type "list",data:= .seq vs.toArray}/\IntsAre vs ns/\ns.length<=n:=by
 have hsh:WShape.hasAll [] args [.list .int]=true:=(pre_splitW hpre).1
 have hc:l.pre.holds [] {args:=args}=true:=(pre_splitW hpre).2
 obtain⟨d,r,rfl,h1,h2⟩:=hasAllW_cons hsh
 obtain rfl:=hasAllW_nil h2
 obtain⟨xs,rfl,h3⟩:=hasW_list h1
 obtain⟨ns,rfl⟩:=items_int h3
 have hlen:ns.length<=n:=by
  unfold OpenLaw.pre at hc
  have h4:(WTm.not (.lt (.lit (.int (n:Int))) (.len (.arg 0)))).holds [] {args:=[.list (ns.map .int)]}=true:=by
   have h4:=(holds_andW hc).1
   rw[hn] at h4
   exact h4
  have h5:=condW_of h4 (w_not (w_lt w_lit (w_len_list (w_arg rfl))))
  rw[lJg] at h5
  refine Nat.le_of_not_lt fun q=> ?_
  have q':(n:Int)<((ns.length:Nat):Int):=by omega
  first
   | (rw[lK9 q'] at h5;exact absurd h5 (by decide))
   | (simp at h5;omega)
 cases hwl with
 | cons w1 w2=>
  cases w2
  cases w1 with
  | list ho hall=>exact⟨_,_,ns,rfl,rfl,ho,kJ2 ns _ hall,hlen⟩
theorem qK2 (l:OpenLaw) (args:List WData):l.row.toRowW.claim.post args (.bool true) args=true:=
 postW_of (r:=l.row.toRowW) (X:=(true == true))
  (show WShape.has [] (.bool true) .bool=true by first | rfl | decide | simp[WShape.has,WShape.arms,WShape.armsAll])
  (show (WTm.eq .res (.lit (.bool true))).value [] {args:=args,res:=some (.bool true),after:=args}=some (.bool (true == true)) from w_eq_bool (w_res rfl) w_lit) rfl
theorem attach_call {l:OpenLaw} {n:Nat} {q:Program} {loose:List Str} {XP:(Str->Option Value)->Heap->Prop} {YP:World->Heap->Prop} {d:DefRec}
  (hn:l.most=some n) (hdf:d.params.defaults=[])
  (call:∀(w:World) (s₀ s₁:Shared) (mg mb:Str->Option Value) (fa:Addr) (o:Obj) (pm cd doc:Value) (a:Addr) (vs:List Value) (ns:List Int),
   Ground q loose [] XP w s₀ mg mb s₁.heap->YP w s₁.heap->
   s₁.heap.get? fa=some o->o.data= .func (docDef d.name d.params d.body d.scope pm cd doc)->s₁.heap.CodeRec cd d.name->mg d.name=some (.ref fa)->
   s₁.heap.get? a=some {cls:= .type "list",data:= .seq vs.toArray}->IntsAre vs ns->ns.length<=n->s₁.gens= #[]->
   codeAny (model l.prog w) callerA (.call (.ref fa) ⟨[.ref a],[]⟩) (fun r s'=>r= .ok (.ret (.bool true))/\OldK s₁.heap s'.heap/\s'.os=s₁.os/\AllBare s'.gens) s₁):
  WalkO q loose XP YP l.row.toRowW d [] (fun f vs=>PySem.call f vs):=by
 intro w s₀ s₁ mg mb G Y fa o pm cd doc dV kV ho hd hcd hD hmg hg args vals as hpre hlay hrd hwl hlo
 obtain rfl:dV= .none:=Dflts.none hD hdf
 obtain rfl:kV= .none:=Dflts.noKw hD
 obtain⟨a,vs,ns,rfl,rfl,hobj,hints,hlen⟩:=qKq hn hpre hwl
 refine enter_call (codeAny_mono (call w s₀ s₁ mg mb fa o pm cd doc a vs ns G Y ho (fd_plain hd) hcd hmg hobj hints hlen hg) fun r s' hq=> ?_)
 obtain⟨rfl,h2,h3,h4⟩:=hq
 exact⟨.inl ⟨.bool true,.bool true,[],rfl,fun _=>rfl,.bool true,qK2 l _,fun _=>⟨List.Pairwise.nil,fun _ hm=>(nomatch hm)⟩⟩,h2,h3,h4⟩
section
variable {prog:Program} {w:World} {A:Around} {E:Value->Shared->Prop} {s:Shared} {K:Frag}
end
end Att
namespace L2
open PySem PySem.Spec PyProof.Rows
theorem kUy:∀ {vs:List Value} {ns:List Int},IntsAre vs ns->Vals (ns.map V.int) vs
 | _,_,.nil=> .nil
 | _,_,.cons n t h=> .cons ⟨t,rfl⟩ (kUy h)
def Only (H:Hp):Prop:=∀b,H b=none\/∃o xs,H b=some (.frz o (.lst xs))
theorem qXb {P:Program} {w:World} {K:PySem.W.Frag} {mg mb:Str->Option Value} {CX:CXT} {k:Nat} {fa a:Addr} {fd:FuncData} {x:Str} {sp:Sp} {s₁:Shared} {vs:List Value} {ns:List Int}
  (KX:K.In s₁.heap) (hns:s₁.heap.Ns mainGlobals mg) (hb:s₁.heap.Ns builtinsNs mb) (hbb:∀x:Str,x≠"__name__"->mb x=bootBuiltins x) (hlim:s₁.heap.NoLimit) (hg:s₁.gens= #[])
  (ha:s₁.heap.get? a=some {cls:= .type "list",data:= .seq vs.toArray}) (hi:IntsAre vs ns) (hl:ns.length<=sizeLine) (hr:Room k callerA)
  (F:∀base:Heap,K.In base->base.Ns mainGlobals mg->FnOk P w K mg base CX k fa fd [x] sp) (hbind:∀(s:Shared) (u:Value),BindsTo s fd ⟨[u],[]⟩ [(x,u)])
  (hsp:∀H:Hp,Only H->SqL K H a (ns.map V.int)->sp [.ref a] H (fun v _=>v= .bl true) fun _ _ _=>False)
  (hCX:∀H e s',CX [] H s₁ (fun _ _ _=>False) e s'->False):
  codeAny (model P w) callerA (.call (.ref fa) ⟨[.ref a],[]⟩) (fun r s'=>r= .ok (.ret (.bool true))/\OldK s₁.heap s'.heap/\s'.os=s₁.os/\AllBare s'.gens) s₁:=by
 have rv:=kUy hi
 have lenV:=hi.length
 have core:∀H:Hp,Only H->SqL K H a (ns.map V.int)->HOk P w H s₁.heap->(∀b,H b≠none->b=a)->(H a≠none->K.lookup a=none)->
   codeAny (model P w) callerA (.call (.ref fa) ⟨[.ref a],[]⟩) (fun r s'=>r= .ok (.ret (.bool true))/\OldK s₁.heap s'.heap/\s'.os=s₁.os/\AllBare s'.gens) s₁:=by
  intro H hO hS hok hA hK
  have base_of:∀ {b:Addr} {o:Obj},s₁.heap.get? b=some o->H b=none->(hidT s₁.heap H).get? b=some o:=fun e n=>qXo e n
  have noA:∀ {b:Addr} {o:Obj} {es:Array DictEntry} {ep:Nat},s₁.heap.get? b=some o->o.data= .dict es ep->H b=none:=fun {b o es ep} e d=>by
   cases q:H b with
   | none=>rfl
   | some u=>
    have e':b=a:=hA b (by rw[q];simp)
    subst e'
    rw[ha] at e;cases e
    have d':Data.seq vs.toArray _=Data.dict es ep:=d
    cases d'
  have nsK:∀ {b:Addr} {m:Str->Option Value},s₁.heap.Ns b m->(hidT s₁.heap H).Ns b m:=fun {b m} ⟨o,es,ep,e,d,r⟩=>⟨o,es,ep,base_of e (noA e d),d,r⟩
  have hKb:K.In (hidT s₁.heap H):=fun b o e=>base_of (KX b o e) (by
   cases q:H b with
   | none=>rfl
   | some u=>
    have e':b=a:=hA b (by rw[q];simp)
    subst e'
    rw[hK (by rw[q];simp)] at e;cases e)
  have hM:Mod K mg (hidT s₁.heap H):=⟨hKb,nsK hns,⟨mb,nsK hb,hbb⟩,let ⟨mc,h1,h2⟩:=hlim;⟨mc,nsK h1,h2⟩⟩
  have e0:Env0 P w K mg (hidT s₁.heap H) callerA [] s₁ H:=⟨rfl,hM,fun b o e=>qZh e,Nat.le_of_eq (qQ2 _ _),trivial,fun b hb=>absurd (show b∈([]:List Addr) from hb) (by simp),hok,.of_eq hg⟩
  refine codeAny_mono ((F _ hKb (nsK hns)).run callerA [] s₁ H ⟨[.ref a],[]⟩ [.ref a] [.ref a] _ _ hr e0 (hbind s₁ (.ref a)) (.cons rfl .nil) (hsp H hO hS)) fun r s' h=> ?_
  cases r with
  | error e=>exact (hCX H e s' h).elim
  | ok fl=>
   cases fl with
   | next=>exact False.elim h
   | brk=>exact False.elim h
   | cont=>exact False.elim h
   | ret u=>
    obtain⟨v,H',os,bare,un,hok',r',q⟩:=h
    have q':v= .bl true:=q
    subst q'
    obtain rfl:u=Value.bool true:=r'
    refine⟨rfl,OldK.of_keep fun b o e=> ?_,os,bare⟩
    cases q:H b with
    | none=>exact un.keep b o e q (by intro z;exact absurd (show b∈([]:List Addr) from z) (by simp)) (by simp)
    | some u=>
     rcases hO b with z | ⟨ob,xs,z⟩
     ·rw[q] at z;cases z
     ·have z2:=un.frzs b ob _ z
      obtain⟨e1,_⟩:=hok b _ z
      obtain⟨e2,_⟩:=hok' b _ z2
      rw[e] at e1;cases e1
      exact e2
 cases hk:K.lookup a with
 | some o=>
  have e:=KX a o hk
  rw[ha] at e
  cases e
  refine core (fun _=>none) (fun _=> .inl rfl) (.inr ⟨_,vs.toArray,_,hk,rfl,rfl,rfl,by rw[lJp,lenV];exact hl,by simpa using rv⟩) (fun b u z=>by have z':(none:Option HO)=some u:=z;cases z') (fun b z=>absurd rfl z) fun z=>absurd rfl z
 | none=>
  refine core (fun b=>if b=a then some (.frz {cls:= .type "list",data:= .seq vs.toArray} (.lst (ns.map V.int))) else none) (fun b=> ?_) (.inl (.inr ⟨{cls:= .type "list",data:= .seq vs.toArray},lJc rfl⟩)) (fun b u z=> ?_) (fun b z=> ?_) fun _=>hk
  ·by_cases hb:b=a
   ·exact .inr ⟨_,_,lJc hb⟩
   ·exact .inl (lJb hb)
  ·by_cases hb:b=a
   ·have z':=(lJc hb).symm.trans z
    cases z'
    subst hb
    exact⟨ha,by rw[lJg];exact hl,vs,_,rv,ha⟩
   ·have z':=(lJb hb).symm.trans z
    cases z'
  ·by_cases hb:b=a
   ·exact hb
   ·exact absurd (lJb hb) z
theorem walk_of {l:PySem.W.OpenLaw} {n k:Nat} {q:Program} {loose:List Str} {XP:(Str->Option Value)->Heap->Prop} {YP:World->Heap->Prop} {d:DefRec} {K:Params->PySem.W.Frag} {CX:World->CXT} {sp:World->Sp} {x:Str}
  (hn:l.most=some n) (hn2:n<=sizeLine) (hdf:d.params.defaults=[]) (hr:Room k callerA)
  (hY:∀(w:World) (h:Heap),YP w h->(K w.params).In h)
  (F:∀(w:World) (mg:Str->Option Value) (fa:Addr) (h:Heap),(K w.params).In h->h.Ns mainGlobals mg->mg d.name=some (.ref fa)->
   ∃fd:FuncData,(∀(s:Shared) (u:Value),BindsTo s fd ⟨[u],[]⟩ [(x,u)])/\
    ∀base:Heap,(K w.params).In base->base.Ns mainGlobals mg->FnOk l.prog w (K w.params) mg base (CX w) k fa fd [x] (sp w))
  (hsp:∀(w:World) (H:Hp) (a:Addr) (ns:List Int),ns.length<=n->Only H->SqL (K w.params) H a (ns.map V.int)->sp w [.ref a] H (fun v _=>v= .bl true) fun _ _ _=>False)
  (hCX:∀(w:World) (H:Hp) (s:Shared) (e:Value) (s':Shared),CX w [] H s (fun _ _ _=>False) e s'->False):
  PySem.W.WalkO q loose XP YP l.row.toRowW d [] (fun f vs=>PySem.call f vs):=by
 refine Att.attach_call hn hdf fun w s₀ s₁ mg mb fa o pm cd doc a vs ns G Y ho hd hcd hmg hobj hints hlen hg=> ?_
 have KX:=hY w _ Y
 obtain⟨fd,hb,hF⟩:=F w mg fa _ KX G.T.g hmg
 exact qXb KX G.T.g G.T.b G.T.builtins G.T.nolimit hg hobj hints (lJ9 hlen hn2) hr hF hb (fun H hO hS=>hsp w H a ns hlen hO hS) fun H e s'=>hCX w H s₁ e s'
def jQt (s:Stmt) (j:Nat):Stmt:=match s with
 | .ClassDef _ _ _ body _ _ _ _ _ _ _=>body.getD j (.Pass ⟨0,0,0,0⟩)
 | _=> .Pass ⟨0,0,0,0⟩
noncomputable def jUl (s:Stmt):Arguments:=match s with
 | .FunctionDef _ a _ _ _ _ _ _ _ _=>a
 | _=>{posonlyargs:=[],args:=[],vararg:=none,kwonlyargs:=[],kw_defaults:=[],kwarg:=none,defaults:=[]}
def jKx (s:Stmt):List Stmt:=match s with
 | .FunctionDef _ _ b _ _ _ _ _ _ _=>b
 | _=>[]
def jJn (s:Stmt):Scope:=match s with
 | .FunctionDef _ _ _ _ _ _ sc _ _ _=>sc
 | _=>{kind:= .function,names:=[],isGenerator:=false,isCoroutine:=false}
abbrev CX0:CXT:=fun _ _ _ _ _ _=>False
abbrev E0:XK:=fun _ _ _=>False
theorem qVz {X:Cx}:qU2 CX0 X E0:=fun _ _ _ _ _ _ _ h=>h.elim
structure Fun (K:PySem.W.Frag) (x qual:Str) (st:Stmt) (f:Addr) (fd:FuncData):Prop where
 ex:∃(oc:Value) (od:Option Addr) (kV doc pm:Value) (an:Option Addr) (cdv ct:Value) (osl:Array (Option Value)),
  fd=PySem.W.fnOf x qual (jUl st) (jKx st) (jJn st) .none kV doc pm an cdv ct/\K.lookup f=some ⟨oc,od,.func fd,osl⟩/\PySem.W.codeIn K cdv qual=true
 kp:PySem.W.keepIn K (.ref f)=true
section
variable {P:Program} {w:World} {K:PySem.W.Frag} {mg:Str->Option Value} {base:Heap}
theorem Fun.ok {x qual:Str} {st:Stmt} {f:Addr} {fd:FuncData} {N ps:List Str} {k:Nat} {sp:Sp} (F:Fun K x qual st f fd) (S:FnScope N ps (jJn st)) (len:∀vs H Q E,sp vs H Q E->vs.length=ps.length)
  (hbody:∀(cdv:Value) (A:Around) (outer:List Env) (s:Shared) (H:Hp) (vs:List V) (Q:VK) (E:XK),Room k (A.deeper (envOfC qual (jJn st) s.heap.objs.size f cdv))->sp vs H Q E->
   ∃t,PSs (cxOf CX0 P w K mg base N qual (jJn st) f cdv A outer s H E).nox (jKx st) t/\t {nx:=fun _ H'=>Q .non H',rt:=Q} (start N vs) H):FnOk P w K mg base CX0 (k+1) f fd ps sp:=by
 obtain⟨oc,od,kV,doc,pm,an,cdv,ct,osl,rfl,lk,hcd⟩:=F.ex
 refine fn_of lk hcd S len fun A outer s H vs Q E hr hsp=> ?_
 obtain⟨t,h,q⟩:=hbody cdv A outer s H vs Q E hr hsp
 exact⟨t,h.nox,q⟩
theorem Fun.binds {x qual:Str} {st:Stmt} {f:Addr} {fd:FuncData} {ps:List Str} (F:Fun K x qual st f fd)
  (h:∀(kV doc pm:Value) (an:Option Addr) (cdv ct:Value) (us:List Value),us.length=ps.length->bindArgs (PySem.W.fnOf x qual (jUl st) (jKx st) (jJn st) .none kV doc pm an cdv ct) ⟨us,[]⟩=pure (ps.zip us)):Binds K fd ps []:=by
 obtain⟨oc,od,kV,doc,pm,an,cdv,ct,osl,rfl,lk,hcd⟩:=F.ex
 exact .all (h kV doc pm an cdv ct)
theorem qQ7 {x qual:Str} {st:Stmt} {f:Addr} {oc:Value} {od an:Option Addr} {osl:Array (Option Value)} {kV doc pm cdv ct:Value} (l:K.lookup f=some ⟨oc,od,.func (PySem.W.fnOf x qual (jUl st) (jKx st) (jJn st) .none kV doc pm an cdv ct),osl⟩)
  (c:PySem.W.codeIn K cdv qual=true) (k:PySem.W.keepIn K (.ref f)=true):Fun K x qual st f (PySem.W.fnOf x qual (jUl st) (jKx st) (jJn st) .none kV doc pm an cdv ct):=⟨⟨oc,od,kV,doc,pm,an,cdv,ct,osl,rfl,l,c⟩,k⟩
end
theorem qQ1 {A:Around} {k:Nat} (hr:Room k A):A.units+20<cLine:=Nat.lt_of_le_of_lt (Nat.add_le_add_left (by decide:20<=64) _) hr.units
section
variable {X:Cx}
end
end L2
set_option Elab.async false
set_option linter.all false
set_option maxRecDepth 100000
set_option maxHeartbeats 5000000
namespace L3
open PySem PySem.Spec PyProof.Rows L2
inductive T where
 | non | bl (b:Bool) | int (i:Int) | str (x:Str) | tup (xs:List T) | scr (xs:List T) | ref (a:Addr) | ty (n:String)
structure Ext (H H':Hp):Prop where
 tup:∀b xs,H b=some (.tup xs)->H' b=some (.tup xs)
 frz:∀b ob u,H b=some (.frz ob u)->H' b=some (.frz ob u)
theorem Ext.refl (H:Hp):Ext H H:=⟨fun _ _ h=>h,fun _ _ _ h=>h⟩
theorem Ext.trans {H H1 H2:Hp} (a:Ext H H1) (b:Ext H1 H2):Ext H H2:=⟨fun c o h=>b.tup c o (a.tup c o h),fun c o u h=>b.frz c o u (a.frz c o u h)⟩
def FrL (K:PySem.W.Frag) (H:Hp) (a:Addr) (xs:List V):Prop:=
 (∃ob,H a=some (.frz ob (.lst xs)))\/
  ∃(o:Obj) (its:Array Value) (n:Nat),K.lookup a=some o/\o.cls= .type "list"/\o.dict=none/\o.data= .seq its n/\its.size<=sizeLine/\Vals xs its.toList
theorem FrL.sq {K:PySem.W.Frag} {H:Hp} {a:Addr} {xs:List V} (h:FrL K H a xs):SqL K H a xs:=by
 rcases h with ⟨ob,h⟩ | h
 ·exact .inl (.inr ⟨ob,h⟩)
 ·exact .inr h
theorem FrL.mono {K:PySem.W.Frag} {H H':Hp} {a:Addr} {xs:List V} (e:Ext H H') (h:FrL K H a xs):FrL K H' a xs:=by
 rcases h with ⟨ob,h⟩ | h
 ·exact .inl ⟨ob,e.frz _ _ _ h⟩
 ·exact .inr h
mutual
noncomputable def Rep (K:PySem.W.Frag) (H:Hp):T->V->Prop
 | .non,v=>v= .non
 | .bl b,v=>v= .bl b
 | .int i,v=>v= .int i
 | .str x,v=>v= .str x
 | .ref a,v=>v= .ref a
 | .ty n,v=>v= .ty n
 | .tup xs,v=>∃a vs,v= .ref a/\H a=some (.tup vs)/\Reps K H xs vs
 | .scr xs,v=>∃a vs,v= .ref a/\FrL K H a vs/\Reps K H xs vs
noncomputable def Reps (K:PySem.W.Frag) (H:Hp):List T->List V->Prop
 | [],vs=>vs=[]
 | x::xs,vs=>∃v ws,vs=v::ws/\Rep K H x v/\Reps K H xs ws
end
mutual
theorem Rep.mono {K:PySem.W.Frag} {H H':Hp} (e:Ext H H'):∀(x:T) {v:V},Rep K H x v->Rep K H' x v
 | .non,_,h=>h
 | .bl _,_,h=>h
 | .int _,_,h=>h
 | .str _,_,h=>h
 | .ref _,_,h=>h
 | .ty _,_,h=>h
 | .tup xs,_,⟨a,vs,r1,r2,r3⟩=>⟨a,vs,r1,e.tup _ _ r2,Reps.mono e xs r3⟩
 | .scr xs,_,⟨a,vs,r1,r2,r3⟩=>⟨a,vs,r1,r2.mono e,Reps.mono e xs r3⟩
theorem Reps.mono {K:PySem.W.Frag} {H H':Hp} (e:Ext H H'):∀(xs:List T) {vs:List V},Reps K H xs vs->Reps K H' xs vs
 | [],_,h=>h
 | x::xs,_,⟨v,ws,r1,r2,r3⟩=>⟨v,ws,r1,Rep.mono e x r2,Reps.mono e xs r3⟩
end
section
variable {K:PySem.W.Frag} {H:Hp}
theorem Reps.length:∀ {xs:List T} {vs:List V},Reps K H xs vs->xs.length=vs.length
 | [],_,h=>by cases h;rfl
 | _::_,_,⟨_,_,r1,_,r3⟩=>by subst r1;simp[Reps.length r3]
theorem Reps.get:∀ {xs:List T} {vs:List V} {i:Nat} {x:T},Reps K H xs vs->xs[i]? =some x->∃v,vs[i]? =some v/\Rep K H x v
 | [],_,_,_,_,e=>by simp at e
 | y::ys,_,0,x,⟨v,ws,r1,r2,r3⟩,e=>by subst r1;simp at e;subst e;exact⟨v,rfl,r2⟩
 | y::ys,_,i+1,x,⟨v,ws,r1,r2,r3⟩,e=>by subst r1;simpa using Reps.get r3 (by simpa using e)
theorem Reps.get':∀ {xs:List T} {vs:List V} {i:Nat} {v:V},Reps K H xs vs->vs[i]? =some v->∃x,xs[i]? =some x/\Rep K H x v
 | [],_,_,_,h,e=>by cases h;simp at e
 | y::ys,_,0,x,⟨v,ws,r1,r2,r3⟩,e=>by subst r1;simp at e;subst e;exact⟨y,rfl,r2⟩
 | y::ys,_,i+1,x,⟨v,ws,r1,r2,r3⟩,e=>by subst r1;simpa using Reps.get' r3 (by simpa using e)
theorem Reps.append:∀ {xs ys:List T} {vs ws:List V},Reps K H xs vs->Reps K H ys ws->Reps K H (xs++ys) (vs++ws)
 | [],_,_,_,h,h2=>by cases h;exact h2
 | _::_,_,_,_,⟨v,ws,r1,r2,r3⟩,h2=>by subst r1;exact⟨v,_,rfl,r2,Reps.append r3 h2⟩
theorem Reps.one {x:T} {v:V} (r:Rep K H x v):Reps K H [x] [v]:=⟨v,[],rfl,r,rfl⟩
theorem Reps.set {x:T} {v:V} (r:Rep K H x v):∀ {xs:List T} {vs:List V} (i:Nat),Reps K H xs vs->Reps K H (xs.set i x) (vs.set i v)
 | [],_,_,e=>by cases e;rfl
 | _::_,_,0,⟨_,ws,r1,r2,r3⟩=>by subst r1;exact⟨v,ws,rfl,r,r3⟩
 | _::_,_,i+1,⟨u,ws,r1,r2,r3⟩=>by subst r1;exact⟨u,_,rfl,r2,Reps.set r i r3⟩
theorem Reps.take:∀ {xs:List T} {vs:List V} (n:Nat),Reps K H xs vs->Reps K H (xs.take n) (vs.take n)
 | _,_,0,_=>by simp[Reps]
 | [],_,_+1,h=>by cases h;simp[Reps]
 | _::_,_,n+1,⟨u,ws,r1,r2,r3⟩=>by subst r1;exact⟨u,_,rfl,r2,Reps.take n r3⟩
theorem Reps.drop:∀ {xs:List T} {vs:List V} (n:Nat),Reps K H xs vs->Reps K H (xs.drop n) (vs.drop n)
 | _,_,0,h=>h
 | [],_,_+1,h=>by cases h;simp[Reps]
 | _::_,_,n+1,⟨u,ws,r1,r2,r3⟩=>by subst r1;exact Reps.drop n r3
theorem Reps.reverse:∀ {xs:List T} {vs:List V},Reps K H xs vs->Reps K H xs.reverse vs.reverse
 | [],_,h=>by cases h;simp[Reps]
 | _::_,_,⟨u,ws,r1,r2,r3⟩=>by
  subst r1;rw[lXd,lXd];exact (Reps.reverse r3).append ⟨u,[],rfl,r2,rfl⟩
theorem Reps.rep {xs:List T} {vs:List V} (r:Reps K H xs vs):∀n:Nat,Reps K H (List.replicate n xs).flatten (List.replicate n vs).flatten
 | 0=>by simp[Reps]
 | n+1=>by simpa[lQb] using r.append (Reps.rep r n)
theorem Reps.atI {xs:List T} {vs:List V} {i:Int} {x:T} (r:Reps K H xs vs) (h:atI xs i=some x):∃v,atI vs i=some v/\Rep K H x v:=by
 unfold L2.atI at h ⊢
 rw[<-r.length]
 cases e:ixN xs.length i with
 | none=>rw[e] at h;cases h
 | some j=>rw[e] at h;exact r.get h
end
inductive GO where
 | lst (xs:List T) | dct (kvs:List (TKey×T)) | dck (kvs:List (Key×T)) | fdc (kvs:List (TKey×T)) | ins (cn:Str) (fs:List (Str×T)) | exc (cn:Str)
abbrev Gp:=Addr->Option GO
def gup (G:Gp) (a:Addr) (o:GO):Gp:=fun b=>if b=a then some o else G b
theorem jJf {G:Gp} {a:Addr} {o:GO}:gup G a o a=some o:=by simp[gup]
theorem jJh {G:Gp} {a b:Addr} {o:GO} (h:b≠a):gup G a o b=G b:=by simp[gup,h]
theorem jXf {G:Gp} {a:Addr} {o o':GO}:gup (gup G a o) a o'=gup G a o':=by funext b;by_cases h:b=a<;>simp[gup,h]
def asL:Option GO->Option (List T)
 | some (.lst xs)=>some xs
 | _=>none
def seqT (G:Gp):T->Option (List T)
 | .tup xs=>some xs
 | .scr xs=>some xs
 | .ref a=>asL (G a)
 | _=>none
def PKV {κ:Type} (K:PySem.W.Frag) (H:Hp):List (κ×T)->List (κ×V)->Prop:=Paired fun p q=>p.1=q.1/\Rep K H p.2 q.2
noncomputable def GOk (K:PySem.W.Frag) (H:Hp) (a:Addr):GO->Prop
 | .lst xs=>∃vs,H a=some (.lst vs)/\Reps K H xs vs
 | .dct kvs=>∃ws,H a=some (.dT ws)/\PKV K H kvs ws
 | .dck kvs=>∃ws,H a=some (.dK ws)/\PKV K H kvs ws
 | .fdc kvs=>∃ob ws,H a=some (.frz ob (.dT ws))/\PKV K H kvs ws
 | .ins cn fs=>∃C dx ws,H a=some (.ins C dx ws)/\PySem.W.nsIn K mainGlobals cn=some (some (.ref C))/\PKV K H fs ws
 | .exc cn=>∃ob C u,H a=some (.frz ob u)/\ob.cls= .ref C/\PySem.W.nsIn K mainGlobals cn=some (some (.ref C))
def GRel (K:PySem.W.Frag) (H:Hp) (G:Gp):Prop:=∀a o,G a=some o->GOk K H a o
section
variable {K:PySem.W.Frag} {H H':Hp} {G:Gp} {a:Addr}
theorem PKV.mono {κ:Type} {kvs:List (κ×T)} {ws:List (κ×V)} (e:Ext H H') (h:PKV K H kvs ws):PKV K H' kvs ws:=Paired.mapP h fun _ _ z=>⟨z.1,Rep.mono e _ z.2⟩
theorem GOk.move {o:GO} (h:GOk K H a o) (e:Ext H H') (ha:H' a=H a):GOk K H' a o:=by
 cases o with
 | lst xs=>obtain⟨vs,h1,h2⟩:=h;exact⟨vs,ha.trans h1,Reps.mono e _ h2⟩
 | dct kvs=>obtain⟨vs,h1,h2⟩:=h;exact⟨vs,ha.trans h1,h2.mono e⟩
 | dck kvs=>obtain⟨vs,h1,h2⟩:=h;exact⟨vs,ha.trans h1,h2.mono e⟩
 | fdc kvs=>obtain⟨ob,vs,h1,h2⟩:=h;exact⟨ob,vs,ha.trans h1,h2.mono e⟩
 | ins cn fs=>obtain⟨C,dx,ws,h1,h2,h3⟩:=h;exact⟨C,dx,ws,ha.trans h1,h2,h3.mono e⟩
 | exc cn=>obtain⟨ob,C,u,h1,h2,h3⟩:=h;exact⟨ob,C,u,ha.trans h1,h2,h3⟩
theorem GOk.some {o:GO} (h:GOk K H a o):H a≠none:=by
 cases o with
 | lst xs=>obtain⟨vs,h1,h2⟩:=h;rw[h1];simp
 | dct kvs=>obtain⟨vs,h1,h2⟩:=h;rw[h1];simp
 | dck kvs=>obtain⟨vs,h1,h2⟩:=h;rw[h1];simp
 | fdc kvs=>obtain⟨ob,vs,h1,h2⟩:=h;rw[h1];simp
 | ins cn fs=>obtain⟨C,dx,ws,h1,h2,h3⟩:=h;rw[h1];simp
 | exc cn=>obtain⟨ob,C,u,h1,h2,h3⟩:=h;rw[h1];simp
theorem GRel.fresh (g:GRel K H G) (h:H a=none):G a=none:=by
 cases e:G a with
 | none=>rfl
 | some o=>exact absurd h (g a o e).some
def Soft (o:Option HO):Prop:=o=none\/(∃xs,o=some (.lst xs))\/(∃kvs,o=some (.dK kvs))\/(∃kvs,o=some (.dT kvs))\/∃C dx fs,o=some (.ins C dx fs)
theorem Ext.upd {o:HO} (h:Soft (H a)):Ext H (L2.upd H a o):=by
 refine⟨fun b xs e=> ?_,fun b ob u e=> ?_⟩
 ·rw[jJx];exact e
  rintro rfl;rw[e] at h;rcases h with h | ⟨_,h⟩ | ⟨_,h⟩ | ⟨_,h⟩ | ⟨_,_,_,h⟩<;>cases h
 ·rw[jJx];exact e
  rintro rfl;rw[e] at h;rcases h with h | ⟨_,h⟩ | ⟨_,h⟩ | ⟨_,h⟩ | ⟨_,_,_,h⟩<;>cases h
theorem GRel.upd {o:HO} {go:GO} (g:GRel K H G) (h:Soft (H a)) (n:GOk K (L2.upd H a o) a go):GRel K (L2.upd H a o) (gup G a go):=by
 intro b u e
 by_cases hb:b=a
 ·subst hb;rw[jJf] at e;cases e;exact n
 ·rw[jJh hb] at e;exact (g b u e).move (Ext.upd h) (jJx hb)
theorem Soft.none (h:H a=none):Soft (H a):= .inl h
theorem Soft.lst {xs:List V} (h:H a=some (.lst xs)):Soft (H a):= .inr (.inl ⟨xs,h⟩)
theorem Soft.dT {xs:List (TKey×V)} (h:H a=some (.dT xs)):Soft (H a):= .inr (.inr (.inr (.inl ⟨xs,h⟩)))
theorem Soft.dK {xs:List (Key×V)} (h:H a=some (.dK xs)):Soft (H a):= .inr (.inr (.inl ⟨xs,h⟩))
theorem Soft.ins {C dx:Addr} {fs:List (Str×V)} (h:H a=some (.ins C dx fs)):Soft (H a):= .inr (.inr (.inr (.inr ⟨C,dx,fs,h⟩)))
theorem GRel.tupNew {vs:List V} (g:GRel K H G) (h:H a=Option.none):GRel K (L2.upd H a (.tup vs)) G:=by
 intro b u e
 have hb:b≠a:=by rintro rfl;exact (g b u e).some h
 exact (g b u e).move (Ext.upd (.none h)) (jJx hb)
theorem Rep.tupNew {xs:List T} {vs:List V} (r:Reps K H xs vs) (h:H a=Option.none):Rep K (L2.upd H a (.tup vs)) (.tup xs) (.ref a):=
 ⟨a,vs,rfl,jJ3,Reps.mono (Ext.upd (.none h)) _ r⟩
theorem GRel.lstNew {xs:List T} {vs:List V} (g:GRel K H G) (r:Reps K H xs vs) (h:Soft (H a)):GRel K (L2.upd H a (.lst vs)) (gup G a (.lst xs)):=
 g.upd h ⟨vs,jJ3,Reps.mono (Ext.upd h) _ r⟩
theorem GRel.lst {xs:List T} (g:GRel K H G) (h:G a=some (.lst xs)):∃vs,H a=some (.lst vs)/\Reps K H xs vs:=g a _ h
end
abbrev St3:=List (Option T)
def SRel (K:PySem.W.Frag) (H:Hp) (σ:L2.St) (τ:St3):Prop:=σ.length=τ.length/\∀(i:Nat) (t:T),τ[i]? =some (some t)->∃v,σ[i]? =some (some v)/\Rep K H t v
theorem SRel.mono {K:PySem.W.Frag} {H H':Hp} {σ:L2.St} {τ:St3} (e:Ext H H') (h:SRel K H σ τ):SRel K H' σ τ:=
 ⟨h.1,fun i t q=>let ⟨v,h1,h2⟩:=h.2 i t q;⟨v,h1,Rep.mono e _ h2⟩⟩
theorem SRel.set {K:PySem.W.Frag} {H:Hp} {σ:L2.St} {τ:St3} {t:T} {v:V} (h:SRel K H σ τ) (i:Nat) (r:Rep K H t v):SRel K H (σ.set i (some v)) (τ.set i (some t)):=by
 refine⟨by simp[h.1],fun j u q=> ?_⟩
 by_cases hj:i=j
 ·subst hj
  have hl:i<τ.length:=by
   rcases lKe i τ.length with z | z
   ·exact z
   ·rw[lJ6 (by simpa using z)] at q;cases q
  rw[lKk hl] at q
  cases q
  exact⟨v,by rw[lKk (by rw[h.1];exact hl)],r⟩
 ·rw[lKf hj] at q ⊢
  exact h.2 j u q
def Inv3 (X:Cx) (pins:List (Addr×Obj)) (τ:St3) (G:Gp) (H:Hp) (s:Shared):Prop:=∃ σ,Inv X pins σ H s/\SRel X.K H σ τ/\GRel X.K H G
abbrev VK3:=T->Gp->Prop
abbrev TE3:=St3->Gp->VK3->Prop
abbrev TT3:=St3->Gp->(Bool->Gp->Prop)->Prop
abbrev TA3:=St3->Gp->(List T->Gp->Prop)->Prop
structure Ends3 where
 nx:St3->Gp->Prop
 rt:VK3
 bk:St3->Gp->Prop:=fun _ _=>False
 ct:St3->Gp->Prop:=fun _ _=>False
abbrev TS3:=Ends3->St3->Gp->Prop
def RU (K:PySem.W.Frag) (H:Hp) (t:T) (u:Value):Prop:=∃v,Rep K H t v/\RelV v u
def RUs (K:PySem.W.Frag) (H:Hp) (ts:List T) (us:List Value):Prop:=∃vs,Reps K H ts vs/\Vals vs us
theorem RU.mono {K:PySem.W.Frag} {H H':Hp} {t:T} {u:Value} (e:Ext H H') (h:RU K H t u):RU K H' t u:=let ⟨v,h1,h2⟩:=h;⟨v,Rep.mono e _ h1,h2⟩
def EP3 (X:Cx) (pins:List (Addr×Obj)) (τ:St3) (H:Hp) (Q:VK3) (u:Value) (s':Shared):Prop:=∃t G' H',Ext H H'/\Inv3 X pins τ G' H' s'/\RU X.K H' t u/\Q t G'
def TP3 (X:Cx) (pins:List (Addr×Obj)) (τ:St3) (H:Hp) (Q:Bool->Gp->Prop) (b:Bool) (s':Shared):Prop:=∃G' H',Ext H H'/\Inv3 X pins τ G' H' s'/\Q b G'
def AP3 (X:Cx) (pins:List (Addr×Obj)) (τ:St3) (H:Hp) (Q:List T->Gp->Prop) (us:List Value) (s':Shared):Prop:=∃ts G' H',Ext H H'/\Inv3 X pins τ G' H' s'/\RUs X.K H' ts us/\Q ts G'
def SP3 (X:Cx) (pins:List (Addr×Obj)) (H:Hp) (D:Ends3) (f:Flow) (s':Shared):Prop:=
 match f with
 | .next=>∃ τ' G' H',Ext H H'/\Inv3 X pins τ' G' H' s'/\D.nx τ' G'
 | .brk=>∃ τ' G' H',Ext H H'/\Inv3 X pins τ' G' H' s'/\D.bk τ' G'
 | .cont=>∃ τ' G' H',Ext H H'/\Inv3 X pins τ' G' H' s'/\D.ct τ' G'
 | .ret u=>∃t τ' G' H',Ext H H'/\Inv3 X pins τ' G' H' s'/\RU X.K H' t u/\D.rt t G'
def PE3 (X:Cx) (e:Expr) (t:TE3):Prop:=∀(pins:List (Addr×Obj)) (s:Shared) (τ:St3) (G:Gp) (H:Hp) (Q:VK3),Inv3 X pins τ G H s->t τ G Q->wpAny (model X.prog X.w) X.A (eval e X.env) (EP3 X pins τ H Q) X.xe s
def PT3 (X:Cx) (e:Expr) (t:TT3):Prop:=∀(pins:List (Addr×Obj)) (s:Shared) (τ:St3) (G:Gp) (H:Hp) (Q:Bool->Gp->Prop),Inv3 X pins τ G H s->t τ G Q->wpAny (model X.prog X.w) X.A (isTrue e X.env (eval e X.env)) (TP3 X pins τ H Q) X.xe s
def PW3 (X:Cx) (e:Expr) (t:TT3):Prop:=∀(whole:Sem Value) (pins:List (Addr×Obj)) (s:Shared) (τ:St3) (G:Gp) (H:Hp) (Q:Bool->Gp->Prop),Inv3 X pins τ G H s->t τ G Q->wpAny (model X.prog X.w) X.A (isTrue e X.env whole) (TP3 X pins τ H Q) X.xe s
theorem PW3.pt {X:Cx} {e:Expr} {t:TT3} (h:PW3 X e t):PT3 X e t:=h _
def PA3 (X:Cx) (es:List Expr) (t:TA3):Prop:=∀(pos:Pos) (pins:List (Addr×Obj)) (s:Shared) (τ:St3) (G:Gp) (H:Hp) (Q:List T->Gp->Prop),Inv3 X pins τ G H s->t τ G Q->wpAny (model X.prog X.w) X.A (spliced (backTo pos (starEach es X.env))) (AP3 X pins τ H Q) X.xe s
def PS3 (X:Cx) (st:Stmt) (t:TS3):Prop:=∀(pins:List (Addr×Obj)) (s:Shared) (τ:St3) (G:Gp) (H:Hp) (D:Ends3),Inv3 X pins τ G H s->t D τ G->wpAny (model X.prog X.w) X.A (exec st X.env) (SP3 X pins H D) X.xe s
def PSs3 (X:Cx) (st:List Stmt) (t:TS3):Prop:=∀(pins:List (Addr×Obj)) (s:Shared) (τ:St3) (G:Gp) (H:Hp) (D:Ends3),Inv3 X pins τ G H s->t D τ G->wpAny (model X.prog X.w) X.A (execs st X.env) (SP3 X pins H D) X.xe s
section
variable {X:Cx} {pins:List (Addr×Obj)} {τ:St3} {G:Gp} {H H1:Hp} {s:Shared} {C:Prop}
theorem EP3.el {Q:VK3} {u:Value} (h:EP3 X pins τ H Q u s) (k:∀t G' H',Ext H H'->Inv3 X pins τ G' H' s->RU X.K H' t u->Q t G'->C):C:=let ⟨t,G',H',a,b,c,d⟩:=h;k t G' H' a b c d
theorem AP3.el {Q:List T->Gp->Prop} {u:List Value} (h:AP3 X pins τ H Q u s) (k:∀t G' H',Ext H H'->Inv3 X pins τ G' H' s->RUs X.K H' t u->Q t G'->C):C:=let ⟨t,G',H',a,b,c,d⟩:=h;k t G' H' a b c d
theorem TP3.el {Q:Bool->Gp->Prop} {u:Bool} (h:TP3 X pins τ H Q u s) (k:∀G' H',Ext H H'->Inv3 X pins τ G' H' s->Q u G'->C):C:=let ⟨G',H',a,b,c⟩:=h;k G' H' a b c
theorem Inv3.el (h:Inv3 X pins τ G H s) (k:∀ σ,Inv X pins σ H s->SRel X.K H σ τ->GRel X.K H G->C):C:=let ⟨σ,a,b,c⟩:=h;k σ a b c
theorem RU.el {K:PySem.W.Frag} {t:T} {u:Value} (h:RU K H t u) (k:∀v,Rep K H t v->RelV v u->C):C:=let ⟨v,a,b⟩:=h;k v a b
theorem RUs.el {K:PySem.W.Frag} {t:List T} {u:List Value} (h:RUs K H t u) (k:∀v,Reps K H t v->Vals v u->C):C:=let ⟨v,a,b⟩:=h;k v a b
end
section
variable {X:Cx} {pins:List (Addr×Obj)} {τ:St3} {G:Gp} {H H1:Hp} {s:Shared}
theorem EP3.ext {Q:VK3} {u:Value} (e:Ext H H1) (h:EP3 X pins τ H1 Q u s):EP3 X pins τ H Q u s:=let ⟨t,G',H',a,b⟩:=h;⟨t,G',H',e.trans a,b⟩
theorem TP3.ext {Q:Bool->Gp->Prop} {u:Bool} (e:Ext H H1) (h:TP3 X pins τ H1 Q u s):TP3 X pins τ H Q u s:=let ⟨G',H',a,b⟩:=h;⟨G',H',e.trans a,b⟩
theorem SP3.ext {D:Ends3} {f:Flow} (e:Ext H H1) (h:SP3 X pins H1 D f s):SP3 X pins H D f s:=by
 cases f with
 | next=>obtain⟨τ',G',H',a,b⟩:=h;exact⟨τ',G',H',e.trans a,b⟩
 | brk=>obtain⟨τ',G',H',a,b⟩:=h;exact⟨τ',G',H',e.trans a,b⟩
 | cont=>obtain⟨τ',G',H',a,b⟩:=h;exact⟨τ',G',H',e.trans a,b⟩
 | ret u=>obtain⟨t,τ',G',H',a,b⟩:=h;exact⟨t,τ',G',H',e.trans a,b⟩
theorem Inv3.tok (I:Inv3 X pins τ G H s) (t:Nat):Inv3 X pins τ G H {s with toks:=t}:=let ⟨σ,I,a,b⟩:=I;⟨σ,I.tok t,a,b⟩
theorem bin3 {a b:Expr} {ta tb:TE3} (ha:PE3 X a ta) (hb:PE3 X b tb) {R:T->T->Gp->Prop} (I:Inv3 X pins τ G H s) (h:ta τ G fun x G1=>tb τ G1 fun y G2=>R x y G2)
  {α:Type} {Q:α->Shared->Prop} {f:Value->Value->Sem α}
  (hf:∀v u s2 x y G2 H2,Ext H H2->Inv3 X pins τ G2 H2 s2->RU X.K H2 x v->RU X.K H2 y u->R x y G2->wpAny (model X.prog X.w) X.A (f v u) Q X.xe s2):
  wpAny (model X.prog X.w) X.A (eval a X.env) (fun v s₁=>wpAny (model X.prog X.w) X.A (eval b X.env) (fun u s₂=>wpAny (model X.prog X.w) X.A (f v u) Q X.xe s₂) X.xe s₁) X.xe s:=by
 refine thn (ha pins s τ G H _ I h) fun v s1 w_=>w_.el fun x G1 H1 e1 I1 r1 q1=> ?_
 refine thn (hb pins s1 τ G1 H1 _ I1 q1) fun u s2 w_=>w_.el fun y G2 H2 e2 I2 r2 q2=> ?_
 exact hf v u s2 x y G2 H2 (e1.trans e2) I2 (r1.mono e2) r2 q2
def up (K:PySem.W.Frag) (H:Hp) (Q:VK3):VK:=fun v H'=>∃t G',Ext H H'/\GRel K H' G'/\Rep K H' t v/\Q t G'
theorem jVo {σ:L2.St} {Q:VK3} {u:Value} (hs:SRel X.K H σ τ) (h:EP X pins σ (up X.K H Q) u s):EP3 X pins τ H Q u s:=
 let ⟨v,H',I',r',t,G',e,g',rt,q⟩:=h
 ⟨t,G',H',e,⟨σ,I',hs.mono e,g'⟩,⟨v,rt,r'⟩,q⟩
end
section
variable {X:Cx} {pos:Pos}
def tVar (i:Nat):TE3:=fun τ G Q=>∃t,τ[i]? =some (some t)/\Q t G
def tC (t:T):TE3:=fun _ G Q=>Q t G
theorem jJb (i:Nat) {x:Str} (hN:X.N[i]? =some x:=by rfl) (hv:Vis X.env.scope x:=by first | exact Or.inl rfl | exact Or.inr (Or.inl rfl) | exact Or.inr (Or.inr rfl))
  (hd:(x == ("__debug__":Str))=false:=by decide) (hcd:(x == ("__classdict__":Str))=false:=by decide):PE3 X (.Name x pos) (tVar i):=by
 rintro pins s τ G H Q ⟨σ,I,hs,hg⟩ ⟨t,e,q⟩
 obtain⟨v,ev,rv⟩:=hs.2 i t e
 exact thn (pe_var hN hv hd hcd pins s σ H (up X.K H Q) I ⟨v,ev,t,G,.refl H,hg,rv,q⟩) fun u s' h=>jVo hs h
theorem jJk {i j}:PE3 X (.Constant (.int i) j pos) (tC (.int i)):=fun pins s τ G H Q ⟨σ,I,hs,hg⟩ q=>
 thn (pe_int pins s σ H (up X.K H Q) I ⟨.int i,G,.refl H,hg,rfl,q⟩) fun u s' h=>jVo hs h
theorem e_bl {b j}:PE3 X (.Constant (.bool b) j pos) (tC (.bl b)):=fun pins s τ G H Q ⟨σ,I,hs,hg⟩ q=>
 thn (pe_bl pins s σ H (up X.K H Q) I ⟨.bl b,G,.refl H,hg,rfl,q⟩) fun u s' h=>jVo hs h
theorem jUj {j}:PE3 X (.Constant .none j pos) (tC .non):=fun pins s τ G H Q ⟨σ,I,hs,hg⟩ q=>
 thn (pe_non pins s σ H (up X.K H Q) I ⟨.non,G,.refl H,hg,rfl,q⟩) fun u s' h=>jVo hs h
theorem jJ7 {x j}:PE3 X (.Constant (.str x) j pos) (tC (.str x)):=fun pins s τ G H Q ⟨σ,I,hs,hg⟩ q=>
 thn (pe_str pins s σ H (up X.K H Q) I ⟨.str x,G,.refl H,hg,rfl,q⟩) fun u s' h=>jVo hs h
end
abbrev R3:=T->T->Gp->VK3->Prop
def Op3 (X:Cx) (f:Value->Value->Sem Value) (r:R3):Prop:=
 ∀(pins:List (Addr×Obj)) (s:Shared) (τ:St3) (G:Gp) (H:Hp) (x y:T) (v u:Value) (Q:VK3),Inv3 X pins τ G H s->RU X.K H x v->RU X.K H y u->r x y G Q->wpAny (model X.prog X.w) X.A (f v u) (EP3 X pins τ H Q) X.xe s
def Un3 (X:Cx) (f:Value->Sem Value) (r:T->Gp->VK3->Prop):Prop:=
 ∀(pins:List (Addr×Obj)) (s:Shared) (τ:St3) (G:Gp) (H:Hp) (x:T) (v:Value) (Q:VK3),Inv3 X pins τ G H s->RU X.K H x v->r x G Q->wpAny (model X.prog X.w) X.A (f v) (EP3 X pins τ H Q) X.xe s
def Call3 (X:Cx) (f:Value) (r:List T->Gp->VK3->Prop):Prop:=
 ∀(pins:List (Addr×Obj)) (s:Shared) (τ:St3) (G:Gp) (H:Hp) (xs:List T) (us:List Value) (Q:VK3),Inv3 X pins τ G H s->RUs X.K H xs us->r xs G Q->wpAny (model X.prog X.w) X.A (call f us) (EP3 X pins τ H Q) X.xe s
def Mt3 (X:Cx) (id:String) (r:T->List T->Gp->VK3->Prop):Prop:=
 ∀(pins:List (Addr×Obj)) (s:Shared) (τ:St3) (G:Gp) (H:Hp) (x:T) (xs:List T) (v:Value) (us:List Value) (Q:VK3),Inv3 X pins τ G H s->RU X.K H x v->RUs X.K H xs us->r x xs G Q->
  wpAny (model X.prog X.w) X.A (call (.builtin id) (v::us)) (EP3 X pins τ H Q) X.xe s
def Ix3 (X:Cx) (r:R3):Prop:=
 ∀(value slice:Expr) (pins:List (Addr×Obj)) (s:Shared) (τ:St3) (G:Gp) (H:Hp) (x y:T) (v u:Value) (Q:VK3),Inv3 X pins τ G H s->RU X.K H x v->RU X.K H y u->r x y G Q->
  subscripted slice false v u=operate [v,u] (getItem v u)->wpAny (model X.prog X.w) X.A (subscriptTail value slice v u) (EP3 X pins τ H Q) X.xe s
def Set3 (X:Cx) (r:T->T->T->Gp->(Gp->Prop)->Prop):Prop:=
 ∀(pins:List (Addr×Obj)) (s:Shared) (τ:St3) (G:Gp) (H:Hp) (o i v:T) (ov iv u:Value) (Q:Gp->Prop),Inv3 X pins τ G H s->RU X.K H o ov->RU X.K H i iv->RU X.K H v u->r o i v G Q->
  wpAny (model X.prog X.w) X.A (setItem ov iv u) (fun _ s'=>∃G' H',Ext H H'/\Inv3 X pins τ G' H' s'/\Q G') X.xe s
def Tru3 (X:Cx) (r:T->Gp->(Bool->Gp->Prop)->Prop):Prop:=
 ∀(pins:List (Addr×Obj)) (s:Shared) (τ:St3) (G:Gp) (H:Hp) (x:T) (v:Value) (Q:Bool->Gp->Prop),Inv3 X pins τ G H s->RU X.K H x v->r x G Q->wpAny (model X.prog X.w) X.A (truthy v) (TP3 X pins τ H Q) X.xe s
section
variable {X:Cx}
theorem Op3.of {f:Value->Value->Sem Value} {r:R2} {r3:R3} (h:OpR X f r)
  (hr:∀H G x y a b Q,GRel X.K H G->Rep X.K H x a->Rep X.K H y b->r3 x y G Q->r a b H (up X.K H Q)):Op3 X f r3:=by
 rintro pins s τ G H x y v u Q ⟨σ,I,hs,hg⟩ ⟨a,ra,rv⟩ ⟨b,rb,ru⟩ q
 exact thn (h pins s σ H a b v u _ I rv ru (hr H G x y a b Q hg ra rb q)) fun u s' h=>jVo hs h
theorem Un3.of {f:Value->Sem Value} {r:V->Hp->VK->Prop} {r3:T->Gp->VK3->Prop} (h:UnR X f r)
  (hr:∀H G x a Q,GRel X.K H G->Rep X.K H x a->r3 x G Q->r a H (up X.K H Q)):Un3 X f r3:=by
 rintro pins s τ G H x v Q ⟨σ,I,hs,hg⟩ ⟨a,ra,rv⟩ q
 exact thn (h pins s σ H a v _ I rv (hr H G x a Q hg ra q)) fun u s' h=>jVo hs h
theorem Call3.of {f:Value} {r:List V->Hp->VK->Prop} {r3:List T->Gp->VK3->Prop} (h:kYu X f r)
  (hr:∀H G xs as Q,GRel X.K H G->Reps X.K H xs as->r3 xs G Q->r as H (up X.K H Q)):Call3 X f r3:=by
 rintro pins s τ G H xs us Q ⟨σ,I,hs,hg⟩ ⟨as,ra,rv⟩ q
 exact thn (h pins s σ H as us _ I rv (hr H G xs as Q hg ra q)) fun u s' h=>jVo hs h
theorem Mt3.of {id:String} {r:V->List V->Hp->VK->Prop} {r3:T->List T->Gp->VK3->Prop} (h:MtR X id r)
  (hr:∀H G x xs a as Q,GRel X.K H G->Rep X.K H x a->Reps X.K H xs as->r3 x xs G Q->r a as H (up X.K H Q)):Mt3 X id r3:=by
 rintro pins s τ G H x xs v us Q ⟨σ,I,hs,hg⟩ ⟨a,ra,rv⟩ ⟨as,ras,rvs⟩ q
 exact thn (h pins s σ H a as v us _ I rv rvs (hr H G x xs a as Q hg ra ras q)) fun u s' h=>jVo hs h
theorem Ix3.of {r:R2} {r3:R3} (h:IxR X r)
  (hr:∀H G x y a b Q,GRel X.K H G->Rep X.K H x a->Rep X.K H y b->r3 x y G Q->r a b H (up X.K H Q)):Ix3 X r3:=by
 rintro value slice pins s τ G H x y v u Q ⟨σ,I,hs,hg⟩ ⟨a,ra,rv⟩ ⟨b,rb,ru⟩ q hh
 exact thn (h value slice pins s σ H a b v u _ I rv ru (hr H G x y a b Q hg ra rb q) hh) fun u s' h=>jVo hs h
theorem Set3.of {t:TSet} {r3:T->T->T->Gp->(Gp->Prop)->Prop} (h:PSet X t)
  (hr:∀H G o i v a b c Q,GRel X.K H G->Rep X.K H o a->Rep X.K H i b->Rep X.K H v c->r3 o i v G Q->t a b c H (fun H'=>∃G',Ext H H'/\GRel X.K H' G'/\Q G')):Set3 X r3:=by
 rintro pins s τ G H o i v ov iv u Q ⟨σ,I,hs,hg⟩ ⟨a,ra,rv⟩ ⟨b,rb,ru⟩ ⟨c,rc,rw'⟩ q
 exact thn (h pins s σ H a b c ov iv u _ I rv ru rw' (hr H G o i v a b c Q hg ra rb rc q)) fun _ s' ⟨H',I',G',e,g',q'⟩=>⟨G',H',e,⟨σ,I',hs.mono e,g'⟩,q'⟩
theorem Tru3.of {r:V->Hp->(Bool->Hp->Prop)->Prop} {r3:T->Gp->(Bool->Gp->Prop)->Prop} (h:TruR X r)
  (hr:∀H G x a Q,GRel X.K H G->Rep X.K H x a->r3 x G Q->r a H (fun b H'=>H'=H/\Q b G)):Tru3 X r3:=by
 rintro pins s τ G H x v Q ⟨σ,I,hs,hg⟩ ⟨a,ra,rv⟩ q
 exact thn (h pins s σ H a v _ I rv (hr H G x a Q hg ra q)) fun b s' ⟨H',I',e,q'⟩=>by
  subst e;exact⟨G,H',.refl _,⟨σ,I',hs,hg⟩,q'⟩
theorem Op3.or {f:Value->Value->Sem Value} {r r':R3} (h:Op3 X f r) (h':Op3 X f r'):Op3 X f (fun x y G Q=>r x y G Q\/r' x y G Q):=by
 intro pins s τ G H x y v u Q I rx ry q
 rcases q with q | q
 ·exact h pins s τ G H x y v u Q I rx ry q
 ·exact h' pins s τ G H x y v u Q I rx ry q
def rI (C:Int->Int->Prop) (g:Int->Int->T):R3:=fun x y G Q=>∃i j,x= .int i/\y= .int j/\C i j/\Q (g i j) G
def rI0 (g:Int->Int->T):R3:=fun x y G Q=>∃i j,x= .int i/\y= .int j/\Q (g i j) G
theorem o_I {f:Value->Value->Sem Value} {C:Int->Int->Prop} {g:Int->Int->V} {g':Int->Int->T} (h:OpR X f (L2.rI C g)) (hg':∀K H i j,Rep K H (g' i j) (g i j)):Op3 X f (rI C g'):=
 Op3.of h fun H G x y a b Q hg ra rb ⟨i,j,ex,ey,c,q⟩=>by
  subst ex;subst ey
  cases (show a= .int i from ra);cases (show b= .int j from rb)
  exact⟨i,j,rfl,rfl,c,g' i j,G,.refl H,hg,hg' _ _ i j,q⟩
theorem o_I0 {f:Value->Value->Sem Value} {g:Int->Int->V} {g':Int->Int->T} (h:OpR X f (L2.rI0 g)) (hg':∀K H i j,Rep K H (g' i j) (g i j)):Op3 X f (rI0 g'):=
 Op3.of h fun H G x y a b Q hg ra rb ⟨i,j,ex,ey,q⟩=>by
  subst ex;subst ey
  cases (show a= .int i from ra);cases (show b= .int j from rb)
  exact⟨i,j,rfl,rfl,g' i j,G,.refl H,hg,hg' _ _ i j,q⟩
theorem o_add:Op3 X (binaryOp .Add) (rI0 fun i j=> .int (i+j)):=o_I0 op_add fun _ _ _ _=>rfl
theorem qV0:Op3 X (binaryOp .Sub) (rI0 fun i j=> .int (i-j)):=o_I0 op_sub fun _ _ _ _=>rfl
theorem o_mul:Op3 X (binaryOp .Mult) (rI CMul fun i j=> .int (i*j)):=o_I op_mul fun _ _ _ _=>rfl
theorem o_fdiv:Op3 X (binaryOp .FloorDiv) (rI CDiv fun i j=> .int (i / j)):=o_I qZd fun _ _ _ _=>rfl
theorem jY9:Op3 X (binaryOp .Mod) (rI (fun _ j=>0<j) fun i j=> .int (i%j)):=o_I op_mod fun _ _ _ _=>rfl
theorem o_pow:Op3 X (binaryOp .Pow) (rI CPow fun i j=> .int (i^j.toNat)):=o_I op_pow fun _ _ _ _=>rfl
theorem o_lt:Op3 X (compareOp .Lt) (rI0 fun i j=> .bl (decide (i<j))):=o_I0 op_lt fun _ _ _ _=>rfl
theorem o_le:Op3 X (compareOp .LtE) (rI0 fun i j=> .bl (decide (i<=j))):=o_I0 op_le fun _ _ _ _=>rfl
theorem o_gt:Op3 X (compareOp .Gt) (rI0 fun i j=> .bl (decide (j<i))):=o_I0 op_gt fun _ _ _ _=>rfl
theorem o_ge:Op3 X (compareOp .GtE) (rI0 fun i j=> .bl (decide (j<=i))):=o_I0 op_ge fun _ _ _ _=>rfl
def kKv:T->Bool
 | .non=>true
 | _=>false
theorem Rep.non_iff {K:PySem.W.Frag} {H:Hp} {x:T} {a:V} (r:Rep K H x a):decide (a= .non)=kKv x:=by
 cases x with
 | non=>cases (show a= .non from r);rfl
 | bl b=>cases (show a= .bl b from r);rfl
 | int b=>cases (show a= .int b from r);rfl
 | str b=>cases (show a= .str b from r);rfl
 | ref b=>cases (show a= .ref b from r);rfl
 | ty b=>cases (show a= .ty b from r);rfl
 | tup b=>obtain⟨_,_,e,_⟩:=(show ∃c vs,a= .ref c/\_ from r);subst e;rfl
 | scr b=>obtain⟨_,_,e,_⟩:=(show ∃c vs,a= .ref c/\_ from r);subst e;rfl
theorem qQg:Op3 X (compareOp .Is) (fun x y G Q=>y= .non/\Q (.bl (kKv x)) G):=
 Op3.of op_isN fun H G x y a b Q hg ra rb ⟨ey,q⟩=>by
  subst ey;cases (show b= .non from rb)
  exact⟨rfl,.bl (kKv x),G,.refl H,hg,by rw[ra.non_iff];rfl,q⟩
theorem qQe:Op3 X (compareOp .IsNot) (fun x y G Q=>y= .non/\Q (.bl (!kKv x)) G):=
 Op3.of qZc fun H G x y a b Q hg ra rb ⟨ey,q⟩=>by
  subst ey;cases (show b= .non from rb)
  exact⟨rfl,.bl (!kKv x),G,.refl H,hg,by rw[ra.non_iff];rfl,q⟩
end
def tOp (r:R3) (ta tb:TE3):TE3:=fun τ G Q=>ta τ G fun x G1=>tb τ G1 fun y G2=>r x y G2 Q
def tUn (r:T->Gp->VK3->Prop) (ta:TE3):TE3:=fun τ G Q=>ta τ G fun x G1=>r x G1 Q
def jJs (t:TE3):TT3:=fun τ G Q=>t τ G fun x G1=>∃c,x= .bl c/\Q c G1
def tAnd (t u:TT3):TT3:=fun τ G Q=>t τ G fun c G1=>if c=true then u τ G1 Q else Q false G1
def tOr (t u:TT3):TT3:=fun τ G Q=>t τ G fun c G1=>if c=true then Q true G1 else u τ G1 Q
def tNot (t:TT3):TT3:=fun τ G Q=>t τ G fun c G1=>Q (!c) G1
def qYz (ta tb:TE3):TE3:=fun τ G Q=>ta τ G fun x G1=>∃c,x= .bl c/\if c=true then tb τ G1 Q else Q (.bl false) G1
def tOrV (ta tb:TE3):TE3:=fun τ G Q=>ta τ G fun x G1=>∃c,x= .bl c/\if c=true then Q (.bl true) G1 else tb τ G1 Q
def tNotV (ta:TE3):TE3:=fun τ G Q=>ta τ G fun x G1=>∃c,x= .bl c/\Q (.bl (!c)) G1
def tIf (t:TT3) (ta tb:TE3):TE3:=fun τ G Q=>t τ G fun c G1=>if c=true then ta τ G1 Q else tb τ G1 Q
noncomputable def kK2 (r r':R3) (ta tb tc:TE3):TE3:=fun τ G Q=>ta τ G fun x G1=>tb τ G1 fun y G2=>r x y G2 fun z G3=>∃k,z= .bl k/\if k=true then tc τ G3 (fun w G4=>r' y w G4 Q) else Q (.bl false) G3
def tNil:TA3:=fun _ G Q=>Q [] G
def jJc (ta:TE3) (tr:TA3):TA3:=fun τ G Q=>ta τ G fun x G1=>tr τ G1 fun xs G2=>Q (x::xs) G2
def tTup (t:TA3):TE3:=fun τ G Q=>t τ G fun xs G1=>xs.length<=sizeLine/\Q (.tup xs) G1
def tLst (t:TA3):TE3:=fun τ G Q=>t τ G fun xs G1=>xs.length<=sizeLine/\∀p,G1 p=none->Q (.ref p) (gup G1 p (.lst xs))
def tCB (r:List T->Gp->VK3->Prop) (t:TA3):TE3:=fun τ G Q=>t τ G fun xs G1=>r xs G1 Q
section
variable {X:Cx} {a b c:Expr} {ta tb tc:TE3} {tA tB:TT3} {pos:Pos} {rest es:List Expr} {t:TA3}
theorem e_op {op:Operator} {r:R3} (ho:Op3 X (binaryOp op) r) (ha:PE3 X a ta) (hb:PE3 X b tb):PE3 X (.BinOp a op b pos) (tOp r ta tb):=by
 intro pins s τ G H Q I h
 exact wpAny_BinOp (bin3 ha hb I h fun v u s2 x y G2 H2 e I2 rx ry q=>thn (ho pins s2 τ G2 H2 x y v u Q I2 rx ry q) fun _ _ z=>z.ext e)
theorem e_un {op:UnaryOp} {r:T->Gp->VK3->Prop} (ho:Un3 X (unaryOp op) r) (ha:PE3 X a ta):PE3 X (.UnaryOp op a pos) (tUn r ta):=by
 intro pins s τ G H Q I h
 exact UnaryOp_ (thn (ha pins s τ G H _ I h) fun v s1 w_=>w_.el fun x G1 H1 e I1 r1 q1=>thn (ho pins s1 τ G1 H1 x v Q I1 r1 q1) fun _ _ z=>z.ext e)
theorem jZr {op:CmpOp} {r:R3} (ho:Op3 X (compareOp op) r) (ha:PE3 X a ta) (hb:PE3 X b tb) (hm:behindInMarks op b=false):PE3 X (.Compare a [op] [b] pos) (tOp r ta tb):=by
 intro pins s τ G H Q I h
 exact wpAny_Compare1 (bin3 ha hb I h fun v u s2 x y G2 H2 e I2 rx ry q=>thn (ho pins s2 τ G2 H2 x y v u Q I2 rx ry q) fun _ _ z=>z.ext e) hm
theorem jKo {op:CmpOp} {r:R3} (ho:Op3 X (compareOp op) r) (ha:PE3 X a ta) (hb:PE3 X b tb) (hm:behindInMarks op b=false):PT3 X (.Compare a [op] [b] pos) (jJs (tOp r ta tb)):=by
 intro pins s τ G H Q I h
 refine wpAny_isTrue_Compare1 (bin3 ha hb I h fun v u s2 x y G2 H2 e I2 rx ry q=>thn (ho pins s2 τ G2 H2 x y v u _ I2 rx ry q) fun w' s3 w_=>w_.el fun z G3 H3 e3 I3 r3 ⟨k,ez,q3⟩=> ?_) hm
 subst ez
 obtain⟨v',rv',ru'⟩:=r3
 cases (show v'= .bl k from rv');cases ru'
 exact lQy ⟨G3,H3,e.trans e3,I3,q3⟩
theorem kXf {e:Expr} {t:TE3} (h:PE3 X e t) (he:∀whole,isTrue e X.env whole=(do let v <-whole;standAt e.pos;holding [v] (truthy v)):=by intro _;rfl):PT3 X e (jJs t):=by
 intro pins s τ G H Q I hw
 refine isTrue_plain (thn (h pins s τ G H _ I hw) fun v s1 w_=>w_.el fun x G1 H1 e1 I1 r1 ⟨k,ez,q1⟩=> ?_) (he _)
 subst ez
 obtain⟨v',rv',ru'⟩:=r1
 cases (show v'= .bl k from rv');cases ru'
 exact lQy ⟨G1,H1,e1,I1,q1⟩
def tTru (r:T->Gp->(Bool->Gp->Prop)->Prop) (t:TE3):TT3:=fun τ G Q=>t τ G fun x G1=>r x G1 Q
theorem qVa {e:Expr} {t:TE3} {r:T->Gp->(Bool->Gp->Prop)->Prop} (hr:Tru3 X r) (h:PE3 X e t) (he:∀whole,isTrue e X.env whole=(do let v <-whole;standAt e.pos;holding [v] (truthy v)):=by intro _;rfl):PT3 X e (tTru r t):=by
 intro pins s τ G H Q I hw
 exact isTrue_plain (thn (h pins s τ G H _ I hw) fun v s1 w_=>w_.el fun x G1 H1 e1 I1 r1 q1=>thn (hr pins s1 τ G1 H1 x v Q I1 r1 q1) fun _ _ z=>z.ext e1) (he _)
theorem qYd (ha:PT3 X a tA):PW3 X (.BoolOp .And [a] pos) tA:=by
 intro wh pins s τ G H Q I h
 refine isTrue_and (thn (ha pins s τ G H Q I h) fun c s1 e=> ?_)
 cases c with
 | true=>exact isTrue_and_nil e
 | false=>exact e
theorem qJ9 (ha:PT3 X a tA):PW3 X (.BoolOp .Or [a] pos) tA:=by
 intro wh pins s τ G H Q I h
 refine isTrue_or (thn (ha pins s τ G H Q I h) fun c s1 e=> ?_)
 cases c with
 | false=>exact isTrue_or_nil e
 | true=>exact e
theorem w_and (ha:PT3 X a tA) (hb:PW3 X (.BoolOp .And (b::rest) pos) tB):PW3 X (.BoolOp .And (a::b::rest) pos) (tAnd tA tB):=by
 intro wh pins s τ G H Q I h
 refine isTrue_and (thn (ha pins s τ G H _ I h) fun c s1 w_=>w_.el fun G1 H1 e1 I1 q1=> ?_)
 cases c with
 | true=>exact thn (hb wh pins s1 τ G1 H1 Q I1 q1) fun _ _ z=>z.ext e1
 | false=>exact⟨G1,H1,e1,I1,q1⟩
theorem w_or (ha:PT3 X a tA) (hb:PW3 X (.BoolOp .Or (b::rest) pos) tB):PW3 X (.BoolOp .Or (a::b::rest) pos) (tOr tA tB):=by
 intro wh pins s τ G H Q I h
 refine isTrue_or (thn (ha pins s τ G H _ I h) fun c s1 w_=>w_.el fun G1 H1 e1 I1 q1=> ?_)
 cases c with
 | true=>exact⟨G1,H1,e1,I1,q1⟩
 | false=>exact thn (hb wh pins s1 τ G1 H1 Q I1 q1) fun _ _ z=>z.ext e1
theorem kUz (ha:PT3 X a tA):PT3 X (.UnaryOp .Not a pos) (tNot tA):=by
 intro pins s τ G H Q I h
 exact isTrue_not (thn (ha pins s τ G H (fun c G1=>Q (!c) G1) I h) fun c s1 w_=>w_.el fun G1 H1 e1 I1 q1=>⟨G1,H1,e1,I1,q1⟩)
theorem e_one {op} {t:TE3} (h:PE3 X a t):PE3 X (.BoolOp op [a] pos) t:=fun pins s τ G H Q I hw=>BoolOp_one (h pins s τ G H Q I hw)
theorem e_and (ha:PE3 X a ta) (hb:PE3 X (.BoolOp .And (b::rest) pos) tb):PE3 X (.BoolOp .And (a::b::rest) pos) (qYz ta tb):=by
 intro pins s τ G H Q I h
 refine BoolOp_and (thn (ha pins s τ G H _ I h) fun v s1 w_=>w_.el fun x G1 H1 e1 I1 r1 ⟨k,ez,q1⟩=> ?_)
 subst ez
 obtain⟨v',rv',ru'⟩:=r1
 cases (show v'= .bl k from rv');cases ru'
 refine lQy ?_
 cases k with
 | true=>exact thn (hb pins s1 τ G1 H1 Q I1 q1) fun _ _ z=>z.ext e1
 | false=>exact⟨.bl false,G1,H1,e1,I1,⟨.bl false,rfl,rfl⟩,q1⟩
theorem jYd (hc:PT3 X c tA) (ha:PE3 X a ta) (hb:PE3 X b tb):PE3 X (.IfExp c a b pos) (tIf tA ta tb):=by
 intro pins s τ G H Q I h
 refine IfExp_ (thn (hc pins s τ G H _ I h) fun k s1 w_=>w_.el fun G1 H1 e1 I1 q1=> ?_)
 cases k with
 | true=>exact thn (ha pins s1 τ G1 H1 Q I1 q1) fun _ _ z=>z.ext e1
 | false=>exact thn (hb pins s1 τ G1 H1 Q I1 q1) fun _ _ z=>z.ext e1
theorem jJe:PA3 X [] tNil:=fun _ _ _ _ G H Q I h=>Calls.spliced_nil ⟨[],G,H,.refl H,I,⟨[],rfl,.nil⟩,h⟩
theorem jJa {e:Expr} {te:TE3} (ha:PE3 X e te) (hr:PA3 X es t) (hs:starEach (e::es) X.env=(false,eval e X.env)::starEach es X.env:=by rfl):PA3 X (e::es) (jJc te t):=by
 intro pos pins s τ G H Q I h
 rw[hs]
 show wpAny _ _ (spliced ((false,eval e X.env)::backTo pos (starEach es X.env))) _ _ s
 refine Calls.spliced_cons (thn (ha pins s τ G H _ I h) fun u s1 w_=>w_.el fun x G1 H1 e1 I1 r1 q1=> ?_)
 refine thn (hr pos pins s1 τ G1 H1 _ I1 q1) fun us s2 w_=>w_.el fun xs G2 H2 e2 I2 r_ q2=>r_.el fun vs rs rv=> ?_
 obtain⟨v,rr,rvv⟩:=r1.mono e2
 exact⟨x::xs,G2,H2,e1.trans e2,I2,⟨v::vs,⟨v,vs,rfl,rr,rs⟩,.cons rvv rv⟩,q2⟩
theorem jKn {x1} (h:PA3 X es t):PE3 X (.Tuple es x1 pos) (tTup t):=by
 intro pins s τ G H Q I hq
 refine wpAny_Tuple_spliced (thn (h pos pins s τ G H _ I hq) fun us s1 w_=>w_.el fun xs G1 H1 e1 i_ r_ ⟨z,q⟩=>i_.el fun σ I1 hs1 hg1=>r_.el fun vs rs rv=>⟨by rw[<-rv.length,<-rs.length];exact z,?_⟩)
 have hf:H1 s1.heap.objs.size=none:=I1.hok.fresh (lJf _)
 have e2:Ext H1 (upd H1 s1.heap.objs.size (.tup vs)):= .upd (.none hf)
 refine⟨.tup xs,G1,upd H1 s1.heap.objs.size (.tup vs),e1.trans e2,⟨σ,I1.laid (t':=s1.toks) (fun b u e=>lJl _ e) (lJf _) ?_,hs1.mono e2,hg1.tupNew hf⟩,⟨.ref s1.heap.objs.size,Rep.tupNew rs hf,rfl⟩,q⟩
 exact⟨by rw[<-rs.length];exact z,us,rv,⟨_,lJz _ rfl,rfl,_,rfl,rfl⟩⟩
theorem jQo (h:PA3 X es t):PE3 X (.List es pos) (tLst t):=by
 intro pins s τ G H Q I hq
 refine wpAny_List_spliced (thn (h pos pins s τ G H _ I hq) fun us s1 w_=>w_.el fun xs G1 H1 e1 i_ r_ ⟨z,q⟩=>i_.el fun σ I1 hs1 hg1=>r_.el fun vs rs rv=>⟨by rw[<-rv.length,<-rs.length];exact z,?_⟩)
 have hf:H1 s1.heap.objs.size=none:=I1.hok.fresh (lJf _)
 have e2:Ext H1 (upd H1 s1.heap.objs.size (.lst vs)):= .upd (.none hf)
 refine⟨.ref s1.heap.objs.size,gup G1 s1.heap.objs.size (.lst xs),upd H1 s1.heap.objs.size (.lst vs),e1.trans e2,⟨σ,I1.laid (t':=s1.toks) (fun b u e=>lJl _ e) (lJf _) ?_,hs1.mono e2,hg1.lstNew rs (.none hf)⟩,⟨.ref s1.heap.objs.size,rfl,rfl⟩,q _ (hg1.fresh hf)⟩
 exact⟨by rw[<-rs.length];exact z,us,0,rv,lJz _ rfl⟩
theorem e_ix {r:R3} (hr:Ix3 X r) (ha:PE3 X a ta) (hb:PE3 X b tb) (hs:uJh b):PE3 X (.Subscript a b pos) (tOp r ta tb):=by
 intro pins s τ G H Q I h
 exact Subscript_ (bin3 ha hb I h fun v u s2 x y G2 H2 e I2 rx ry q=>thn (hr a b pins s2 τ G2 H2 x y v u Q I2 rx ry q (hs _ _)) fun _ _ z=>z.ext e)
def rIx:R3:=fun x y G Q=>∃xs i t,seqT G x=some xs/\y= .int i/\atI xs i=some t/\Q t G
theorem jYx {o:Option GO} {xs:List T} (h:asL o=some xs):o=some (.lst xs):=by
 cases o with
 | none=>cases h
 | some g=>cases g with
  | lst ys=>cases h;rfl
  | dct _=>cases h
  | dck _=>cases h
  | fdc _=>cases h
  | ins _ _=>cases h
  | exc _=>cases h
theorem jV2 {K:PySem.W.Frag} {H:Hp} {G:Gp} {x:T} {a:V} {xs:List T} (hg:GRel K H G) (r:Rep K H x a) (h:seqT G x=some xs):
  ∃p vs,a= .ref p/\(SqL K H p vs\/SqT K H p vs)/\Reps K H xs vs:=by
 cases x with
 | tup ys=>cases h;obtain⟨p,vs,e,h1,h2⟩:=(show ∃p vs,a= .ref p/\H p=some (.tup vs)/\Reps K H xs vs from r);exact⟨p,vs,e,.inr (.of h1),h2⟩
 | scr ys=>cases h;obtain⟨p,vs,e,h1,h2⟩:=(show ∃p vs,a= .ref p/\FrL K H p vs/\Reps K H xs vs from r);exact⟨p,vs,e,.inl h1.sq,h2⟩
 | ref p=>
  obtain⟨vs,h1,h2⟩:=hg.lst (jYx h)
  exact⟨p,vs,r,.inl (.of h1),h2⟩
 | non=>cases h
 | bl _=>cases h
 | int _=>cases h
 | str _=>cases h
 | ty _=>cases h
theorem ix_any:Ix3 X rIx:=
 Ix3.of (ix_list.or ix_tup) fun H G x y a b Q hg ra rb ⟨xs,i,t,hx,ey,ht,q⟩=>by
  subst ey;cases (show b= .int i from rb)
  obtain⟨p,vs,e,hq,r⟩:=jV2 hg ra hx
  subst e
  obtain⟨v,hv,rv⟩:=r.atI ht
  rcases hq with hq | hq
  ·exact .inl ⟨p,vs,i,v,rfl,rfl,hq,hv,t,G,.refl H,hg,rv,q⟩
  ·exact .inr ⟨p,vs,i,v,rfl,rfl,hq,hv,t,G,.refl H,hg,rv,q⟩
theorem jJu {id:String} {r:List T->Gp->VK3->Prop} {x:Str} {p:Pos} {e:Expr} (hc:Call3 X (.builtin id) r) (hg:Gl X x) (hm:X.mg x=none) (hv:bootBuiltins x=some (.builtin id)) (ha:PA3 X (e::es) t) (hn:x≠"__name__":=by decide) (hdb:(x == ("__debug__":Str))=false:=by decide)
  (he:starEach (e::es) X.env=(false,eval e X.env)::starEach es X.env:=by rfl) (hpl:(backTo pos (starEach es X.env)).any (·.1)=false:=by rfl):PE3 X (.Call (.Name x p) (e::es) [] pos) (tCB r t):=by
 intro pins s τ G H Q I h
 obtain⟨σ,I0,hs0,hg0⟩:=_root_.id I
 refine lQ7 (jQ7 I0 hg hm hv ?_ hn hdb)
 exact lXt (thn (ha pos pins s τ G H _ I h) fun us s1 w_=>w_.el fun xs G1 H1 e1 I1 r1 q1=>thn (hc pins s1 τ G1 H1 xs us Q I1 r1 q1) fun _ _ z=>z.ext e1) he hpl
theorem jKg {T0:String} {r:List T->Gp->VK3->Prop} {x:Str} {p:Pos} {e:Expr} (hc:Call3 X (.type T0) r) (hg:Gl X x) (hm:X.mg x=none) (hv:bootBuiltins x=some (.type T0)) (ha:PA3 X (e::es) t) (hn:x≠"__name__":=by decide) (hdb:(x == ("__debug__":Str))=false:=by decide)
  (he:starEach (e::es) X.env=(false,eval e X.env)::starEach es X.env:=by rfl) (hpl:(backTo pos (starEach es X.env)).any (·.1)=false:=by rfl):PE3 X (.Call (.Name x p) (e::es) [] pos) (tCB r t):=by
 intro pins s τ G H Q I h
 obtain⟨σ,I0,hs0,hg0⟩:=_root_.id I
 refine lQ7 (jQ7 I0 hg hm hv ?_ hn hdb)
 exact lK4 (thn (ha pos pins s τ G H _ I h) fun us s1 w_=>w_.el fun xs G1 H1 e1 I1 r1 q1=>thn (hc pins s1 τ G1 H1 xs us Q I1 r1 q1) fun _ _ z=>z.ext e1) he hpl
theorem jVf {K:PySem.W.Frag} {H:Hp} {x:T} {vs:List V} (h:Reps K H [x] vs):∃v,vs=[v]/\Rep K H x v:=by
 obtain⟨v,ws,rfl,r,e⟩:=h;cases e;exact⟨v,rfl,r⟩
theorem kKj {K:PySem.W.Frag} {H:Hp} {x y:T} {vs:List V} (h:Reps K H [x,y] vs):∃v w,vs=[v,w]/\Rep K H x v/\Rep K H y w:=by
 obtain⟨v,ws,rfl,r,w,ws2,rfl,r2,e⟩:=h;cases e;exact⟨v,w,rfl,r,r2⟩
def rLen:List T->Gp->VK3->Prop:=fun xs G Q=>∃x ys,xs=[x]/\seqT G x=some ys/\Q (.int ys.length) G
theorem jQv:Call3 X (.builtin "len") rLen:=
 Call3.of kVx fun H G xs as Q hg ra ⟨x,ys,e,hx,q⟩=>by
  subst e
  obtain⟨v,rfl,rv⟩:=jVf ra
  obtain⟨p,vs,rfl,hq,r⟩:=jV2 hg rv hx
  exact⟨p,vs,rfl,hq,.int ys.length,G,.refl H,hg,by rw[r.length];rfl,q⟩
def rAbs:List T->Gp->VK3->Prop:=fun xs G Q=>∃i,xs=[.int i]/\Q (.int (if i<0 then -i else i)) G
theorem c_abs:Call3 X (.builtin "abs") rAbs:=
 Call3.of qX1 fun H G xs as Q hg ra ⟨i,e,q⟩=>by
  subst e
  obtain⟨v,rfl,rv⟩:=jVf ra
  cases (show v= .int i from rv)
  exact⟨i,rfl,.int _,G,.refl H,hg,rfl,q⟩
def rMax:List T->Gp->VK3->Prop:=fun xs G Q=>∃i j,xs=[.int i,.int j]/\Q (.int (if j>i then j else i)) G
theorem c_max (hc:X.calm=true):Call3 X (.builtin "max") rMax:=
 Call3.of (qUx hc) fun H G xs as Q hg ra ⟨i,j,e,q⟩=>by
  subst e
  obtain⟨v,w,rfl,rv,rw'⟩:=kKj ra
  cases (show v= .int i from rv);cases (show w= .int j from rw')
  exact⟨i,j,rfl,.int _,G,.refl H,hg,rfl,q⟩
def kU6:List T->Gp->VK3->Prop:=fun xs G Q=>∃k,xs=[.bl k]/\Q (.int (if k then 1 else 0)) G
theorem c_int:Call3 X (.type "int") kU6:=
 Call3.of qUy fun H G xs as Q hg ra ⟨k,e,q⟩=>by
  subst e
  obtain⟨v,rfl,rv⟩:=jVf ra
  cases (show v= .bl k from rv)
  exact .inr ⟨k,rfl,.int _,G,.refl H,hg,rfl,q⟩
def kXy:List T->Gp->VK3->Prop:=fun xs G Q=>∃i j,xs=[.int i,.int j]/\CDiv i j/\Q (.tup [.int (i / j),.int (i%j)]) G
theorem qX2:Call3 X (.builtin "divmod") kXy:=
 Call3.of kYl fun H G xs as Q hg ra ⟨i,j,e,c,q⟩=>by
  subst e
  obtain⟨v,w,rfl,rv,rw'⟩:=kKj ra
  cases (show v= .int i from rv);cases (show w= .int j from rw')
  exact⟨i,j,rfl,c,fun p hp=>⟨.tup [.int (i / j),.int (i%j)],G,.upd (.none hp),hg.tupNew hp,Rep.tupNew ⟨_,_,rfl,rfl,_,_,rfl,rfl,rfl⟩ hp,q⟩⟩
def jKp:List T->Gp->VK3->Prop:=fun xs G Q=>∃x ys,xs=[x]/\seqT G x=some ys/\Q (.tup ys) G
theorem jQp:Call3 X (.type "tuple") jKp:=
 Call3.of kUn fun H G xs as Q hg ra ⟨x,ys,e,hx,q⟩=>by
  subst e
  obtain⟨v,rfl,rv⟩:=jVf ra
  obtain⟨p,vs,rfl,hq,r⟩:=jV2 hg rv hx
  cases x with
  | tup zs=>
   cases hx
   obtain⟨p',vs',e',h1,h2⟩:=(show ∃p' vs',V.ref p= .ref p'/\H p'=some (.tup vs')/\Reps X.K H ys vs' from rv)
   cases e'
   exact⟨p,vs',rfl,.inr ⟨.of h1,.tup ys,G,.refl H,hg,⟨p,vs',rfl,h1,h2⟩,q⟩⟩
  | scr zs=>
   cases hx
   obtain⟨p',vs',e',h1,h2⟩:=(show ∃p' vs',V.ref p= .ref p'/\FrL X.K H p' vs'/\Reps X.K H ys vs' from rv)
   cases e'
   exact⟨p,vs',rfl,.inl ⟨h1.sq,fun l hl=>⟨.tup ys,G,.upd (.none hl),hg.tupNew hl,Rep.tupNew h2 hl,q⟩⟩⟩
  | ref p'=>
   cases (show V.ref p= .ref p' from rv)
   obtain⟨vs',h1,h2⟩:=hg.lst (jYx hx)
   exact⟨p,vs',rfl,.inl ⟨.of h1,fun l hl=>⟨.tup ys,G,.upd (.none hl),hg.tupNew hl,Rep.tupNew h2 hl,q⟩⟩⟩
  | non=>cases hx
  | bl _=>cases hx
  | int _=>cases hx
  | str _=>cases hx
  | ty _=>cases hx
noncomputable def rCat:R3:=fun x y G Q=>∃p q xs ys,x= .ref p/\y= .ref q/\G p=some (.lst xs)/\G q=some (.lst ys)/\xs.length+ys.length<=sizeLine/\∀l,G l=none->Q (.ref l) (gup G l (.lst (xs++ys)))
noncomputable def rRep:R3:=fun x y G Q=>∃p xs n,x= .ref p/\y= .int n/\G p=some (.lst xs)/\n.toNat * xs.length<=sizeLine/\n<2^62/\ -(2^62)<n/\∀l,G l=none->Q (.ref l) (gup G l (.lst (List.replicate n.toNat xs).flatten))
def tyT (G:Gp) (T0:String) (x:T):Prop:=match x with
 | .str _=>T0="str"
 | .int _=>T0="int"
 | .ref p=>(T0="list"/\∃xs,G p=some (.lst xs))\/(T0="dict"/\((∃kvs,G p=some (.dck kvs))\/∃kvs,G p=some (.dct kvs)))
 | _=>False
theorem tyT.of {K:PySem.W.Frag} {H:Hp} {G:Gp} {T0:String} {x:T} {a:V} (hg:GRel K H G) (r:Rep K H x a) (h:tyT G T0 x):tyV K T0 a H:=by
 cases x with
 | str z=>cases (show a= .str z from r);exact h
 | int z=>cases (show a= .int z from r);exact h
 | ref p=>
  cases (show a= .ref p from r)
  rcases h with ⟨e,xs,h⟩ | ⟨e,h⟩
  ·obtain⟨vs,h1,_⟩:=hg.lst h;exact .inl ⟨e,vs,.of h1⟩
  ·refine .inr (.inr (.inl ⟨e,?_⟩))
   rcases h with ⟨kvs,h⟩ | ⟨kvs,h⟩
   ·obtain⟨ws,h1,_⟩:=hg p _ h;exact .inl ⟨ws,h1⟩
   ·obtain⟨ws,h1,_⟩:=hg p _ h;exact .inr ⟨ws,h1⟩
 | non=>exact False.elim h
 | bl _=>exact False.elim h
 | ty _=>exact False.elim h
 | tup _=>exact False.elim h
 | scr _=>exact False.elim h
def tBM (T0:String) (r:T->List T->Gp->VK3->Prop) (to:TE3) (t:TA3):TE3:=fun τ G Q=>to τ G fun x G1=>tyT G1 T0 x/\t τ G1 fun xs G2=>r x xs G2 Q
theorem e_bm {T0 id:String} {r:T->List T->Gp->VK3->Prop} {o e:Expr} {name:Str} {apos cpos:Pos} {to:TE3} (pa:PlainAttrs T0) (slot:Slot T0 name id) (hty:typeOf (.builtin id)=pure (.type "method_descriptor")) (hm:Mt3 X id r) (ho:PE3 X o to) (ha:PA3 X (e::es) t)
  (hbase:attributeBase o name X.env (eval o X.env)=eval o X.env:=by rfl)
  (hfew:((backTo cpos (starEach (e::es) X.env)).all (fun x=> !x.1)&&(backToKw cpos (keywordEach [] X.env)).all (fun x=>x.1.isSome)
   &&decide ((e::es).length+([]:List Keyword).length+(if ([]:List Keyword).isEmpty then 0 else 1)<30))=true:=by rfl)
  (hline:(apos.endLine == cpos.line)=true:=by rfl) (hs:starEach (e::es) X.env=(false,eval e X.env)::starEach es X.env:=by rfl) (hplain:(backTo cpos (starEach es X.env)).any (·.1)=false:=by rfl):
  PE3 X (.Call (.Attribute o name apos) (e::es) [] cpos) (tBM T0 r to t):=by
 intro pins s τ G H Q I h
 refine wpAny_Call_method_late hbase hfew hline rfl (thn (ho pins s τ G H _ I h) fun v s1 w_=>w_.el fun x G1 H1 e1 I1 r1 ⟨ty,q1⟩=> ?_)
 obtain⟨σ,I0,hs0,hg0⟩:=_root_.id I1
 obtain⟨a0,ra0,rv0⟩:=_root_.id r1
 obtain⟨h1,h2⟩:=tyV_is I0 rv0 (tyT.of hg0 ra0 ty)
 refine⟨T0,id,pa,slot,hty,h1,h2,?_⟩
 have hA:=ha cpos pins s1 τ G1 H1 _ I1 q1
 rw[hs] at hA ⊢
 refine Calls.callWith_builtin (by show (false||(backTo cpos (starEach es X.env)).any (·.1))=false;rw[hplain]<;>rfl) (Calls.evalArgs_plain ?_)
 exact thn hA fun us s2 w_=>w_.el fun vs G2 H2 e2 I2 r2 q2=>thn (hm pins s2 τ G2 H2 x vs v us Q I2 (r1.mono e2) r2 q2) fun _ _ z=>(z.ext e2).ext e1
def jK6:T->List T->Gp->VK3->Prop:=fun x xs G Q=>∃p ys y,x= .ref p/\xs=[y]/\G p=some (.lst ys)/\ys.length<sizeLine/\Q .non (gup G p (.lst (ys++[y])))
def qVs:T->T->T->Gp->(Gp->Prop)->Prop:=fun o i v G Q=>∃p xs k j,o= .ref p/\i= .int k/\G p=some (.lst xs)/\ixN xs.length k=some j/\Q (gup G p (.lst (xs.set j v)))
theorem s_list:Set3 X qVs:=
 Set3.of qVh fun H G o i v a b c Q hg ra rb rc ⟨p,xs,k,j,eo,ei,hp,hj,q⟩=>by
  subst eo;subst ei
  cases (show a= .ref p from ra);cases (show b= .int k from rb)
  obtain⟨vs,h1,h2⟩:=hg.lst hp
  exact⟨p,vs,k,j,rfl,rfl,h1,by rw[<-h2.length];exact hj,_,.upd (.lst h1),hg.lstNew (h2.set rc j) (.lst h1),q⟩
end
section
variable {X:Cx}
theorem o_cat:Op3 X (binaryOp .Add) rCat:=
 Op3.of op_cat fun H G x y a b Q hg ra rb ⟨p,q,xs,ys,ex,ey,hp,hq,hz,h⟩=>by
  subst ex;subst ey
  cases (show a= .ref p from ra);cases (show b= .ref q from rb)
  obtain⟨vs,h1,h2⟩:=hg.lst hp
  obtain⟨ws,h3,h4⟩:=hg.lst hq
  exact⟨p,q,vs,ws,rfl,rfl,h1,h3,by rw[<-h2.length,<-h4.length];exact hz,fun l hl=>⟨.ref l,_,.upd (.none hl),hg.lstNew (h2.append h4) (.none hl),rfl,h l (hg.fresh hl)⟩⟩
theorem o_rep:Op3 X (binaryOp .Mult) rRep:=
 Op3.of op_rep fun H G x y a b Q hg ra rb ⟨p,xs,n,ex,ey,hp,hz,h1,h2,h⟩=>by
  subst ex;subst ey
  cases (show a= .ref p from ra);cases (show b= .int n from rb)
  obtain⟨vs,h3,h4⟩:=hg.lst hp
  refine⟨p,n,vs,rfl,rfl,h3,by omega,by omega,by rw[<-h4.length,Nat.mul_comm];exact hz,fun l hl=>⟨.ref l,_,.upd (.none hl),hg.lstNew (h4.rep _) (.none hl),rfl,h l (hg.fresh hl)⟩⟩
theorem jK0:Mt3 X "list.append" jK6:=
 Mt3.of qQi fun H G x xs a as Q hg ra ras ⟨p,ys,y,ex,exs,hp,hz,q⟩=>by
  subst ex;subst exs
  cases (show a= .ref p from ra)
  obtain⟨v,rfl,rv⟩:=jVf ras
  obtain⟨vs,h1,h2⟩:=hg.lst hp
  exact⟨p,vs,v,rfl,rfl,h1,by rw[<-h2.length];exact hz,.non,_,.upd (.lst h1),hg.lstNew (h2.append (.one rv)) (.lst h1),rfl,q⟩
end
def jKw:TS3:=fun D τ G=>D.nx τ G
def tSeq (t u:TS3):TS3:=fun D τ G=>t {D with nx:=u D} τ G
def jQf (te:TE3):TS3:=fun D τ G=>te τ G fun _ G1=>D.nx τ G1
def tRet (te:TE3):TS3:=fun D τ G=>te τ G D.rt
def tRetN:TS3:=fun D _ G=>D.rt .non G
def tIfS (c:TT3) (t u:TS3):TS3:=fun D τ G=>c τ G fun b G1=>if b=true then t D τ G1 else u D τ G1
section
variable {X:Cx} {st:Stmt} {rest:List Stmt} {t u:TS3} {e:Expr} {te:TE3} {pos:Pos}
theorem jKh:PSs3 X [] jKw:=fun _ _ τ G H _ I h=>lVu ⟨τ,G,H,.refl H,I,h⟩
theorem jJd (h1:PS3 X st t) (h2:PSs3 X rest u):PSs3 X (st::rest) (tSeq t u):=by
 intro pins s τ G H D I h
 refine wpAny_execs_cons (thn (h1 pins s τ G H {D with nx:=u D} I h) fun f s1 q=> ?_)
 cases f with
 | next=>
  obtain⟨τ',G',H',e',I',q⟩:=q
  exact thn (h2 pins s1 τ' G' H' D I' q) fun _ _ z=>z.ext e'
 | ret v=>exact q
 | brk=>exact q
 | cont=>exact q
theorem jJj (h1:PS3 X st t):PSs3 X [st] t:=by
 intro pins s τ G H D I h
 refine wpAny_execs_cons (thn (h1 pins s τ G H D I h) fun f s1 q=> ?_)
 cases f with
 | next=>exact lVu q
 | ret v=>exact q
 | brk=>exact q
 | cont=>exact q
theorem jKz (he:PE3 X e te) (hs:swapsWith e none pos.line X.env=pure false:=by rfl):PS3 X (.Expr e pos) (jQf te):=by
 intro pins s τ G H D I h
 obtain⟨σ,I0,hs0,hg0⟩:=id I
 exact wpAny_Expr_any (thn (he pins s τ G H _ I h) fun v s1 w_=>w_.el fun x G1 H1 e1 I1 r1 q1=>⟨τ,G1,H1,e1,I1,q1⟩) I0.quiet hs
theorem jKb (he:PE3 X e te):PS3 X (.Return (some e) pos) (tRet te):=by
 intro pins s τ G H D I h
 exact wpAny_Return_some (thn (he pins s τ G H _ I h) fun v s1 w_=>w_.el fun x G1 H1 e1 I1 r1 q1=>⟨x,τ,G1,H1,e1,I1,r1,q1⟩)
theorem s_if {c:Expr} {a b:List Stmt} {tc:TT3} (hc:PT3 X c tc) (ha:PSs3 X a t) (hb:PSs3 X b u):PS3 X (.If c a b pos) (tIfS tc t u):=by
 intro pins s τ G H D I h
 refine wpAny_If (thn (hc pins s τ G H _ I h) fun d s1 w_=>w_.el fun G1 H1 e1 I1 q1=> ?_)
 cases d with
 | true=>exact thn (ha pins s1 τ G1 H1 D I1 q1) fun _ _ z=>z.ext e1
 | false=>exact thn (hb pins s1 τ G1 H1 D I1 q1) fun _ _ z=>z.ext e1
end
abbrev TG3:=T->St3->Gp->(St3->Gp->Prop)->Prop
abbrev TGs3:=List T->St3->Gp->(St3->Gp->Prop)->Prop
def GP3 (X:Cx) (pins:List (Addr×Obj)) (H:Hp) (Q:St3->Gp->Prop) (s':Shared):Prop:=∃ τ' G' H',Ext H H'/\Inv3 X pins τ' G' H' s'/\Q τ' G'
def PG3 (X:Cx) (target:Expr) (t:TG3):Prop:=
 ∀(pins:List (Addr×Obj)) (s:Shared) (τ:St3) (G:Gp) (H:Hp) (v:T) (u:Value) (Q:St3->Gp->Prop),Inv3 X pins τ G H s->RU X.K H v u->t v τ G Q->
  wpAny (model X.prog X.w) X.A (assign target X.env u) (fun _ s'=>GP3 X pins H Q s') X.xe s
def PGs3 (X:Cx) (ts:List Expr) (t:TGs3):Prop:=
 ∀(pins:List (Addr×Obj)) (s:Shared) (τ:St3) (G:Gp) (H:Hp) (vs:List T) (us:List Value) (Q:St3->Gp->Prop),Inv3 X pins τ G H s->RUs X.K H vs us->t vs τ G Q->
  wpAny (model X.prog X.w) X.A (assignInOrder ((assignEach ts X.env).map (·.2)) us) (fun _ s'=>GP3 X pins H Q s') X.xe s
def jJi (i:Nat):TG3:=fun v τ G Q=>Q (τ.set i (some v)) G
def gNil:TGs3:=fun vs τ G Q=>vs=[]/\Q τ G
def jKt (t:TG3) (u:TGs3):TGs3:=fun vs τ G Q=>∃v r,vs=v::r/\t v τ G fun τ' G'=>u r τ' G' Q
def gTup (n:Nat) (t:TGs3):TG3:=fun v τ G Q=>∃xs,v= .tup xs/\xs.length=n/\t xs τ G Q
def gSub (to ti:TE3) (t:T->T->T->Gp->(Gp->Prop)->Prop):TG3:=fun v τ G Q=>to τ G fun o G1=>ti τ G1 fun i G2=>t o i v G2 fun G3=>Q τ G3
def tAsg (te:TE3) (g:TG3):TS3:=fun D τ G=>te τ G fun x G1=>g x τ G1 D.nx
section
variable {X:Cx} {pos:Pos}
theorem jJp {i:Nat} {x:Str} (hN:X.N.Nodup) (hi:X.N[i]? =some x:=by rfl) (hx:Loc X.env.scope x:=by first | exact Or.inl rfl | exact Or.inr rfl) (hf:X.fn x=true\/X.env.scope.names.lookup x=some .local:=by first | exact .inl rfl | exact .inr rfl):PG3 X (.Name x pos) (jJi i):=by
 rintro pins s τ G H v u Q ⟨σ,I,hs,hg⟩ ⟨a,ra,rv⟩ h
 exact wpAny_assign_Name (jUm I hN hi hx rv (fun s' I'=>⟨_,G,H,.refl H,⟨_,I',hs.set i ra,hg⟩,h⟩) hf)
theorem jQ8:PGs3 X [] gNil:=by
 rintro pins s τ G H vs us Q I ⟨as,r,rv⟩ ⟨e,h⟩
 subst e
 cases (show as=[] from r)
 cases rv
 exact assignInOrder_nil ⟨τ,G,H,.refl H,I,h⟩
theorem jJw {e:Expr} {es:List Expr} {t:TG3} {u:TGs3} (h1:PG3 X e t) (h2:PGs3 X es u)
  (hs:(assignEach (e::es) X.env).map (·.2)=assign e X.env::(assignEach es X.env).map (·.2):=by rfl):PGs3 X (e::es) (jKt t u):=by
 rintro pins s τ G H vs us Q I ⟨as,r,rv⟩ ⟨v,vr,e1,h⟩
 subst e1
 obtain⟨a,ar,rfl,ra,rar⟩:=r
 cases rv with
 | cons q qq=>
  rw[hs]
  refine assignInOrder_cons (thn (h1 pins s τ G H v _ _ I ⟨a,ra,q⟩ h) fun _ s1 ⟨τ1,G1,H1,e1,I1,q1⟩=> ?_)
  exact thn (h2 pins s1 τ1 G1 H1 vr _ Q I1 ⟨ar,Reps.mono e1 _ rar,qq⟩ q1) fun _ s2 ⟨τ2,G2,H2,e2,z⟩=>⟨τ2,G2,H2,e1.trans e2,z⟩
theorem jXt {es:List Expr} {k:Nat} {t:TGs3} {n:Nat} (hc:X.calm=true) (h:PGs3 X es t)
  (hn:(assignEach es X.env).length=n:=by rfl) (hst:(assignEach es X.env).findIdx? (·.1)=none:=by rfl):PG3 X (.Tuple es k pos) (gTup n t):=by
 rintro pins s τ G H v u Q ⟨σ,I,hs,hg⟩ ⟨a,ra,rv⟩ ⟨xs,ev,hl,hw⟩
 subst ev
 obtain⟨p,vs,e1,h1,r1⟩:=(show ∃p vs,a= .ref p/\H p=some (.tup vs)/\Reps X.K H xs vs from ra)
 subst e1
 cases rv
 obtain⟨its,rv,ht,hz⟩:=I.tuple (.of h1)
 refine assign_Tuple_tuple (I.ok.hd hc) ht (by simp[hn,<-hl,r1.length,rv.length]) hst fun h' hx=> ?_
 have I1:Inv X pins σ H {s with heap:=h'}:=I.kept (t':=s.toks) fun b o e=>hx b o (lJn (lJh e)) e
 exact h pins _ τ G H xs _ Q ⟨σ,I1,hs,hg⟩ ⟨vs,r1,by simpa using rv⟩ hw
theorem jXg {o i:Expr} {to ti:TE3} {t:T->T->T->Gp->(Gp->Prop)->Prop} (ho:PE3 X o to) (hi:PE3 X i ti) (hs:Set3 X t)
  (ha:∀v,assign (.Subscript o i pos) X.env v=(do
   let ov <-holding [v] (eval o X.env)
   let iv <-holding [v,ov] (eval i X.env)
   standAt pos
   holding [v,ov,iv] (setItem ov iv v)
   release [v,ov,iv] []):=by intro _;rfl):PG3 X (.Subscript o i pos) (gSub to ti t):=by
 intro pins s τ G H v u Q I r h
 rw[ha]
 refine lJa (lK3 (thn (ho pins s τ G H _ I h) fun ov s1 w_=>w_.el fun x G1 H1 e1 I1 r1 q1=> ?_))
 refine lJa (lK3 (thn (hi pins s1 τ G1 H1 _ I1 q1) fun iv s2 w_=>w_.el fun y G2 H2 e2 I2 r2 q2=> ?_))
 refine lJa (wpAny_standAt (lJa (lK3 (thn (hs pins s2 τ G2 H2 x y v ov iv u _ I2 (r1.mono e2) r2 (r.mono (e1.trans e2)) q2) fun _ s3 ⟨G3,H3,e3,I3,q3⟩=> ?_))))
 exact wpAny_release ⟨τ,G3,H3,(e1.trans e2).trans e3,I3,q3⟩
theorem jVx {tg e:Expr} {te:TE3} {g:TG3} (he:PE3 X e te) (hg:PG3 X tg g) (hs:swapsWithSole [tg] e pos.line X.env=pure false:=by rfl) (hw:swappedStores [tg] e X.env=pure none:=by rfl)
  (h1:(assignEach [tg] X.env).map (·.2)=[assign tg X.env]:=by rfl):PS3 X (.Assign [tg] e pos) (tAsg te g):=by
 intro pins s τ G H D I h
 refine wpAny_Assign_stores (thn (he pins s τ G H _ I h) fun v s1 w_=>w_.el fun x G1 H1 e1 I1 r1 q1=> ?_) hs hw
 rw[h1]
 exact thn (hg pins s1 τ G1 H1 x v _ I1 r1 q1) fun _ s2 ⟨τ2,G2,H2,e2,q⟩=>⟨τ2,G2,H2,e1.trans e2,q⟩
theorem jJv {i:Nat} {x:Str} {e:Expr} {te:TE3} {pos':Pos} (hN:X.N.Nodup) (he:PE3 X e te) (hi:X.N[i]? =some x:=by rfl) (hx:Loc X.env.scope x:=by first | exact Or.inl rfl | exact Or.inr rfl)
  (hs:swapsWith e (some (.Name x pos')) pos.line X.env=pure false:=by rfl) (hf:X.fn x=true\/X.env.scope.names.lookup x=some .local:=by first | exact .inl rfl | exact .inr rfl):
  PS3 X (.Assign [.Name x pos'] e pos) (tAsg te (jJi i)):=by
 intro pins s τ G H D I h
 refine wpAny_Assign_Name (thn (he pins s τ G H _ I h) fun v s1 w_=>w_.el fun y G1 H1 e1 i_ r_ q1=>i_.el fun σ I1 hs1 hg1=>r_.el fun a ra rv=> ?_) hs
 exact jUm I1 hN hi hx rv (fun s2 I2=>⟨_,G1,H1,e1,⟨_,I2,hs1.set i ra,hg1⟩,q1⟩) hf
def tPar (i j:Nat) (ta:TA3):TS3:=fun D τ G=>ta τ G fun vs G1=>∃v w,vs=[v,w]/\D.nx ((τ.set i (some v)).set j (some w)) G1
theorem s_par {i j:Nat} {x y:Str} {a b:Expr} {ta:TA3} {px py pt:Pos} {kt k2 pt2} (hc:X.calm=true) (hN:X.N.Nodup) (hij:i≠j) (ha:PA3 X [a,b] ta) (hi:X.N[i]? =some x:=by rfl) (hj:X.N[j]? =some y:=by rfl)
  (hx:X.env.scope.names.lookup x=some .local:=by rfl) (hy:X.env.scope.names.lookup y=some .local:=by rfl)
  (hw:swappedStores [.Tuple [.Name x px,.Name y py] kt pt] (.Tuple [a,b] k2 pt2) X.env=pure (some [x,y]):=by rfl)
  (hs:swapsWithSole [.Tuple [.Name x px,.Name y py] kt pt] (.Tuple [a,b] k2 pt2) pos.line X.env=pure false:=by rfl):
  PS3 X (.Assign [.Tuple [.Name x px,.Name y py] kt pt] (.Tuple [a,b] k2 pt2) pos) (tPar i j ta):=by
 intro pins s τ G H D I h
 rw[exec_Assign_arm]
 refine lJa (wpAny_standAt ?_)
 rw[hs]
 refine lJa (lJd ?_)
 rw[lJb (by decide)]
 refine lJa (Tuple_ (thn (ha _ pins s τ G H _ I h) fun us s1 w_=>w_.el fun vs G1 H1 e1 i_ r_ q1=>i_.el fun σ I1 hs1 hg1=>r_.el fun as ras rvs=> ?_))
 obtain⟨v,w,ev,q1⟩:=q1
 subst ev
 obtain⟨a1,a2,rfl,ra1,ra2⟩:=kKj ras
 obtain⟨u1,u2,rfl,rv,rw'⟩:=rvs.two
 refine lK7 ?_ (by show 2<=sizeLine;decide)
 have I2:Inv X pins σ H1 {s1 with heap:=s1.heap.push {cls:= .type "tuple",data:= .seq [u1,u2].toArray} }:=I1.kept (t':=s1.toks) fun b o e=>lJl _ e
 rw[hw]
 refine lJa (lJd ?_)
 show wpAny (model X.prog X.w) X.A (do rule "assign.swapped-stores"; let items <-unpackItems (.ref s1.heap.objs.size) 2 none;assignInOrder [fun v=>bindName X.env y v,fun v=>bindName X.env x v] items.reverse;pure Flow.next) _ _ _
 refine lJa (lQ8 (lJa (unpackItems_tuple (items:= #[u1,u2]) (I1.ok.hd hc) (IsTup.new s1.heap _) fun h' hx'=> ?_)))
 have I3:=I2.kept (h':=h') (t':=s1.toks) fun b o e=>hx' b o (lJn (lJh e)) e
 show wpAny _ _ (assignInOrder [fun v=>bindName X.env y v,fun v=>bindName X.env x v] [u2,u1] >>= fun _=>pure Flow.next) _ _ _
 refine lJa (assignInOrder_cons (wpAny_bindName (jUm I3 hN hj (.inl hy) rw' (fun s2 I4=> ?_) (.inr hy))))
 refine assignInOrder_cons (wpAny_bindName (jUm I4 hN hi (.inl hx) rv (fun s3 I5=>assignInOrder_nil (lJd ?_)) (.inr hx)))
 rw[List.set_comm _ _ (Ne.symm hij)] at I5
 exact⟨_,G1,H1,e1,⟨_,I5,(hs1.set i ra1).set j ra2,hg1⟩,q1⟩
noncomputable def kJb (c:TT3) (tb:TS3):TS3:=fun D τ G=>∃W:Nat->St3->Gp->Prop,(∃m,W m τ G)/\∀m τ G,W m τ G->
 c τ G fun b G1=>if b=true then ∃N:St3->Gp->Prop,(∀ τ' G',N τ' G'->∃m',m'<m/\W m' τ' G')/\tb {D with nx:=N,ct:=N,bk:=D.nx} τ G1 else D.nx τ G1
theorem kXj {c:Expr} {body:List Stmt} {tc:TT3} {tb:TS3} (hp:PassesOwn (model X.prog X.w) X.A X.env X.xe) (hc:PT3 X c tc) (hb:PSs3 X body tb):PS3 X (.While c body [] pos) (kJb tc tb):=by
 intro pins s τ G H D I h
 obtain⟨W,⟨m0,w0⟩,turn⟩:=h
 refine wpAny_While (codeAny_whileLoop (fun n s'=>∃ τ' G' H',Ext H H'/\Inv3 X pins τ' G' H' s'/\W n τ' G') ?_ m0 ⟨τ,G,H,.refl H,I,w0⟩)
 rintro n s1 ⟨τ1,G1,H1,e1,I1,w1⟩
 refine lQ9 hp (thn (hc pins s1 τ1 G1 H1 _ I1 (turn n τ1 G1 w1)) fun b s2 w_=>w_.el fun G2 H2 e2 I2 q2=> ?_)
 cases b with
 | true=>
  obtain⟨N,hN,q2⟩:=q2
  rw[lJc rfl]
  refine lQ9 hp (thn (hb pins s2 τ1 G2 H2 _ I2 q2) fun f s3 q3=> ?_)
  cases f with
  | next=>
   obtain⟨τ3,G3,H3,e3,I3,n3⟩:=q3
   obtain⟨m',hm,w3⟩:=hN τ3 G3 n3
   exact⟨m',hm,τ3,G3,H3,(e1.trans e2).trans e3,I3,w3⟩
  | cont=>
   obtain⟨τ3,G3,H3,e3,I3,n3⟩:=q3
   obtain⟨m',hm,w3⟩:=hN τ3 G3 n3
   exact⟨m',hm,τ3,G3,H3,(e1.trans e2).trans e3,I3,w3⟩
  | brk=>exact SP3.ext (f:= .next) (e1.trans e2) q3
  | ret v=>exact SP3.ext (f:= .ret v) (e1.trans e2) q3
 | false=>
  rw[lJb lJk]
  exact lVu ⟨τ1,G2,H2,e1.trans e2,I2,q2⟩
end
def uJk (K:PySem.W.Frag) (H0:Hp) (J:It) (xs:List T) (stay:Gp->Prop):Prop:=
 ∀i H G,Ext H0 H->GRel K H G->stay G->(i<xs.length->J.go i H)/\(xs.length<=i->J.stop i H)/\(i<xs.length->∀x H',J.yld i H x H'->Ext H H'/\GRel K H' G/\∃t,xs[i]? =some t/\Rep K H' t x)
abbrev TI3:=St3->Gp->(List T->(Gp->Prop)->Gp->Prop)->Prop
def PIE3 (X:Cx) (pins:List (Addr×Obj)) (τ:St3) (H:Hp) (tg:Expr) (R:List T->(Gp->Prop)->Gp->Prop) (itv:Value) (s2:Shared):Prop:=
 ∃(it:Addr) (fp:List Addr) (tn:Nat->Heap->Prop) (J:It) (xs:List T) (stay:Gp->Prop) (G':Gp) (H':Hp),itv= .ref it/\Ext H H'/\Inv3 X pins τ G' H' s2/\Turn X.prog X.w X.K tg J fp it tn/\tn 0 s2.heap/\(∀b∈fp,FpOk X pins H' b)/\
  uJk X.K H' J xs stay/\R xs stay G'
def PI3 (X:Cx) (tg iter:Expr) (wi:TI3):Prop:=
 ∀(pins:List (Addr×Obj)) (s:Shared) (τ:St3) (G:Gp) (H:Hp) (R:List T->(Gp->Prop)->Gp->Prop),Inv3 X pins τ G H s->wi τ G R->
  wpAny (model X.prog X.w) X.A (eval iter X.env) (fun v s1=>wpAny (model X.prog X.w) X.A (pyIter v) (PIE3 X pins τ H tg R) X.xe s1) X.xe s
noncomputable def tFor (wi:TI3) (g:TG3) (tb:TS3):TS3:=fun D τ G=>wi τ G fun xs stay G1=>∃P:Nat->St3->Gp->Prop,P 0 τ G1/\(∀i τ G,i<=xs.length->P i τ G->stay G)/\
 (∀i x τ G,xs[i]? =some x->P i τ G->g x τ G fun τ2 G2=>tb {D with nx:=P (i+1),ct:=P (i+1),bk:=D.nx} τ2 G2)/\∀ τ G,P xs.length τ G->D.nx τ G
section
variable {X:Cx} {tg:Expr} {pos:Pos}
theorem jQr {iter:Expr} {body:List Stmt} {wi:TI3} {g:TG3} {tb:TS3} (hp:PassesOwn (model X.prog X.w) X.A X.env X.xe) (hc:X.calm=true) (hi:PI3 X tg iter wi) (hg:PG3 X tg g) (hb:PSs3 X body tb)
  (hs:∀x,foldedSetIterable iter X.env x=pure x:=by intro _;rfl):PS3 X (.For tg iter body [] pos) (tFor wi g tb):=by
 intro pins s τ G H D I h
 refine wpAny_For (thn (hi pins s τ G H _ I h) fun v s1 h1=>thn h1 fun itv s2 h2=> ?_) hs
 obtain⟨it,fp,tn,J,xs,stay,G2,H2,e,eH,I2,T0,st2,f2,IT,P,p0,hstay,turn,fin⟩:=h2
 subst e
 have stat:∀ {H':Hp},(∀b∈fp,H' b=none)->∀b∈fp,FpOk X pins H' b:=fun hn b hb=>⟨hn b hb,(f2 b hb).2⟩
 refine codeAny_forLoop_any (fun n s'=>∃i τ' G' H',n=xs.length-i/\i<=xs.length/\Ext H2 H'/\Inv3 X pins τ' G' H' s'/\tn i s'.heap/\(∀b∈fp,H' b=none)/\P i τ' G') ?_ xs.length ⟨0,τ,G2,H2,rfl,lJ2 _,.refl _,I2,st2,fun b hb=>(f2 b hb).1,p0⟩
 rintro n s3 ⟨i,τ3,G3,H3,en,hi3,e3,⟨σ3,I3,hs3,hg3⟩,st3,fr3,p3⟩
 obtain⟨go,stop,yl⟩:=IT i H3 G3 e3 hg3 (hstay i τ3 G3 hi3 p3)
 by_cases hlt:i<xs.length
 ·refine lQ9 hp (thn (T0.item X rfl rfl rfl hc i pins s3 σ3 H3 X.xe I3 (stat fr3) st3 (go hlt)) fun r s4 ⟨u,hr,h4⟩=> ?_)
  subst hr
  refine lQ9 hp (thn h4 fun _ s5 ⟨x,H5,I5,r5,y5,st5,fr5⟩=> ?_)
  obtain⟨e5,g5,t,ht,rt⟩:=yl hlt x H5 y5
  have I5':=I5.pinned (stat fr5) (T0.obj _ _ st5)
  refine lQ9 hp (thn (hg _ s5 τ3 G3 H5 t u _ ⟨σ3,I5',hs3.mono e5,g5⟩ ⟨x,rt,r5⟩ (turn i t τ3 G3 ht p3)) fun _ s6 ⟨τ6,G6,H6,e6,I6,q6⟩=> ?_)
  refine lQ9 hp (thn (hb _ s6 τ6 G6 H6 _ I6 q6) fun f s7 q7=> ?_)
  have e36:Ext H2 H6:=(e3.trans e5).trans e6
  have again:∀ {τ7:St3} {G7:Gp} {H7:Hp},Ext H6 H7->Inv3 X (pins++jXw fp s5.heap) τ7 G7 H7 s7->P (i+1) τ7 G7->
    ∃m,m<n/\∃i τ' G' H',m=xs.length-i/\i<=xs.length/\Ext H2 H'/\Inv3 X pins τ' G' H' s7/\tn i s7.heap/\(∀b∈fp,H' b=none)/\P i τ' G':=fun {τ7 G7 H7} e7 ⟨σ7,I7,hs7,hg7⟩ p7=>by
   refine⟨xs.length-(i+1),by omega,i+1,τ7,G7,H7,rfl,hlt,e36.trans e7,⟨σ7,I7.unpinned,hs7,hg7⟩,T0.keep _ _ _ st5 fun b hb o e=>(I7.pin (b,o) (lKu _ (lKu _ (jXl hb e)))).1,fun b hb=> ?_,p7⟩
   obtain⟨o,e,d⟩:=T0.obj _ _ st5 b hb
   exact (I7.pin (b,o) (lKu _ (lKu _ (jXl hb e)))).2.1
  have un:∀ {τ7:St3} {G7:Gp} {H7:Hp},Inv3 X (pins++jXw fp s5.heap) τ7 G7 H7 s7->Inv3 X pins τ7 G7 H7 s7:=fun ⟨σ7,I7,a,b⟩=>⟨σ7,I7.unpinned,a,b⟩
  cases f with
  | next=>obtain⟨τ7,G7,H7,e7,I7,n7⟩:=q7;exact again e7 I7 n7
  | cont=>obtain⟨τ7,G7,H7,e7,I7,n7⟩:=q7;exact again e7 I7 n7
  | brk=>obtain⟨τ7,G7,H7,e7,I7,q7⟩:=q7;exact⟨τ7,G7,H7,(eH.trans e36).trans e7,un I7,q7⟩
  | ret v=>obtain⟨x7,τ7,G7,H7,e7,I7,r7,q7⟩:=q7;exact⟨x7,τ7,G7,H7,(eH.trans e36).trans e7,un I7,r7,q7⟩
 ·have ei:i=xs.length:=by omega
  refine lQ9 hp (thn (T0.done X rfl rfl rfl hc i pins s3 σ3 H3 X.xe I3 (stat fr3) st3 (stop (by omega))) fun r s4 ⟨hr,I4⟩=> ?_)
  subst hr;subst ei
  exact lVu ⟨τ3,G3,H3,eH.trans e3,⟨σ3,I4,hs3,hg3⟩,fin τ3 G3 p3⟩
def iSeq (tl:TE3):TI3:=fun τ G R=>tl τ G fun x G1=>∃xs,seqT G1 x=some xs/\R xs (fun G'=>seqT G' x=some xs) G1
theorem jXe {l:Expr} {tl:TE3} (hl:PE3 X l tl):PI3 X tg l (iSeq tl):=by
 intro pins s τ G H R I h
 refine thn (hl pins s τ G H _ I h) fun v s1 w_=>w_.el fun x G1 H1 e1 i_ r_ ⟨xs,hx,q⟩=>i_.el fun σ I1 hs1 hg1=>r_.el fun a ra rv=> ?_
 obtain⟨p,vs,e,hq,r⟩:=jV2 hg1 ra hx
 subst e
 cases rv
 have fpk:∀b∈[s1.heap.objs.size],FpOk X pins H1 b:=fun b hb=>by
  have e:b=s1.heap.objs.size:=by simpa using hb
  subst e
  exact I1.fpOk (lJf _) (I1.hok.fresh (lJf _))
 rcases hq with hq | hq
 ·obtain⟨its,rv,pl,hz⟩:=I1.list hq
  refine wpAny_pyIter_list pl.isList ?_
  refine⟨s1.heap.objs.size,[s1.heap.objs.size],_,_,xs,fun G'=>seqT G' x=some xs,G1,H1,rfl,e1,⟨σ,I1.kept (t':=s1.toks) fun b o e=>lJl _ e,hs1,hg1⟩,qKe p _,⟨_,lJz _ rfl,rfl,rfl⟩,fpk,?_,q⟩
  intro i H2 G2 e2 g2 st
  have ra2:=Rep.mono e2 _ ra
  have now:∃ws,SqL X.K H2 p ws/\Reps X.K H2 xs ws:=by
   cases x with
   | scr ys=>cases hx;obtain⟨p',ws,ep,h1,h2⟩:=(show ∃p' ws,V.ref p= .ref p'/\FrL X.K H2 p' ws/\Reps X.K H2 xs ws from ra2);cases ep;exact⟨ws,h1.sq,h2⟩
   | ref p'=>cases (show V.ref p= .ref p' from ra);obtain⟨ws,h1,h2⟩:=g2.lst (jYx st);exact⟨ws,.of h1,h2⟩
   | tup ys=>
    obtain⟨p',ws,ep,h1,h2⟩:=(show ∃p' ws,V.ref p= .ref p'/\H1 p'=some (.tup ws)/\Reps X.K H1 ys ws from ra)
    cases ep
    exfalso
    obtain⟨its',_,pl',_⟩:=I1.tuple (.of h1)
    obtain⟨o,n,ho,hc,_⟩:=pl
    obtain⟨o',ho',hc',_⟩:=pl'
    rw[ho] at ho';cases ho'
    rw[hc] at hc';exact absurd hc' (by decide)
   | non=>cases hx
   | bl _=>cases hx
   | int _=>cases hx
   | str _=>cases hx
   | ty _=>cases hx
  obtain⟨ws,h1,h2⟩:=now
  have hlen:=h2.length
  refine⟨fun hi=> ?_,fun hi=>⟨ws,h1,by omega⟩,fun _ y H' ⟨eH,hy⟩=> ?_⟩
  ·exact⟨ws,ws[i]'(by omega),h1,by simp[hlen▸hi]⟩
  ·subst eH
   obtain⟨t,ht,rt⟩:=h2.get' (hy ws h1)
   exact⟨.refl _,g2,t,ht,rt⟩
 ·obtain⟨its,rv,pl,hz⟩:=I1.tuple hq
  refine wpAny_pyIter_tuple (show s1.heap.IsTuple p its.toArray from pl) ?_
  refine⟨s1.heap.objs.size,[s1.heap.objs.size],_,_,xs,fun G'=>seqT G' x=some xs,G1,H1,rfl,e1,⟨σ,I1.kept (t':=s1.toks) fun b o e=>lJl _ e,hs1,hg1⟩,kZ6 p _,⟨_,lJz _ rfl,rfl,rfl⟩,fpk,?_,q⟩
  intro i H2 G2 e2 g2 st
  have ra2:=Rep.mono e2 _ ra
  have now:∃ws,H2 p=some (.tup ws)/\Reps X.K H2 xs ws:=by
   cases x with
   | tup ys=>cases hx;obtain⟨p',ws,ep,h1,h2⟩:=(show ∃p' ws,V.ref p= .ref p'/\H2 p'=some (.tup ws)/\Reps X.K H2 xs ws from ra2);cases ep;exact⟨ws,h1,h2⟩
   | scr ys=>
    obtain⟨p',ws,ep,h1,h2⟩:=(show ∃p' ws,V.ref p= .ref p'/\FrL X.K H1 p' ws/\Reps X.K H1 ys ws from ra)
    cases ep
    exfalso
    obtain⟨its',_,pl',_⟩:=I1.list h1.sq
    obtain⟨o,n,ho,hc,_⟩:=pl'
    obtain⟨o',ho',hc',_⟩:=pl
    rw[ho] at ho';cases ho'
    rw[hc] at hc';exact absurd hc' (by decide)
   | ref p'=>
    cases (show V.ref p= .ref p' from ra)
    obtain⟨ws,h1,h2⟩:=hg1.lst (jYx hx)
    exfalso
    obtain⟨its',_,pl',_⟩:=I1.list (.of h1)
    obtain⟨o,n,ho,hc,_⟩:=pl'
    obtain⟨o',ho',hc',_⟩:=pl
    rw[ho] at ho';cases ho'
    rw[hc] at hc';exact absurd hc' (by decide)
   | non=>cases hx
   | bl _=>cases hx
   | int _=>cases hx
   | str _=>cases hx
   | ty _=>cases hx
  obtain⟨ws,h1,h2⟩:=now
  have hlen:=h2.length
  refine⟨fun hi=> ?_,fun hi=>⟨ws,.of h1,by omega⟩,fun _ y H' ⟨eH,hy⟩=> ?_⟩
  ·exact⟨ws,ws[i]'(by omega),.of h1,by simp[hlen▸hi]⟩
  ·subst eH
   obtain⟨t,ht,rt⟩:=h2.get' (hy ws (.of h1))
   exact⟨.refl _,g2,t,ht,rt⟩
def rngT (lo:Int) (n:Nat):List T:=(List.range n).map fun (k:Nat)=>T.int (lo+k)
def jKv (ta:TA3):TI3:=fun τ G R=>ta τ G fun vs G1=>∃j:Int,vs=[.int j]/\ -(2^62)<=j/\j<2^62/\R (rngT 0 j.toNat) (fun _=>True) G1
def qZx (ta:TA3):TI3:=fun τ G R=>ta τ G fun vs G1=>∃i j:Int,vs=[.int i,.int j]/\(-(2^62)<=i/\i<2^62/\ -(2^62)<=j/\j<2^62)/\R (rngT i (j-i).toNat) (fun _=>True) G1
theorem kVk {K:PySem.W.Frag} {H:Hp} (lo:Int) (n:Nat):uJk K H (Itr lo n) (rngT lo n) fun _=>True:=by
 intro i H' G e g _
 have hl:(rngT lo n).length=n:=by simp[rngT]
 refine⟨fun h=>by rw[hl] at h;exact h,fun h=>by rw[hl] at h;exact h,fun hi x H2 ⟨eH,ex⟩=> ?_⟩
 rw[hl] at hi
 subst eH;subst ex
 exact⟨.refl _,g,.int (lo+i),by simp[rngT,hi],rfl⟩
theorem jKk {a:Expr} {ta:TA3} {p:Pos} (hg:Gl X "range") (hm:X.mg "range"=none) (ha:PA3 X [a] ta) (hs:starEach [a] X.env=[(false,eval a X.env)]:=by rfl):PI3 X tg (.Call (.Name "range" p) [a] [] pos) (jKv ta):=by
 intro pins s τ G H R I h
 obtain⟨σ,I0,hs0,hg0⟩:=id I
 refine Call_ (jQ7 I0 hg hm boot_range (lK4 (thn (ha pos pins s τ G H _ I h) fun us s1 w_=>w_.el fun xs G1 H1 e1 i_ r_ q1=>i_.el fun σ I1 hs1 hg1=>r_.el fun as ras rvs=> ?_) hs rfl))
 obtain⟨j,e,q1,q2,q⟩:=q1
 subst e
 obtain⟨v,rfl,rv⟩:=jVf ras
 cases (show v= .int j from rv)
 obtain⟨u,rfl,ru⟩:=rvs.one
 obtain⟨t,rfl⟩:=ru
 refine call_range_1 (thn (kY5 (tg:=tg) (R:=fun J H'=>J=Itr 0 j.toNat/\H'=H1) I1 (by omega) (by omega) q1 q2 ⟨by simp,rfl⟩) fun itv s2 z=> ?_)
 obtain⟨it,fp,tn,J,H',ei,I2,T0,st,fk,eJ,eH⟩:=z
 subst eJ;subst eH
 exact⟨it,fp,tn,_,rngT 0 j.toNat,fun _=>True,G1,H',ei,e1,⟨σ,I2,hs1,hg1⟩,T0,st,fk,kVk 0 j.toNat,q⟩
theorem qXk {a b:Expr} {ta:TA3} {p:Pos} (hg:Gl X "range") (hm:X.mg "range"=none) (ha:PA3 X [a,b] ta) (hs:starEach [a,b] X.env=[(false,eval a X.env),(false,eval b X.env)]:=by rfl) (hs2:starEach [b] X.env=[(false,eval b X.env)]:=by rfl):
  PI3 X tg (.Call (.Name "range" p) [a,b] [] pos) (qZx ta):=by
 intro pins s τ G H R I h
 obtain⟨σ,I0,hs0,hg0⟩:=id I
 refine Call_ (jQ7 I0 hg hm boot_range (lK4 (thn (ha pos pins s τ G H _ I h) fun us s1 w_=>w_.el fun xs G1 H1 e1 i_ r_ q1=>i_.el fun σ I1 hs1 hg1=>r_.el fun as ras rvs=> ?_) (by rw[hs,hs2]) (by rw[hs2];rfl)))
 obtain⟨i,j,e,⟨q1,q2,q3,q4⟩,q⟩:=q1
 subst e
 obtain⟨v,w,rfl,rv,rw'⟩:=kKj ras
 cases (show v= .int i from rv);cases (show w= .int j from rw')
 obtain⟨u,u',rfl,ru,ru'⟩:=rvs.two
 obtain⟨t,rfl⟩:=ru
 obtain⟨t',rfl⟩:=ru'
 refine call_range_2 (thn (kY5 (tg:=tg) (R:=fun J H'=>J=Itr i (j-i).toNat/\H'=H1) I1 q1 q2 q3 q4 ⟨rfl,rfl⟩) fun itv s2 z=> ?_)
 obtain⟨it,fp,tn,J,H',ei,I2,T0,st,fk,eJ,eH⟩:=z
 subst eJ;subst eH
 exact⟨it,fp,tn,_,rngT i (j-i).toNat,fun _=>True,G1,H',ei,e1,⟨σ,I2,hs1,hg1⟩,T0,st,fk,kVk i (j-i).toNat,q⟩
end
abbrev Sp3:=List T->Gp->VK3->Prop
def dn (K:PySem.W.Frag) (n:Nat) (sp:Sp3):Sp:=fun vs H Q _=>vs.length=n/\∃xs G,Reps K H xs vs/\GRel K H G/\sp xs G fun t G'=>∀v H',Ext H H'->GRel K H' G'->Rep K H' t v->Q v H'
def Fn3 (P:Program) (w:World) (K:PySem.W.Frag) (mg:Str->Option Value) (base:Heap) (k:Nat) (f:Addr) (fd:FuncData) (ps:List Str) (sp:Sp3):Prop:=FnOk P w K mg base CX0 k f fd ps (dn K ps.length sp)
def jJr (sp:Sp3) (t:TA3):TE3:=fun τ G Q=>t τ G fun xs G1=>sp xs G1 Q
def Mono (sp:Sp3):Prop:=∀xs G Q Q',(∀t G',Q t G'->Q' t G')->sp xs G Q->sp xs G Q'
def jQ6 (N:List Str) (xs:List T):St3:=xs.map some++List.replicate (N.length-xs.length) none
theorem kU2 {K:PySem.W.Frag} {H:Hp} {N:List Str} {xs:List T} {vs:List V} (r:Reps K H xs vs):SRel K H (start N vs) (jQ6 N xs):=by
 have hl:=r.length
 refine⟨by simp[L2.start,jQ6,hl],fun i t h=> ?_⟩
 unfold jQ6 at h
 unfold L2.start
 by_cases hi:i<xs.length
 ·rw[lKg (by simpa using hi),lJs] at h
  cases e:xs[i]? with
  | none=>rw[e] at h;cases h
  | some x=>
   rw[e] at h;cases h
   obtain⟨v,hv,rv⟩:=r.get e
   exact⟨v,by rw[lKg (by simp;omega),lJs,hv];rfl,rv⟩
 ·rw[lQf (by simpa using hi),lXc] at h
  split at h<;>cases h
theorem fn3 {P:Program} {w:World} {K:PySem.W.Frag} {mg:Str->Option Value} {base:Heap} {x qual:Str} {st:Stmt} {f:Addr} {fd:FuncData} {N ps:List Str} {k:Nat} {sp:Sp3} (F:Fun K x qual st f fd) (S:FnScope N ps (jJn st))
  (hbody:∀(cdv:Value) (A:Around) (outer:List Env) (s:Shared) (H:Hp) (E:XK),Room k (A.deeper (envOfC qual (jJn st) s.heap.objs.size f cdv))->
   ∃t,PSs3 (cxOf CX0 P w K mg base N qual (jJn st) f cdv A outer s H E).nox (jKx st) t/\∀xs G Q,sp xs G Q->t {nx:=fun _ G'=>Q .non G',rt:=Q} (jQ6 N xs) G):Fn3 P w K mg base (k+1) f fd ps sp:=by
 refine Fun.ok (sp:=dn K ps.length sp) F S (fun vs H Q E h=>h.1) fun cdv A outer s H vs Q E hr hsp=> ?_
 obtain⟨t,ht,hq⟩:=hbody cdv A outer s H E hr
 obtain⟨hl,xs,G,rs,hg,hsp⟩:=hsp
 refine⟨fun D σ H1=>D.nx=(fun _ H'=>Q .non H')/\D.rt=Q/\σ=L2.start N vs/\H1=H,?_,rfl,rfl,rfl,rfl⟩
 rintro pins s1 σ1 H1 D I ⟨e1,e2,e3,e4⟩
 subst e3;subst e4
 have I3:Inv3 (cxOf CX0 P w K mg base N qual (jJn st) f cdv A outer s H1 E).nox pins (jQ6 N xs) G H1 s1:=⟨_,I,kU2 rs,hg⟩
 refine thn (ht pins s1 _ G H1 _ I3 (hq xs G _ hsp)) fun fl s2 z=> ?_
 cases fl with
 | next=>obtain⟨τ',G',H',e',⟨σ',I',a,b⟩,q⟩:=z;exact⟨σ',H',I',by rw[e1];exact q .non H' e' b rfl⟩
 | brk=>obtain⟨τ',G',H',e',_,q⟩:=z;exact q.elim
 | cont=>obtain⟨τ',G',H',e',_,q⟩:=z;exact q.elim
 | ret u=>obtain⟨x',τ',G',H',e',⟨σ',I',a,b⟩,⟨v,rv,ru⟩,q⟩:=z;exact⟨v,σ',H',I',ru,by rw[e2];exact q v H' e' b rv⟩
mutual
noncomputable def dep:T->Nat
 | .tup xs=>deps xs+1
 | _=>0
noncomputable def deps:List T->Nat
 | []=>0
 | x::xs=>max (dep x) (deps xs)
end
mutual
noncomputable def tree:T->Bool
 | .tup xs=>jQ0 xs
 | .ref _=>false
 | .scr _=>false
 | .ty _=>false
 | .non=>true
 | .bl _=>true
 | .int _=>true
 | .str _=>true
noncomputable def jQ0:List T->Bool
 | []=>true
 | x::xs=>tree x&&jQ0 xs
end
mutual
noncomputable def eqT:T->T->Bool
 | .non,.non=>true
 | .bl a,.bl b=>a == b
 | .bl a,.int b=>(if a then 1 else 0) == b
 | .int a,.bl b=>a == (if b then 1 else 0)
 | .int a,.int b=>a == b
 | .str a,.str b=>a == b
 | .tup xs,.tup ys=>eqTs xs ys
 | _,_=>false
noncomputable def eqTs:List T->List T->Bool
 | [],[]=>true
 | x::xs,y::ys=>eqT x y&&eqTs xs ys
 | [],_::_=>false
 | _::_,[]=>false
end
mutual
theorem qXt {K:PySem.W.Frag} {H:Hp}:∀(x y:T) {a:V},tree x=true->tree y=true->Rep K H x a->Rep K H y a->eqT x y=true
 | .non,y,a,hx,hy,r,q=>by
  cases (show a= .non from r)
  cases y<;>first | rfl | (exact absurd (show false=true from hy) lJk) | (cases (show V.non=_ from q)) | (obtain⟨_,_,e,_⟩:=(show ∃c vs,V.non= .ref c/\_ from q);cases e)
 | .bl b,y,a,hx,hy,r,q=>by
  cases (show a= .bl b from r)
  cases y with
  | bl c=>cases (show V.bl b=V.bl c from q);simp[eqT]
  | tup ys=>obtain⟨_,_,e,_⟩:=(show ∃c vs,V.bl b= .ref c/\_ from q);cases e
  | non=>cases (show V.bl b= .non from q)
  | int c=>cases (show V.bl b= .int c from q)
  | str c=>cases (show V.bl b= .str c from q)
  | _=>exact absurd (show false=true from hy) lJk
 | .int b,y,a,hx,hy,r,q=>by
  cases (show a= .int b from r)
  cases y with
  | int c=>cases (show V.int b=V.int c from q);simp[eqT]
  | tup ys=>obtain⟨_,_,e,_⟩:=(show ∃c vs,V.int b= .ref c/\_ from q);cases e
  | non=>cases (show V.int b= .non from q)
  | bl c=>cases (show V.int b= .bl c from q)
  | str c=>cases (show V.int b= .str c from q)
  | _=>exact absurd (show false=true from hy) lJk
 | .str b,y,a,hx,hy,r,q=>by
  cases (show a= .str b from r)
  cases y with
  | str c=>cases (show V.str b=V.str c from q);simp[eqT]
  | tup ys=>obtain⟨_,_,e,_⟩:=(show ∃c vs,V.str b= .ref c/\_ from q);cases e
  | non=>cases (show V.str b= .non from q)
  | bl c=>cases (show V.str b= .bl c from q)
  | int c=>cases (show V.str b= .int c from q)
  | _=>exact absurd (show false=true from hy) lJk
 | .tup xs,y,a,hx,hy,r,q=>by
  obtain⟨p,vs,e,h1,h2⟩:=(show ∃p vs,a= .ref p/\H p=some (.tup vs)/\Reps K H xs vs from r)
  subst e
  cases y with
  | tup ys=>
   obtain⟨p',vs',e',h1',h2'⟩:=(show ∃p' vs',V.ref p= .ref p'/\H p'=some (.tup vs')/\Reps K H ys vs' from q)
   cases e'
   rw[h1] at h1';cases h1'
   exact kVq xs ys (show jQ0 xs=true from hx) (show jQ0 ys=true from hy) h2 h2'
  | non=>cases (show V.ref p= .non from q)
  | bl c=>cases (show V.ref p= .bl c from q)
  | int c=>cases (show V.ref p= .int c from q)
  | str c=>cases (show V.ref p= .str c from q)
  | _=>exact absurd (show false=true from hy) lJk
 | .ref _,_,_,hx,_,_,_=>absurd (show false=true from hx) lJk
 | .scr _,_,_,hx,_,_,_=>absurd (show false=true from hx) lJk
 | .ty _,_,_,hx,_,_,_=>absurd (show false=true from hx) lJk
theorem kVq {K:PySem.W.Frag} {H:Hp}:∀(xs ys:List T) {vs:List V},jQ0 xs=true->jQ0 ys=true->Reps K H xs vs->Reps K H ys vs->eqTs xs ys=true
 | [],ys,_,_,_,r,q=>by
  cases r
  cases ys with
  | nil=>rfl
  | cons y ys=>obtain⟨_,_,e,_⟩:=q;cases e
 | x::xs,ys,_,hx,hy,⟨v,ws,e,r1,r2⟩,q=>by
  subst e
  cases ys with
  | nil=>cases q
  | cons y ys=>
   obtain⟨v',ws',e',q1,q2⟩:=q
   cases e'
   have hx':tree x=true/\jQ0 xs=true:=by simpa[jQ0] using hx
   have hy':tree y=true/\jQ0 ys=true:=by simpa[jQ0] using hy
   show (eqT x y&&eqTs xs ys)=true
   rw[qXt x y hx'.1 hy'.1 r1 q1,kVq xs ys hx'.2 hy'.2 r2 q2]
   rfl
end
section
variable {X:Cx}
def rSub:R3:=rI0 fun i j=> .int (i-j)
def rMod:R3:=rI (fun _ j=>0<j) fun i j=> .int (i%j)
def rFdiv:R3:=rI CDiv fun i j=> .int (i / j)
def rPow:R3:=rI CPow fun i j=> .int (i^j.toNat)
def rLt:R3:=rI0 fun i j=> .bl (decide (i<j))
def rGt:R3:=rI0 fun i j=> .bl (decide (j<i))
def rGe:R3:=rI0 fun i j=> .bl (decide (j<=i))
def rIsN:R3:=fun x y G Q=>y= .non/\Q (.bl (kKv x)) G
def qJf:R3:=fun x y G Q=>y= .non/\Q (.bl (!kKv x)) G
def qVu:R3:=fun x y G Q=>∃xs ys,x= .tup xs/\y= .tup ys/\xs≠[]/\xs.length+ys.length<=sizeLine/\Q (.tup (xs++ys)) G
theorem o_catT:Op3 X (binaryOp .Add) qVu:=
 Op3.of qZe fun H G x y a b Q hg ra rb ⟨xs,ys,ex,ey,hx,hz,q⟩=>by
  subst ex;subst ey
  obtain⟨p,vs,e1,h1,h2⟩:=(show ∃p vs,a= .ref p/\H p=some (.tup vs)/\Reps X.K H xs vs from ra)
  obtain⟨p',ws,e2,h3,h4⟩:=(show ∃p vs,b= .ref p/\H p=some (.tup vs)/\Reps X.K H ys vs from rb)
  subst e1;subst e2
  have l1:=h2.length
  have l2:=h4.length
  refine⟨p,p',vs,ws,rfl,rfl,.of h1,.of h3,fun z=>hx ?_,by omega,fun z=> ?_,fun z l hl=> ?_⟩
  ·rw[z] at l1;exact lQh.mp l1
  ·rw[z] at l2
   have:ys=[]:=lQh.mp l2
   subst this
   exact⟨.tup (xs++[]),G,.refl H,hg,by rw[lQa];exact ra,q⟩
  ·exact⟨.tup (xs++ys),G,.upd (.none hl),hg.tupNew hl,Rep.tupNew (h2.append h4) hl,q⟩
def rAddI:R3:=rI0 fun i j=> .int (i+j)
def rAddA:R3:=fun x y G Q=>rAddI x y G Q\/rCat x y G Q\/qVu x y G Q
theorem o_addA:Op3 X (binaryOp .Add) rAddA:=o_add.or (o_cat.or o_catT)
def rMulI:R3:=rI CMul fun i j=> .int (i*j)
def rMulA:R3:=fun x y G Q=>rMulI x y G Q\/rRep x y G Q
theorem o_mulA:Op3 X (binaryOp .Mult) rMulA:=o_mul.or o_rep
def rNeg:T->Gp->VK3->Prop:=fun x G Q=>∃i,x= .int i/\Q (.int (-i)) G
theorem u_neg:Un3 X (unaryOp .USub) rNeg:=
 Un3.of un_neg fun H G x a Q hg ra ⟨i,e,q⟩=>by
  subst e;cases (show a= .int i from ra)
  exact⟨i,rfl,.int (-i),G,.refl H,hg,rfl,q⟩
theorem jJm (b:Expr) {op:CmpOp} (h:behindInMarks op b=false:=by first | exact nomark _ | with_unfolding_all rfl):behindInMarks op b=false:=h
variable {a b c:Expr} {ta tb tc:TE3} {pos:Pos}
theorem kXg {op op':CmpOp} {r r':R3} (ho:Op3 X (compareOp op) r) (ho':Op3 X (compareOp op') r') (ha:PE3 X a ta) (hb:PE3 X b tb) (hc:PE3 X c tc)
  (hm:lastMarks [op,op'] [b,c]=false:=by with_unfolding_all rfl):PT3 X (.Compare a [op,op'] [b,c] pos) (jJs (kK2 r r' ta tb tc)):=by
 intro pins s τ G H Q I h
 refine isTrue_chain (thn (ha pins s τ G H _ I h) fun v s1 w_=>w_.el fun x G1 H1 e1 I1 r1 q1=>test_link (thn (hb pins s1 τ G1 H1 _ I1 q1) fun u s2 ⟨y,G2,H2,e2,I2,r2,q2⟩=>
  thn (ho pins s2 τ G2 H2 x y v u _ I2 (r1.mono e2) r2 q2) fun d s3 w_=>w_.el fun z G3 H3 e3 I3 r_ ⟨k,e,q3⟩=>r_.el fun v' rv' ru'=> ?_)) hm
 subst e
 cases (show v'= .bl k from rv');cases ru'
 refine lQy ?_
 cases k with
 | false=>
  obtain⟨k',e',q'⟩:=q3
  cases e'
  exact ite_ff ⟨G3,H3,(e1.trans e2).trans e3,I3,q'⟩
 | true=>
  refine ite_tt (test_last (thn (hc pins s3 τ G3 H3 _ I3 q3) fun w' s4 w_=>w_.el fun z' G4 H4 e4 I4 r4 q4=>thn (ho' pins s4 τ G4 H4 y z' u w' _ I4 (r2.mono (e3.trans e4)) r4 q4) fun d' s5 w_=>w_.el fun z2 G5 H5 e5 I5 r_ ⟨k2,e2',q5⟩=>r_.el fun v2 rv2 ru2=> ?_))
  subst e2'
  cases (show v2= .bl k2 from rv2);cases ru2
  exact lQy ⟨G5,H5,(((e1.trans e2).trans e3).trans e4).trans e5,I5,q5⟩
mutual
noncomputable def td:T->PyData
 | .tup xs=> .tuple (tds xs)
 | .int i=> .int i
 | .bl b=> .bool b
 | .str x=> .str x
 | .non=> .none
 | .ref _=> .none
 | .scr _=> .none
 | .ty _=> .none
noncomputable def tds:List T->List PyData
 | []=>[]
 | x::xs=>td x::tds xs
end
def eqOk (x:T):Bool:=tree x&&(td x).canLay0&&decide ((td x).depth<=50)
def kJ5 (xs:List T):Bool:=jQ0 xs&&PyData.canLayAll0 (tds xs)&&decide ((PyData.list (tds xs)).depth<=50)
noncomputable def eqG (G:Gp) (x y:T):Option Bool:=match x,y with
 | .ref p,.ref q=>match G p,G q with
  | some (.lst xs),some (.lst ys)=>if kJ5 xs=true/\kJ5 ys=true then some (eqTs xs ys) else none
  | _,_=>none
 | _,_=>if eqOk x=true/\eqOk y=true then some (eqT x y) else none
def rEqA:R3:=fun x y G Q=>∃b,eqG G x y=some b/\Q (.bl b) G
def rNeA:R3:=fun x y G Q=>∃b,eqG G x y=some b/\Q (.bl (!b)) G
noncomputable def truT (G:Gp):T->Option Bool
 | .non=>some false
 | .bl b=>some b
 | .int i=>some (i != 0)
 | .tup xs=>some (!xs.isEmpty)
 | .ref p=>match G p with
  | some (.lst xs)=>some (!xs.isEmpty)
  | some (.dck kvs)=>some (!kvs.isEmpty)
  | _=>none
 | _=>none
def rTru:T->Gp->(Bool->Gp->Prop)->Prop:=fun x G Q=>∃b,truT G x=some b/\Q b G
theorem jZj {K:PySem.W.Frag} {H:Hp} {xs:List T} {vs:List V} (r:Reps K H xs vs):xs.isEmpty=vs.isEmpty:=by
 have:=r.length
 cases xs<;>cases vs<;>simp_all
theorem kQn:Tru3 X rTru:=
 Tru3.of tru_ok fun H G x a Q hg ra ⟨b,hb,q⟩=>by
  refine⟨b,?_,rfl,q⟩
  cases x with
  | non=>cases (show a= .non from ra);cases hb;rfl
  | bl k=>cases (show a= .bl k from ra);cases hb;rfl
  | int k=>cases (show a= .int k from ra);cases hb;rfl
  | tup xs=>
   obtain⟨p,vs,e1,h1,h2⟩:=(show ∃p vs,a= .ref p/\H p=some (.tup vs)/\Reps X.K H xs vs from ra)
   subst e1;cases hb
   exact .inr (.inl ⟨vs,.of h1,by rw[jZj h2]⟩)
  | ref p=>
   cases (show a= .ref p from ra)
   cases hG:G p with
   | none=>simp only[truT,hG] at hb;cases hb
   | some o=>
    simp only[truT,hG] at hb
    cases o with
    | lst xs=>cases hb;obtain⟨vs,h1,h2⟩:=hg.lst hG;exact .inl ⟨vs,.of h1,by rw[jZj h2]⟩
    | dct _=>cases hb
    | fdc _=>cases hb
    | ins _ _=>cases hb
    | exc _=>cases hb
    | dck kvs=>
     cases hb
     obtain⟨ws,h1,h2⟩:=hg p _ hG
     refine .inr (.inr ⟨ws,h1,?_⟩)
     cases h2<;>rfl
  | str _=>cases hb
  | scr _=>cases hb
  | ty _=>cases hb
end
section
variable {X:Cx} {pins:List (Addr×Obj)} {σ:L2.St} {H:Hp} {s:Shared} {h':Heap}
theorem kJa {t':Nat} {fp:List Addr} (I:Inv X pins σ H s) (k:∀b o,b∉fp->s.heap.get? b=some o->h'.get? b=some o) (hf:∀b∈fp,FpOk X pins H b):Inv X pins σ H {s with heap:=h',toks:=t'}:=by
 have nit:∀b u,H b=some u->b∉fp:=fun b u e z=>by rw[(hf b z).1] at e;cases e
 refine I.step (g':=s.gens) (d':=s.drawn) (ch:=fp) (fun b hb=>⟨(hf b hb).2.2.2.1,(hf b hb).2.1,(hf b hb).2.2.2.2.1,(hf b hb).2.2.2.2.2⟩) (fun b o _ _ hc e _=>k b o hc e) (fun b o _ _ hc e _=>⟨o.slots,k b o hc e⟩) (fun _ _ _ _ n=>n)
  (fun b o hc e=>⟨o,k b o hc e⟩) (fun _ _ e=>e) (fun _ _ _ e=>e) (fun b ps e=>⟨#[],by rw[e];simp⟩) (fun m hm=> ?_) (fun b u e=> ?_) I.bare
 ·obtain⟨o,es,ep,ho,r⟩:=hm
  exact⟨o,es,ep,k _ o (fun z=>(hf _ z).2.1 rfl) ho,r⟩
 ·refine (I.hok b u e).stay (fun c v hc q=>k c v ?_ q) (fun _ q=>q) fun _ _ q=>q
  rcases hc with z | z
  ·rw[z];exact nit b u e
  ·exact nit c _ z
theorem jZ9 {t':Nat} {fp:List Addr} {p:Addr} {vs:List V} {us:List Value} (I:Inv X pins σ H s) (k:∀b o,b∉fp->s.heap.get? b=some o->h'.get? b=some o) (hf:∀b∈fp,FpOk X pins H b)
  (hp:s.heap.objs.size<=p) (ht:TupD h' p us.toArray) (r:Vals vs us) (hz:vs.length<=sizeLine):Inv X pins σ (upd H p (.tup vs)) {s with heap:=h',toks:=t'}:=by
 have hn:H p=none:=I.hok.fresh hp
 have nit:∀b u,H b=some u->b∉fp:=fun b u e z=>by rw[(hf b z).1] at e;cases e
 have old:∀b o,s.heap.get? b=some o->b≠p:=fun b o e=>lJn (lJ3 (lJh e) hp)
 have tr:∀b u,H b=some u->b≠p:=fun b u e z=>by rw[z,hn] at e;cases e
 refine I.step (g':=s.gens) (d':=s.drawn) (ch:=fp) (fun b hb=>⟨(hf b hb).2.2.2.1,(hf b hb).2.1,(hf b hb).2.2.2.2.1,(hf b hb).2.2.2.2.2⟩) (fun b o _ _ hc e _=>k b o hc e) (fun b o _ _ hc e _=>⟨o.slots,k b o hc e⟩) (fun b o _ e n=>by rw[jJx (old b o e)];exact n)
  (fun b o hc e=>⟨o,k b o hc e⟩) (fun b _ e=>by rw[jJx (tr b _ e)];exact e) (fun b _ _ e=>by rw[jJx (tr b _ e)];exact e) (fun b ps e=>⟨#[],by rw[jJx (tr b _ e),e];simp⟩) (fun m hm=> ?_) (fun b u e=> ?_) I.bare
 ·obtain⟨o,es,ep,ho,r⟩:=hm
  exact⟨o,es,ep,k _ o (fun z=>(hf _ z).2.1 rfl) ho,r⟩
 ·by_cases hb:b=p
  ·subst hb
   rw[jJ3] at e
   cases e
   exact⟨hz,us,r,ht⟩
  ·rw[jJx hb] at e
   refine (I.hok b u e).stay (fun c v hc q=>k c v ?_ q) (fun c q=>by rw[jJx (tr c _ q)];exact q) fun c _ q=>by rw[jJx (tr c _ q)];exact q
   rcases hc with z | z
   ·rw[z];exact nit b u e
   ·exact nit c _ z
end
noncomputable def Ite (K:PySem.W.Frag) (a:Addr):It:=
 ⟨fun i H=>∃xs x,SqL K H a xs/\xs[i]? =some x,fun i H x H'=>∃p y,H p=none/\x= .ref p/\(∀xs,SqL K H a xs->xs[i]? =some y)/\H'=upd H p (.tup [.int i,y]),fun i H=>∃xs,SqL K H a xs/\xs.length<=i⟩
theorem qKf {P:Program} {w:World} {K:PySem.W.Frag} {elts:List Expr} {k:Nat} {pos:Pos} (a e it:Addr) (hei:e≠it):
  Turn P w K (.Tuple elts k pos) (Ite K a) [e,it] e (fun i h=>(∃old,IsEnum h e it i old)/\h.IsListIter it a i) where
 mem:=by simp
 obj:=fun i h ⟨⟨old,h1⟩,h2⟩ b hb=>by
  have hb':b=e\/b=it:=by simpa using hb
  rcases hb' with z | z
  ·subst z;exact⟨_,h1,fun v z=>nomatch (show Data.fields _=Data.cell v from z)⟩
  ·subst z
   obtain⟨o,e2,c,d⟩:=h2
   exact⟨o,e2,fun v z=>by rw[d] at z;cases z⟩
 keep:=fun i h h' ⟨⟨old,h1⟩,h2⟩ kp=>⟨⟨old,kp e (by simp) _ h1⟩,h2.at fun o q=>kp it (by simp) o q⟩
 item:=by
  rintro X hP hw hK hc i pins s σ H E I hf ⟨⟨old,he⟩,hit⟩ hg
  subst hP hw hK
  obtain⟨xs,x,hq,hx⟩:=hg
  obtain⟨its,rv,p,hz⟩:=I.list hq
  obtain⟨u,hu,ru⟩:=rv.get hx
  refine wpAny_pyNext_enum_item he hit p.isList (x:=u) (by simpa using hu) hei fun h1 ho hit1 hT hsz hk=> ?_
  refine⟨_,rfl,wpAny_letOwnedTupleGo_enum ho fun h2 he2 hs2=> ?_⟩
  have hel:e<s.heap.objs.size:=lJh he
  have hp2:∀b o,b∉[e,it]->s.heap.get? b=some o->h2.get? b=some o:=fun b o hb q=>by
   have hb1:b≠e:=fun z=>hb (by simp[z])
   have hb2:b≠it:=fun z=>hb (by simp[z])
   exact (hs2.2 b hb1).trans (hk b o hb1 hb2 q)
  have hT2:h2.get? s.heap.objs.size=some {cls:= .type "tuple",data:= .seq #[.int i s.toks,u]}:=(hs2.2 _ (lQr hel)).trans hT
  have I2:=jZ9 (t':=s.toks+1) (h':=h2) (p:=s.heap.objs.size) (vs:=[.int i,x]) (us:=[.int i s.toks,u]) I hp2 hf (lJf _) ⟨_,hT2,rfl,_,rfl,rfl⟩ (.cons ⟨_,rfl⟩ (.cons ru .nil)) (by show 2<=sizeLine;decide)
  refine⟨.ref s.heap.objs.size,_,I2,rfl,⟨_,x,I.hok.fresh (lJf _),rfl,fun ys hy=>by rw[I.list_inj hy hq];exact hx,rfl⟩,⟨⟨u,by simpa using he2⟩,hit1.at fun o q=>(hs2.2 it hei.symm).trans q⟩,fun b hb=> ?_⟩
  have hbs:∃o,s.heap.get? b=some o:=by
   have hb':b=e\/b=it:=by simpa using hb
   rcases hb' with z | z
   ·subst z;exact⟨_,he⟩
   ·subst z;obtain⟨o,q,_⟩:=hit;exact⟨o,q⟩
  obtain⟨o,q⟩:=hbs
  rw[jJx (lJn (lJh q))]
  exact (hf b hb).1
 done:=by
  rintro X hP hw hK hc i pins s σ H E I hf ⟨⟨old,he⟩,hit⟩ hg
  subst hP hw hK
  obtain⟨xs,hq,hx⟩:=hg
  obtain⟨its,rv,p,hz⟩:=I.list hq
  have hl:=rv.length
  exact wpAny_pyNext_enum_end (I.ok.hd hc) he hit p.isList (by simp;omega) fun h1 hx1=>⟨rfl,kJa (t':=s.toks) I (fun b o hb q=>hx1 b o (fun z=>hb (by simp[z])) q) hf⟩
 self:=fun _ _ _ _ _ ⟨⟨old,he⟩,_⟩ h=>lXp he h
def numT (xs:List T):List T:=(List.range xs.length).map fun (i:Nat)=>T.tup [.int i,xs.getD i .non]
theorem jXk {xs:List T} {i:Nat} {x:T} (h:xs[i]? =some x):(numT xs)[i]? =some (.tup [.int i,x]):=by
 have hi:i<xs.length:=by
  rcases lKe i xs.length with z | z
  ·exact z
  ·rw[lJ6 z] at h;cases h
 have hx:xs[i]=x:=(lJe.mp h).2
 simp[numT,hi,List.getD,hx]
theorem jKl {xs:List T}:(numT xs).length=xs.length:=by simp[numT]
def jUz (G:Gp):T->Option (List T)
 | .ref p=>asL (G p)
 | .scr xs=>some xs
 | _=>none
theorem jUr {K:PySem.W.Frag} {H:Hp} {G:Gp} {x:T} {a:V} {xs:List T} (hg:GRel K H G) (r:Rep K H x a) (h:jUz G x=some xs):∃p vs,a= .ref p/\SqL K H p vs/\Reps K H xs vs:=by
 cases x with
 | scr ys=>cases h;obtain⟨p,vs,e,h1,h2⟩:=(show ∃p vs,a= .ref p/\FrL K H p vs/\Reps K H xs vs from r);exact⟨p,vs,e,h1.sq,h2⟩
 | ref p=>
  obtain⟨vs,h1,h2⟩:=hg.lst (jYx h)
  exact⟨p,vs,r,.of h1,h2⟩
 | tup _=>cases h
 | non=>cases h
 | bl _=>cases h
 | int _=>cases h
 | str _=>cases h
 | ty _=>cases h
def kUg (ta:TA3):TI3:=fun τ G R=>ta τ G fun vs G1=>∃x xs,vs=[x]/\jUz G1 x=some xs/\R (numT xs) (fun G'=>jUz G' x=some xs) G1
theorem kZm {X:Cx} {elts:List Expr} {k:Nat} {tpos pos p:Pos} {a:Expr} {ta:TA3} (hg:Gl X "enumerate") (hm:X.mg "enumerate"=none) (hv:bootBuiltins "enumerate"=some (.type "enumerate")) (ha:PA3 X [a] ta) (hs:starEach [a] X.env=[(false,eval a X.env)]:=by rfl):
  PI3 X (.Tuple elts k tpos) (.Call (.Name "enumerate" p) [a] [] pos) (kUg ta):=by
 intro pins s τ G H R I h
 obtain⟨σ0,I0,hs0,hg0⟩:=id I
 refine Call_ (jQ7 I0 hg hm hv (lK4 (thn (ha pos pins s τ G H _ I h) fun us s1 w_=>w_.el fun xs' G1 H1 e1 i_ r_ q1=>i_.el fun σ I1 hs1 hg1=>r_.el fun as ras rvs=> ?_) hs rfl))
 obtain⟨x,xs,e,hx,q⟩:=q1
 subst e
 obtain⟨v,rfl,rv⟩:=jVf ras
 obtain⟨u,rfl,ru⟩:=rvs.one
 obtain⟨pa,vs,rfl,hq,r⟩:=jUr hg1 rv hx
 cases ru
 obtain⟨its,rvv,pl,hz⟩:=I1.list hq
 refine call_enumerate_list pl.isList fun h1 he hit hsz hk=> ?_
 have I2:Inv X pins σ H1 {s1 with heap:=h1}:=I1.kept (t':=s1.toks) hk
 refine lXp (Q:=PIE3 X pins τ H (.Tuple elts k tpos) R) he ?_
 have fr:∀b∈[s1.heap.objs.size+1,s1.heap.objs.size],FpOk X pins H1 b:=fun b hb=>by
  have hb':b=s1.heap.objs.size+1\/b=s1.heap.objs.size:=by simpa using hb
  have hle:s1.heap.objs.size<=b:=by omega
  exact I1.fpOk hle (I1.hok.fresh hle)
 refine⟨s1.heap.objs.size+1,[s1.heap.objs.size+1,s1.heap.objs.size],_,_,numT xs,fun G'=>jUz G' x=some xs,G1,H1,rfl,e1,⟨σ,I2,hs1,hg1⟩,qKf pa _ _ (Nat.succ_ne_self _),⟨⟨.none,he⟩,hit⟩,fr,?_,q⟩
 intro i H2 G2 e2 g2 st
 obtain⟨pb,ws,eb,h1,h2⟩:=jUr g2 (Rep.mono e2 _ rv) st
 cases eb
 have hlen:=h2.length
 refine⟨fun hi=> ?_,fun hi=>⟨ws,h1,by rw[jKl] at hi;omega⟩,fun hi y H' ⟨pp,z,hn,ey,hy,eH⟩=> ?_⟩
 ·rw[jKl] at hi
  exact⟨ws,ws[i]'(by omega),h1,by simp[hlen▸hi]⟩
 ·subst ey;subst eH
  obtain⟨t,ht,rt⟩:=h2.get' (hy ws h1)
  exact⟨.upd (.none hn),g2.tupNew hn,_,jXk ht,Rep.tupNew ⟨_,_,rfl,rfl,_,_,rfl,rt,rfl⟩ hn⟩
noncomputable def clGo (env:Env):List (Str×NameKind)->List (Str×Addr)->Option (List (Str×Addr))
 | [],cs=>some cs
 | (n,k)::r,cs=>if (k == .free)=true then (match env.cells.lookup n with | some c=>clGo env r ((n,c)::cs) | none=>none) else clGo env r cs
theorem kQh {scope:Scope} {env:Env} {cl:List (Str×Addr)} (h:clGo env scope.names []=some cl):closureFor scope env=pure cl:=by
 unfold closureFor
 have go:∀(names:List (Str×NameKind)) (cs:List (Str×Addr)),clGo env names cs=some cl->
   (forIn names cs fun (x:Str×NameKind) (r:List (Str×Addr))=>(match x with | (nm,kd)=>if (kd == .free)=true then cellOf env nm >>= fun a=>pure (ForInStep.yield ((nm,a)::r)) else pure (ForInStep.yield r):Sem (ForInStep (List (Str×Addr)))))=pure cl:=by
  intro names
  induction names with
  | nil=>intro cs e;cases e;rfl
  | cons x r ih=>
   obtain⟨n,k⟩:=x
   intro cs e
   unfold clGo at e
   rw[List.forIn_cons]
   by_cases hk:(k == NameKind.free)=true
   ·rw[lJc hk] at e
    cases hc:env.cells.lookup n with
    | none=>rw[hc] at e;cases e
    | some c=>
     rw[hc] at e
     have hco:cellOf env n=pure c:=by unfold cellOf;rw[hc]
     simp only[hk,lJ4,hco,pure_bind]
     exact ih _ e
   ·rw[lJb hk] at e
    simp only[hk,pure_bind,lJt,lKj]
    exact ih _ e
 have:=go scope.names [] h
 simpa using this
theorem jZ5 {env:Env} {cl:List (Str×Addr)}:∀ {names:List (Str×NameKind)} {cs:List (Str×Addr)},clGo env names cs=some cl->(∀n c,cs.lookup n=some c->env.cells.lookup n=some c)->∀n c,cl.lookup n=some c->env.cells.lookup n=some c
 | [],cs,e,h=>by cases e;exact h
 | (n,k)::r,cs,e,h=>by
  unfold clGo at e
  by_cases hk:(k == NameKind.free)=true
  ·rw[lJc hk] at e
   cases hc:env.cells.lookup n with
   | none=>rw[hc] at e;cases e
   | some c=>
    rw[hc] at e
    refine jZ5 e fun m d q=> ?_
    rw[lKz] at q
    by_cases hm:(m == n)=true
    ·rw[hm] at q;cases q;rw[eq_of_beq hm];exact hc
    ·simp only[hm] at q;exact h m d q
  ·rw[lJb hk] at e
   exact jZ5 e h
theorem kKc {env:Env} {cl:List (Str×Addr)} {m:Str}:∀ {names:List (Str×NameKind)} {cs:List (Str×Addr)},clGo env names cs=some cl->(∃c,cs.lookup m=some c)->∃c,cl.lookup m=some c
 | [],cs,e,h=>by cases e;exact h
 | (n,k)::r,cs,e,h=>by
  unfold clGo at e
  by_cases hk:(k == NameKind.free)=true
  ·rw[lJc hk] at e
   cases hc:env.cells.lookup n with
   | none=>rw[hc] at e;cases e
   | some c=>
    rw[hc] at e
    refine kKc e ?_
    rw[lKz]
    by_cases hm:(m == n)=true
    ·rw[hm];exact⟨_,rfl⟩
    ·simp only[hm];exact h
  ·rw[lJb hk] at e
   exact kKc e h
theorem jZ6 {env:Env} {cl:List (Str×Addr)} {m:Str}:∀ {names:List (Str×NameKind)} {cs:List (Str×Addr)},clGo env names cs=some cl->names.lookup m=some .free->∃c,cl.lookup m=some c
 | [],cs,e,h=>by simp at h
 | (n,k)::r,cs,e,h=>by
  unfold clGo at e
  rw[lKz] at h
  by_cases hm:(m == n)=true
  ·rw[hm] at h
   cases h
   rw[lJc (show (NameKind.free == NameKind.free)=true from rfl)] at e
   cases hc:env.cells.lookup n with
   | none=>rw[hc] at e;cases e
   | some c=>
    rw[hc] at e
    refine kKc e ?_
    rw[lKz,hm];exact⟨_,rfl⟩
  ·simp only[hm] at h
   by_cases hk:(k == NameKind.free)=true
   ·rw[lJc hk] at e
    cases hc:env.cells.lookup n with
    | none=>rw[hc] at e;cases e
    | some c=>rw[hc] at e;exact jZ6 e h
   ·rw[lJb hk] at e
    exact jZ6 e h
theorem jUp {env:Env} {x:Str}:∀ {names:List (Str×NameKind)},(∀y∈names,y.2≠ .cell)->
  ((names.map fun (n,k)=>if (k == NameKind.free&&env.scope.kind == .function&&env.kindOf n == some .cell) then (n,NameKind.cell) else (n,k)).lookup x=some .cell\/
    (names.map fun (n,k)=>if (k == NameKind.free&&env.scope.kind == .function&&env.kindOf n == some .cell) then (n,NameKind.cell) else (n,k)).lookup x=some .free)->names.lookup x=some .free
 | [],_,h=>by simp at h
 | (n,k)::r,hc,h=>by
  have ih:= @jUp env x r (fun y hy=>hc y (lKa _ hy))
  have hk:=hc (n,k) lKm
  rw[lJr] at h
  rw[lKz]
  by_cases hx:(x == n)=true
  ·rw[hx]
   by_cases hf:(k == NameKind.free&&env.scope.kind == .function&&env.kindOf n == some .cell)=true
   ·have:(k == NameKind.free)=true:=by
     rw[lKo,lKo] at hf;exact hf.1.1
    rw[eq_of_beq this]
   ·simp only[hf,lJt,lKj,lKz,hx] at h
    rcases h with h | h
    ·cases h;exact absurd rfl hk
    ·cases h;rfl
  ·simp only[hx]
   refine ih ?_
   by_cases hf:(k == NameKind.free&&env.scope.kind == .function&&env.kindOf n == some .cell)=true
   ·simpa only[hf,lJ4,lKz,hx] using h
   ·simpa only[hf,lJt,lKj,lKz,hx] using h
theorem jVg {env:Env} {x:Str}:∀ {names:List (Str×NameKind)},
  (names.map fun (n,k)=>if (k == NameKind.free&&env.scope.kind == .function&&env.kindOf n == some .cell) then (n,NameKind.cell) else (n,k)).lookup x=some .local->names.lookup x=some .local
 | [],h=>by simp at h
 | (n,k)::r,h=>by
  have ih:= @jVg env x r
  rw[lJr] at h
  rw[lKz]
  by_cases hx:(x == n)=true
  ·rw[hx]
   by_cases hf:(k == NameKind.free&&env.scope.kind == .function&&env.kindOf n == some .cell)=true
   ·simp only[hf,lJ4,lKz,hx] at h;cases h
   ·simp only[hf,lJt,lKj,lKz,hx] at h;exact h
  ·simp only[hx]
   refine ih ?_
   by_cases hf:(k == NameKind.free&&env.scope.kind == .function&&env.kindOf n == some .cell)=true
   ·simpa only[hf,lJ4,lKz,hx] using h
   ·simpa only[hf,lJt,lKj,lKz,hx] using h
noncomputable def jVb (X:Cx) (scope:Scope) (cl:List (Str×Addr)) (C:Addr) (fp:List Addr) (s:Shared) (H:Hp):Cx:=
 {X with env:=compEnvC scope cl C X.env,s₀:=s,H₀:=H,outer:=X.stack,stack:=X.stack,ex:=fp,fn:=fun _=>false,pn:=[],xe:=fun _ _=>False}
structure CmpOk (X:Cx) (scope:Scope) (cl:List (Str×Addr)) (mask:List Bool):Prop where
 cl:clGo X.env scope.names []=some cl
 kind:scope.kind= .function
 nocell:(scope.names.all fun y=>y.2 != .cell)=true
 names:(scope.names.all fun y=>y.2 != .local||scope.names.lookup y.1 == some .local)=true
 vis:(scope.names.all fun y=>y.2 != .free||X.env.kindOf y.1 == some .cell||X.env.kindOf y.1 == some .free)=true
 len:mask.length=X.N.length
 mask:((X.N.zip mask).all fun p=>p.2||scope.names.lookup p.1 != some .local)=true
def msk {α:Type} (mask:List Bool) (τ:List (Option α)):List (Option α):=List.zipWith (fun b o=>if b=true then none else o) mask τ
theorem kX3 {α:Type} {mask:List Bool} {τ:List (Option α)} {i:Nat} {t:α} (h:(msk mask τ)[i]? =some (some t)):mask[i]? =some false/\τ[i]? =some (some t):=by
 unfold msk at h
 rw[lVz] at h
 cases hm:mask[i]? with
 | none=>exact absurd (hm▸h) (by simp)
 | some b=>
  cases ht:τ[i]? with
  | none=>rw[hm,ht] at h;cases h
  | some o=>
   rw[hm,ht] at h
   cases b with
   | true=>simp at h
   | false=>simp at h;exact⟨rfl,by rw[h]⟩
theorem jZa {α:Type} {mask:List Bool} {τ:List (Option α)} (h:mask.length=τ.length):(msk mask τ).length=τ.length:=by
 unfold msk;rw[List.length_zipWith,h,Nat.min_self]
theorem qQj {K:PySem.W.Frag} {H:Hp} {σ:L2.St} {τ:St3} {mask:List Bool} (h:SRel K H σ τ) (hl:mask.length=τ.length):SRel K H (msk mask σ) (msk mask τ):=by
 refine⟨by rw[jZa hl,jZa (hl.trans h.1.symm),h.1],fun i t q=> ?_⟩
 obtain⟨h1,h2⟩:=kX3 q
 obtain⟨v,h3,h4⟩:=h.2 i t h2
 refine⟨v,?_,h4⟩
 unfold msk
 rw[lVz,h1,h3]
 simp
section
variable {X:Cx} {scope:Scope} {cl:List (Str×Addr)} {mask:List Bool}
theorem CmpOk.local (c:CmpOk X scope cl mask) {i:Nat} {x:Str} (h1:X.N[i]? =some x) (h2:mask[i]? =some false):scope.names.lookup x≠some .local:=by
 have h:=c.mask
 rw[lQv] at h
 have hz:(X.N.zip mask)[i]? =some (x,false):=by rw[List.getElem?_zip_eq_some];exact⟨h1,h2⟩
 have:=h _ (lJm hz)
 simpa using this
theorem CmpOk.free (c:CmpOk X scope cl mask) {x:Str} (h:scope.names.lookup x=some .free):X.env.kindOf x=some .cell\/X.env.kindOf x=some .free:=by
 have hv:=c.vis
 rw[lQv] at hv
 have:=hv (x,.free) (lVg h)
 simpa using this
theorem CmpOk.nc (c:CmpOk X scope cl mask):∀y∈scope.names,y.2≠ .cell:=by
 have hv:=c.nocell
 rw[lQv] at hv
 intro y hy
 simpa using hv y hy
theorem CmpOk.nm (c:CmpOk X scope cl mask):∀y∈scope.names,y.2= .local->scope.names.lookup y.1=some .local:=by
 have hv:=c.names
 rw[lQv] at hv
 intro y hy e
 have:=hv y hy
 rw[e] at this
 simpa using this
theorem qUv (c:CmpOk X scope cl mask) {pins:List (Addr×Obj)} {σ:L2.St} {H:Hp} {s:Shared} {fp:List Addr} {h4:Heap} {tk:Nat} (I:Inv X pins σ H s) (hf:∀b∈fp,FpOk X pins H b) (ho:∀b∈fp,∃o,s.heap.get? b=some o)
  (hns:h4.Ns s.heap.objs.size fun _=>none) (hk:∀b o,s.heap.get? b=some o->h4.get? b=some o):
  Inv (jVb X scope cl s.heap.objs.size fp s H) [] (msk mask σ) H {s with heap:=h4,toks:=tk}:=by
 have sub:=jZ5 c.cl (by simp)
 have ok:(jVb X scope cl s.heap.objs.size fp s H).Ok:=by
  refine⟨I.ok.mod,c.kind,I.ok.glob,I.ok.blt,lJf _,fun x y d h1 h2=>I.ok.inj x y d (sub _ _ h1) (sub _ _ h2),fun x hx=>jZ6 c.cl (jUp (env:=X.env) c.nc hx),fun x d hx=>absurd (show false=true from hx) lJk,I.ok.hd,I.ok.gd,I.ok.frames,.inl rfl,
   fun b hb=> ?_,I.bs,lJ9 I.ok.bsz I.sz,fun b o e hb=> ?_,fun b hb hz=> ?_,I.stack,I.stkFree⟩
  ·obtain⟨o,e⟩:=ho b hb
   exact⟨lJn (lJh e),fun x d hd=>(hf b hb).2.2.2.2.1 x d (sub _ _ hd)⟩
  ·rcases (hf b hb).2.2.2.1 with z | z
   ·exact I.ok.noex b o e z
   ·exact absurd (lJ3 (lJh e) I.ok.bsz) (Nat.not_lt.mpr z)
  ·rcases lJj.mp (I.stkSub b hz) with z | z
   ·exact (hf b hb).2.1 z
   ·exact (hf b hb).2.2.1 z
 refine⟨ok,rfl,I.bare,Un.kept hk,⟨_,hns,fun i x v h1 h2 h3=> ?_⟩,fun x d hd=> ?_,I.hok.fresh (lJf _),fun x d hd=>I.freeC x d (sub _ _ hd),fun p hp=>absurd (show p∈([]:List (Addr×Obj)) from hp) (by simp),I.hok.kept hk,?_⟩
 ·obtain⟨m1,m2⟩:=kX3 h2
  have nl:=c.local h1 m1
  have fr:scope.names.lookup x=some .free:=by
   rcases h3 with z | z | z
   ·exact absurd (jVg (env:=X.env) z) nl
   ·exact jUp (env:=X.env) c.nc (.inl z)
   ·exact jUp (env:=X.env) c.nc (.inr z)
  have hkk:=c.free fr
  obtain⟨m,hn,hl⟩:=I.loc
  have vis:Vis X.env.scope x:=by rcases hkk with z | z;exact .inr (.inl z);exact .inr (.inr z)
  obtain⟨u,ru,lk⟩:=hl i x v h1 m2 vis
  refine⟨u,ru,?_⟩
  rcases lk with ⟨z,_⟩ | ⟨_,d,hd,cd⟩
  ·exfalso;rcases hkk with q | q<;>(rw[z] at q;cases q)
  ·obtain⟨d',hd'⟩:=jZ6 c.cl fr
   have:d'=d:=by have:=sub _ _ hd';rw[hd] at this;exact (lJq this).symm
   subst this
   refine .inr ⟨?_,d',hd',cd.keeps hk⟩
   rcases h3 with z | z | z
   ·exact absurd (jVg (env:=X.env) z) nl
   ·exact .inl z
   ·exact .inr z
 ·obtain⟨v,hv⟩:=I.cell x d (sub _ _ hd)
  exact⟨v,hv.keeps hk⟩
 ·exact (jZa (c.len.trans I.len.symm)).trans I.len
theorem uJb {pins:List (Addr×Obj)} {σ σ':L2.St} {H H':Hp} {s s':Shared} {fp:List Addr} {pl:List (Addr×Obj)} {C:Addr} (I:Inv X pins σ H s) (hf:∀b∈fp,FpOk X pins H b) (hC:s.heap.objs.size<=C)
  (J:Inv (jVb X scope cl C fp s H) pl σ' H' s') {h':Heap} (hb:Heap.SameBut C s'.heap h'):Inv X pins σ H' {s' with heap:=h'}:=by
 have ne:∀b o,s.heap.get? b=some o->b≠C:=fun b o e=>lJn (lJ3 (lJh e) hC)
 have u:=J.base
 have hfree:H' C=none:=J.free
 have u':Un (frs X.stack) fp H H' s.heap h':=⟨fun b o e n hb' hx=>(hb.2 b (ne b o e)).trans (u.keep b o e n hb' hx),fun b o e n hb' hx=>let ⟨sl,z⟩:=u.slot b o e n hb' hx;⟨sl,(hb.2 b (ne b o e)).trans z⟩,
  u.free,fun b o e hx=>let ⟨o',z⟩:=u.there b o e hx;⟨o',(hb.2 b (ne b o e)).trans z⟩,u.tups,u.frzs,u.tbls⟩
 have hok:HOk X.prog X.w H' h':=fun b ob e=>(J.hok b ob e).stay (fun c w' hc q=>(hb.2 c (by
  rintro rfl
  rcases hc with rfl | hc
  ·rw[hfree] at e;cases e
  ·rw[hfree] at hc;cases hc)).trans q) (fun _ q=>q) fun _ _ q=>q
 exact I.call' (s':={s' with heap:=h'}) J.os u' hok J.bare fun b hb=>⟨(hf b hb).2.2.2.1,(hf b hb).2.1,(hf b hb).2.2.2.2.1,(hf b hb).2.2.2.2.2⟩
end
abbrev qUt (ifs:List Expr) (env:Env):Sem Bool:=forIn ifs true fun c b=>if b=true then isTrue c env (eval c env) >>= fun d=>pure (ForInStep.yield d) else pure (ForInStep.yield b)
noncomputable def qYc (M:Model) (A:Around) (elt tg:Expr) (ifs:List Expr) (it acc:Value) (env:Env) (stop more:Shared->Prop):Option Value->Shared->Prop
 | none=>stop
 | some v=>fun z=>wpAny M A (letOwnedTupleGo tg it v) (fun _ z1=>wpAny M A (assign tg env v) (fun _ z2=>wpAny M A (qUt ifs env) (fun ok z3=>if ok=true then wpAny M A (eval elt env) (fun x z4=>wpAny M A (call (.builtin "list.append") [acc,x]) (fun _=>more) (fun _ _=>False) z4) (fun _ _=>False) z3 else more z3) (fun _ _=>False) z2) (fun _ _=>False) z1) (fun _ _=>False) z
theorem qUu {P:Program} {w:World} {A:Around} {R:Result->Shared->Prop} {s:Shared} {elt tg iter:Expr} {ifs:List Expr} {scope:Scope} {pos:Pos} {it acc:Value} {env:Env} (I:Nat->Shared->Prop)
  (turn:∀k z,I k z->wpAny (model P w) A (pyNext it) (qYc (model P w) A elt tg ifs it acc env (R (.ok .next)) fun z'=>∃m,m<k/\I m z') (fun _ _=>False) z) (n:Nat) (h:I n s):codeAny (model P w) A (.compLoop (.ListComp elt [⟨tg,iter,ifs,0⟩] scope pos) 0 it acc env) R s:=by
 refine codeAny_loop rfl I (fun k z hz=>(show wpAny _ A ((compTurn (.ListComp elt [⟨tg,iter,ifs,0⟩] scope pos) 0 it acc env).onRaise _) _ _ z from wpAny_noted ?_)) n h
 rw[compTurn_list]
 refine lJa (wpAny_standAt (lJa (lKs (turn k z hz) (fun r z1 h1=> ?_) fun _ _ e=>e.elim)))
 cases r with
 | none=>exact lJd h1
 | some v=>
  refine lJa (lKs h1 (fun _ z2 h2=>lJa (lKs h2 (fun _ z3 h3=>lJa (lKs h3 (fun ok z4 h4=> ?_) fun _ _ e=>e.elim)) fun _ _ e=>e.elim)) fun _ _ e=>e.elim)
  by_cases hok:ok=true
  ·subst hok
   exact lJa (lJa (lKs h4 (fun x z5 h5=>lJa (lKs h5 (fun _ z6 h6=>lJd (lJd ⟨rfl,h6⟩)) fun _ _ e=>e.elim)) fun _ _ e=>e.elim))
  ·obtain rfl:ok=false:=by simpa using hok
   exact lJd ⟨rfl,h4⟩
def PIf3 (X:Cx) (ifs:List Expr) (t:TT3):Prop:=∀(pins:List (Addr×Obj)) (s:Shared) (τ:St3) (G:Gp) (H:Hp) (Q:Bool->Gp->Prop),Inv3 X pins τ G H s->t τ G Q->
 wpAny (model X.prog X.w) X.A (forIn ifs true fun c r=>if r=true then do let ok <-isTrue c X.env (eval c X.env);pure (ForInStep.yield ok) else pure (ForInStep.yield r)) (TP3 X pins τ H Q) X.xe s
def jXz:TT3:=fun _ G Q=>Q true G
theorem jU9 {X:Cx}:PIf3 X [] jXz:=fun _ _ _ G H _ I q=>wpAny_tests_nil ⟨G,H,.refl H,I,q⟩
theorem kVl {X:Cx} {c:Expr} {t:TT3} (h:PT3 X c t):PIf3 X [c] t:=fun pins s τ G H Q I q=>wpAny_tests_one (h pins s τ G H Q I q)
def qJ5 (mask:List Bool) (g:TG3):Prop:=∀v τ G Q,g v τ G Q->g v τ G fun τ2 G2=>Q τ2 G2/\τ2.length=τ.length/\∀i:Nat,mask[i]? ≠some true->τ2[i]? =τ[i]?
def kZ3 (mask:List Bool) (g:TGs3):Prop:=∀v τ G Q,g v τ G Q->g v τ G fun τ2 G2=>Q τ2 G2/\τ2.length=τ.length/\∀i:Nat,mask[i]? ≠some true->τ2[i]? =τ[i]?
theorem jKm {mask:List Bool} {i:Nat} (h:mask[i]? =some true:=by rfl):qJ5 mask (jJi i):=fun v τ G Q q=>
 ⟨q,lQt ..,fun j hj=>lKf (by rintro rfl;exact hj h)⟩
theorem qQ6 {mask:List Bool}:kZ3 mask gNil:=fun v τ G Q ⟨e,q⟩=>⟨e,q,rfl,fun _ _=>rfl⟩
theorem jZd {mask:List Bool} {t:TG3} {u:TGs3} (h1:qJ5 mask t) (mono:∀v τ G Q Q',(∀a b,Q a b->Q' a b)->t v τ G Q->t v τ G Q') (h2:kZ3 mask u) (mono2:∀v τ G Q Q',(∀a b,Q a b->Q' a b)->u v τ G Q->u v τ G Q'):kZ3 mask (jKt t u):=fun vs τ G Q ⟨v,r,e,q⟩=>by
 refine⟨v,r,e,mono _ _ _ _ _ (fun τ2 G2 ⟨z,l1,k1⟩=> ?_) (h1 _ _ _ _ q)⟩
 exact mono2 _ _ _ _ _ (fun τ3 G3 ⟨z3,l3,k3⟩=>⟨z3,l3.trans l1,fun i hi=>(k3 i hi).trans (k1 i hi)⟩) (h2 _ _ _ _ z)
theorem jVt {i:Nat}:∀v τ G (Q Q':St3->Gp->Prop),(∀a b,Q a b->Q' a b)->jJi i v τ G Q->jJi i v τ G Q':=fun _ _ _ _ _ h q=>h _ _ q
theorem kQe:∀v τ G (Q Q':St3->Gp->Prop),(∀a b,Q a b->Q' a b)->gNil v τ G Q->gNil v τ G Q':=fun _ _ _ _ _ h q=>⟨q.1,h _ _ q.2⟩
theorem kYb {t:TG3} {u:TGs3} (m1:∀v τ G (Q Q':St3->Gp->Prop),(∀a b,Q a b->Q' a b)->t v τ G Q->t v τ G Q') (m2:∀v τ G (Q Q':St3->Gp->Prop),(∀a b,Q a b->Q' a b)->u v τ G Q->u v τ G Q'):
  ∀v τ G (Q Q':St3->Gp->Prop),(∀a b,Q a b->Q' a b)->jKt t u v τ G Q->jKt t u v τ G Q':=fun _ _ _ _ _ h ⟨v,r,e,q⟩=>⟨v,r,e,m1 _ _ _ _ _ (fun _ _ z=>m2 _ _ _ _ _ h z) q⟩
theorem qQ5 {mask:List Bool} {n:Nat} {u:TGs3} (h:kZ3 mask u):qJ5 mask (gTup n u):=fun v τ G Q ⟨xs,e,l,q⟩=>⟨xs,e,l,h _ _ _ _ q⟩
theorem qV7 {mask:List Bool} {τ τ2:St3} (hl:mask.length=τ.length) (l:τ2.length=(msk mask τ).length) (h:∀i:Nat,mask[i]? ≠some true->τ2[i]? =(msk mask τ)[i]?):msk mask τ2=msk mask τ:=by
 have ll:=jZa hl
 apply lQp
 intro i
 unfold msk at h ⊢
 rw[lVz,lVz]
 cases hm:mask[i]? with
 | none=>rfl
 | some b=>
  cases b with
  | true=>
   have h1:i<mask.length:=by
    rcases lKe i mask.length with z | z
    ·exact z
    ·rw[lJ6 z] at hm;cases hm
   have h2:i<τ2.length:=by omega
   have h3:i<τ.length:=by omega
   rw[lJi h2,lJi h3]
   simp
  | false=>
   have:=h i (by rw[hm];simp)
   rw[lVz,hm] at this
   rw[this]
   cases τ[i]? with
   | none=>rfl
   | some o=>simp
def kXh (mask:List Bool) (g:TG3) (tif:TT3) (te:TE3) (τ:St3) (xs:List T) (stay:Gp->Prop) (G:Gp) (Q:VK3):Prop:=
 ∀D,G D=none->∃P:Nat->List T->Gp->Prop,P 0 [] (gup G D (.lst []))/\(∀i acc G,i<=xs.length->P i acc G->stay G/\G D=some (.lst acc))/\
  (∀i x acc G,xs[i]? =some x->P i acc G->g x (msk mask τ) G fun τ2 G2=>tif τ2 G2 fun b G3=>if b=true then te τ2 G3 fun y G4=>G4 D=some (.lst acc)/\acc.length<sizeLine/\P (i+1) (acc++[y]) (gup G4 D (.lst (acc++[y]))) else P (i+1) acc G3)/\
  ∀acc G,P xs.length acc G->Q (.ref D) G
def jUs (mask:List Bool) (wi:TI3) (g:TG3) (tif:TT3) (te:TE3):TE3:=fun τ G Q=>wi τ G fun xs stay G1=>kXh mask g tif te τ xs stay G1 Q
section
variable {X:Cx} {scope:Scope} {cl:List (Str×Addr)} {mask:List Bool} {elt iter tg:Expr} {ifs:List Expr} {pos:Pos} {wi:TI3} {g:TG3} {tif:TT3} {te:TE3}
theorem kQg (hc:X.calm=true) (ok:CmpOk X scope cl mask)
  (hgk:qJ5 mask g) (hg:∀C fp s H,PG3 (jVb X scope cl C fp s H) tg g) (hif:∀C fp s H,PIf3 (jVb X scope cl C fp s H) ifs tif) (he:∀C fp s H,PE3 (jVb X scope cl C fp s H) elt te)
  {pins:List (Addr×Obj)} {τ:St3} {H:Hp} {Q:VK3} {itv:Value} {s2:Shared} {E:Value->Shared->Prop} {RR:Value->Addr->Result->Shared->Prop}
  (h2:PIE3 X pins τ H tg (fun xs stay G=>kXh mask g tif te τ xs stay G Q) itv s2)
  (hRR:∀D C s' m,s'.heap.Ns C m->(∃G1 H1,Ext H H1/\H1 C=none/\Q (.ref D) G1/\∀h',Heap.SameBut C s'.heap h'->Inv3 X pins τ G1 H1 {s' with heap:=h'})->(∃oC,s'.heap.get? C=some oC/\C≠X.env.locals/\C∉X.fs/\∀v,oC.data≠ .cell v)->(∀x c,X.env.cells.lookup x=some c->c≠C)->(∀p∈X.pn++pins,p.1≠C)->X.s₀.heap.objs.size<=C->RR (.ref D) C (.ok .next) s'):
  wpAny (model X.prog X.w) X.A (newList []) (fun acc s₃=>wpAny (model X.prog X.w) X.A (newFunctionEnv scope X.env.globals cl [] X.env.qual none .none (some X.env)) (fun cenv s₄=>
   codeAny (model X.prog X.w) X.A (.compStart (.ListComp elt [⟨tg,iter,ifs,0⟩] scope pos) 0 itv acc {cenv with scope:=relabel scope X.env}) (RR acc cenv.locals) s₄) E s₃) E s2:=by
 obtain⟨it,fp,tn,J,xs,stay,G2,H2,e,eH,⟨σ,I2,hs2,hg2⟩,T0,st2,f2,IT,hq⟩:=h2
 subst e
 refine lK7 (wpAny_newFunctionEnv ok.nc (by intro y hy;simp at hy) (fun h4 hns hsb=> ?_) ok.kind)
 dsimp only at hns hsb ⊢
 have hD:H2 s2.heap.objs.size=none:=I2.hok.fresh (lJf _)
 generalize hs3:({s2 with heap:=s2.heap.push {cls:= .type "list",dict:=none,data:= .seq ([]:List Value).toArray} }:Shared)=s3
 have eh3:s2.heap.push {cls:= .type "list",dict:=none,data:= .seq ([]:List Value).toArray}=s3.heap:=by rw[<-hs3]
 have I3:Inv X pins σ (upd H2 s2.heap.objs.size (.lst [])) s3:=by
  rw[<-hs3]
  exact I2.laid (t':=s2.toks) (fun b u e=>lJl _ e) (lJf _) ⟨lJ2 _,[],0,.nil,lJz _ rfl⟩
 rw[eh3] at hns hsb ⊢
 generalize hDd:s2.heap.objs.size=D at *
 have e3:Ext H2 (upd H2 D (.lst [])):= .upd (.none hD)
 have hg3:GRel X.K (upd H2 D (.lst [])) (gup G2 D (.lst [])):=hg2.lstNew (show Reps X.K H2 [] [] from rfl) (.none hD)
 have obj2:∀b∈fp,∃o,s2.heap.get? b=some o:=fun b hb=>let ⟨o,e,_⟩:=T0.obj 0 _ st2 b hb;⟨o,e⟩
 have fD:∀b∈fp,b≠D:=fun b hb=>by obtain⟨o,e⟩:=obj2 b hb;rw[<-hDd];exact lJn (lJh e)
 have f3:∀b∈fp,FpOk X pins (upd H2 D (.lst [])) b:=fun b hb=>⟨by rw[jJx (fD b hb)];exact (f2 b hb).1,(f2 b hb).2⟩
 have k3:∀b o,s2.heap.get? b=some o->s3.heap.get? b=some o:=fun b o e=>by rw[<-eh3];exact lJl _ e
 have obj3:∀b∈fp,∃o,s3.heap.get? b=some o:=fun b hb=>let ⟨o,e⟩:=obj2 b hb;⟨o,k3 b o e⟩
 have k4:∀b o,s3.heap.get? b=some o->h4.get? b=some o:=fun b o e=>hsb.extBut b o (lJn (lJh e)) (lJl _ e)
 have Ic:Inv (jVb X scope cl s3.heap.objs.size fp s3 (upd H2 D (.lst []))) [] (msk mask σ) (upd H2 D (.lst [])) {s3 with heap:=h4,toks:=s3.toks+([]:List (Str×Value)).length}:=qUv ok I3 f3 obj3 hns k4
 have st4:tn 0 h4:=T0.keep _ _ _ st2 fun b _ o e=>k4 b o (k3 b o e)
 have hl3:mask.length=τ.length:=ok.len.trans (I3.len.symm.trans hs2.1)
 obtain⟨P,p0,hst,turn,fin⟩:=hq D (hg2.fresh hD)
 have fpc:∀ {H':Hp} {pl:List (Addr×Obj)},(∀b∈fp,H' b=none)->(∀p∈pl,p.1∉fp)->∀b∈fp,FpOk (jVb X scope cl s3.heap.objs.size fp s3 (upd H2 D (.lst []))) pl H' b:=fun {H' pl} hn hp b hb=>by
  obtain⟨o,e⟩:=obj3 b hb
  refine⟨hn b hb,lJn (lJh e),?_,.inl hb,fun x d hd=>(f3 b hb).2.2.2.2.1 x d (jZ5 ok.cl (by simp) _ _ hd),fun p hpp z=> ?_⟩
  ·intro z
   rcases lJj.mp (I3.stkSub b z) with q | q
   ·exact (f3 b hb).2.1 q
   ·exact (f3 b hb).2.2.1 q
  ·have hpp':p∈pl:=by simpa[jVb] using hpp
   exact hp p hpp' (z▸hb)
 have loop:∀s4:Shared,s4={s3 with heap:=h4,toks:=s3.toks+([]:List (Str×Value)).length}->
   codeAny (model X.prog X.w) X.A (.compLoop (.ListComp elt [⟨tg,iter,ifs,0⟩] scope pos) 0 (.ref it) (.ref D) (compEnvC scope cl s3.heap.objs.size X.env)) (RR (.ref D) s3.heap.objs.size) s4:=by
  rintro s4 rfl
  refine qUu (fun n s'=>∃i acc G' H',n=xs.length-i/\i<=xs.length/\Ext H2 H'/\Inv3 (jVb X scope cl s3.heap.objs.size fp s3 (upd H2 D (.lst []))) [] (msk mask τ) G' H' s'/\tn i s'.heap/\(∀b∈fp,H' b=none)/\P i acc G') ?_ xs.length
   ⟨0,[],_,_,rfl,lJ2 _,e3,⟨_,Ic,qQj (hs2.mono e3) hl3,hg3⟩,st4,fun b hb=>(f3 b hb).1,p0⟩
  rintro n s5 ⟨i,acc,G5,H5,en,hi5,e5,⟨σ5,I5,hs5,hg5⟩,st5,fr5,p5⟩
  obtain⟨hstay,hacc⟩:=hst i acc G5 hi5 p5
  obtain⟨go,stop,yl⟩:=IT i H5 G5 e5 hg5 hstay
  by_cases hlt:i<xs.length
  ·refine thn (T0.item (jVb X scope cl s3.heap.objs.size fp s3 (upd H2 D (.lst []))) rfl rfl rfl hc i [] s5 σ5 H5 (fun _ _=>False) I5 (fpc fr5 (by simp)) st5 (go hlt)) fun r s6 ⟨u,hr,h6⟩=> ?_
   subst hr
   refine thn h6 fun _ s7 ⟨x,H7,I7,r7,y7,st7,fr7⟩=> ?_
   obtain⟨e7,g7,t,ht,rt⟩:=yl hlt x H7 y7
   have I7':=I7.pinned (fpc fr7 (by simp)) (T0.obj _ _ st7)
   refine thn (hg _ _ _ _ ([]++jXw fp s7.heap) s7 (msk mask τ) G5 H7 t u _ ⟨σ5,I7',hs5.mono e7,g7⟩ ⟨x,rt,r7⟩ (hgk _ _ _ _ (turn i t acc G5 ht p5))) fun _ s8 ⟨τ8,G8,H8,e8,I8,q8,ql8,qk8⟩=> ?_
   refine thn (hif _ _ _ _ ([]++jXw fp s7.heap) s8 τ8 G8 H8 _ I8 q8) fun b s9 ⟨G9,H9,e9,I9,q9⟩=> ?_
   have back:∀ {Ga:Gp} {Ha:Hp} {sa:Shared} {acc':List T},Ext H7 Ha->Inv3 (jVb X scope cl s3.heap.objs.size fp s3 (upd H2 D (.lst []))) ([]++jXw fp s7.heap) τ8 Ga Ha sa->P (i+1) acc' Ga->
     ∃m,m<n/\∃i acc G' H',m=xs.length-i/\i<=xs.length/\Ext H2 H'/\Inv3 (jVb X scope cl s3.heap.objs.size fp s3 (upd H2 D (.lst []))) [] (msk mask τ) G' H' sa/\tn i sa.heap/\(∀b∈fp,H' b=none)/\P i acc G':=by
    rintro Ga Ha sa acc' ea ⟨σa,Ia,hsa,hga⟩ pa
    have e2a:Ext H5 Ha:=e7.trans ea
    have hla:mask.length=τ8.length:=by rw[ql8,jZa hl3];exact hl3
    have hsm:=qQj (mask:=mask) hsa hla
    rw[qV7 hl3 ql8 qk8] at hsm
    refine⟨xs.length-(i+1),by omega,i+1,acc',Ga,Ha,rfl,hlt,e5.trans e2a,⟨msk mask σa,(Ia.weak (jZa (hla.trans hsa.1.symm)) fun j v hv=>(kX3 hv).2).pins_of (fun p hp=>absurd hp (by simp)),hsm,hga⟩,?_,fun b hb=> ?_,pa⟩
    ·exact T0.keep _ _ _ st7 fun b hb o e=>(Ia.pin (b,o) (lKu _ (lKu _ (jXl hb e)))).1
    ·obtain⟨o,e,d⟩:=T0.obj _ _ st7 b hb
     exact (Ia.pin (b,o) (lKu _ (lKu _ (jXl hb e)))).2.1
   cases b with
   | false=>
    rw[lJb lJk] at q9 ⊢
    exact back (e8.trans e9) I9 q9
   | true=>
    rw[lJc rfl] at q9 ⊢
    refine thn (he _ _ _ _ ([]++jXw fp s7.heap) s9 τ8 G9 H9 _ I9 q9) fun y s10 w_=>w_.el fun ty G10 H10 e10 I10 r10 ⟨hD10,hz10,q10⟩=> ?_
    obtain⟨vy,rvy,ruy⟩:=r10
    refine thn (jK0 ([]++jXw fp s7.heap) s10 τ8 G10 H10 (.ref D) [ty] (.ref D) [y] (fun _ G'=>P (i+1) (acc++[ty]) G') I10 ⟨.ref D,rfl,rfl⟩ ⟨[vy],.one rvy,.cons ruy .nil⟩ ⟨D,acc,ty,rfl,rfl,hD10,hz10,q10⟩) fun _ s11 w_=>w_.el fun _ G11 H11 e11 I11 _ q11=> ?_
    exact back (((e8.trans e9).trans e10).trans e11) I11 q11
  ·have ei:i=xs.length:=by omega
   refine thn (T0.done (jVb X scope cl s3.heap.objs.size fp s3 (upd H2 D (.lst []))) rfl rfl rfl hc i [] s5 σ5 H5 (fun _ _=>False) I5 (fpc fr5 (by simp)) st5 (stop (by omega))) fun r s6 ⟨hr,I6⟩=> ?_
   subst hr;subst ei
   obtain⟨m,hn,_⟩:=I6.loc
   obtain⟨oC,es,ep,hoC,hdC,_⟩:=id hn
   refine hRR D s3.heap.objs.size s6 m hn ⟨G5,H5,eH.trans e5,I6.free,fin acc G5 p5,fun h' hb=>⟨σ,uJb I3 f3 (lJf _) I6 hb,hs2.mono e5,hg5⟩⟩
    ⟨oC,hoC,lQr I3.lt,I3.nofs (lJf _),fun v z=>by rw[hdC] at z;cases z⟩ (fun x d hd=> ?_) (fun p hp=> ?_) I3.sz
   ·obtain⟨v,q⟩:=I3.cell x d hd
    exact lJn q.lt
   ·exact lJn (lJh (I3.pin p hp).1)
 exact codeAny_compStart_list (loop _ (by rw[<-hs3])) (T0.self _ 0 _ _ _ st4 (loop _ (by rw[<-hs3])))
theorem jVw (hc:X.calm=true) (ok:CmpOk X scope cl mask) (hi:PI3 X tg iter wi) (hgk:qJ5 mask g) (hg:∀C fp s H,PG3 (jVb X scope cl C fp s H) tg g) (hif:∀C fp s H,PIf3 (jVb X scope cl C fp s H) ifs tif) (he:∀C fp s H,PE3 (jVb X scope cl C fp s H) elt te)
  (hs:∀x,foldedSetIterable iter X.env x=pure x:=by intro _;rfl):PE3 X (.ListComp elt [⟨tg,iter,ifs,0⟩] scope pos) (jUs mask wi g tif te):=by
 intro pins s τ G H Q I h
 rw[eval_ListComp]
 refine wpAny_comprehension_free (use:=none) rfl hs (kQh ok.cl) ok.kind ok.nm (thn (hi pins s τ G H _ I h) fun xv s1 h1=>thn h1 fun itv s2 h2=> ?_)
 refine kQg (RR:=fun acc C=>compPost (model X.prog X.w) X.A X.xe none (EP3 X pins τ H Q) acc C) hc ok hgk hg hif he h2 ?_
 rintro D C s' m hn ⟨G1,H1,e1,_,q1,hI⟩ _ _ _ _
 exact⟨m,hn,fun h' hb=>⟨.ref D,G1,H1,e1,hI h' hb,⟨.ref D,rfl,rfl⟩,q1⟩⟩
theorem kK4 {i:Nat} {y:Str} {py spos:Pos} (hc:X.calm=true) (hN:X.N.Nodup) (ok:CmpOk X scope cl mask) (hi:PI3 X tg iter wi) (hgk:qJ5 mask g) (hg:∀C fp s H,PG3 (jVb X scope cl C fp s H) tg g) (hif:∀C fp s H,PIf3 (jVb X scope cl C fp s H) ifs tif) (he:∀C fp s H,PE3 (jVb X scope cl C fp s H) elt te)
  (hy:X.N[i]? =some y:=by rfl) (hx:X.env.scope.names.lookup y=some .local:=by rfl)
  (hsw:swapsWith (.ListComp elt [⟨tg,iter,ifs,0⟩] scope pos) (some (.Name y py)) spos.line X.env=pure true:=by rfl)
  (hs:∀x,foldedSetIterable iter X.env x=pure x:=by intro _;rfl):PS3 X (.Assign [.Name y py] (.ListComp elt [⟨tg,iter,ifs,0⟩] scope pos) spos) (tAsg (jUs mask wi g tif te) (jJi i)):=by
 intro pins s τ G H D I h
 rw[exec_Assign_Name_used _ _ _ _ hsw];refine lJa (wpAny_standAt (lJa ?_))
 show wpAny _ X.A (do let _ <-comprehension (.ListComp elt [⟨tg,iter,ifs,0⟩] scope pos) scope X.env _ (newList []) false (eval iter X.env) (some (assign (.Name y py) X.env))) _ _ s
 refine lJa (lKs (wpAny_comprehension_free (use:=some (assign (.Name y py) X.env)) (Q:=fun _ s'=>SP3 X pins H D .next s') rfl hs (kQh ok.cl) ok.kind ok.nm
  (thn (hi pins s τ G H _ I h) fun xv s1 h1=>thn h1 fun itv s2 h2=> ?_)) (fun _ s' hq=>lJd (lJd hq)) fun _ _ e=>e)
 refine kQg (RR:=fun acc C=>compPost (model X.prog X.w) X.A X.xe (some (assign (.Name y py) X.env)) (fun _ s'=>SP3 X pins H D .next s') acc C) hc ok hgk hg hif he h2 ?_
 rintro Dd C s' m hn ⟨G1,H1,e1,hH1C,q1,hI⟩ ⟨oC,hoC,c1,c2,c3⟩ c4 c5 c6
 show wpAny _ X.A (assign (.Name y py) X.env (.ref Dd)) _ _ _
 obtain⟨σ1,I1,hs1,hg1⟩:=hI s'.heap (.refl ..)
 have I1':Inv X (pins++[(C,oC)]) σ1 H1 s':=I1.pins_of fun p hp=>(lKt.mp hp).elim (fun z=>I1.pin p (lKu _ z)) fun z=>by
  obtain rfl:p=(C,oC):=by simpa using z
  exact⟨hoC,hH1C,c1,c2,c3⟩
 refine wpAny_assign_Name (jUm I1' hN hy (.inl hx) (v:= .ref Dd) rfl (fun s2 I2=> ?_) (.inr hx))
 have hC2:s2.heap.get? C=some oC:=(I2.pin (C,oC) (lKu _ (lKu _ (by simp)))).1
 obtain⟨oC',es,ep,hoC',r⟩:=hn
 have eo:oC'=oC:=by rw[hoC] at hoC';exact (lJq hoC').symm
 subst eo
 refine⟨m,⟨oC',es,ep,hC2,r⟩,fun h' hb=>⟨_,G1,H1,e1,⟨_,?_,hs1.set i (show Rep X.K H1 (.ref Dd) (.ref Dd) from rfl),hg1⟩,q1⟩⟩
 exact I2.unpinned.turned (t':=s2.toks) (fun b o hb' e=>(hb.2 b hb').trans e) hH1C c1 (.inr c6) c4 c5
end
end L3
namespace HT
open PySem PyProof.Rows
def lexLe:(xs ys:List Int)->Bool
 | [],_=>true
 | _::_,[]=>false
 | x::xs,y::ys=>if x=y then lexLe xs ys else decide (x<=y)
theorem lexLe_cons (x y:Int) (xs ys:List Int):lexLe (x::xs) (y::ys)=if x=y then lexLe xs ys else decide (x<=y):=rfl
theorem lexLe_nil (ys:List Int):lexLe [] ys=true:=by cases ys<;>rfl
theorem kKt (x:Int) (xs:List Int):lexLe (x::xs) []=false:=rfl
theorem qVr (A:Around) (s:Shared) (a:Int) (t:Tok) (c:Int) (u:Tok) (prog:Program) (w:World) (E:Value->Shared->Prop) (Q:Value->Shared->Prop) (h:Q (.bool (decide (a<=c))) s):
  wpAny (model prog w) A (richCompare .LtE (.int a t) (.int c u)) Q E s:=
 (PyProof.Rows.le_int h:wpAny (model prog w) A (compareOp .LtE (.int a t) (.int c u)) Q E s)
section
open PySem.SeqAt
open PySem.AutoSeq1 (wpAny_loadPart')
open PySem.MeetsSeq PySem.MeetsSeq2 PySem.MeetsSeq3
theorem kQl (l b:Addr) (items items2:Array Value) (n n2:Nat) (dd dd2:Option Addr) (sl sl2:Array (Option Value)) (ns ms:List Int) (hi:IntsAre items.toList ns) (hj:IntsAre items2.toList ms):
  Meets (Builtin.«tuple.__le__» ⟨[.ref l,.ref b],[]⟩)
   (fun _ R s=>s.heap.get? l=some {cls:= .type "tuple",dict:=dd,data:= .seq items n,slots:=sl}/\s.heap.get? b=some {cls:= .type "tuple",dict:=dd2,data:= .seq items2 n2,slots:=sl2}/\
    R (.ok (.ret (.bool (lexLe ns ms)))) s):=
 .of_wp fun prog w A R s h=>by
  obtain⟨hp,g,d,tk,os⟩:=s;obtain⟨hl,hb,h⟩:=h
  have f2:=AutoSeq1.sub_tuple_tuple
  have z1:items.size=ns.length:=by rw[<-hi.length];simp
  have z2:items2.size=ms.length:=by rw[<-hj.length];simp
  wp_walk using wpAny_loadPart' hl,wpAny_loadPart' hb,wpAny_forIn_list _ (fun rest b s'=>b.1=none/\s'=⟨hp,g,d,tk,os⟩/\∃(vs ws:List Value) (ns' ms':List Int),rest=vs.zip ws/\
   IntsAre vs ns'/\IntsAre ws ms'/\ns'.length+items2.size=ms'.length+items.size/\R (.ok (.ret (.bool (lexLe ns' ms')))) ⟨hp,g,d,tk,os⟩) _
  case turn=>
   rintro⟨y,x⟩ rest b s' ⟨hb',rfl,vs,ws,ns',ms',hz,hvi,hwi,hlen,hR⟩
   cases hvi with
   | nil=>rw[List.zip_nil_left] at hz;cases hz
   | cons a t hvi'=>
    cases hwi with
    | nil=>rw[List.zip_nil_right] at hz;cases hz
    | cons c u hwi'=>
     rw[List.zip_cons_cons] at hz
     injection hz with hyx hrest
     injection hyx with hy hx
     subst hy hx
     rw[lexLe_cons] at hR
     simp only[lKn] at hlen
     obtain⟨e,he,hiff⟩:=qXv A.in1 ⟨hp,g,d,tk,os⟩ a t c u
     refine lJa (he prog w _ _ ?_)
     cases e with
     | true=>
      rw[lJc (hiff.mp rfl)] at hR
      wp_walk
      exact⟨rfl,rfl,_,_,_,_,hrest,hvi',hwi',by omega,hR⟩
     | false=>
      rw[lJb (fun q=>absurd (hiff.mpr q) lJk)] at hR
      have hri:=qVr A.in1 ⟨hp,g,d,tk,os⟩ a t c u prog w
      wp_walk using hri
      exact⟨_,rfl,by simpa using hR⟩
  case fin=>
   rintro⟨b1,b2⟩ s' ⟨hb',rfl,vs,ws,ns',ms',hz,hvi,hwi,hlen,hR⟩
   simp only at hb'
   subst hb'
   have hv:lexLe ns' ms'=decide (items.size<=items2.size):=by
    cases hvi with
    | nil=>
     simp only[List.length_nil] at hlen
     rw[lexLe_nil]
     exact (lK9 (by omega)).symm
    | cons a t hv=>
     cases hwi with
     | nil=>
      simp only[List.length_nil,lKn] at hlen
      rw[kKt]
      exact (lJo (by omega)).symm
     | cons c u hw=>
      rw[List.zip_cons_cons] at hz
      cases hz
   rw[hv] at hR
   wp_walk
   exact⟨_,rfl,by simpa[Builtin.Tuple.tupleCompareSizes] using hR⟩
  case h=>
   exact⟨rfl,rfl,items.toList,items2.toList,ns,ms,rfl,hi,hj,by omega,h⟩
end
theorem le_tupInts {prog:Program} {w:World} {A:Around} {E:Value->Shared->Prop} {s:Shared} {l b:Addr} {items items2:Array Value} {ns ms:List Int} {Q:Value->Shared->Prop} (hl:IsTup s.heap l items) (hb:IsTup s.heap b items2) (hi:IntsAre items.toList ns) (hj:IntsAre items2.toList ms)
  (hu:A.units<cLine) (h:Q (.bool (lexLe ns ms)) s):wpAny (model prog w) A (compareOp .LtE (.ref l) (.ref b)) Q E s:=by
 obtain⟨⟨cls,dd,data,sl⟩,ho,hc,n,hd⟩:=id hl
 obtain⟨⟨cls2,dd2,data2,sl2⟩,ho2,hc2,n2,hd2⟩:=id hb
 simp only at hc hd hc2 hd2
 subst hc hd hc2 hd2
 exact richCompare_meets_room (op:= .LtE) ⟨_,ho,rfl⟩ ⟨_,ho2,rfl⟩ PySem.F.slot_tuple_le PySem.F.entry_tuple_le (PySem.F.args_tuple_le_2 _ _) (kQl l b items items2 n n2 dd dd2 sl sl2 ns ms hi hj)
  ⟨ho,ho2,show Value.bool (lexLe ns ms)≠Value.notImplemented/\Q (.bool (lexLe ns ms)) s from⟨(fun x=>nomatch x),h⟩⟩ hu
end HT
namespace L3
open PySem PySem.Spec PyProof.Rows L2
section
variable {X:Cx}
theorem jU5 {K:PySem.W.Frag} {H:Hp}:∀ {ns:List Int} {vs:List V},Reps K H (ns.map T.int) vs->vs=ns.map V.int
 | [],_,h=>h
 | n::ns,_,⟨v,ws,e,r,rs⟩=>by
  subst e;cases (show v= .int n from r)
  rw[jU5 rs];rfl
def rLeT:R3:=fun x y G Q=>∃ns ms,x= .tup (ns.map T.int)/\y= .tup (ms.map T.int)/\Q (.bl (HT.lexLe ns ms)) G
theorem o_leT (hu:X.A.units<cLine):Op3 X (compareOp .LtE) rLeT:=by
 rintro pins s τ G H x y v u Q ⟨σ,I,hs,hg⟩ ⟨a,ra,rv⟩ ⟨b,rb,ru⟩ ⟨ns,ms,ex,ey,q⟩
 subst ex;subst ey
 obtain⟨p,vs,e1,h1,h2⟩:=(show ∃p vs,a= .ref p/\H p=some (.tup vs)/\Reps X.K H (ns.map T.int) vs from ra)
 obtain⟨p',ws,e2,h3,h4⟩:=(show ∃p vs,b= .ref p/\H p=some (.tup vs)/\Reps X.K H (ms.map T.int) vs from rb)
 subst e1;subst e2
 cases rv;cases ru
 rw[jU5 h2] at h1
 rw[jU5 h4] at h3
 obtain⟨its,r1,p1,_⟩:=I.tuple (.of h1)
 obtain⟨its2,r2,p2,_⟩:=I.tuple (.of h3)
 exact HT.le_tupInts p1 p2 (show IntsAre its.toArray.toList ns from kQc r1) (show IntsAre its2.toArray.toList ms from kQc r2) hu ⟨.bl _,G,H,.refl H,⟨σ,I,hs,hg⟩,⟨.bl _,rfl,rfl⟩,q⟩
def rLeI:R3:=rI0 fun i j=> .bl (decide (i<=j))
def rLeA:R3:=fun x y G Q=>rLeI x y G Q\/rLeT x y G Q
theorem o_leA (hu:X.A.units+20<cLine):Op3 X (compareOp .LtE) rLeA:=o_le.or (o_leT (by omega))
theorem qUg {G:Gp} {x y:T} {b:Bool} (h:eqG G x y=some b):
  (∃p q xs ys,x= .ref p/\y= .ref q/\G p=some (.lst xs)/\G q=some (.lst ys)/\kJ5 xs=true/\kJ5 ys=true/\b=eqTs xs ys)\/(eqOk x=true/\eqOk y=true/\b=eqT x y):=by
 by_cases hr:∃p q,x= .ref p/\y= .ref q
 ·obtain⟨p,q,ex,ey⟩:=hr
  subst ex;subst ey
  refine .inl ?_
  simp only[eqG] at h
  split at h
  ·rename_i xs ys h1 h2
   split at h
   ·rename_i hc
    cases h
    exact⟨p,q,xs,ys,rfl,rfl,h1,h2,hc.1,hc.2,rfl⟩
   ·cases h
  ·cases h
 ·refine .inr ?_
  have e:eqG G x y=if eqOk x=true/\eqOk y=true then some (eqT x y) else none:=by
   cases x with
   | ref p=>cases y with
    | ref q=>exact absurd ⟨p,q,rfl,rfl⟩ hr
    | _=>rfl
   | _=>rfl
  rw[e] at h
  split at h
  ·rename_i hc
   cases h
   exact⟨hc.1,hc.2,rfl⟩
  ·cases h
mutual
theorem kQy {X:Cx} {pins:List (Addr×Obj)} {σ:L2.St} {H:Hp} {s:Shared} (I:Inv X pins σ H s):∀(x:T) {a:V} {u:Value},tree x=true->Rep X.K H x a->RelV a u->∃as,Reads s.heap u (td x) as
 | .non,a,u,_,r,q=>by cases (show a= .non from r);cases q;exact⟨_,.none⟩
 | .bl b,a,u,_,r,q=>by cases (show a= .bl b from r);cases q;exact⟨_,.bool b⟩
 | .int b,a,u,_,r,q=>by cases (show a= .int b from r);obtain⟨t,rfl⟩:=q;exact⟨_,.int b t⟩
 | .str b,a,u,_,r,q=>by cases (show a= .str b from r);obtain⟨t,rfl⟩:=q;exact⟨_,.str b t⟩
 | .tup xs,a,u,ht,r,q=>by
  obtain⟨p,vs,e1,h1,h2⟩:=(show ∃p vs,a= .ref p/\H p=some (.tup vs)/\Reps X.K H xs vs from r)
  subst e1;cases q
  obtain⟨its,rv,⟨o,ho,hc,n,hd⟩,_⟩:=I.tuple (.of h1)
  obtain⟨as,ra⟩:=jYl I xs (show jQ0 xs=true from ht) h2 rv
  exact⟨_,.tuple ho hc hd (by simpa using ra)⟩
 | .ref _,_,_,ht,_,_=>absurd (show false=true from ht) lJk
 | .scr _,_,_,ht,_,_=>absurd (show false=true from ht) lJk
 | .ty _,_,_,ht,_,_=>absurd (show false=true from ht) lJk
theorem jYl {X:Cx} {pins:List (Addr×Obj)} {σ:L2.St} {H:Hp} {s:Shared} (I:Inv X pins σ H s):∀(xs:List T) {vs:List V} {us:List Value},jQ0 xs=true->Reps X.K H xs vs->Vals vs us->∃as,ReadsAll s.heap us (tds xs) as
 | [],_,_,_,r,q=>by cases r;cases q;exact⟨_,.nil⟩
 | x::xs,_,_,ht,⟨v,ws,e,r1,r2⟩,q=>by
  subst e
  cases q with
  | cons q1 q2=>
   have hx:tree x=true/\jQ0 xs=true:=by simpa[jQ0] using ht
   obtain⟨as,ra⟩:=kQy I x hx.1 r1 q1
   obtain⟨bs,rb⟩:=jYl I xs hx.2 r2 q2
   exact⟨_,.cons ra rb⟩
end
mutual
theorem eqv_T:∀(x y:T),tree x=true->tree y=true->PyData.eqv (td x) (td y)=eqT x y
 | .non,y,_,hy=>by cases y<;>first | rfl | exact absurd (show false=true from hy) lJk
 | .bl b,y,_,hy=>by cases y<;>first | rfl | exact absurd (show false=true from hy) lJk
 | .int b,y,_,hy=>by cases y<;>first | rfl | exact absurd (show false=true from hy) lJk
 | .str b,y,_,hy=>by cases y<;>first | rfl | exact absurd (show false=true from hy) lJk
 | .tup xs,y,hx,hy=>by
  cases y with
  | tup ys=>exact qUe xs ys (show jQ0 xs=true from hx) (show jQ0 ys=true from hy)
  | _=>first | rfl | exact absurd (show false=true from hy) lJk
 | .ref _,_,ht,_=>absurd (show false=true from ht) lJk
 | .scr _,_,ht,_=>absurd (show false=true from ht) lJk
 | .ty _,_,ht,_=>absurd (show false=true from ht) lJk
theorem qUe:∀(xs ys:List T),jQ0 xs=true->jQ0 ys=true->PyData.eqvAll (tds xs) (tds ys)=eqTs xs ys
 | [],[],_,_=>rfl
 | [],_::_,_,_=>rfl
 | _::_,[],_,_=>rfl
 | x::xs,y::ys,hx,hy=>by
  have hx':tree x=true/\jQ0 xs=true:=by simpa[jQ0] using hx
  have hy':tree y=true/\jQ0 ys=true:=by simpa[jQ0] using hy
  show (PyData.eqv (td x) (td y)&&PyData.eqvAll (tds xs) (tds ys))=(eqT x y&&eqTs xs ys)
  rw[eqv_T x y hx'.1 hy'.1,qUe xs ys hx'.2 hy'.2]
end
theorem kZq {pins:List (Addr×Obj)} {σ:L2.St} {H:Hp} {s:Shared} {G:Gp} {x y:T} {a b:V} {u v:Value} {k:Bool} (I:Inv X pins σ H s) (hg:GRel X.K H G) (ra:Rep X.K H x a) (rb:Rep X.K H y b) (ru:RelV a u) (rv:RelV b v) (h:eqG G x y=some k):
  ∃da db as bs,Reads s.heap u da as/\Reads s.heap v db bs/\da.canLay0=true/\db.canLay0=true/\da.depth<=50/\PyData.eqv da db=k:=by
 rcases qUg h with ⟨p,q,xs,ys,ex,ey,hp,hq,ox,oy,e⟩ | ⟨ox,oy,e⟩
 ·subst ex;subst ey
  cases (show a= .ref p from ra);cases (show b= .ref q from rb)
  cases ru;cases rv
  obtain⟨vs,h1,h2⟩:=hg.lst hp
  obtain⟨ws,h3,h4⟩:=hg.lst hq
  obtain⟨its,r1,⟨o,n,ho,hc,_,hd⟩,_⟩:=I.list (.of h1)
  obtain⟨its',r2,⟨o',n',ho',hc',_,hd'⟩,_⟩:=I.list (.of h3)
  simp only[kJ5,lKo,lV9] at ox oy
  obtain⟨as,r3⟩:=jYl I xs ox.1.1 h2 r1
  obtain⟨bs,r4⟩:=jYl I ys oy.1.1 h4 r2
  exact⟨.list (tds xs),.list (tds ys),_,_,.list ho hc hd (by simpa using r3),.list ho' hc' hd' (by simpa using r4),ox.1.2,oy.1.2,ox.2,by rw[e];exact qUe xs ys ox.1.1 oy.1.1⟩
 ·simp only[eqOk,lKo,lV9] at ox oy
  obtain⟨as,r3⟩:=kQy I x ox.1.1 ra ru
  obtain⟨bs,r4⟩:=kQy I y oy.1.1 rb rv
  exact⟨td x,td y,_,_,r3,r4,ox.1.2,oy.1.2,ox.2,by rw[e];exact eqv_T x y ox.1.1 oy.1.1⟩
theorem jVy (hu:X.A.units+64<cLine):Op3 X (compareOp .Eq) rEqA:=by
 rintro pins s τ G H x y v u Q ⟨σ,I,hs,hg⟩ ⟨a,ra,rv⟩ ⟨b,rb,ru⟩ ⟨k,hk,q⟩
 obtain⟨da,db,as,bs,r1,r2,c1,c2,d,e⟩:=kZq I hg ra rb rv ru hk
 exact SeqAt.compareEq_reads r1 r2 c1 c2 (by omega) ⟨.bl k,G,H,.refl H,⟨σ,I,hs,hg⟩,⟨.bl k,rfl,by rw[e];rfl⟩,q⟩
theorem qJi (hu:X.A.units+64<cLine):Op3 X (compareOp .NotEq) rNeA:=by
 rintro pins s τ G H x y v u Q ⟨σ,I,hs,hg⟩ ⟨a,ra,rv⟩ ⟨b,rb,ru⟩ ⟨k,hk,q⟩
 obtain⟨da,db,as,bs,r1,r2,c1,c2,d,e⟩:=kZq I hg ra rb rv ru hk
 exact SeqAt.compareNe_reads r1 r2 c1 c2 (by omega) ⟨.bl (!k),G,H,.refl H,⟨σ,I,hs,hg⟩,⟨.bl (!k),rfl,by rw[e];rfl⟩,q⟩
end
section
variable {X:Cx}
def jU2:T->Bool
 | .non=>true
 | .bl _=>true
 | .int _=>true
 | .str _=>true
 | _=>false
theorem jXm {K:PySem.W.Frag} {H:Hp} {x:T} {a:V} (r:Rep K H x a) (f:jU2 x=true):kKw a=true:=by
 cases x with
 | non=>cases (show a= .non from r);rfl
 | bl _=>cases (show a= .bl _ from r);rfl
 | int _=>cases (show a= .int _ from r);rfl
 | str _=>cases (show a= .str _ from r);rfl
 | _=>exact absurd (show false=true from f) lJk
theorem kYd {K:PySem.W.Frag} {H:Hp} {x y:T} {a b:V} (r:Rep K H x a) (q:Rep K H y b) (f:jU2 x=true) (g:jU2 y=true):eqV a b=eqT x y:=by
 cases x with
 | non=>cases (show a= .non from r);cases y with
  | non=>cases (show b= .non from q);rfl
  | bl _=>cases (show b= .bl _ from q);rfl
  | int _=>cases (show b= .int _ from q);rfl
  | str _=>cases (show b= .str _ from q);rfl
  | _=>exact absurd (show false=true from g) lJk
 | bl _=>cases (show a= .bl _ from r);cases y with
  | non=>cases (show b= .non from q);rfl
  | bl _=>cases (show b= .bl _ from q);rfl
  | int _=>cases (show b= .int _ from q);rfl
  | str _=>cases (show b= .str _ from q);rfl
  | _=>exact absurd (show false=true from g) lJk
 | int _=>cases (show a= .int _ from r);cases y with
  | non=>cases (show b= .non from q);rfl
  | bl _=>cases (show b= .bl _ from q);rfl
  | int _=>cases (show b= .int _ from q);rfl
  | str _=>cases (show b= .str _ from q);rfl
  | _=>exact absurd (show false=true from g) lJk
 | str _=>cases (show a= .str _ from r);cases y with
  | non=>cases (show b= .non from q);rfl
  | bl _=>cases (show b= .bl _ from q);rfl
  | int _=>cases (show b= .int _ from q);rfl
  | str _=>cases (show b= .str _ from q);rfl
  | _=>exact absurd (show false=true from g) lJk
 | _=>exact absurd (show false=true from f) lJk
def inT (x:T) (xs:List T):Bool:=xs.any fun y=>eqT y x
theorem jZ3 {K:PySem.W.Frag} {H:Hp} {x:T} {a:V} (r:Rep K H x a) (f:jU2 x=true):∀ {xs:List T} {vs:List V},Reps K H xs vs->xs.all jU2=true->vs.all kKw=true/\inV a vs=inT x xs
 | [],_,h,_=>by cases h;exact⟨rfl,rfl⟩
 | y::ys,_,⟨v,ws,e,r1,r2⟩,g=>by
  subst e
  rw[lQg,lKo] at g
  obtain⟨h1,h2⟩:=jZ3 r f r2 g.2
  refine⟨by rw[lQg,jXm r1 g.1,h1];rfl,?_⟩
  unfold inV inT at h2 ⊢
  rw[lKl,lKl,kYd r1 r g.1 f,h2]
def rInF (neg:Bool):R3:=fun x y G Q=>∃xs,seqT G y=some xs/\jU2 x=true/\xs.all jU2=true/\Q (.bl (if neg then !inT x xs else inT x xs)) G
theorem qQw {neg:Bool} {op:CmpOp} (h:OpR X (compareOp op) (L2.rIn X.K neg)):Op3 X (compareOp op) (rInF neg):=
 Op3.of h fun H G x y a b Q hg ra rb ⟨xs,hx,fx,fs,q⟩=>by
  obtain⟨p,vs,e,hq,r⟩:=jV2 hg rb hx
  obtain⟨h1,h2⟩:=jZ3 ra fx r fs
  exact⟨p,vs,e,hq,jXm ra fx,h1,.bl _,G,.refl H,hg,by rw[h2];rfl,q⟩
theorem o_inF:Op3 X (compareOp .In) (rInF false):=qQw qK3
theorem o_notInF:Op3 X (compareOp .NotIn) (rInF true):=qQw kU8
def kT:Key->T
 | .inl i=> .int i
 | .inr x=> .str x
def jU1:T->Option Key
 | .int i=>some (.inl i)
 | .str x=>some (.inr x)
 | _=>none
def allK {K:Type} (f:T->Option K):List T->Option (List K)
 | []=>some []
 | x::xs=>match f x,allK f xs with
  | some k,some ks=>some (k::ks)
  | _,_=>none
def key1:T->Option K1
 | .tup ts=>(allK jU1 ts).map .inr
 | x=>(jU1 x).map .inl
def key2:T->Option K2
 | .tup ts=>(allK key1 ts).map .inr
 | x=>(jU1 x).map .inl
def jU8:List T->Option TKey:=allK key2
theorem jQn {K:PySem.W.Frag} {H:Hp} {x:T} {a:V} {k:Key} (h:jU1 x=some k) (r:Rep K H x a):a=kV k:=by
 cases x with
 | int i=>cases h;exact r
 | str i=>cases h;exact r
 | non=>cases h
 | bl _=>cases h
 | tup _=>cases h
 | scr _=>cases h
 | ref _=>cases h
 | ty _=>cases h
theorem jZ7 {K:PySem.W.Frag} {H:Hp} {κ:Type} {f:T->Option κ} {R:κ->V->Prop} (hf:∀x k a,f x=some k->Rep K H x a->R k a):∀ {xs:List T} {vs:List V} {ks:List κ},allK f xs=some ks->Reps K H xs vs->Paired R ks vs
 | [],_,_,h,r=>by cases h;cases (show _=[] from r);exact .nil
 | x::xs,_,ks,h,⟨v,ws,e,r1,r2⟩=>by
  subst e
  unfold allK at h
  cases e1:f x with
  | none=>rw[e1] at h;cases h
  | some k=>
   cases e2:allK f xs with
   | none=>rw[e1,e2] at h;cases h
   | some ks'=>
    rw[e1,e2] at h;cases h
    exact .cons (hf _ _ _ e1 r1) (jZ7 hf e2 r2)
theorem qXf {K:PySem.W.Frag} {H:Hp} (x:T) (k:K1) (a:V) (h:key1 x=some k) (r:Rep K H x a):Rk1 H k a:=by
 cases x with
 | tup ts=>
  obtain⟨ks,h1,rfl⟩:=lVi.mp (show (allK jU1 ts).map Sum.inr=some k from h)
  obtain⟨p,vs,e,h3,h4⟩:=(show ∃p vs,a= .ref p/\H p=some (.tup vs)/\Reps K H ts vs from r)
  exact⟨p,vs,e,h3,jZ7 (fun x k a h r=>jQn h r) h1 h4⟩
 | int i=>cases h;exact r
 | str i=>cases h;exact r
 | non=>cases h
 | bl _=>cases h
 | scr _=>cases h
 | ref _=>cases h
 | ty _=>cases h
theorem qXe {K:PySem.W.Frag} {H:Hp} (x:T) (k:K2) (a:V) (h:key2 x=some k) (r:Rep K H x a):Rk2 H k a:=by
 cases x with
 | tup ts=>
  obtain⟨ks,h1,rfl⟩:=lVi.mp (show (allK key1 ts).map Sum.inr=some k from h)
  obtain⟨p,vs,e,h3,h4⟩:=(show ∃p vs,a= .ref p/\H p=some (.tup vs)/\Reps K H ts vs from r)
  exact⟨p,vs,e,h3,jZ7 qXf h1 h4⟩
 | int i=>cases h;exact r
 | str i=>cases h;exact r
 | non=>cases h
 | bl _=>cases h
 | scr _=>cases h
 | ref _=>cases h
 | ty _=>cases h
theorem jU7 {K:PySem.W.Frag} {H:Hp} {xs:List T} {vs:List V} {ks:TKey} {p:Addr} (h:jU8 xs=some ks) (e:H p=some (.tup vs)) (r:Reps K H xs vs):TKeyAt H ks p:=⟨vs,e,jZ7 qXe h r⟩
def valT {κ:Type} [DecidableEq κ] (kvs:List (κ×T)) (k:κ):Option T:=(kvs.find? fun kv=>decide (kv.1=k)).map (·.2)
noncomputable def putT {κ:Type} [DecidableEq κ] (kvs:List (κ×T)) (k:κ) (v:T):List (κ×T):=
 if (kvs.any fun kv=>decide (kv.1=k))=true then kvs.map (fun kv=>if kv.1=k then (kv.1,v) else kv) else kvs++[(k,v)]
theorem PKV.val {κ:Type} [DecidableEq κ] {K:PySem.W.Frag} {H:Hp} {kvs:List (κ×T)} {ws:List (κ×V)} (r:PKV K H kvs ws) (k:κ):(∀t,valT kvs k=some t->∃v,valV ws k=some v/\Rep K H t v)/\(valT kvs k).isSome=(valV ws k).isSome:=by
 unfold PKV at r
 induction r with
 | nil=>exact⟨fun t h=>by simp[valT] at h,rfl⟩
 | @cons p q ps qs h t ih=>
  by_cases e:p.1=k
  ·have e':q.1=k:=h.1.symm.trans e
   have b:valT (p::ps) k=some p.2:=by simp[valT,lKh,e]
   rw[b,jZw e']
   exact⟨fun t ht=>by cases ht;exact⟨q.2,rfl,h.2⟩,rfl⟩
  ·have e':¬ q.1=k:=fun z=>e (h.1.trans z)
   have b:valT (p::ps) k=valT ps k:=by simp[valT,lKh,e]
   rw[b,jZx e']
   exact ih
theorem PKV.any {κ:Type} [DecidableEq κ] {K:PySem.W.Frag} {H:Hp} {kvs:List (κ×T)} {ws:List (κ×V)} (r:PKV K H kvs ws) (k:κ):(kvs.any fun kv=>decide (kv.1=k))=ws.any fun kv=>decide (kv.1=k):=by
 unfold PKV at r
 induction r with
 | nil=>rfl
 | cons h t ih=>rw[lKl,lKl,ih,h.1]
theorem PKV.put {κ:Type} [DecidableEq κ] {K:PySem.W.Frag} {H:Hp} {kvs:List (κ×T)} {ws:List (κ×V)} (r:PKV K H kvs ws) (k:κ) {t:T} {v:V} (rt:Rep K H t v):PKV K H (putT kvs k t) (putK ws k v):=by
 unfold putT putK
 rw[r.any k]
 by_cases e:(ws.any fun kv=>decide (kv.1=k))=true
 ·rw[lJc e,lJc e]
  unfold PKV at r ⊢
  clear e
  induction r with
  | nil=>exact .nil
  | @cons p q ps qs h t' ih=>
   rw[lJr,lJr]
   refine .cons ?_ ih
   obtain⟨h1,h2⟩:=h
   by_cases e:p.1=k
   ·rw[lJc e,lJc (h1.symm.trans e)];exact⟨h1,rt⟩
   ·rw[lJb e,lJb (fun z=>e (h1.trans z))];exact⟨h1,h2⟩
 ·rw[lJb e,lJb e];exact Paired.snoc r ⟨rfl,rt⟩
theorem PKV.length {κ:Type} {K:PySem.W.Frag} {H:Hp} {kvs:List (κ×T)} {ws:List (κ×V)} (r:PKV K H kvs ws):kvs.length=ws.length:=lQd r
noncomputable def dAt (G:Gp) (x y:T):Option (Option T):=match x with
 | .ref p=>match G p with
  | some (.dct kvs)=>match y with
   | .tup ys=>match jU8 ys with
    | some ks=>some (valT kvs ks)
    | none=>none
   | _=>none
  | some (.dck kvs)=>match jU1 y with
   | some k=>some (valT kvs k)
   | none=>none
  | some (.fdc kvs)=>match y with
   | .tup ys=>match jU8 ys with
    | some ks=>some (valT kvs ks)
    | none=>none
   | _=>none
  | _=>none
 | _=>none
theorem kKa {K:PySem.W.Frag} {H:Hp} {G:Gp} {x y:T} {a b:V} {o:Option T} (hg:GRel K H G) (ra:Rep K H x a) (rb:Rep K H y b) (h:dAt G x y=some o):
  ∃p ov,a= .ref p/\DGet H p b ov/\o.isSome=ov.isSome/\∀t,o=some t->∃v,ov=some v/\Rep K H t v:=by
 unfold dAt at h
 split at h
 ·rename_i p
  cases (show a= .ref p from ra)
  split at h
  ·rename_i kvs hG
   split at h
   ·rename_i ys
    split at h
    ·rename_i ks hk
     cases h
     obtain⟨ws,h1,h2⟩:=hg p _ hG
     obtain⟨q,vs,e,h3,h4⟩:=(show ∃q vs,b= .ref q/\H q=some (.tup vs)/\Reps K H ys vs from rb)
     subst e
     exact⟨p,_,rfl,DGet.t h1 (jU7 hk h3 h4),(h2.val ks).2,(h2.val ks).1⟩
    ·cases h
   ·cases h
  ·rename_i kvs hG
   split at h
   ·rename_i k hk
    cases h
    obtain⟨ws,h1,h2⟩:=hg p _ hG
    rw[jQn hk rb]
    exact⟨p,_,rfl,DGet.k h1,(h2.val k).2,(h2.val k).1⟩
   ·cases h
  ·rename_i kvs hG
   split at h
   ·rename_i ys
    split at h
    ·rename_i ks hk
     cases h
     obtain⟨ob,ws,h1,h2⟩:=(show ∃ob ws,H p=some (.frz ob (.dT ws))/\PKV K H kvs ws from hg p _ hG)
     obtain⟨q,vs,e,h3,h4⟩:=(show ∃q vs,b= .ref q/\H q=some (.tup vs)/\Reps K H ys vs from rb)
     subst e
     exact⟨p,_,rfl,.inr ⟨ws,ks,q,.inr ⟨ob,h1⟩,rfl,jU7 hk h3 h4,rfl⟩,(h2.val ks).2,(h2.val ks).1⟩
    ·cases h
   ·cases h
  ·cases h
 ·cases h
def rDGet:R3:=fun x y G Q=>∃t,dAt G x y=some (some t)/\Q t G
theorem qZr (hu:X.A.units+20<cLine):Ix3 X rDGet:=by
 rintro value slice pins s τ G H x y v u Q ⟨σ,I,hs,hg⟩ ⟨a,ra,rv⟩ ⟨b,rb,ru⟩ ⟨t,hd,q⟩ hsl
 obtain⟨p,ov,e,g,_,hh⟩:=kKa hg ra rb hd
 obtain⟨w,ew,rw'⟩:=hh t rfl
 subst e;subst ew
 cases rv
 have hT:s.TypeIs (.ref p) "dict":=kYi I g
 unfold subscriptTail
 refine lJa ?_
 rw[getitemInPython_of_ne hT.not_modules]
 refine lJa (lQm hT PySem.F.slot_dict_getitem.lookup ?_)
 have fin:wpAny (model X.prog X.w) X.A (subscripted slice false (.ref p) u) (fun r s₃=>wpAny (model X.prog X.w) X.A (letTemporaryGo value (.ref p) r >>= fun _=>pure r) (EP3 X pins τ H Q) X.xe s₃) X.xe s:=by
  rw[hsl]
  exact wpAny_operating (qUs hu I g ru fun w' s' I' r'=>lJa (wpAny_letTemporaryGo (lJd ⟨t,G,H,.refl H,⟨σ,I',hs,hg⟩,⟨w,rw',r'⟩,q⟩)))
 first
  | exact lJd (lJa fin)
  | exact lJa (lJd (lJa fin))
  | exact lJa fin
theorem Ix3.or {r r':R3} (h:Ix3 X r) (h':Ix3 X r'):Ix3 X (fun x y G Q=>r x y G Q\/r' x y G Q):=by
 intro value slice pins s τ G H x y v u Q I rx ry q hs
 rcases q with q | q
 ·exact h value slice pins s τ G H x y v u Q I rx ry q hs
 ·exact h' value slice pins s τ G H x y v u Q I rx ry q hs
def rIxA:R3:=fun x y G Q=>rIx x y G Q\/rDGet x y G Q
theorem qZs (hu:X.A.units+20<cLine):Ix3 X rIxA:=ix_any.or (qZr hu)
def rDIn:R3:=fun x y G Q=>∃o,dAt G y x=some o/\Q (.bl o.isSome) G
def qK1:R3:=fun x y G Q=>∃o,dAt G y x=some o/\Q (.bl (!o.isSome)) G
theorem o_dIn (hu:X.A.units+20<cLine):Op3 X (compareOp .In) rDIn:=by
 rintro pins s τ G H x y v u Q ⟨σ,I,hs,hg⟩ ⟨a,ra,rv⟩ ⟨b,rb,ru⟩ ⟨o,hd,q⟩
 obtain⟨p,ov,e,g,e2,_⟩:=kKa hg rb ra hd
 subst e;cases ru
 exact d_in hu I g rv fun s' I'=>⟨.bl _,G,H,.refl H,⟨σ,I',hs,hg⟩,⟨.bl _,rfl,by rw[<-e2];rfl⟩,q⟩
theorem qV1 (hu:X.A.units+20<cLine):Op3 X (compareOp .NotIn) qK1:=by
 rintro pins s τ G H x y v u Q ⟨σ,I,hs,hg⟩ ⟨a,ra,rv⟩ ⟨b,rb,ru⟩ ⟨o,hd,q⟩
 obtain⟨p,ov,e,g,e2,_⟩:=kKa hg rb ra hd
 subst e;cases ru
 exact qZ8 hu I g rv fun s' I'=>⟨.bl _,G,H,.refl H,⟨σ,I',hs,hg⟩,⟨.bl _,rfl,by rw[<-e2];rfl⟩,q⟩
def rInL:R3:=fun x y G Q=>rInF false x y G Q\/rDIn x y G Q
def qKy:R3:=fun x y G Q=>rInF true x y G Q\/qK1 x y G Q
theorem o_in (hu:X.A.units+20<cLine):Op3 X (compareOp .In) rInL:=o_inF.or (o_dIn hu)
theorem qZi (hu:X.A.units+20<cLine):Op3 X (compareOp .NotIn) qKy:=o_notInF.or (qV1 hu)
def jX2:TE3:=fun _ G Q=>(∀p,G p=none->Q (.ref p) (gup G p (.dct [])))\/∀p,G p=none->Q (.ref p) (gup G p (.dck []))
theorem qZ5 {pos:Pos}:PE3 X (.Dict [] [] pos) jX2:=by
 rintro pins s τ G H Q ⟨σ,I,hs,hg⟩ h
 rcases h with h | h
 ·exact thn (qVx pins s σ H (up X.K H Q) I fun p hp=>⟨.ref p,_,.upd (.none hp),hg.upd (.none hp) (go:= .dct []) ⟨[],jJ3,.nil⟩,rfl,h p (hg.fresh hp)⟩) fun u s' z=>jVo hs z
 ·exact thn (qVy pins s σ H (up X.K H Q) I fun p hp=>⟨.ref p,_,.upd (.none hp),hg.upd (.none hp) (go:= .dck []) ⟨[],jJ3,.nil⟩,rfl,h p (hg.fresh hp)⟩) fun u s' z=>jVo hs z
noncomputable def qYf:T->T->T->Gp->(Gp->Prop)->Prop:=fun o i v G Q=>∃p ys ks kvs,o= .ref p/\i= .tup ys/\jU8 ys=some ks/\G p=some (.dct kvs)/\kvs.length<sizeLine/\Q (gup G p (.dct (putT kvs ks v)))
def qYg:T->T->T->Gp->(Gp->Prop)->Prop:=fun o i v G Q=>∃p k kvs,o= .ref p/\jU1 i=some k/\G p=some (.dck kvs)/\kvs.length<sizeLine/\Q (gup G p (.dck (putT kvs k v)))
theorem qY3 (hu:X.A.units+20<cLine):Set3 X qYf:=by
 rintro pins s τ G H o i v ov iv u Q ⟨σ,I,hs,hg⟩ ⟨a,ra,rv⟩ ⟨b,rb,ru⟩ ⟨c,rc,rw'⟩ ⟨p,ys,ks,kvs,eo,ei,hk,hG,hz,q⟩
 subst eo;subst ei
 cases (show a= .ref p from ra);cases rv
 obtain⟨ws,h1,h2⟩:=hg p _ hG
 obtain⟨b',vs,e,h3,h4⟩:=(show ∃q vs,b= .ref q/\H q=some (.tup vs)/\Reps X.K H ys vs from rb)
 subst e
 have h3:=jU7 hk h3 h4
 have e:Ext H (upd H p (.dT (putK ws ks c))):= .upd (.dT h1)
 exact kVs hu I (DPut.t h1 h3 (by rw[<-h2.length];exact hz)) ru rw' fun s' I'=>⟨_,_,e,⟨σ,I',hs.mono e,hg.upd (.dT h1) (go:= .dct (putT kvs ks v)) ⟨_,jJ3,(h2.put ks rc).mono e⟩⟩,q⟩
theorem qY4 (hu:X.A.units+20<cLine):Set3 X qYg:=by
 rintro pins s τ G H o i v ov iv u Q ⟨σ,I,hs,hg⟩ ⟨a,ra,rv⟩ ⟨b,rb,ru⟩ ⟨c,rc,rw'⟩ ⟨p,k,kvs,eo,hk,hG,hz,q⟩
 subst eo
 cases (show a= .ref p from ra);cases rv
 obtain⟨ws,h1,h2⟩:=hg p _ hG
 have eb:=jQn hk rb
 subst eb
 have e:Ext H (upd H p (.dK (putK ws k c))):= .upd (.dK h1)
 exact kVs hu I (DPut.k h1 (by rw[<-h2.length];exact hz)) ru rw' fun s' I'=>⟨_,_,e,⟨σ,I',hs.mono e,hg.upd (.dK h1) (go:= .dck (putT kvs k v)) ⟨_,jJ3,(h2.put k rc).mono e⟩⟩,q⟩
theorem Set3.or {r r':T->T->T->Gp->(Gp->Prop)->Prop} (h:Set3 X r) (h':Set3 X r'):Set3 X (fun o i v G Q=>r o i v G Q\/r' o i v G Q):=by
 intro pins s τ G H o i v ov iv u Q I ro ri rv q
 rcases q with q | q
 ·exact h pins s τ G H o i v ov iv u Q I ro ri rv q
 ·exact h' pins s τ G H o i v ov iv u Q I ro ri rv q
def rSetA:T->T->T->Gp->(Gp->Prop)->Prop:=fun o i v G Q=>qVs o i v G Q\/qYf o i v G Q\/qYg o i v G Q
theorem s_any (hu:X.A.units+20<cLine):Set3 X rSetA:=s_list.or ((qY3 hu).or (qY4 hu))
end
section
variable {X:Cx}
abbrev TO3:=St3->Gp->(Option Int->Gp->Prop)->Prop
def PO3 (X:Cx) (e:Option Expr) (t:TO3):Prop:=
 ∀(pins:List (Addr×Obj)) (s:Shared) (τ:St3) (G:Gp) (H:Hp) (Q:Option Int->Gp->Prop),Inv3 X pins τ G H s->t τ G Q->
  wpAny (model X.prog X.w) X.A (evalPart e X.env) (fun u s'=>∃o G' H',Ext H H'/\Inv3 X pins τ G' H' s'/\IsPart u o/\Q o G') X.xe s
def kZ9 (t:TE3):TO3:=fun τ G Q=>t τ G fun x G1=>∃i,x= .int i/\Q (some i) G1
theorem qYi {e:Expr} {te:TE3} (h:PE3 X e te):PO3 X (some e) (kZ9 te):=by
 intro pins s τ G H Q I hw
 rw[evalPart_some]
 refine thn (h pins s τ G H _ I hw) fun u s1 w_=>w_.el fun x G1 H1 e1 I1 r_ ⟨i,ex,q⟩=>r_.el fun v rv ru=> ?_
 subst ex
 cases (show v= .int i from rv)
 obtain⟨t,rfl⟩:=ru
 exact⟨some i,G1,H1,e1,I1,.int i t,q⟩
def Sl3 (X:Cx) (r:T->Option Int->Option Int->Gp->VK3->Prop):Prop:=
 ∀(pins:List (Addr×Obj)) (s:Shared) (τ:St3) (G:Gp) (H:Hp) (x:T) (v vl vu:Value) (lo hi:Option Int) (sl:Addr) (Q:VK3),Inv3 X pins τ G H s->RU X.K H x v->s.heap.IsSliceOf sl vl vu .none->IsPart vl lo->IsPart vu hi->r x lo hi G Q->
  ∃T id,typeLookup (.type T) "__getitem__"=pure (some (.builtin id))/\s.TypeIs v T/\wpAny (model X.prog X.w) X.A (getItem v (.ref sl)) (EP3 X pins τ H Q) X.xe s
def tSl (r:T->Option Int->Option Int->Gp->VK3->Prop) (te:TE3) (tl th:TO3):TE3:=fun τ G Q=>te τ G fun x G1=>tl τ G1 fun l G2=>th τ G2 fun u G3=>r x l u G3 Q
theorem qZ3 {r:T->Option Int->Option Int->Gp->VK3->Prop} {e:Expr} {te:TE3} {lo hi:Option Expr} {tl th:TO3} {pos p2:Pos} (hr:Sl3 X r) (he:PE3 X e te) (hl:PO3 X lo tl) (hu:PO3 X hi th):PE3 X (.Subscript e (.Slice lo hi none p2) pos) (tSl r te tl th):=by
 intro pins s τ G H Q I h
 refine Subscript_ (thn (he pins s τ G H _ I h) fun v s1 w_=>w_.el fun x G1 H1 e1 I1 r1 q1=> ?_)
 refine wpAny_Slice (thn (hl pins s1 τ G1 H1 _ I1 q1) fun vl s2 ⟨l,G2,H2,e2,I2,pl,q2⟩=>thn (hu pins s2 τ G2 H2 _ I2 q2) fun vu s3 ⟨u,G3,H3,e3,⟨σ,I3,hs3,hg3⟩,pu,q3⟩=> ?_)
 rw[evalPart_none]
 refine lJd ?_
 have I4:Inv X pins σ H3 {s3 with heap:=s3.heap.push {cls:= .type "slice",data:= .fields #[vl,vu,.none]} }:=I3.kept (t':=s3.toks) fun b ob q=>lJl _ q
 obtain⟨T0,id,hT,ht,hg⟩:=hr pins {s3 with heap:=s3.heap.push {cls:= .type "slice",data:= .fields #[vl,vu,.none]} } τ G3 H3 x v vl vu l u s3.heap.objs.size Q ⟨σ,I4,hs3,hg3⟩ ((r1.mono e2).mono e3) (Heap.IsSliceOf.new ..) pl pu q3
 show wpAny (model X.prog X.w) X.A (subscriptTail e (.Slice lo hi none p2) v (.ref s3.heap.objs.size)) (EP3 X pins τ H Q) X.xe {s3 with heap:=s3.heap.push {cls:= .type "slice",data:= .fields #[vl,vu,.none]} }
 exact thn (tail_any (ops:=[.ref s3.heap.objs.size,v]) ht hT hg (by with_unfolding_all rfl)) fun _ _ z=>z.ext ((e1.trans e2).trans e3)
def cutT (xs:List T) (lo hi:Option Int):List T:=(xs.drop (HT.sIx xs.length 0 lo)).take (HT.sIx xs.length xs.length hi-HT.sIx xs.length 0 lo)
noncomputable def rSlA:T->Option Int->Option Int->Gp->VK3->Prop:=fun x lo hi G Q=>
 (∃xs,jUz G x=some xs/\∀p,G p=none->Q (.ref p) (gup G p (.lst (cutT xs lo hi))))\/∃xs,x= .tup xs/\Q (.tup (cutT xs lo hi)) G
end
end L3
namespace HT
open PySem PyProof.Rows
theorem getItem_tuple_whole {prog:Program} {w:World} {A:Around} {E:Value->Shared->Prop} {s:Shared} {t sl:Addr} {items:Array Value} {vl vu:Value} {lo hi:Option Int} {Q:Value->Shared->Prop} (ht:IsTup s.heap t items) (hs:s.heap.IsSliceOf sl vl vu .none) (pl:IsPart vl lo) (pu:IsPart vu hi)
  (hw:sIx items.size 0 lo=0/\sIx items.size items.size hi=items.size) (h:Q (.ref t) s):wpAny (model prog w) A (getItem (.ref t) (.ref sl)) Q E s:=by
 obtain⟨os,hos,hcs,hds⟩:=id hs
 have hTs:s.TypeIs (.ref sl) "slice":=⟨os,hos,hcs⟩
 unfold getItem
 try with_reducible refine lK3 ?_
 first | refine lJa (lJd ?_) | skip
 refine lJa (wpAny_sequenceKey ht.typeIs (by decide) ?_)
 refine lJa (lVt (name:=Str.ofString "__getitem__") ht.typeIs lVh
  (lQz lVh ht.typeIs entry_tuple_getitem ?_ (args_tuple_getitem _ _)))
 show wpAny _ _ (Builtin.Tuple.tupleItemsOf (.ref t) >>= _) _ _ s
 refine lJa (tupleItemsOf_ ht ?_)
 refine lJa (lQ0 hTs ?_)
 rw[lJc (by decide)]
 refine lJa (jVu hs pl pu ?_)
 have hyes:(((sIx items.size 0 lo:Nat):Int) == 0&&(1:Int) == 1&&(sIx items.size items.size hi-sIx items.size 0 lo) == items.size)=true:=by
  rw[hw.1,hw.2];simp
 show wpAny _ _ (if (((sIx items.size 0 lo:Nat):Int) == 0&&(1:Int) == 1&&(sIx items.size items.size hi-sIx items.size 0 lo) == items.size)=true then _ else _) _ _ s
 rw[lJc hyes]
 refine lJa ?_
 unfold Builtin.Tuple.tupleIsExact
 refine lJa (lQ0 ht.typeIs (lJd ?_))
 rw[lJc (by decide)]
 exact lJa (lQ8 (lJd ⟨_,rfl,lJd h⟩))
end HT
namespace L3
open PySem PySem.Spec PyProof.Rows L2
section
variable {X:Cx}
theorem Reps.cut {K:PySem.W.Frag} {H:Hp} {xs:List T} {vs:List V} (r:Reps K H xs vs) (lo hi:Option Int):Reps K H (cutT xs lo hi) (cutV vs lo hi):=by
 unfold cutT cutV
 rw[<-r.length]
 exact (r.drop _).take _
theorem qJx {xs:List T} {lo hi:Option Int} (h:HT.sIx xs.length 0 lo=0/\HT.sIx xs.length xs.length hi=xs.length):cutT xs lo hi=xs:=by
 unfold cutT
 rw[h.1,h.2]
 simp
theorem sl_any:Sl3 X rSlA:=by
 rintro pins s τ G H x v vl vu lo hi sl Q ⟨σ,I,hs,hg⟩ ⟨a,ra,rv⟩ hsl pl pu h
 rcases h with ⟨xs,hx,q⟩ | ⟨xs,ex,q⟩
 ·obtain⟨p,vs,e,hq,r⟩:=jUr hg ra hx
  subst e
  obtain⟨T0,id,h1,h2,h3⟩:=qY1 pins s σ H (.ref p) v vl vu lo hi sl (up X.K H Q) I rv hsl pl pu ⟨p,vs,rfl,hq,fun l hl=>⟨.ref l,_,.upd (.none hl),hg.lstNew (r.cut lo hi) (.none hl),rfl,q l (hg.fresh hl)⟩⟩
  exact⟨T0,id,h1,h2,thn h3 fun _ _ z=>jVo hs z⟩
 ·subst ex
  obtain⟨p,vs,e,h1,h2⟩:=(show ∃p vs,a= .ref p/\H p=some (.tup vs)/\Reps X.K H xs vs from ra)
  subst e
  by_cases hw:HT.sIx xs.length 0 lo=0/\HT.sIx xs.length xs.length hi=xs.length
  ·cases rv
   obtain⟨its,rv',ht,hz⟩:=I.tuple (.of h1)
   have hlen:its.toArray.size=xs.length:=by rw[lJp,<-rv'.length,h2.length]
   refine⟨"tuple",_,lVh.lookup,ht.typeIs,HT.getItem_tuple_whole ht hsl pl pu (by rw[hlen];exact hw) ?_⟩
   rw[qJx hw] at q
   exact⟨.tup xs,G,H,.refl H,⟨σ,I,hs,hg⟩,⟨.ref p,ra,rfl⟩,q⟩
  ·obtain⟨T0,id,h3,h4,h5⟩:=sl_tup pins s σ H (.ref p) v vl vu lo hi sl (up X.K H Q) I rv hsl pl pu ⟨p,vs,rfl,.of h1,by rw[<-h2.length];exact hw,fun l hl=>⟨.tup (cutT xs lo hi),G,.upd (.none hl),hg.tupNew hl,Rep.tupNew (h2.cut lo hi) hl,q⟩⟩
   exact⟨T0,id,h3,h4,thn h5 fun _ _ z=>jVo hs z⟩
def jXh (ta:TA3):TE3:=fun τ G Q=>ta τ G fun vs G1=>∃j:Int,vs=[.int j]/\ -(2^62)<=j/\j<=2^20/\∀p,G1 p=none->Q (.ref p) (gup G1 p (.lst (rngT 0 j.toNat)))
theorem qVo {K:PySem.W.Frag} {H:Hp} {n:Nat} {vs:List V} (hl:vs.length=n) (h:∀(i:Nat) v,vs[i]? =some v->v= .int (0+i)):Reps K H (rngT 0 n) vs:=by
 have e:vs=(List.range n).map fun (k:Nat)=>V.int (0+k):=by
  apply lQp
  intro i
  cases hv:vs[i]? with
  | none=>
   have:n<=i:=by rw[<-hl];exact List.getElem?_eq_none_iff.mp hv
   simp[this]
  | some v=>
   have hi:i<n:=by rw[<-hl];exact (lJe.mp hv).1
   rw[h i v hv];simp[hi]
 rw[e]
 unfold rngT
 generalize List.range n=l
 induction l with
 | nil=>rfl
 | cons k ks ih=>exact⟨_,_,rfl,rfl,ih⟩
end
section
variable {X:Cx}
theorem kYg {a:Expr} {ta:TA3} {pos p p2 p3:Pos} (hgl:Gl X "list") (hml:X.mg "list"=none) (hgr:Gl X "range") (hmr:X.mg "range"=none) (hc:X.calm=true) (ha:PA3 X [a] ta) (hs:starEach [a] X.env=[(false,eval a X.env)]:=by rfl)
  (ho:starEach [Expr.Call (.Name "range" p2) [a] [] p3] X.env=[(false,eval (.Call (.Name "range" p2) [a] [] p3) X.env)]:=by rfl):
  PE3 X (.Call (.Name "list" p) [.Call (.Name "range" p2) [a] [] p3] [] pos) (jXh ta):=by
 intro pins s τ G H Q I h
 obtain⟨σ0,I0,hs0,hg0⟩:=id I
 refine lQ7 (jQ7 I0 hgl hml (u:= .type "list") (by rfl) ?_)
 refine lK4 (T:="list") ?_ ho rfl
 rw[ho]
 show wpAny _ _ (spliced ((false,eval (.Call (.Name "range" p2) [a] [] p3) X.env)::backTo pos [])) _ _ s
 refine Calls.spliced_cons ?_
 refine Call_ (jQ7 I0 hgr hmr boot_range (lK4 (thn (ha p3 pins s τ G H _ I h) fun us s1 w_=>w_.el fun xs G1 H1 e1 i_ r_ ⟨j,e,q1,q2,q⟩=>i_.el fun σ I1 hs1 hg1=>r_.el fun as ras rvs=> ?_) hs rfl))
 subst e
 obtain⟨v,rfl,rv⟩:=jVf ras
 cases (show v= .int j from rv)
 obtain⟨u,rfl,ru⟩:=rvs.one
 obtain⟨t,rfl⟩:=ru
 refine call_range_1 ?_
 refine Calls.spliced_nil ?_
 have I2:Inv X pins σ H1 {s1 with heap:=s1.heap.push {cls:= .type "range",data:= .fields #[.int 0 s1.toks,.int j t,.int 1 (s1.toks+1)]},toks:=s1.toks+1+1}:=I1.kept fun b o e=>lJl _ e
 refine call_list_range (n:=j.toNat) (I1.ok.hd hc) (IsRange.new ..) (small_one (by omega) (by omega) q1 (by omega)) (by rw[rangeSize_one];split<;>omega) (by omega) fun h' tk acc' c' hk hobj hit=> ?_
 have hf:H1 (s1.heap.push {cls:= .type "range",data:= .fields #[.int 0 s1.toks,.int j t,.int 1 (s1.toks+1)]}).objs.size=none:=I2.hok.fresh (lJf _)
 have hz:acc'.size<=sizeLine:=by rw[hit.1,lQn];omega
 obtain⟨vs,hvs,rr⟩:∃vs:List V,Vals vs acc'.toList/\Reps X.K H1 (rngT 0 j.toNat) vs:=by
  refine⟨(List.range j.toNat).map fun (k:Nat)=>V.int (0+k),?_,qVo (by simp) (fun i v hv=> ?_)⟩
  ·have all:∀(l:List Value) (n0:Nat),(∀(i:Nat) v,l[i]? =some v->∃t,v= .int ((0:Int)+((n0+i:Nat):Int)*1) t)->Vals ((List.range' n0 l.length).map fun (k:Nat)=>V.int (0+k)) l:=by
    intro l
    induction l with
    | nil=>intro n0 _;exact .nil
    | cons v l ih=>
     intro n0 hh
     obtain⟨t,ht⟩:=hh 0 v rfl
     rw[lKn,List.range'_succ,lJr]
     refine .cons ⟨t,by rw[ht];simp⟩ (ih (n0+1) fun i w hw=> ?_)
     obtain⟨t',ht'⟩:=hh (i+1) w (by simpa using hw)
     exact⟨t',by rw[ht'];congr 1;omega⟩
   have:=all acc'.toList 0 (fun i v hv=>by
    obtain⟨t,ht⟩:=hit.2 i v (by simpa using hv)
    exact⟨t,by rw[ht];simp⟩)
   rw[List.range_eq_range']
   rw[show acc'.toList.length=j.toNat by simpa using hit.1] at this
   exact this
  ·rw[lJs] at hv
   cases e:(List.range j.toNat)[i]? with
   | none=>rw[e] at hv;cases hv
   | some k=>
    rw[e] at hv;cases hv
    have:=lJe.mp e
    obtain⟨h1,h2⟩:=this
    simp at h2;rw[<-h2]
 refine⟨.ref _,_,_,e1.trans (.upd (.none hf)),⟨σ,I2.laid (t':=tk) (o:= .lst vs) hk (lJf _) ⟨by rw[hvs.length];simpa using hz,acc'.toList,c',hvs,by simpa using hobj⟩,hs1.mono (.upd (.none hf)),hg1.lstNew rr (.none hf)⟩,⟨.ref _,rfl,rfl⟩,q _ (hg1.fresh hf)⟩
def insT (xs:List T) (k:Nat) (y:T):List T:=xs.take k++y::xs.drop k
noncomputable def kJs:T->List T->Gp->VK3->Prop:=fun x as G Q=>∃p xs k y,x= .ref p/\as=[.int k,y]/\G p=some (.lst xs)/\0<=k/\k<=xs.length/\xs.length<sizeLine/\Q .non (gup G p (.lst (insT xs k.toNat y)))
theorem kZd:Mt3 X "list.insert" kJs:=by
 rintro pins s τ G H x as v us Q ⟨σ,I,hs,hg⟩ ⟨a,ra,rv⟩ ⟨bs,rbs,rus⟩ ⟨p,xs,k,y,ex,ea,hp,k0,k1,hz,q⟩
 subst ex;subst ea
 cases (show a= .ref p from ra);cases rv
 obtain⟨b1,b2,rfl,r1,r2⟩:=kKj rbs
 cases (show b1= .int k from r1)
 obtain⟨u1,u2,rfl,ru1,ru2⟩:=rus.two
 obtain⟨t,rfl⟩:=ru1
 obtain⟨vs,h1,h2⟩:=hg.lst hp
 obtain⟨z,its,n,r,hl,e⟩:=I.lstM h1
 have hlen:=h2.length
 have hfit:¬ (!Builtin.List.listFitsIndex k)=true:=by
  have h63:=kJx
  rw[fitsIndex_both (by omega) (by omega)]
  exact lJk
 refine lQ6 F.slot_list_insert ⟨_,e,rfl⟩ F.entry_list_insert (F.args_list_insert_3 _ _ _) (AutoSeq1.list_insert_list_int_val_1 p its.toArray n k t u2 hfit (by rw[lJp];omega)) ⟨e,?_⟩
 have e2:Ext H (upd H p (.lst (vs.take k.toNat++b2::vs.drop k.toNat))):= .upd (.lst h1)
 refine⟨.non,_,_,e2,⟨σ,I.lset (its':=its.take k.toNat++u2::its.drop k.toNat) h1 e ?_ ((r.take _).append (.cons ru2 (r.drop _))) ?_,hs.mono e2,hg.lstNew (xs:=insT xs k.toNat y) ((h2.take _).append ⟨b2,_,rfl,r2,h2.drop _⟩) (.lst h1)⟩,⟨.non,rfl,rfl⟩,q⟩
 ·have hk:¬ k<0:=by omega
  have hm:min k.toNat its.toArray.size=k.toNat:=by rw[lJp];omega
  simp only[hk,lJt,hm]
  apply Array.ext'
  simp[Array.toList_extract]
  rw[List.take_of_length_le (Nat.le_of_eq (by simp))]
 ·simp only[lJ7,lKn,lVf,List.length_drop]
  omega
def kK5:T->List T->Gp->VK3->Prop:=fun x as G Q=>∃p xs y,x= .ref p/\as=[y]/\G p=some (.lst xs)/\jU2 y=true/\xs.all jU2=true/\Q (.int (xs.countP fun z=>eqT z y)) G
theorem kVv {K:PySem.W.Frag} {H:Hp} {y:T} {b:V} (ry:Rep K H y b) (fy:jU2 y=true):∀ {xs:List T} {vs:List V} {us:List Value},Reps K H xs vs->Vals vs us->xs.all jU2=true->us.countP (eqU b)=xs.countP fun z=>eqT z y
 | [],_,_,r,q,_=>by cases r;cases q;rfl
 | x::xs,_,_,⟨v,ws,e,r1,r2⟩,q,f=>by
  subst e
  cases q with
  | cons q1 q2=>
   rw[lQg,lKo] at f
   rw[List.countP_cons,List.countP_cons,kVv ry fy r2 q2 f.2,kZr q1 (jXm r1 f.1),kYd r1 ry f.1 fy]
theorem qQm:Mt3 X "list.count" kK5:=by
 rintro pins s τ G H x as v us Q ⟨σ,I,hs,hg⟩ ⟨a,ra,rv⟩ ⟨bs,rbs,rus⟩ ⟨p,xs,y,ex,ea,hp,fy,fs,q⟩
 subst ex;subst ea
 cases (show a= .ref p from ra);cases rv
 obtain⟨b,rfl,rb⟩:=jVf rbs
 obtain⟨u,rfl,ru⟩:=rus.one
 obtain⟨vs,h1,h2⟩:=hg.lst hp
 obtain⟨z,its,n,r,hl,e⟩:=I.lstM h1
 have fl:=(jZ3 rb fy h2 fs).1
 refine lQ6 F.slot_list_count ⟨_,e,rfl⟩ F.entry_list_count (F.args_list_count_2 _ _) (SeqAt.list_countAt p its.toArray n none #[] u (eqU b)) ⟨e,fun w hw=>jVr ru (jXm rb fy) r fl w (by simpa using hw),?_⟩
 refine⟨.int _,G,H,.refl H,⟨σ,I.tok _,hs,hg⟩,⟨.int _,rfl,s.toks,?_⟩,q⟩
 rw[<-kVv rb fy h2 r fs]
def kYm:List T->Option Bool
 | []=>some true
 | .bl b::r=>match kYm r with
  | some c=>some (b&&c)
  | none=>none
 | _::_=>none
def rAll:List T->Gp->VK3->Prop:=fun as G Q=>∃p xs b,as=[.ref p]/\G p=some (.lst xs)/\kYm xs=some b/\Q (.bl b) G
theorem kV5:∀ {xs:List T} {b:Bool},kYm xs=some b->∃bs:List Bool,xs=bs.map T.bl/\b=bs.all (fun x=>x)
 | [],b,h=>by cases h;exact⟨[],rfl,rfl⟩
 | .bl c::r,b,h=>by
  unfold kYm at h
  cases e:kYm r with
  | none=>rw[e] at h;cases h
  | some d=>
   rw[e] at h;cases h
   obtain⟨bs,h1,h2⟩:=kV5 e
   exact⟨c::bs,by rw[h1];rfl,by rw[h2];rfl⟩
 | .non::_,_,h=>by cases h
 | .int _::_,_,h=>by cases h
 | .str _::_,_,h=>by cases h
 | .tup _::_,_,h=>by cases h
 | .scr _::_,_,h=>by cases h
 | .ref _::_,_,h=>by cases h
 | .ty _::_,_,h=>by cases h
theorem kQx {K:PySem.W.Frag} {H:Hp}:∀ {bs:List Bool} {vs:List V} {us:List Value},Reps K H (bs.map T.bl) vs->Vals vs us->us=bs.map Value.bool
 | [],_,_,h,q=>by cases h;cases q;rfl
 | n::ns,_,_,⟨v,ws,e,r,rs⟩,q=>by
  subst e;cases (show v= .bl n from r)
  cases q with
  | cons q1 q2=>cases q1;rw[kQx rs q2];rfl
theorem kV4:∀(bs:List Bool),bs.all (fun x=>x)=(List.range bs.length).all fun i=>bs.getD i true
 | []=>rfl
 | b::bs=>by
  rw[lQg,kV4 bs,lKn,List.range_succ_eq_map,lQg,List.all_map]
  simp[Function.comp_def,List.getD]
theorem c_all (hc:X.calm=true):Call3 X (.builtin "all") rAll:=by
 rintro pins s τ G H as us Q ⟨σ,I,hs,hg⟩ ⟨bs',rbs,rus⟩ ⟨p,xs,b,e,hp,hb,q⟩
 subst e
 obtain⟨a,rfl,ra⟩:=jVf rbs
 cases (show a= .ref p from ra)
 obtain⟨u,rfl,ru⟩:=rus.one
 cases ru
 obtain⟨vs,h1,h2⟩:=hg.lst hp
 obtain⟨bs,ex,eb⟩:=kV5 hb
 subst ex
 obtain⟨its,rv,pl,hz⟩:=I.list (.of h1)
 have eit:=kQx h2 rv
 subst eit
 refine call_all_walk (wpAny_pyIter_list pl.isList ?_)
 have hne:p≠s.heap.objs.size:=by obtain⟨o,n,ho,_⟩:=pl;exact lJn (lJh ho)
 refine⟨s.heap.objs.size,[s.heap.objs.size,p],[s.heap.objs.size],(bs.map Value.bool).toArray.size,_,_,fun i=>bs.getD i true,rfl,Walks.list (A:=X.A.in1) (show X.A.in1.handled=none from I.ok.hd hc) s.heap.objs.size p hne (bs.map Value.bool).toArray,⟨⟨_,lJz _ rfl,rfl,rfl⟩,pl.isList.push _⟩,?_,?_⟩
 ·intro i v s' Q' E' hP hQ
  have hP':(bs.map Value.bool)[i]? =some v:=by simpa using hP
  rw[lJs] at hP'
  cases e:bs[i]? with
  | none=>rw[e] at hP';cases hP'
  | some c=>
   rw[e] at hP';cases hP'
   have:bs.getD i true=c:=by simp[List.getD,e]
   have hQ':Q' (bs.getD i true) s':=hQ
   rw[this] at hQ'
   exact lQy hQ'
 ·intro h' tk hk
  have hk2:∀b o,s.heap.get? b=some o->h'.get? b=some o:=fun b o e=>hk b o (by simpa using lJn (lJh e)) (lJl _ e)
  refine⟨.bl b,G,H,.refl H,⟨σ,I.kept hk2,hs,hg⟩,⟨.bl b,rfl,?_⟩,q⟩
  rw[eb,kV4]
  simp
  rfl
end
structure Cal (P:Program) (w:World) (K:PySem.W.Frag) (mg:Str->Option Value) (base:Heap) (k:Nat) (x:Str) (ps:List Str) (sp:Sp3):Prop where
 ex:∃f fd,Fn3 P w K mg base k f fd ps sp/\mg x=some (.ref f)/\PySem.W.keepIn K (.ref f)=true/\Binds K fd ps []
 mono:Mono sp
 len:∀xs G Q,sp xs G Q->xs.length=ps.length
theorem jJ0 {X:Cx} {k:Nat} {ps:List Str} {sp:Sp3} {x:Str} {p pos:Pos} {e:Expr} {es:List Expr} {t:TA3} (C:Cal X.prog X.w X.K X.mg X.base k x ps sp) (hr:Room k X.A) (ha:PA3 X (e::es) t) (hg:Gl X x:=by rfl)
  (hdb:(x == ("__debug__":Str))=false:=by decide) (he:starEach (e::es) X.env=(false,eval e X.env)::starEach es X.env:=by rfl) (hpl:(backTo pos (starEach es X.env)).any (·.1)=false:=by rfl):
  PE3 X (.Call (.Name x p) (e::es) [] pos) (jJr sp t):=by
 intro pins s τ G H Q I h
 obtain⟨f,fd,F,hm,hk,hb⟩:=C.ex
 obtain⟨σ0,I0,hs0,hg0⟩:=id I
 refine lQ7 (kJz I0 hg hm ?_ hdb)
 refine lV0 (h₀:=X.base) I0.ok.mod.kin hk (thn (ha pos pins s τ G H _ I h) fun us s1 w_=>w_.el fun xs G1 H1 e1 i_ r_ q=>i_.el fun σ I1 hs1 hg1=>r_.el fun as ras rvs=>⟨I1.kIn,?_⟩) he hpl
 refine thn (qKr (dvs:=[]) (ds:=[]) (E:=E0) (Q:=up X.K H1 Q) F hr hb .nil qVz I1 rvs ?_) fun u s' z=>(jVo hs1 z).ext e1
 rw[lQa]
 exact⟨by rw[<-ras.length];exact C.len _ _ _ q,xs,G1,ras,hg1,C.mono _ _ _ _ (fun t G' hq v H' e g r=>⟨t,G',e,g,r,hq⟩) q⟩
end L3
namespace L3
open PySem PySem.Spec PyProof.Rows
inductive Res where
 | val (t:T) | newL (xs:List T)
def fin3:Res->Gp->VK3->Prop
 | .val t,G,Q=>Q t G
 | .newL xs,G,Q=>∀p,G p=none->Q (.ref p) (gup G p (.lst xs))
theorem Op3.imp {X:L2.Cx} {f:Value->Value->Sem Value} {r r':R3} (h:Op3 X f r) (i:∀x y G Q,r' x y G Q->r x y G Q):Op3 X f r':=fun pins s τ G H x y v u Q I rx ry q=>h pins s τ G H x y v u Q I rx ry (i x y G Q q)
theorem Ix3.imp {X:L2.Cx} {r r':R3} (h:Ix3 X r) (i:∀x y G Q,r' x y G Q->r x y G Q):Ix3 X r':=fun a b pins s τ G H x y v u Q I rx ry q hs=>h a b pins s τ G H x y v u Q I rx ry (i x y G Q q) hs
theorem Set3.imp {X:L2.Cx} {r r':T->T->T->Gp->(Gp->Prop)->Prop} (h:Set3 X r) (i:∀o j v G Q,r' o j v G Q->r o j v G Q):Set3 X r':=fun pins s τ G H o j v a b c Q I ro rj rv q=>h pins s τ G H o j v a b c Q I ro rj rv (i o j v G Q q)
theorem Sl3.imp {X:L2.Cx} {r r':T->Option Int->Option Int->Gp->VK3->Prop} (h:Sl3 X r) (i:∀x l u G Q,r' x l u G Q->r x l u G Q):Sl3 X r':=fun pins s τ G H x v vl vu lo hi sl Q I rx hs pl pu q=>h pins s τ G H x v vl vu lo hi sl Q I rx hs pl pu (i x lo hi G Q q)
noncomputable def addR (G:Gp):T->T->Option Res
 | .int i,.int j=>some (.val (.int (i+j)))
 | .ref p,.ref q=>match G p,G q with
  | some (.lst xs),some (.lst ys)=>if xs.length+ys.length<=sizeLine then some (.newL (xs++ys)) else none
  | _,_=>none
 | .tup xs,.tup ys=>if xs.length≠0/\xs.length+ys.length<=sizeLine then some (.val (.tup (xs++ys))) else none
 | _,_=>none
def jKi:R3:=fun x y G Q=>∃r,addR G x y=some r/\fin3 r G Q
theorem add_F {x y:T} {G:Gp} {Q:VK3} (h:jKi x y G Q):rAddA x y G Q:=by
 obtain⟨r,hr,q⟩:=h
 unfold addR at hr
 split at hr
 ·cases hr;exact .inl ⟨_,_,rfl,rfl,q⟩
 ·rename_i p q'
  split at hr
  ·rename_i xs ys h1 h2
   split at hr
   ·rename_i hz;cases hr;exact .inr (.inl ⟨p,q',xs,ys,rfl,rfl,h1,h2,hz,q⟩)
   ·cases hr
  ·cases hr
 ·rename_i xs ys
  split at hr
  ·rename_i hz;cases hr;exact .inr (.inr ⟨xs,ys,rfl,rfl,fun z=>hz.1 (by rw[z];rfl),hz.2,q⟩)
  ·cases hr
 ·cases hr
theorem o_addF {X:L2.Cx}:Op3 X (binaryOp .Add) jKi:=o_addA.imp fun _ _ _ _=>add_F
noncomputable def mulR (G:Gp):T->T->Option Res
 | .int i,.int j=>some (.val (.int (i*j)))
 | .ref p,.int n=>match G p with
  | some (.lst xs)=>if n.toNat * xs.length<=sizeLine/\n<2^62/\ -(2^62)<n then some (.newL (List.replicate n.toNat xs).flatten) else none
  | _=>none
 | _,_=>none
def mulC:T->T->Prop
 | .int i,.int j=>L2.CMul i j
 | _,_=>True
def jVm:R3:=fun x y G Q=>∃r,mulR G x y=some r/\mulC x y/\fin3 r G Q
theorem mul_F {x y:T} {G:Gp} {Q:VK3} (h:jVm x y G Q):rMulA x y G Q:=by
 obtain⟨r,hr,c,q⟩:=h
 unfold mulR at hr
 split at hr
 ·cases hr;exact .inl ⟨_,_,rfl,rfl,c,q⟩
 ·rename_i p n
  split at hr
  ·rename_i xs h1
   split at hr
   ·rename_i hz;cases hr;exact .inr ⟨p,xs,n,rfl,rfl,h1,hz.1,hz.2.1,hz.2.2,q⟩
   ·cases hr
  ·cases hr
 ·cases hr
theorem jUh {X:L2.Cx}:Op3 X (binaryOp .Mult) jVm:=o_mulA.imp fun _ _ _ _=>mul_F
def ixR (G:Gp) (x y:T):Option T:=match seqT G x with
 | some xs=>match y with
  | .int i=>L2.atI xs i
  | _=>none
 | none=>match dAt G x y with
  | some o=>o
  | none=>none
def rIxF:R3:=fun x y G Q=>∃t,ixR G x y=some t/\Q t G
theorem ix_F' {x y:T} {G:Gp} {Q:VK3} (h:rIxF x y G Q):rIxA x y G Q:=by
 obtain⟨t,ht,q⟩:=h
 unfold ixR at ht
 split at ht
 ·rename_i xs hx
  split at ht
  ·rename_i i;exact .inl ⟨xs,i,t,hx,rfl,ht,q⟩
  ·cases ht
 ·split at ht
  ·rename_i o ho;subst ht;exact .inr ⟨t,ho,q⟩
  ·cases ht
theorem ix_F {X:L2.Cx} (hu:X.A.units+20<cLine):Ix3 X rIxF:=(qZs hu).imp fun _ _ _ _=>ix_F'
noncomputable def setR (G:Gp) (o i v:T):Option Gp:=match o with
 | .ref p=>match G p with
  | some (.lst xs)=>match i with
   | .int k=>match L2.ixN xs.length k with
    | some j=>some (gup G p (.lst (xs.set j v)))
    | none=>none
   | _=>none
  | some (.dct kvs)=>match i with
   | .tup ys=>match jU8 ys with
    | some ks=>if kvs.length<sizeLine then some (gup G p (.dct (putT kvs ks v))) else none
    | none=>none
   | _=>none
  | some (.dck kvs)=>match jU1 i with
   | some k=>if kvs.length<sizeLine then some (gup G p (.dck (putT kvs k v))) else none
   | none=>none
  | some (.fdc _)=>none
  | some (.ins _ _)=>none
  | some (.exc _)=>none
  | none=>none
 | _=>none
def jUy:T->T->T->Gp->(Gp->Prop)->Prop:=fun o i v G Q=>∃G',setR G o i v=some G'/\Q G'
theorem set_F' {o i v:T} {G:Gp} {Q:Gp->Prop} (h:jUy o i v G Q):rSetA o i v G Q:=by
 obtain⟨G',hr,q⟩:=h
 unfold setR at hr
 split at hr
 ·rename_i p
  split at hr
  ·rename_i xs h1
   split at hr
   ·rename_i k
    split at hr
    ·rename_i j hj;cases hr;exact .inl ⟨p,xs,k,j,rfl,rfl,h1,hj,q⟩
    ·cases hr
   ·cases hr
  ·rename_i kvs h1
   split at hr
   ·rename_i ys
    split at hr
    ·rename_i ks hk
     split at hr
     ·rename_i hz;cases hr;exact .inr (.inl ⟨p,ys,ks,kvs,rfl,rfl,hk,h1,hz,q⟩)
     ·cases hr
    ·cases hr
   ·cases hr
  ·rename_i kvs h1
   split at hr
   ·rename_i k hk
    split at hr
    ·rename_i hz;cases hr;exact .inr (.inr ⟨p,k,kvs,rfl,hk,h1,hz,q⟩)
    ·cases hr
   ·cases hr
  ·cases hr
  ·cases hr
  ·cases hr
  ·cases hr
 ·cases hr
theorem s_F {X:L2.Cx} (hu:X.A.units+20<cLine):Set3 X jUy:=(s_any hu).imp fun _ _ _ _ _=>set_F'
noncomputable def rLeF:R3:=fun x y G Q=>∃b,(match x,y with
 | .int i,.int j=>some (decide (i<=j))
 | .tup [.int a,.int b],.tup [.int c,.int d]=>some (HT.lexLe [a,b] [c,d])
 | _,_=>none)=some b/\Q (.bl b) G
theorem le_F' {x y:T} {G:Gp} {Q:VK3} (h:rLeF x y G Q):rLeA x y G Q:=by
 obtain⟨b,hb,q⟩:=h
 split at hb
 ·cases hb;exact .inl ⟨_,_,rfl,rfl,q⟩
 ·cases hb;exact .inr ⟨_,_,rfl,rfl,q⟩
 ·cases hb
theorem qQf {X:L2.Cx} (hu:X.A.units+20<cLine):Op3 X (compareOp .LtE) rLeF:=(o_leA hu).imp fun _ _ _ _=>le_F'
noncomputable def inR (G:Gp) (x y:T):Option Bool:=match seqT G y with
 | some xs=>if jU2 x=true/\xs.all jU2=true then some (inT x xs) else none
 | none=>match dAt G y x with
  | some o=>some o.isSome
  | none=>none
def kKp:R3:=fun x y G Q=>∃b,inR G x y=some b/\Q (.bl b) G
def jQm:R3:=fun x y G Q=>∃b,inR G x y=some b/\Q (.bl (!b)) G
theorem in_F' {x y:T} {G:Gp} {Q:VK3} (h:kKp x y G Q):rInL x y G Q:=by
 obtain⟨b,hb,q⟩:=h
 unfold inR at hb
 split at hb
 ·rename_i xs hx
  split at hb
  ·rename_i hc;cases hb;exact .inl ⟨xs,hx,hc.1,hc.2,q⟩
  ·cases hb
 ·split at hb
  ·rename_i o ho;cases hb;exact .inr ⟨o,ho,q⟩
  ·cases hb
theorem qV3 {x y:T} {G:Gp} {Q:VK3} (h:jQm x y G Q):qKy x y G Q:=by
 obtain⟨b,hb,q⟩:=h
 unfold inR at hb
 split at hb
 ·rename_i xs hx
  split at hb
  ·rename_i hc;cases hb;exact .inl ⟨xs,hx,hc.1,hc.2,q⟩
  ·cases hb
 ·split at hb
  ·rename_i o ho;cases hb;exact .inr ⟨o,ho,q⟩
  ·cases hb
theorem kY9 {X:L2.Cx} (hu:X.A.units+20<cLine):Op3 X (compareOp .In) kKp:=(o_in hu).imp fun _ _ _ _=>in_F'
theorem jXd {X:L2.Cx} (hu:X.A.units+20<cLine):Op3 X (compareOp .NotIn) jQm:=(qZi hu).imp fun _ _ _ _=>qV3
noncomputable def slR (G:Gp) (x:T) (lo hi:Option Int):Option Res:=match x with
 | .tup xs=>some (.val (.tup (cutT xs lo hi)))
 | .scr xs=>some (.newL (cutT xs lo hi))
 | .ref p=>match G p with
  | some (.lst xs)=>some (.newL (cutT xs lo hi))
  | _=>none
 | _=>none
def rSlF:T->Option Int->Option Int->Gp->VK3->Prop:=fun x lo hi G Q=>∃r,slR G x lo hi=some r/\fin3 r G Q
theorem sl_F' {x:T} {lo hi:Option Int} {G:Gp} {Q:VK3} (h:rSlF x lo hi G Q):rSlA x lo hi G Q:=by
 obtain⟨r,hr,q⟩:=h
 unfold slR at hr
 split at hr
 ·cases hr;exact .inr ⟨_,rfl,q⟩
 ·cases hr;exact .inl ⟨_,rfl,q⟩
 ·split at hr
  ·rename_i xs h1;cases hr;exact .inl ⟨xs,by simp only[jUz,h1,asL],q⟩
  ·cases hr
 ·cases hr
theorem sl_F {X:L2.Cx}:Sl3 X rSlF:=sl_any.imp fun _ _ _ _ _=>sl_F'
end L3
namespace L2
open PySem PySem.Spec PyProof.Rows
def Its (lo c:Int) (n:Nat):It:=⟨fun i _=>i<n,fun i H x H'=>H'=H/\x= .int (lo+i*c),fun i _=>n<=i⟩
theorem kXd {P:Program} {w:World} {K:PySem.W.Frag} {tg:Expr} (it:Addr) (lo c:Int) (n:Nat):Turn P w K tg (Its lo c n) [it] it (fun i h=>IsRangeIter h it (lo+(i:Nat)*c) ((n:Int)-(i:Nat)) c) where
 mem:=by simp
 obj:=fun i h st b hb=>by
  have e:b=it:=by simpa using hb
  subst e
  exact⟨_,st,fun v z=>by
   have z':Data.fields _=Data.cell v:=z
   cases z'⟩
 keep:=fun i h h' st k=>k it (by simp) _ st
 item:=by
  intro X hP hw hK hc i pins s σ H E I hf st hg
  subst hP hw hK
  obtain⟨f0,f1,f2,f3,f4,f5⟩:=hf it (by simp)
  have W:=Walks.range (prog:=X.prog) (w:=X.w) (I.ok.hd hc) it lo c n
  refine W.item i s _ _ hg st fun v h' tk hv st' kk=> ?_
  obtain⟨t,rfl⟩:=hv
  have I1:Inv X pins σ H {s with heap:=h',toks:=tk}:=I.turned (fun b o hb e=>kk b o (by simpa using hb) e) f0 f1 f3 f4 f5
  exact⟨_,rfl,qXp (s:={s with heap:=h',toks:=tk}) (n:="range_iterator") st' rfl rfl (by decide) ⟨.int (lo+i*c),H,I1,⟨t,rfl⟩,⟨rfl,rfl⟩,st',fun b hb=>(hf b hb).1⟩⟩
 done:=by
  intro X hP hw hK hc i pins s σ H E I hf st hg
  subst hP hw hK
  obtain⟨f0,f1,f2,f3,f4,f5⟩:=hf it (by simp)
  exact wpAny_pyNext_range_end (I.ok.hd hc) st (by have:n<=i:=hg;omega) fun h' eb=>⟨rfl,I.turned (t':=s.toks) (fun b o hb e=>eb b o hb e) f0 f1 f3 f4 f5⟩
 self:=fun _ _ _ _ _ st h=>wpAny_pyIter_rangeiter st h
section
variable {X:Cx} {tg:Expr}
theorem qKx {pins:List (Addr×Obj)} {σ:St} {H:Hp} {s:Shared} {R:It->Hp->Prop} {E:Value->Shared->Prop} {lo hi c:Int} {t u v:Tok} {tk:Nat} (I:Inv X pins σ H s) (hsm:Builtin.Range.small lo hi c=true)
  (q:R (Its lo c (Builtin.Range.rangeSize lo hi c).toNat) H):wpAny (model X.prog X.w) X.A (pyIter (.ref s.heap.objs.size)) (PIE X pins σ tg R) E {s with heap:=s.heap.push {cls:= .type "range",data:= .fields #[.int lo t,.int hi u,.int c v]},toks:=tk}:=by
 refine wpAny_pyIter_range (IsRange.new ..) hsm ?_
 have I1:Inv X pins σ H {s with heap:=s.heap.push {cls:= .type "range",data:= .fields #[.int lo t,.int hi u,.int c v]},toks:=tk}:=I.kept fun b o e=>lJl _ e
 refine⟨(s.heap.push {cls:= .type "range",data:= .fields #[.int lo t,.int hi u,.int c v]}).objs.size,[(s.heap.push {cls:= .type "range",data:= .fields #[.int lo t,.int hi u,.int c v]}).objs.size],_,_,H,rfl,
  I1.kept (t':=tk) fun b o e=>lJl _ e,kXd _ lo c (Builtin.Range.rangeSize lo hi c).toNat,?_,fun b hb=> ?_,q⟩
 ·show IsRangeIter _ _ (lo+((0:Nat):Int)*c) ((((Builtin.Range.rangeSize lo hi c).toNat:Nat):Int)-((0:Nat):Int)) c
  rw[<-rangeSize_toNat,show lo+((0:Nat):Int)*c=lo by simp,show Builtin.Range.rangeSize lo hi c-((0:Nat):Int)=Builtin.Range.rangeSize lo hi c by simp]
  exact lJz _ rfl
 ·have e:b=(s.heap.push {cls:= .type "range",data:= .fields #[.int lo t,.int hi u,.int c v]}).objs.size:=by simpa using hb
  subst e
  exact I1.fpOk (lJf _) (I1.hok.fresh (lJf _))
end
end L2
namespace L3
open PySem PySem.Spec PyProof.Rows L2
def rngS (lo c:Int) (n:Nat):List T:=(List.range n).map fun (k:Nat)=>T.int (lo+k*c)
noncomputable def qXl (ta:TA3):TI3:=fun τ G R=>ta τ G fun vs G1=>∃i j c:Int,vs=[.int i,.int j,.int c]/\(c≠0/\c.natAbs<1073741824/\Builtin.Range.small i j c=true)/\R (rngS i c (Builtin.Range.rangeSize i j c).toNat) (fun _=>True) G1
theorem qJs {K:PySem.W.Frag} {H:Hp} (lo c:Int) (n:Nat):uJk K H (Its lo c n) (rngS lo c n) fun _=>True:=by
 intro i H' G e g _
 have hl:(rngS lo c n).length=n:=by simp[rngS]
 refine⟨fun h=>by rw[hl] at h;exact h,fun h=>by rw[hl] at h;exact h,fun hi x H2 ⟨eH,ex⟩=> ?_⟩
 rw[hl] at hi
 subst eH;subst ex
 exact⟨.refl _,g,.int (lo+i*c),by simp[rngS,hi],rfl⟩
theorem qXj {X:Cx} {tg:Expr} {pos:Pos} {a b c:Expr} {ta:TA3} {p:Pos} (hg:Gl X "range") (hm:X.mg "range"=none) (ha:PA3 X [a,b,c] ta) (hs:starEach [a,b,c] X.env=[(false,eval a X.env),(false,eval b X.env),(false,eval c X.env)]:=by rfl) (hs2:starEach [b,c] X.env=[(false,eval b X.env),(false,eval c X.env)]:=by rfl):
  PI3 X tg (.Call (.Name "range" p) [a,b,c] [] pos) (qXl ta):=by
 intro pins s τ G H R I h
 obtain⟨σ,I0,hs0,hg0⟩:=id I
 refine Call_ (jQ7 I0 hg hm boot_range (lK4 (thn (ha pos pins s τ G H _ I h) fun us s1 w_=>w_.el fun xs G1 H1 e1 i_ r_ q1=>i_.el fun σ I1 hs1 hg1=>r_.el fun as ras rvs=> ?_) (by rw[hs,hs2]) (by rw[hs2];rfl)))
 obtain⟨i,j,k,e,⟨q1,q2,q3⟩,q⟩:=q1
 subst e
 obtain⟨v,as1,rfl,rv,ras1⟩:=ras
 obtain⟨w,z,rfl,rw',rz⟩:=kKj ras1
 cases (show v= .int i from rv);cases (show w= .int j from rw');cases (show z= .int k from rz)
 cases rvs with
 | cons ru rvs=>
  obtain⟨u',u'',rfl,ru',ru''⟩:=Vals.two rvs
  obtain⟨t,rfl⟩:=ru
  obtain⟨t',rfl⟩:=ru'
  obtain⟨t'',rfl⟩:=ru''
  refine call_range_3 q1 (thn (qKx (tg:=tg) (R:=fun J H'=>J=Its i k (Builtin.Range.rangeSize i j k).toNat/\H'=H1) I1 q3 ⟨rfl,rfl⟩) fun itv s2 z=> ?_) (Or.inl (PyProof.noPylong_small q2))
  obtain⟨it,fp,tn,J,H',ei,I2,T0,st,fk,eJ,eH⟩:=z
  subst eJ;subst eH
  exact⟨it,fp,tn,_,rngS i k (Builtin.Range.rangeSize i j k).toNat,fun _=>True,G1,H',ei,e1,⟨σ,I2,hs1,hg1⟩,T0,st,fk,qJs i k _,q⟩
def Draw (P:Program) (w:World) (A:Around) (i:Addr) (r:Option Value) (S S':Heap->Prop):Prop:=
 ∀(s:Shared) (Q E:Value->Shared->Prop),S s.heap->
  (∀x g,r=some x->S' g->Heap.SameBut i s.heap g->Q x {s with heap:=g})->
  (∀g e o,r=none->Heap.ExtBut i s.heap g->g.get? e=some o->o.cls= .type "StopIteration"->E (.ref e) {s with heap:=g})->
  wpAny (model P w) A (Builtin.SmallTypes.nextOf (.ref i)) Q E s
def qJ1 (i t:Addr) (k:Nat) (xs:Array Value) (h:Heap):Prop:=h.IsTupleIter i t k/\h.IsTuple t xs
theorem kQm {P:Program} {w:World} {A:Around} {i t:Addr} {k:Nat} {xs:Array Value} (hh:A.handled=none) (ne:t≠i):Draw P w A i xs[k]? (qJ1 i t k xs) (qJ1 i t (k+1) xs):=by
 rintro s Q E ⟨⟨o,ho,hc,hd⟩,q,hq,hqc,n,hn⟩ item stop
 have ty:s.TypeIs (.ref i) "tuple_iterator":=⟨o,ho,hc⟩
 refine lJa (lVt (name:=Str.ofString "__next__") ty F.slot_tuple_iterator_next (lQz F.slot_tuple_iterator_next ty F.entry_tuple_iterator_next ?_ (F.args_tuple_iterator_next_1 _)))
 refine (show wpAny _ _ (field (.ref i) 0 >>= _) _ _ s from lJa (lKx ho hd (x:= .ref t) rfl ?_))
 refine (show wpAny _ _ (if (Value.ref t == Value.none)=true then _ else field (.ref i) 1 >>= _) _ _ s from ?_)
 rw[lJb (by exact lJk)]
 refine lJa (lKx ho hd (x:= .int k 0) rfl (show wpAny _ _ (seqItems? (.ref t) >>= _) _ _ s from lJa (wpAny_seqItems hq hn ?_)))
 cases hx:xs[k]? with
 | some x=>
  simp only[hx,Int.toNat_natCast]
  have up:qJ1 i t (k+1) xs (s.heap.update i (Obj.mapFields (·.setIfInBounds 1 (rawInt ((k:Int)+1))))):=by
   refine⟨⟨_,lQs _ ho (Obj.isFreed_of_fields (Obj.data_mapFields hd _)),(Obj.cls_mapFields ..).trans hc,?_⟩,q,(lVj ..).extBut t q ne hq,hqc,n,hn⟩
   rw[Obj.data_mapFields hd];simp[rawInt]
  exact lJa (wpAny_setField ho hd (by simp) (lJd ⟨x,rfl,lJd (item x _ hx up (lVj ..))⟩))
 | none=>
  simp only[hx,Int.toNat_natCast]
  refine lJa (lQ8 (lJa (wpAny_setField ho hd (by simp) (show wpAny _ _ (newExc (.type "StopIteration") [] >>= _) _ _ _ from lJa ?_))))
  simp only[newExc,newTuple,raiseNew]
  refine lJa (lK7 (lJa (m:=firstArgMember _ _) (wpAny_of_eq (a:=Value.none) (by first | rfl | (simp only[firstArgMember];rfl)) (lK7 ?_ (by size_fits)))) (by size_fits))
  refine lJa (wpAny_handled ?_);rw[show A.in1.handled=none from hh]
  exact lJa (lJd (wpAny_throw (stop _ _ _ hx (((lVj ..).extBut.push _).push _) (lJz _ rfl) rfl)))
def itOf (t:Addr):Obj:={cls:= .type "tuple_iterator",data:= .fields #[.ref t,.int 0 0]}
theorem zapart {n a b:Nat} (ha:a<n) (hb:b<n):ZipApart (n+4) (n+2) (n+3) n (n+1) a b:=by
 constructor<;>(show @Ne Nat _ _;omega)
def zipT (xs ys:List T):List T:=(xs.zip ys).map fun p=>T.tup [p.1,p.2]
end L3
namespace L3
open PySem
theorem atN {α:Type} {xs:List α} {n:Nat}:L2.atI xs (n:Int)=xs[n]? :=by
 unfold L2.atI L2.ixN
 by_cases h:n<xs.length
 ·simp[h]
 ·simp[h]
theorem at0 {α:Type} {x:α} {xs:List α}:L2.atI (x::xs) 0=some x:=(atN (n:=0)).trans rfl
theorem at1 {α:Type} {x y:α} {xs:List α}:L2.atI (x::y::xs) 1=some y:=(atN (n:=1)).trans rfl
theorem at2 {α:Type} {x y z:α} {xs:List α}:L2.atI (x::y::z::xs) 2=some z:=(atN (n:=2)).trans rfl
theorem atZ {α:Type} {xs:List α} {i:Int} (h:0<=i):L2.atI xs i=xs[i.toNat]? :=by
 obtain⟨n,rfl⟩:=lKv h
 simpa using atN
theorem uJf {α:Type} {xs:List α} {y:α}:L2.atI (xs++[y]) (-1)=some y:=by
 unfold L2.atI L2.ixN
 have:¬ (0:Int)<= -1:=by decide
 simp only[this,lJt]
 rw[lJc (by simp;omega)]
 have e:(-1+((xs++[y]).length:Int)).toNat=xs.length:=by simp;omega
 rw[e];simp
theorem kVj {n k:Nat} (h:k<n):L2.ixN n (k:Int)=some k:=by simp[L2.ixN,h]
theorem ix0 {n:Nat}:L2.ixN (n+1) 0=some 0:=kVj (k:=0) (by omega)
theorem ix1 {n:Nat}:L2.ixN (n+2) 1=some 1:=kVj (k:=1) (by omega)
theorem ix2 {n:Nat}:L2.ixN (n+3) 2=some 2:=kVj (k:=2) (by omega)
theorem ix30:L2.ixN 3 0=some 0:=ix0
theorem ix31:L2.ixN 3 1=some 1:=ix1
theorem ix32:L2.ixN 3 2=some 2:=ix2
theorem kZ1 {G:Gp} {i j:Int}:addR G (.int i) (.int j)=some (.val (.int (i+j))):=rfl
theorem qX4 {G:Gp} {p q:Addr} {xs ys:List T} (h1:G p=some (.lst xs)) (h2:G q=some (.lst ys)) (hz:xs.length+ys.length<=sizeLine):addR G (.ref p) (.ref q)=some (.newL (xs++ys)):=by simp only[addR,h1,h2,hz,lJ4]
theorem qV4 {G:Gp} {i j:Int}:mulR G (.int i) (.int j)=some (.val (.int (i*j))):=rfl
theorem qV6 {i j:Int}:mulC (.int i) (.int j)=L2.CMul i j:=rfl
theorem qV5 {p:Addr} {j:Int}:mulC (.ref p) (.int j)=True:=rfl
theorem qZ0 {t:T} {G:Gp} {Q:VK3}:fin3 (.val t) G Q=Q t G:=rfl
theorem qUa {xs:List T} {G:Gp} {Q:VK3}:fin3 (.newL xs) G Q=∀p,G p=none->Q (.ref p) (gup G p (.lst xs)):=rfl
theorem qZt {G:Gp} {xs:List T} {i:Int}:ixR G (.tup xs) (.int i)=L2.atI xs i:=rfl
theorem qZu {G:Gp} {xs:List T} {i:Int}:ixR G (.scr xs) (.int i)=L2.atI xs i:=rfl
theorem jKs {G:Gp} {p:Addr} {xs:List T} {i:Int} (h:G p=some (.lst xs)):ixR G (.ref p) (.int i)=L2.atI xs i:=by simp only[ixR,seqT,h,asL]
theorem jZy {G:Gp} {p:Addr} {xs:List T} {k:Int} {j:Nat} {v:T} (h:G p=some (.lst xs)) (hj:L2.ixN xs.length k=some j):setR G (.ref p) (.int k) v=some (gup G p (.lst (xs.set j v))):=by simp only[setR,h,hj]
theorem qVk {G:Gp} {xs:List T}:seqT G (.tup xs)=some xs:=rfl
theorem jJl {G:Gp} {p:Addr} {xs:List T} (h:G p=some (.lst xs)):seqT G (.ref p)=some xs:=by simp only[seqT,h,asL]
theorem qYe {G:Gp} {p:Addr} {xs:List T} {k:Int} {v:T} (h:G p=some (.lst xs)):setR G (.ref p) (.int k) v=(L2.ixN xs.length k).map fun j=>gup G p (.lst (xs.set j v)):=by
 cases e:L2.ixN xs.length k with
 | none=>simp only[setR,h,e,Option.map_none]
 | some j=>simp only[setR,h,e,lQi]
theorem qVi {G:Gp} {p:Addr} {xs:List T} {k:Int} {v:T}:setR (gup G p (.lst xs)) (.ref p) (.int k) v=(L2.ixN xs.length k).map fun j=>gup G p (.lst (xs.set j v)):=by
 rw[qYe jJf];simp only[jXf]
theorem qZv {G:Gp} {p:Addr} {xs:List T} {i:Int}:ixR (gup G p (.lst xs)) (.ref p) (.int i)=L2.atI xs i:=jKs jJf
theorem qVl {G:Gp} {p:Addr} {xs:List T}:seqT (gup G p (.lst xs)) (.ref p)=some xs:=jJl jJf
def uJl (g:TG3) (tb:TS3) (D:Ends3) (τ:St3) (xs:List T) (stay:Gp->Prop) (G:Gp):Prop:=∃P:Nat->St3->Gp->Prop,P 0 τ G/\(∀i τ G,i<=xs.length->P i τ G->stay G)/\
 (∀i x τ G,xs[i]? =some x->P i τ G->g x τ G fun τ2 G2=>tb {D with nx:=P (i+1),ct:=P (i+1),bk:=D.nx} τ2 G2)/\∀ τ G,P xs.length τ G->D.nx τ G
theorem jJ1 {wi:TI3} {g:TG3} {tb:TS3} {D:Ends3} {τ:St3} {G:Gp}:tFor wi g tb D τ G=wi τ G fun xs stay G1=>uJl g tb D τ xs stay G1:=rfl
def kZ4 (mask:List Bool) (g:TG3) (tif:TT3) (te:TE3) (τ:St3) (xs:List T) (stay:Gp->Prop) (G:Gp) (Q:VK3):Prop:=kXh mask g tif te τ xs stay G Q
theorem qVd {mask:List Bool} {wi:TI3} {g:TG3} {tif:TT3} {te:TE3} {τ:St3} {G:Gp} {Q:VK3}:jUs mask wi g tif te τ G Q=wi τ G fun xs stay G1=>kZ4 mask g tif te τ xs stay G1 Q:=rfl
def Sub (G G':Gp):Prop:=∀c o,G c=some o->G' c=some o
theorem Sub.refl (G:Gp):Sub G G:=fun _ _ h=>h
theorem Sub.trans {G G1 G2:Gp} (h:Sub G G1) (h':Sub G1 G2):Sub G G2:=fun c o e=>h' c o (h c o e)
theorem Sub.new {p:Addr} {G:Gp} {o:GO} (hp:G p=none):Sub G (gup G p o):=fun c u e=>by rw[jJh];exact e;rintro rfl;rw[hp] at e;cases e
theorem Sub.over {p:Addr} {G G':Gp} {o:GO} (h:Sub G G') (hp:G p=none):Sub G (gup G' p o):=fun c u e=>by rw[jJh];exact h c u e;rintro rfl;rw[hp] at e;cases e
theorem Sub.none {G G':Gp} {p:Addr} (h:Sub G G') (hp:G' p=none):G p=none:=by
 cases e:G p with
 | none=>rfl
 | some o=>rw[h p o e] at hp;cases hp
theorem jJt {G:Gp} {a p:Addr} {o:GO} (h:gup G a o p=none):p≠a/\G p=none:=by
 by_cases e:p=a
 ·subst e;rw[jJf] at h;cases h
 ·rw[jJh e] at h;exact⟨e,h⟩
theorem jJg {G:Gp} {a p:Addr} {o:GO} (h:G a=some o) (hp:G p=none):a≠p:=by rintro rfl;rw[h] at hp;cases hp
theorem jKr {α β:Type} {enc:α->β} {es:List α} {i:Nat} {x:β} (h:(es.map enc)[i]? =some x):∃e,es[i]? =some e/\x=enc e:=by
 rw[lJs] at h
 cases e1:es[i]? with
 | none=>rw[e1] at h;cases h
 | some e=>rw[e1] at h;exact⟨e,rfl,(lJq h).symm⟩
theorem jXp {α:Type} {mask:List Bool} {g:TG3} {tif:TT3} {te:TE3} {τ:St3} {es:List α} {enc:α->T} {stay:Gp->Prop} {G:Gp} {Q:VK3} (f:α->Option T) (hz:es.length<=sizeLine) (hst:∀G',Sub G G'->stay G')
  (h:∀(i:Nat) e,es[i]? =some e->∀G' (K:T->Gp->Prop) (K0:Gp->Prop),Sub G G'->(∀y G4,f e=some y->Sub G' G4->K y G4)->(f e=none->∀G4,Sub G' G4->K0 G4)->g (enc e) (msk mask τ) G' fun τ2 G2=>tif τ2 G2 fun b G3=>if b=true then te τ2 G3 K else K0 G3)
  (hq:∀D G',G D=none->G' D=some (.lst (es.filterMap f))->Sub G G'->Q (.ref D) G'):kZ4 mask g tif te τ (es.map enc) stay G Q:=by
 intro D hD
 refine⟨fun i acc G'=>acc=(es.take i).filterMap f/\G' D=some (.lst acc)/\Sub G G',⟨by simp,jJf,.new hD⟩,?_,?_,?_⟩
 ·rintro i acc G' hi ⟨ea,eg,hs⟩
  exact⟨hst G' hs,eg⟩
 ·rintro i x acc G' hx0 ⟨ea,eg,hs⟩
  obtain⟨e,hx,rfl⟩:=jKr hx0
  have hi:i<es.length:=(lJe.mp hx).1
  have tk:es.take (i+1)=es.take i++[e]:=by rw[lV1,hx];rfl
  have hlen:acc.length<sizeLine:=by
   have h1:acc.length<=(es.take i).length:=by rw[ea];exact lV2 _ _
   rw[lVf] at h1;omega
  refine h i e hx G' _ _ hs (fun y G4 hy h4=>⟨h4 D _ eg,hlen,?_,jJf,(hs.trans h4).over hD⟩) fun hn G4 h4=>⟨?_,h4 D _ eg,hs.trans h4⟩
  ·rw[tk,lQj,<-ea];simp[hy]
  ·rw[tk,lQj,<-ea];simp[hn]
 ·rintro acc G' ⟨ea,eg,hs⟩
  rw[lJg,lVk] at ea
  rw[ea] at eg
  exact hq D G' hD eg hs
theorem jQw {α:Type} {mask:List Bool} {g:TG3} {tif:TT3} {te:TE3} {τ:St3} {es:List α} {enc:α->T} {stay:Gp->Prop} {G:Gp} {Q:VK3} (f:α->T) (hz:es.length<=sizeLine) (hst:∀G',Sub G G'->stay G')
  (h:∀(i:Nat) e,es[i]? =some e->∀G' (K:T->Gp->Prop) (K0:Gp->Prop),Sub G G'->(∀G4,Sub G' G4->K (f e) G4)->g (enc e) (msk mask τ) G' fun τ2 G2=>tif τ2 G2 fun b G3=>if b=true then te τ2 G3 K else K0 G3)
  (hq:∀D G',G D=none->G' D=some (.lst (es.map f))->Sub G G'->Q (.ref D) G'):kZ4 mask g tif te τ (es.map enc) stay G Q:=by
 refine jXp (fun e=>some (f e)) hz hst (fun i e he G' K K0 hs hk _=>h i e he G' K K0 hs fun G4 h4=>hk _ G4 rfl h4) fun D G' hD h1 h2=>hq D G' hD ?_ h2
 rw[h1];congr 2;induction es with
 | nil=>rfl
 | cons a as ih=>simp
theorem jKc {G:Gp} {p:Addr} {xs:List T} (h:G p=some (.lst xs)):tyT G "list" (.ref p)=True:=by simp[tyT,h]
theorem qYv {G:Gp} {p:Addr} {xs:List T}:tyT (gup G p (.lst xs)) "list" (.ref p)=True:=jKc jJf
theorem kQf {α:Type} {mask:List Bool} {g:TG3} {tif:TT3} {te:TE3} {τ:St3} {es:List α} {enc:α->T} {stay:Gp->Prop} {G:Gp} {Q:VK3} (f:α->List T) (hz:es.length<=sizeLine) (hst:∀G',Sub G G'->stay G')
  (h:∀(i:Nat) e,es[i]? =some e->∀G' (K:T->Gp->Prop) (K0:Gp->Prop),Sub G G'->(∀p G4,G' p=none->G4 p=some (.lst (f e))->Sub G' G4->K (.ref p) G4)->g (enc e) (msk mask τ) G' fun τ2 G2=>tif τ2 G2 fun b G3=>if b=true then te τ2 G3 K else K0 G3)
  (hq:∀D rs G',G D=none->G' D=some (.lst (rs.map T.ref))->Sub G G'->rs.length=es.length->(D::rs).Nodup->(∀(i:Nat) (r:Addr) (e:α),rs[i]? =some r->es[i]? =some e->G r=none/\G' r=some (.lst (f e)))->Q (.ref D) G'):kZ4 mask g tif te τ (es.map enc) stay G Q:=by
 intro D hD
 refine⟨fun i acc G'=>∃rs:List Addr,acc=rs.map T.ref/\rs.length=i/\G' D=some (.lst acc)/\Sub G G'/\(D::rs).Nodup/\(∀(i:Nat) (r:Addr) (e:α),rs[i]? =some r->es[i]? =some e->G r=none/\G' r=some (.lst (f e))),⟨[],rfl,rfl,jJf,.new hD,by simp,by simp⟩,?_,?_,?_⟩
 ·rintro i acc G' hi ⟨rs,ea,hl,eg,hs,hn,hr⟩
  exact⟨hst G' hs,eg⟩
 ·rintro i x acc G' hx0 ⟨rs,ea,hl,eg,hs,hn,hr⟩
  obtain⟨e,hx,rfl⟩:=jKr hx0
  have hi:i<es.length:=(lJe.mp hx).1
  have hlen:acc.length<sizeLine:=by rw[ea,lJg];omega
  refine h i e hx G' _ _ hs fun p G4 hp h4 s4=>⟨s4 D _ eg,hlen,rs++[p],by simp[ea],by simp[hl],jJf,(hs.trans s4).over hD,?_,?_⟩
  ·have hDp:D≠p:=jJg eg hp
   have hpr:p∉rs:=by
    intro hm
    obtain⟨j,hj⟩:∃j:Nat,_:=lJ8 hm
    have hjl:j<rs.length:=(lJe.mp hj).1
    have:=(hr j p es[j] hj (lJi (by omega))).2
    rw[hp] at this;cases this
   rw[lKd] at hn
   simp only[lKd,lKt,lJ1,not_or,lQk,lJv,not_false_eq_true,lVy,and_true]
   exact⟨⟨hn.1,hDp⟩,hn.2,trivial,fun a ha b hb=>by subst hb;rintro rfl;exact hpr ha⟩
  ·intro j r e' hj he'
   have hjl:j<rs.length+1:=by have:=(lJe.mp hj).1;simpa using this
   by_cases hjr:j<rs.length
   ·rw[lKg hjr] at hj
    obtain⟨q1,q2⟩:=hr j r e' hj he'
    have:r≠D:=by rintro rfl;exact (lKd.mp hn).1 (lJm hj)
    exact⟨q1,by rw[jJh this];exact s4 _ _ q2⟩
   ·have hj2:j=rs.length:=by omega
    subst hj2
    rw[lQf (lJf _)] at hj
    simp at hj
    subst hj
    rw[hl,hx] at he';cases he'
    exact⟨hs.none hp,by rw[jJh (jJg eg hp).symm];exact h4⟩
 ·rintro acc G' ⟨rs,ea,hl,eg,hs,hn,hr⟩
  rw[ea] at eg
  exact hq D rs G' hD eg hs (by simpa using hl) hn hr
end L3
namespace L3
open PySem PySem.Spec PyProof.Rows L2
section
variable {X:Cx}
def rAddE:R3:=fun x y G Q=>∃ys,x= .tup []/\y= .tup ys/\Q (.tup ys) G
theorem o_addE:Op3 X (binaryOp .Add) rAddE:=by
 rintro pins s τ G H x y v u Q ⟨σ,I,hs,hg⟩ ⟨a,ra,rv⟩ ⟨b,rb,ru⟩ ⟨ys,ex,ey,q⟩
 subst ex;subst ey
 obtain⟨pa,vs,rfl,h1,r1⟩:=(show ∃p vs,a= .ref p/\H p=some (.tup vs)/\Reps X.K H [] vs from ra)
 obtain⟨pb,ws,rfl,h2,r2⟩:=(show ∃p vs,b= .ref p/\H p=some (.tup vs)/\Reps X.K H ys vs from rb)
 cases rv;cases ru
 obtain⟨its,q1,p1,_⟩:=I.tuple (.of h1)
 obtain⟨its2,q2,p2,_⟩:=I.tuple (.of h2)
 have e0:its.toArray.isEmpty=true:=by
  have e1:=r1.length
  have e2:=q1.length
  have:its=[]:=List.eq_nil_of_length_eq_zero (by simp at e1;omega)
  rw[this];rfl
 obtain⟨⟨cls,dd,data,sl⟩,ho,hc,n,hd⟩:=id p1
 obtain⟨⟨cls2,dd2,data2,sl2⟩,ho2,hc2,n2,hd2⟩:=id p2
 simp only at hc hd hc2 hd2
 subst hc hd hc2 hd2
 exact concat_meets ⟨_,ho,rfl⟩ ⟨_,ho2,rfl⟩ noFill_tuple_add seq_tuple_add PySem.F.slot_tuple_add PySem.F.entry_tuple_add (lXs _ _) (tuple_addW0 pa pb its.toArray its2.toArray n n2 dd dd2 sl sl2 e0)
  ⟨ho,ho2,.tup ys,G,H,.refl H,⟨σ,I,hs,hg⟩,⟨.ref pb,⟨pb,ws,rfl,h2,r2⟩,rfl⟩,q⟩
def qZa:R3:=fun x y G Q=>jKi x y G Q\/rAddE x y G Q
theorem o_addG:Op3 X (binaryOp .Add) qZa:=o_addF.or o_addE
end
theorem qUo {P:Program} {w:World} {A:Around} (hh:A.handled=none) (it t:Addr) (ne:t≠it) (xs:Array Value):Draws P w A it [it,t] xs.size (fun i v=>xs[i]? =some v) (fun i h=>qJ1 it t i xs h) where
 live:=fun _ _ ⟨⟨o,ho,_⟩,_⟩=>⟨o,ho⟩
 frame:=fun _ _ _ ⟨⟨o,ho,r⟩,⟨q,hq,r'⟩⟩ k=>⟨⟨o,k it (by simp) o ho,r⟩,⟨q,k t (by simp) q hq,r'⟩⟩
 item:=fun i s Q E hi st hQ=>kQm hh ne s Q E st (fun x g e s' b=>hQ x g s.toks e s' b) fun _ _ _ e=>by rw[lXu hi] at e;cases e
 done:=fun s Q E st hE=>kQm hh ne s Q E st (fun x _ e=>by rw[Array.getElem?_eq_none (lJf _)] at e;cases e) fun g e o _ b he hc=>hE g e b ⟨o,he,hc⟩
def kZt (i:Addr):Obj:={cls:= .type "enumerate",data:= .fields #[.none,.bool false,.ref i,rawInt 0,.none,.none]}
theorem qXw (t:Addr) (xs:Array Value):
  Meets (Builtin.«enumerate.__new__» ⟨[.type "enumerate",.ref t],[]⟩) fun _ R s=>s.heap.IsTuple t xs/\R (.ok (.ret (.ref (s.heap.push (itOf t)).objs.size))) {s with heap:=(s.heap.push (itOf t)).push (kZt s.heap.objs.size)}:=by
 refine .of_wp fun P w A R s ⟨ht,h⟩=> ?_
 obtain⟨g,a1,a2,a3,a4⟩:=s
 have sb:=sub_enumerate
 have m1:Heap.IsTuple (Shared.heap ⟨g,a1,a2,a3,a4⟩) t xs:=ht
 obtain⟨⟨c,dct,dt,sl⟩,hl,hc,n,hd⟩:=id ht
 replace hc:c= .type "tuple":=hc
 replace hd:dt= .seq xs n:=hd
 subst hc hd
 wp_walk using AutoSeq1.wpAny_loadPart' hl
 refine wpAny_stack_any (fun stk=>lJd ?_)
 split
 ·rename_i k _ _ _ _ _
  cases (k == Value.type "enumerate")<;>(wp_walk using AutoSeq1.wpAny_loadPart' hl,wpAny_pyIter_tuple m1;exact⟨_,rfl,h⟩)
 ·wp_walk using AutoSeq1.wpAny_loadPart' hl,wpAny_pyIter_tuple m1;exact⟨_,rfl,h⟩
theorem qUh {P:Program} {w:World} {A:Around} {s:Shared} {t:Addr} {xs:Array Value} {Q E:Value->Shared->Prop} (ht:s.heap.IsTuple t xs)
  (h:∀g n,n=s.heap.objs.size->IsEnum g (n+1) n 0 .none->qJ1 n t 0 xs g->(∀c o,s.heap.get? c=some o->g.get? c=some o)->Q (.ref (n+1)) {s with heap:=g}):wpAny (model P w) A (call (.type "enumerate") [.ref t]) Q E s:=by
 refine callType_new F.called_enumerate (by decide) (F.typeCall_enumerate_1 _) (F.newCall_enumerate_1 _) (fun obj=>F.args_object_init_2 obj _) F.entry_enumerate_new (qXw t xs) ⟨ht,?_⟩
 have hn:∀(g:Heap) (o:Obj),(g.push o).objs.size=g.objs.size+1:=fun _ _=>lVw ..
 have up:∀ {g:Heap} {o q:Obj} {c:Addr},g.get? c=some q->(g.push o).get? c=some q:=fun e=>lJl _ e
 obtain⟨q,hq,hr⟩:=ht
 have c0:((s.heap.push (itOf t)).push (kZt s.heap.objs.size)).get? s.heap.objs.size=some (itOf t):=up (lJz _ rfl)
 have c1:((s.heap.push (itOf t)).push (kZt s.heap.objs.size)).get? (s.heap.push (itOf t)).objs.size=some (kZt s.heap.objs.size):=lJz _ rfl
 show _/\_
 simp only[hn] at c1 ⊢
 exact⟨⟨_,c1,rfl⟩,h _ _ rfl c1 ⟨⟨_,c0,rfl,rfl⟩,q,up (up hq),hr⟩ fun c o e=>up (up e)⟩
theorem jVc {P:Program} {w:World} {A:Around} {s:Shared} {e it t:Addr} {i:Int} {k:Nat} {old:Value} {xs:Array Value} {Q:Option Value->Shared->Prop} {E:Value->Shared->Prop} (hh:A.handled=none) (ne:t≠it) (he:IsEnum s.heap e it i old) (st:qJ1 it t k xs s.heap) (hk:xs.size<=k)
  (hQ:∀g,Heap.ExtBut it s.heap g->Q none {s with heap:=g}):wpAny (model P w) A (pyNext (.ref e)) Q E s:=by
 have ty:s.TypeIs (.ref e) "enumerate":=⟨_,he,rfl⟩
 refine lJa (wpAny_attempt (lVt (name:=Str.ofString "__next__") ty F.slot_enumerate_next (lQz F.slot_enumerate_next ty F.entry_enumerate_next ?_ (F.args_enumerate_next_1 _))))
 refine (show wpAny _ _ (field (.ref e) 2 >>= _) _ _ _ from lJa (lKx he rfl (x:= .ref it) rfl (lJa ?_)))
 refine kQm (A:=A.in1) hh ne s _ _ st (fun x _ e=>by rw[Array.getElem?_eq_none hk] at e;cases e) fun g x o _ b hx hc=> ?_
 exact lJa (lV7 (T:="StopIteration") (b:=true) ⟨o,hx,hc⟩ isSubtype_stop (lJd (hQ g b)))
noncomputable def Itn (K:PySem.W.Frag) (a:Addr):It:=
 ⟨fun i H=>∃xs x,SqT K H a xs/\xs[i]? =some x,fun i H x H'=>∃p y,H p=none/\x= .ref p/\(∀xs,SqT K H a xs->xs[i]? =some y)/\H'=upd H p (.tup [.int i,y]),fun i H=>∃xs,SqT K H a xs/\xs.length<=i⟩
theorem kZs {h:Heap} {a e it:Addr} {i:Int} {old:Value} {k:Nat} {xs:Array Value} (he:IsEnum h e it i old) (hi:h.IsTupleIter it a k) (ht:h.IsTuple a xs):a≠it/\e∉[it,a]:=by
 obtain⟨o,ho,hc,_⟩:=hi
 obtain⟨q,hq,hqc,_⟩:=ht
 refine⟨fun z=> ?_,fun m=> ?_⟩
 ·subst z;rw[ho] at hq;cases hq;rw[hc] at hqc;simp at hqc
 ·simp only[lJj,lJv,lKc] at m
  rcases m with rfl | rfl
  ·rw[he] at ho;cases ho;simp at hc
  ·rw[he] at hq;cases hq;simp at hqc
theorem kZ8 {P:Program} {w:World} {K:PySem.W.Frag} {elts:List Expr} {k:Nat} {pos:Pos} (a e it:Addr) (hei:e≠it):
  Turn P w K (.Tuple elts k pos) (Itn K a) [e,it] e (fun i h=>(∃old,IsEnum h e it i old)/\h.IsTupleIter it a i) where
 mem:=lKm ..
 obj:=fun i h ⟨⟨old,h1⟩,h2⟩ b hb=>by
  simp only[lJv,lJj,lKc] at hb
  rcases hb with rfl | rfl
  ·exact⟨_,h1,fun v z=>nomatch (show Data.fields _=Data.cell v from z)⟩
  ·obtain⟨o,e2,c,d⟩:=h2
   exact⟨o,e2,fun v z=>by rw[d] at z;cases z⟩
 keep:=fun i h h' ⟨⟨old,h1⟩,h2⟩ kp=>⟨⟨old,kp e (by simp) _ h1⟩,h2.at fun o q=>kp it (by simp) o q⟩
 item:=by
  rintro X hP hw hK hc i pins s σ H E I hf ⟨⟨old,he⟩,hit⟩ ⟨xs,x,hq,hx⟩
  subst hP hw hK
  obtain⟨its,rv,p,hz⟩:=I.tuple hq
  obtain⟨u,hu,ru⟩:=rv.get hx
  have p':s.heap.IsTuple a its.toArray:=p
  obtain⟨nei,hef⟩:=kZs he hit p'
  have hlt:i<its.toArray.size:=by simpa using (lJe.mp hu).1
  refine wpAny_pyNext_enum_itemD (qUo (A:=X.A.in1) (I.ok.hd hc) it a nei its.toArray) he ⟨hit,p'⟩ hlt hei hef fun x' h1 tk hx' ho hit1 hT hsz hk=> ?_
  obtain rfl:u=x':=by simpa[hu] using hx'
  refine⟨_,rfl,wpAny_letOwnedTupleGo_enum ho fun h2 he2 hs2=> ?_⟩
  have hel:e<s.heap.objs.size:=lJh he
  have hp2:∀b o,b∉[e,it]->s.heap.get? b=some o->h2.get? b=some o:=fun b o hb q=>by
   simp only[lJj,lJv,lKc,not_or] at hb
   exact (hs2.2 b hb.1).trans (hk b o hb.1 hb.2 q)
  have hT2:h2.get? s.heap.objs.size=some {cls:= .type "tuple",data:= .seq #[.int i tk,u]}:=(hs2.2 _ (lQr hel)).trans hT
  have I2:=jZ9 (t':=tk+1) (h':=h2) (p:=s.heap.objs.size) (vs:=[.int i,x]) (us:=[.int i tk,u]) I hp2 hf (lJf _) ⟨_,hT2,rfl,_,rfl,rfl⟩ (.cons ⟨_,rfl⟩ (.cons ru .nil)) (by show 2<=sizeLine;decide)
  refine⟨.ref s.heap.objs.size,_,I2,rfl,⟨_,x,I.hok.fresh (lJf _),rfl,fun ys hy=>by rw[I.tuple_inj hy hq];exact hx,rfl⟩,⟨⟨u,by simpa using he2⟩,hit1.1.at fun o q=>(hs2.2 it hei.symm).trans q⟩,fun b hb=> ?_⟩
  have hbs:∃o,s.heap.get? b=some o:=by
   have hb':=hb
   simp only[lJv,lJj,lKc] at hb'
   rcases hb' with rfl | rfl
   ·exact⟨_,he⟩
   ·obtain⟨o,q,_⟩:=hit;exact⟨o,q⟩
  obtain⟨o,q⟩:=hbs
  rw[jJx (lJn (lJh q))]
  exact (hf b hb).1
 done:=by
  rintro X hP hw hK hc i pins s σ H E I hf ⟨⟨old,he⟩,hit⟩ ⟨xs,hq,hx⟩
  subst hP hw hK
  obtain⟨its,rv,p,hz⟩:=I.tuple hq
  have p':s.heap.IsTuple a its.toArray:=p
  obtain⟨nei,hef⟩:=kZs he hit p'
  have hl:=rv.length
  refine jVc (I.ok.hd hc) nei he ⟨hit,p'⟩ (by simp;omega) fun h1 hx1=>⟨rfl,kJa (t':=s.toks) I (fun b o hb q=>hx1 b o (fun z=>hb (by simp[z])) q) hf⟩
 self:=fun _ _ _ _ _ ⟨⟨old,he⟩,_⟩ h=>lXp he h
def iEnT (ta:TA3):TI3:=fun τ G R=>ta τ G fun vs G1=>∃xs,vs=[.tup xs]/\R (numT xs) (fun _=>True) G1
theorem qQz {X:Cx} {elts:List Expr} {k:Nat} {tpos pos p:Pos} {a:Expr} {ta:TA3} (hg:Gl X "enumerate") (hm:X.mg "enumerate"=none) (hv:bootBuiltins "enumerate"=some (.type "enumerate")) (ha:PA3 X [a] ta) (hs:starEach [a] X.env=[(false,eval a X.env)]:=by rfl):
  PI3 X (.Tuple elts k tpos) (.Call (.Name "enumerate" p) [a] [] pos) (iEnT ta):=by
 intro pins s τ G H R I h
 obtain⟨σ0,I0,_,_⟩:=id I
 refine Call_ (jQ7 I0 hg hm hv (lK4 (thn (ha pos pins s τ G H _ I h) fun us s1 w_=>w_.el fun xs' G1 H1 e1 i_ r_ q1=>i_.el fun σ I1 hs1 hg1=>r_.el fun as ras rvs=> ?_) hs rfl))
 obtain⟨xs,e,q⟩:=q1
 subst e
 obtain⟨v,rfl,rv⟩:=jVf ras
 obtain⟨u,rfl,ru⟩:=rvs.one
 obtain⟨pa,vs,rfl,hq,r⟩:=(show ∃p vs,v= .ref p/\H1 p=some (.tup vs)/\Reps X.K H1 xs vs from rv)
 cases ru
 obtain⟨its,rvv,pl,hz⟩:=I1.tuple (.of hq)
 refine qUh (show s1.heap.IsTuple pa its.toArray from pl) fun h1 n hn he hit hk=> ?_
 subst hn
 have I2:Inv X pins σ H1 {s1 with heap:=h1}:=I1.kept (t':=s1.toks) hk
 refine lXp (Q:=PIE3 X pins τ H (.Tuple elts k tpos) R) he ?_
 have fr:∀b∈[s1.heap.objs.size+1,s1.heap.objs.size],FpOk X pins H1 b:=fun b hb=>by
  simp only[lJv,lJj,lKc] at hb
  have hle:s1.heap.objs.size<=b:=by omega
  exact I1.fpOk hle (I1.hok.fresh hle)
 refine⟨s1.heap.objs.size+1,[s1.heap.objs.size+1,s1.heap.objs.size],_,_,numT xs,fun _=>True,G1,H1,rfl,e1,⟨σ,I2,hs1,hg1⟩,kZ8 pa _ _ (Nat.succ_ne_self _),⟨⟨.none,he⟩,hit.1⟩,fr,?_,q⟩
 intro i H2 G2 e2 g2 _
 obtain⟨pb,ws,eb,h1',h2⟩:=(show ∃p vs,V.ref pa= .ref p/\H2 p=some (.tup vs)/\Reps X.K H2 xs vs from Rep.mono e2 _ rv)
 cases eb
 have hlen:=h2.length
 refine⟨fun hi=> ?_,fun hi=>⟨ws,.of h1',by rw[jKl] at hi;omega⟩,fun hi y H' ⟨pp,z,hn,ey,hy,eH⟩=> ?_⟩
 ·rw[jKl] at hi
  exact⟨ws,ws[i]'(by omega),.of h1',by simp[hlen▸hi]⟩
 ·subst ey;subst eH
  obtain⟨t,ht,rt⟩:=h2.get' (hy ws (.of h1'))
  exact⟨.upd (.none hn),g2.tupNew hn,_,jXk ht,Rep.tupNew ⟨_,_,rfl,rfl,_,_,rfl,rt,rfl⟩ hn⟩
section
variable {X:Cx}
theorem qU0 {K:PySem.W.Frag} {H:Hp} {y:T} {b:V} (ry:Rep K H y b) (fy:jU2 y=true):∀ {xs:List T} {vs:List V} {us:List Value},Reps K H xs vs->Vals vs us->xs.all jU2=true->∀(m:Nat) (x:T) (u:Value),xs[m]? =some x->us[m]? =some u->eqU b u=eqT x y
 | [],_,_,_,_,_=>fun m x u h=>by simp at h
 | x::xs,_,_,⟨v,ws,e,r1,r2⟩,q,f=>by
  subst e
  cases q with
  | cons q1 q2=>
   rw[lQg,lKo] at f
   intro m z u hz hu
   cases m with
   | zero=>cases hz;cases hu;rw[kZr q1 (jXm r1 f.1),kYd r1 ry f.1 fy]
   | succ m=>exact qU0 ry fy r2 q2 f.2 m z u hz hu
noncomputable def jZi:T->List T->Gp->VK3->Prop:=fun x as G Q=>∃(p:Addr) (xs:List T) (y z:T) (j:Nat),x= .ref p/\as=[y]/\G p=some (.lst xs)/\jU2 y=true/\xs.all jU2=true/\xs[j]? =some z/\eqT z y=true/\(∀(m:Nat) (t:T),m<j->xs[m]? =some t->eqT t y=false)/\Q (.int j) G
theorem kUd:Mt3 X "list.index" jZi:=by
 rintro pins s τ G H x as v us Q ⟨σ,I,hs,hg⟩ ⟨a,ra,rv⟩ ⟨bs,rbs,rus⟩ ⟨p,xs,y,z,j,ex,ea,hp,fy,fs,hj,hit,hno,q⟩
 subst ex;subst ea
 cases (show a= .ref p from ra);cases rv
 obtain⟨b,rfl,rb⟩:=jVf rbs
 obtain⟨u,rfl,ru⟩:=rus.one
 obtain⟨vs,h1,h2⟩:=hg.lst hp
 obtain⟨hz,its,n,r,hl,e⟩:=I.lstM h1
 have fl:=(jZ3 rb fy h2 fs).1
 have hlen:its.length=xs.length:=by have:=r.length;have:=h2.length;omega
 have hjl:j<xs.length:=(lJe.mp hj).1
 have hsl:=kJx
 refine lQ6 F.slot_list_index ⟨_,e,rfl⟩ F.entry_list_index (F.args_list_index_2 _ _) (SeqAt.list_indexAt p its.toArray n none #[] u (eqU b) j (by simp;omega) (by omega) ?_ ?_) ⟨e,fun w hw=>jVr ru (jXm rb fy) r fl w (by simpa using hw),?_⟩
 ·rw[qU0 rb fy h2 r fs j z _ hj (by simp)];exact hit
 ·intro m hm hmj
  have hx:xs[m]? =some xs[m]:=lJi (by omega)
  rw[qU0 rb fy h2 r fs m xs[m] _ hx (by simp)];exact hno m _ hmj hx
 ·exact⟨.int _,G,H,.refl H,⟨σ,I.tok _,hs,hg⟩,⟨.int _,rfl,s.toks,rfl⟩,q⟩
noncomputable def kU1 (tk tv:TE3):TE3:=fun τ G Q=>∀p,G p=none->tk τ (gup G p (.dck [])) fun x G1=>tv τ G1 fun y G2=>∃k,jU1 x=some k/\G2 p=some (.dck [])/\Q (.ref p) (gup G2 p (.dck [(k,y)]))
theorem qUn {pos:Pos} {k v:Expr} {tk tv:TE3} (hk:PE3 X k tk) (hv:PE3 X v tv):PE3 X (.Dict [some k] [v] pos) (kU1 tk tv):=by
 rintro pins s τ G H Q ⟨σ,I,hs,hg⟩ h
 have hn:=I.hok.fresh (lJf s.heap.objs.size)
 have I1:=I.laid (a:=s.heap.objs.size) (o:= .dK []) (h':=s.heap.push {cls:= .type "dict",data:= .dict #[]}) (t':=s.toks) (fun _ _ q=>lJl _ q) (lJf _) (kUl s.heap I.big)
 have I3:Inv3 X pins τ (gup G s.heap.objs.size (.dck [])) (upd H s.heap.objs.size (.dK [])) {s with heap:=s.heap.push {cls:= .type "dict",data:= .dict #[]},toks:=s.toks}:=
  ⟨σ,I1,hs.mono (.upd (.none hn)),hg.upd (.none hn) (go:= .dck []) ⟨[],jJ3,.nil⟩⟩
 refine wpAny_Dict_walk (knd:=jKq X.prog X.w) rfl rfl (by simp) (by simp) (lXa (thn (hk pins _ τ _ _ _ I3 (h _ (hg.fresh hn))) fun u s1 w_=>w_.el fun x G1 H1 e1 J1 ru q1=>thn (hv pins s1 τ G1 H1 _ J1 q1) fun u2 s2 w_=>w_.el fun y G2 H2 e2 i_ ru2 ⟨key,hkey,hd,q2⟩=>i_.el fun σ2 J2 hs2 hg2=>pairTrees_nil_walk ?_))
 obtain⟨ws,hH2,pk⟩:=(show ∃ws,H2 s.heap.objs.size=some (.dK ws)/\PKV X.K H2 [] ws from hg2 _ _ hd)
 cases pk
 obtain⟨a,ra,rva⟩:=ru.mono e2
 obtain⟨c,rc,rvc⟩:=ru2
 obtain rfl:=jQn hkey ra
 obtain⟨rs,cr,rk⟩:=jZe (P:=X.prog) (w:=X.w) (kvs:=[(key,c)]) (ws:=[(u,u2)]) (.cons ⟨rva,rvc⟩ .nil)
 obtain⟨z,hdd,vs0,r0,dd⟩:=qUq J2.hok hH2
 cases r0
 refine⟨rs,cr,dd,fun h' dd' hsb=> ?_⟩
 have he:∃q,h'.get? s.heap.objs.size=some q:=let ⟨q,_,_,hq,_⟩:=dd';⟨q,hq⟩
 have JJ:=kJ9 (t':=s2.toks+[(u,u2)].length) J2 (by rw[hH2];exact True.intro) hsb he (qUr (kvs:=[(key,c)]) (by rw[lQn];exact Nat.succ_le_of_lt (Nat.succ_pos _)) hdd (rk.merge .nil) dd')
 have ext:Ext H2 (upd H2 s.heap.objs.size (.dK [(key,c)])):= .upd (.dK hH2)
 exact⟨.ref s.heap.objs.size,_,_,(((Ext.upd (.none hn)).trans e1).trans e2).trans ext,⟨σ2,JJ,hs2.mono ext,hg2.upd (.dK hH2) (go:= .dck [(key,y)]) ⟨_,jJ3,PKV.put (kvs:=[]) .nil key (Rep.mono ext _ rc)⟩⟩,⟨.ref _,rfl,rfl⟩,q2⟩
end
section
variable {X:Cx}
theorem kV_of {P:Program} {w:World} {k:Key} {u:Value} (h:(jKq P w).is k u=true):RelV (kV k) u:=by
 cases k with
 | inl i=>exact Value.isInt_shape h
 | inr x=>
  have h':Value.isStrOf x u=true:=h
  cases u<;>simp[Value.isStrOf] at h'
  subst h';exact⟨_,rfl⟩
theorem kUx:∀(us:List Value) (ks:List Key),us.length=ks.length->(∀(j:Nat) (v:Value) (k:Key),us[j]? =some v->ks[j]? =some k->RelV (kV k) v)->Vals (ks.map kV) us
 | [],[],_,_=> .nil
 | u::us,k::ks,hl,h=> .cons (h 0 u k rfl rfl) (kUx us ks (by simpa using hl) fun j v k' h1 h2=>h (j+1) v k' h1 h2)
 | [],_::_,e,_=>by simp at e
 | _::_,[],e,_=>by simp at e
theorem kJh {K:PySem.W.Frag} {H:Hp}:∀ks:List Key,Reps K H (ks.map kT) (ks.map kV)
 | []=>rfl
 | .inl i::ks=>⟨_,_,rfl,rfl,kJh ks⟩
 | .inr x::ks=>⟨_,_,rfl,rfl,kJh ks⟩
theorem KV.keys {kvs:List (Key×V)} {vs:List (Key×Value)} (h:KV kvs vs):vs.map Prod.fst=kvs.map Prod.fst:=by
 unfold KV at h
 induction h with
 | nil=>rfl
 | cons h t ih=>rw[lJr,lJr,ih,h.1]
theorem PKV.keys {K:PySem.W.Frag} {H:Hp} {kvs:List (Key×T)} {ws:List (Key×V)} (h:PKV K H kvs ws):ws.map Prod.fst=kvs.map Prod.fst:=by
 unfold PKV at h
 induction h with
 | nil=>rfl
 | cons h t ih=>rw[lJr,lJr,ih,h.1]
noncomputable def qKz:List T->Gp->VK3->Prop:=fun xs G Q=>∃(p:Addr) (kvs:List (Key×T)),xs=[.ref p]/\G p=some (.dck kvs)/\∀q,G q=none->Q (.ref q) (gup G q (.lst (kvs.map fun kv=>kT kv.1)))
theorem uJc (hc:X.calm=true):Call3 X (.type "list") qKz:=by
 rintro pins s τ G H xs us Q ⟨σ,I,hs,hg⟩ ⟨as,ras,rvs⟩ ⟨p,kvs,e,hp,q⟩
 subst e
 obtain⟨v,rfl,rv⟩:=jVf ras
 obtain⟨u,rfl,ru⟩:=rvs.one
 cases (show v= .ref p from rv);cases ru
 obtain⟨ws,h1,h2⟩:=(show ∃ws,H p=some (.dK ws)/\PKV X.K H kvs ws from hg p _ hp)
 obtain⟨z,hd,vs,kv,dd⟩:=qUq I.hok h1
 obtain⟨ep,dat⟩:=dd.dictAt
 have hk:=KV.keys kv
 have hk2:ws.map Prod.fst=kvs.map Prod.fst:=PKV.keys h2
 have hlen:vs.length=ws.length:=by simpa using lJx List.length hk
 refine PySem.W.kdl_call (PySem.W.kdl_dict (knd:=jKq X.prog X.w) (kvs:=vs) (ep:=ep) hd) (I.ok.hd hc) dat (by omega) fun h' tk acc c' kp hn it=> ?_
 have hv:Vals ((kvs.map Prod.fst).map kV) acc.toList:=kUx _ _ (by rw[<-hk2,<-hk];simpa using it.1) fun j v k h1 h2=>by
  obtain⟨k',x,e1,e2⟩:=it.2 j v (by simpa using h1)
  rw[<-hk2,<-hk,lJs,e1] at h2
  cases h2
  exact kV_of e2
 have fr:=I.hok.fresh (lJf s.heap.objs.size)
 have hkl:(kvs.map Prod.fst).length=ws.length:=by rw[<-hk2];simp
 have I3:=I.laid (a:=s.heap.objs.size) (o:= .lst ((kvs.map Prod.fst).map kV)) (h':=h') (t':=tk) kp (lJf _) ⟨by rw[lJg,hkl];exact z,acc.toList,c',hv,by simpa using hn⟩
 have ext:Ext H (upd H s.heap.objs.size (.lst ((kvs.map Prod.fst).map kV))):= .upd (.none fr)
 refine⟨.ref _,_,_,ext,⟨σ,I3,hs.mono ext,hg.lstNew (kJh _) (.none fr)⟩,⟨.ref _,rfl,rfl⟩,?_⟩
 have:=q _ (hg.fresh fr)
 rw[lK0]
 exact this
end
end L3
namespace L3
open PySem PySem.Spec PyProof.Rows L2 MeetsSeq
section
variable {X:Cx}
end
end L3
namespace L3
open PySem PySem.Spec PyProof.Rows L2
section
variable {X:Cx}
end
theorem qJp:typeLookup (.type "list_reverseiterator") "__len__"=pure none:=by rw[typeLookup_type,lXq];kernel_rfl
theorem kX7:typeLookup (.type "list_reverseiterator") "__length_hint__"=pure (some (.builtin "list_reverseiterator.__length_hint__")):=by rw[typeLookup_type,lXq];kernel_rfl
theorem qXn {P:Program} {w:World} {A:Around} {E:Value->Shared->Prop} {s:Shared} {it:Addr} {Q:Bool->Shared->Prop} (ty:s.TypeIs (.ref it) "list_reverseiterator") (h:Q false s):wpAny (model P w) A (Builtin.List.listLengthHint (.ref it)) Q E s:=by
 (unfold Builtin.List.listLengthHint)
 refine lJa (lQm ty qJp ?_)
 refine (show wpAny _ A (specialOf (Value.ref it) (Str.ofString "__length_hint__") >>= _) _ _ _ from lJa (lQm ty kX7 ?_))
 generalize hn:("list_reverseiterator.__length_hint__":String)=nm
 wp_delta
 rw[show splitId nm=some ("list_reverseiterator","__length_hint__") by subst hn;decide +kernel];subst hn
 refine lJa (lV7 (T:="list_reverseiterator") (b:=true) ty (by rw[isSubtype_type];kernel_rfl) (wpAny_ite_split (fun z=>absurd z (by decide)) fun _=> ?_))
 exact wpAny_ite_split (fun _=>wpAny_ite_split (fun z=>absurd z (by decide +kernel)) fun _=>lJd h) fun z=>absurd (by decide +kernel) z
theorem qJw {P:Program} {w:World} {A:Around} {s:Shared} {R:Result->Shared->Prop} {it l S:Addr} {xs:Array Value} (hh:A.handled=none) (hi:s.heap.IsRevIter it l ((xs.size:Int)-1)) (hl:s.heap.IsList l xs) (hz:xs.size<=sizeLine) (res:Value) (c0:Nat)
  (hS:s.heap.get? S=some {cls:= .type "list",data:= .seq #[] c0}) (hSl:S≠l)
  (hR:∀(g:Heap) (tk:Nat) (acc:Array Value) (c':Nat),(∀d o,d≠S->d≠it->s.heap.get? d=some o->g.get? d=some o)->g.get? S=some {cls:= .type "list",dict:=none,data:= .seq acc c',slots:= #[]}->ItemsOf (fun i v=>xs[xs.size-1-i]? =some v) acc xs.size->R (.ok (.ret res)) {s with heap:=g,toks:=tk}):
  wpAny (model P w) A.in1 (Builtin.List.listExtendWith (.ref S) (.ref it) res) (fun fin z=>match fin with | .done f=>R (.ok f) z | .again c'=>c'.quiet=true/\codeAny (model P w) A c' R z) (fun e z=>R (.error e) z) s:=by
 have hSi:S≠it:=by
  rintro rfl
  obtain⟨o,ho,hc,_⟩:=hi
  rw[hS] at ho;cases ho
  exact absurd hc (show ¬ Value.type "list"=Value.type "list_reverseiterator" by decide)
 have ne:l≠it:=by
  rintro rfl
  obtain⟨o,ho,hc,_⟩:=hi
  obtain⟨o',ho',hc',_⟩:=hl
  rw[ho] at ho';cases ho'
  rw[hc] at hc'
  exact absurd hc' (by decide)
 have Wk:=(Walks.listRev (prog:=P) (w:=w) (A:=A.in1) hh it l ne xs).toS
 have hSf:S∉[it,l]:=by simp[hSi,hSl]
 (unfold Builtin.List.listExtendWith)
 refine lJa (lQ0 hi.typeIs ?_)
 have z1:Builtin.List.listSameRef (.ref S) (.ref it)=false:=by simp[Builtin.List.listSameRef,hSi]
 have z2:(Value.type "list_reverseiterator" == Value.type "list")=false:=by decide
 have z3:(Value.type "list_reverseiterator" == Value.type "tuple")=false:=by decide
 simp only[z1,z2,z3,Bool.or_false,lKj,lJt]
 refine lJa (wpAny_pyIter_revIter hi (lJa (lK3 (qXn hi.typeIs ?_))))
 refine wpAny_ite_split (fun z=>absurd z (by decide +kernel)) fun _=>lJd ⟨lVa F.plain_extend_loop _,?_⟩
 refine codeAny_extend_loopS Wk hz S hSf res xs.size 0 _ #[] c0 rfl (lJ2 _) ⟨lJ2 _,by simpa using hi,hl⟩ hS (ItemsOf.nil _) fun z acc c' hm hS' hacc=> ?_
 rw[Moved.eq_with hm]
 exact hR z.heap z.toks acc c' (fun b o h1 h2 e=>hm.heap b o (by simp[h1,h2]) e) hS' hacc
theorem kYk {P:Program} {w:World} {A:Around} {E:Value->Shared->Prop} {s:Shared} {it l:Addr} {xs:Array Value} {Q:List Value->Shared->Prop} (hh:A.handled=none) (hi:s.heap.IsRevIter it l ((xs.size:Int)-1)) (hl:s.heap.IsList l xs) (hz:xs.size<=sizeLine)
  (hQ:∀(g:Heap) (tk:Nat) (acc:Array Value),(∀d o,d≠it->s.heap.get? d=some o->g.get? d=some o)->s.heap.objs.size<g.objs.size->ItemsOf (fun i v=>xs[xs.size-1-i]? =some v) acc xs.size->Q acc.toList {s with heap:=g,toks:=tk}):wpAny (model P w) A (collect (.ref it)) Q E s:=by
 have key:∀R:Result->Shared->Prop,(∀(g:Heap) (tk:Nat) (acc:Array Value) (c':Nat),(∀d o,d≠it->s.heap.get? d=some o->g.get? d=some o)->g.get? s.heap.objs.size=some {cls:= .type "list",dict:=none,data:= .seq acc c',slots:= #[]}->ItemsOf (fun i v=>xs[xs.size-1-i]? =some v) acc xs.size->R (.ok (.ret (.ref s.heap.objs.size))) {s with heap:=g,toks:=tk})->
   codeAny (model P w) A (.builtin "proto.collect" ⟨[.ref it],[]⟩) R s:=by
  intro R hR
  refine lQo F.entry_proto_collect ?_;rw[lQw F.plain_proto_collect _]
  refine (show wpAny _ A.in1 (newList [] >>= fun l=>again (.builtin "list.__iadd__" ⟨[l,.ref it],[]⟩)) _ _ s from lJa (lK7 (lJd ⟨lVa F.plain_list_iadd _,lQo F.entry_list_iadd ?_⟩)))
  rw[lQw F.plain_list_iadd _];have hS:(s.heap.push {cls:= .type "list",data:= .seq ([]:List Value).toArray}).get? s.heap.objs.size=some {cls:= .type "list",data:= .seq ([]:List Value).toArray}:=lJz _ rfl
  obtain⟨ol,hol,hcl⟩:=id hl
  exact qJw (A:=A) (R:=R) hh (hi.at fun o e=>lJl _ e) ⟨ol,lJl _ hol,hcl⟩ hz (.ref s.heap.objs.size) _ hS (lQr (lJh hol)) fun g tk acc c' kp hS' itm=>hR g tk acc c' (fun d o h1 e=>kp d o (lJn (lJh e)) h1 (lJl _ e)) hS' itm
 unfold collect
 exact lJa (wpAny_runValue (key _ fun g tk acc c' kp hS' itm=>(show wpAny _ A (load s.heap.objs.size >>= _) _ _ _ from lJa (wpAny_load hS' (lJd (hQ g tk acc kp (lJh hS') itm))))))
theorem qKg {P:Program} {w:World} {A:Around} {E:Value->Shared->Prop} {s:Shared} {it l:Addr} {xs:Array Value} {Q:Value->Shared->Prop} (hh:A.handled=none) (hi:s.heap.IsRevIter it l ((xs.size:Int)-1)) (hl:s.heap.IsList l xs) (hz:xs.size<=sizeLine)
  (hQ:∀(g:Heap) (tk:Nat) (acc:Array Value),(∀d o,d≠it->s.heap.get? d=some o->g.get? d=some o)->s.heap.objs.size<g.objs.size->ItemsOf (fun i v=>xs[xs.size-1-i]? =some v) acc xs.size->Q (.ref g.objs.size) {s with heap:=g.push {cls:= .type "tuple",data:= .seq acc},toks:=tk}):
  wpAny (model P w) A (call (.type "tuple") [.ref it]) Q E s:=by
 refine callType_codes (Q₁:=fun obj z=>z.TypeIs obj "tuple"/\Q obj z) lVl (F.typeCall_tuple_1 _) F.entry_object_init (codeAny_of_tree ?_) fun obj z hz=>⟨hz.1,F.args_object_init_2 obj _,object_init_meets lVl.init.lookup lVl.made (by decide) P w A.in1 _ z ⟨hz.1,rfl,hz.2⟩⟩
 refine (show wpAny _ A.in1.in1 (do checkBuiltinCall "tuple.__new__" ⟨[.type "tuple",.ref it],[]⟩;again (.builtin "tuple.__new__" ⟨[.type "tuple",.ref it],[]⟩)) _ _ s from lJa (wpAny_of_eq (F.newCall_tuple_1 _) (lJd ⟨lVa lXg _,lQo F.entry_tuple_new ?_⟩)))
 rw[lQw lXg _];have h1:=sub_tuple_self
 have h2:=init_tuple_lookup
 have h3:=madeHere_tuple
 have ty:=hi.typeIs
 wp_walk using wpAny_typeOf ty,kYk (A:=A.in1.in1) hh hi hl hz
 intro g tk acc kp big itm
 refine (show wpAny _ _ (Builtin.Tuple.tupleExact acc.toList.toArray >>= fun x=>ret x) _ _ _ from ?_)
 unfold Builtin.Tuple.tupleExact;refine lJa (lK7 (lJd ?_) (by show acc.toList.toArray.size<=sizeLine;simp only[Array.toArray_toList];rw[itm.1];exact hz))
 rw[show acc.toList.toArray=acc by simp]
 exact⟨⟨_,lJz _ rfl,rfl⟩,hQ g tk acc kp big itm⟩
section
variable {X:Cx}
def qYy (ta:TA3):TE3:=fun τ G Q=>ta τ G fun vs G1=>∃x xs,vs=[x]/\jUz G1 x=some xs/\Q (.tup xs.reverse) G1
theorem e_trev {pos pos' p p':Pos} {a:Expr} {ta:TA3} (hc:X.calm=true) (hl:Gl X "tuple") (hlm:X.mg "tuple"=none) (hg:Gl X "reversed") (hm:X.mg "reversed"=none) (hv:bootBuiltins "reversed"=some (.type "reversed")) (ha:PA3 X [a] ta) (hs:starEach [a] X.env=[(false,eval a X.env)]:=by rfl)
  (hs':starEach [Expr.Call (.Name "reversed" p) [a] [] pos] X.env=[(false,eval (.Call (.Name "reversed" p) [a] [] pos) X.env)]:=by rfl):
  PE3 X (.Call (.Name "tuple" p') [.Call (.Name "reversed" p) [a] [] pos] [] pos') (qYy ta):=by
 intro pins s τ G H Q I h
 obtain⟨σ,I0,_,_⟩:=id I
 refine Call_ (jQ7 I0 hl hlm rfl (lK4 ?_ hs' rfl))
 rw[hs']
 refine Calls.spliced_cons (Call_ (jQ7 I0 hg hm hv (lK4 (thn (ha pos pins s τ G H _ I h) fun us s1 w_=>w_.el fun ys G1 H1 e1 i_ r_ q1=>i_.el fun σ1 I1 hs1 hg1=>r_.el fun as ras rvs=> ?_) hs rfl)))
 obtain⟨x,xs,e,hx,q⟩:=q1
 subst e
 obtain⟨v,rfl,rv⟩:=jVf ras
 obtain⟨u,rfl,ru⟩:=rvs.one
 obtain⟨pa,vs,rfl,hq,r⟩:=jUr hg1 rv hx
 cases ru
 obtain⟨its,rvv,pl,hz⟩:=I1.list hq
 have hlen:its.length=xs.length:=by have:=rvv.length;have:=r.length;omega
 refine call_reversed_list pl.isList (Calls.spliced_nil ?_)
 obtain⟨ol,hol,hcl⟩:=id pl.isList
 refine qKg (l:=pa) (xs:=its.toArray) (I1.ok.hd hc) ⟨_,lJz _ rfl,rfl,rfl⟩ ⟨ol,lJl _ hol,hcl⟩ (by have:=rvv.length;simp;omega) fun g tk acc kp big itm=> ?_
 have hacc:acc.toList=its.reverse:=by
  apply lQp
  intro i
  by_cases hi:i<its.length
  ·have hia:i<acc.size:=by rw[itm.1];simpa using hi
   have e1:acc.toList[i]? =some acc[i]:=by simp[hia]
   have e2:=itm.2 i acc[i] (by simp[hia])
   rw[e1,List.getElem?_reverse hi]
   simpa using e2.symm
  ·rw[lJ6 (by have:=itm.1;simp at this ⊢; omega),lJ6 (by simp;omega)]
 have hge:s1.heap.objs.size<=g.objs.size:=by rw[lVw] at big;omega
 have fr:=I1.hok.fresh hge
 have hvl:=rvv.length
 have I3:=I1.laid (a:=g.objs.size) (o:= .tup vs.reverse) (h':=g.push {cls:= .type "tuple",data:= .seq acc}) (t':=tk) (fun b o e=>lJl _ (kp b o (lJn (lJh e)) (lJl _ e))) hge ⟨by simp;omega,acc.toList,by rw[hacc];exact rvv.reverse,by simpa using TupD.new g acc⟩
 have ext:Ext H1 (upd H1 g.objs.size (.tup vs.reverse)):= .upd (.none fr)
 exact⟨.tup xs.reverse,G1,_,e1.trans ext,⟨σ1,I3,hs1.mono ext,hg1.tupNew fr⟩,⟨.ref g.objs.size,Rep.tupNew r.reverse fr,rfl⟩,q⟩
end
section
variable {P:Program} {w:World} {A:Around} {E:Value->Shared->Prop} {s:Shared} {d:Addr}
end
section
variable {X:Cx}
end
section
variable {X:Cx}
end
section
variable {X:Cx}
end
section
variable {X:Cx}
end
section
variable {X:Cx} {pos:Pos}
end
theorem szle {n:Nat} (h:Nat.ble n 16777216=true):n<=sizeLine:=by rw[PySem.sizeLine_eq];exact Nat.le_of_ble_eq_true h
end L3
namespace L3
theorem xe1 {A0:Type} {σ:Type} {f:A0->σ} {p:A0->Prop} {τ:σ} {C:σ->Prop} (h:∃a0,τ=f a0/\p a0) (k:∀a0,p a0->C (f a0)):C τ:=by
 obtain⟨a0,e,h⟩:=h;rw[e];exact k _ h
theorem xe2 {A0 A1:Type} {σ:Type} {f:A0->A1->σ} {p:A0->A1->Prop} {τ:σ} {C:σ->Prop} (h:∃a0 a1,τ=f a0 a1/\p a0 a1) (k:∀a0 a1,p a0 a1->C (f a0 a1)):C τ:=by
 obtain⟨a0,a1,e,h⟩:=h;rw[e];exact k _ _ h
theorem xi2 {A0 A1:Type} {σ:Type} {f:A0->A1->σ} {p:A0->A1->Prop} {τ:σ} (a0:A0) (a1:A1) (e:τ=f a0 a1) (h:p a0 a1):∃a0 a1,τ=f a0 a1/\p a0 a1:=⟨a0,a1,e,h⟩
theorem xe3 {A0 A1 A2:Type} {σ:Type} {f:A0->A1->A2->σ} {p:A0->A1->A2->Prop} {τ:σ} {C:σ->Prop} (h:∃a0 a1 a2,τ=f a0 a1 a2/\p a0 a1 a2) (k:∀a0 a1 a2,p a0 a1 a2->C (f a0 a1 a2)):C τ:=by
 obtain⟨a0,a1,a2,e,h⟩:=h;rw[e];exact k _ _ _ h
theorem xe4 {A0 A1 A2 A3:Type} {σ:Type} {f:A0->A1->A2->A3->σ} {p:A0->A1->A2->A3->Prop} {τ:σ} {C:σ->Prop} (h:∃a0 a1 a2 a3,τ=f a0 a1 a2 a3/\p a0 a1 a2 a3) (k:∀a0 a1 a2 a3,p a0 a1 a2 a3->C (f a0 a1 a2 a3)):C τ:=by
 obtain⟨a0,a1,a2,a3,e,h⟩:=h;rw[e];exact k _ _ _ _ h
theorem xi4 {A0 A1 A2 A3:Type} {σ:Type} {f:A0->A1->A2->A3->σ} {p:A0->A1->A2->A3->Prop} {τ:σ} (a0:A0) (a1:A1) (a2:A2) (a3:A3) (e:τ=f a0 a1 a2 a3) (h:p a0 a1 a2 a3):∃a0 a1 a2 a3,τ=f a0 a1 a2 a3/\p a0 a1 a2 a3:=⟨a0,a1,a2,a3,e,h⟩
theorem xe5 {A0 A1 A2 A3 A4:Type} {σ:Type} {f:A0->A1->A2->A3->A4->σ} {p:A0->A1->A2->A3->A4->Prop} {τ:σ} {C:σ->Prop} (h:∃a0 a1 a2 a3 a4,τ=f a0 a1 a2 a3 a4/\p a0 a1 a2 a3 a4) (k:∀a0 a1 a2 a3 a4,p a0 a1 a2 a3 a4->C (f a0 a1 a2 a3 a4)):C τ:=by
 obtain⟨a0,a1,a2,a3,a4,e,h⟩:=h;rw[e];exact k _ _ _ _ _ h
theorem xe6 {A0 A1 A2 A3 A4 A5:Type} {σ:Type} {f:A0->A1->A2->A3->A4->A5->σ} {p:A0->A1->A2->A3->A4->A5->Prop} {τ:σ} {C:σ->Prop} (h:∃a0 a1 a2 a3 a4 a5,τ=f a0 a1 a2 a3 a4 a5/\p a0 a1 a2 a3 a4 a5) (k:∀a0 a1 a2 a3 a4 a5,p a0 a1 a2 a3 a4 a5->C (f a0 a1 a2 a3 a4 a5)):C τ:=by
 obtain⟨a0,a1,a2,a3,a4,a5,e,h⟩:=h;rw[e];exact k _ _ _ _ _ _ h
theorem xi6 {A0 A1 A2 A3 A4 A5:Type} {σ:Type} {f:A0->A1->A2->A3->A4->A5->σ} {p:A0->A1->A2->A3->A4->A5->Prop} {τ:σ} (a0:A0) (a1:A1) (a2:A2) (a3:A3) (a4:A4) (a5:A5) (e:τ=f a0 a1 a2 a3 a4 a5) (h:p a0 a1 a2 a3 a4 a5):∃a0 a1 a2 a3 a4 a5,τ=f a0 a1 a2 a3 a4 a5/\p a0 a1 a2 a3 a4 a5:=⟨a0,a1,a2,a3,a4,a5,e,h⟩
theorem xe7 {A0 A1 A2 A3 A4 A5 A6:Type} {σ:Type} {f:A0->A1->A2->A3->A4->A5->A6->σ} {p:A0->A1->A2->A3->A4->A5->A6->Prop} {τ:σ} {C:σ->Prop} (h:∃a0 a1 a2 a3 a4 a5 a6,τ=f a0 a1 a2 a3 a4 a5 a6/\p a0 a1 a2 a3 a4 a5 a6) (k:∀a0 a1 a2 a3 a4 a5 a6,p a0 a1 a2 a3 a4 a5 a6->C (f a0 a1 a2 a3 a4 a5 a6)):C τ:=by
 obtain⟨a0,a1,a2,a3,a4,a5,a6,e,h⟩:=h;rw[e];exact k _ _ _ _ _ _ _ h
theorem xi7 {A0 A1 A2 A3 A4 A5 A6:Type} {σ:Type} {f:A0->A1->A2->A3->A4->A5->A6->σ} {p:A0->A1->A2->A3->A4->A5->A6->Prop} {τ:σ} (a0:A0) (a1:A1) (a2:A2) (a3:A3) (a4:A4) (a5:A5) (a6:A6) (e:τ=f a0 a1 a2 a3 a4 a5 a6) (h:p a0 a1 a2 a3 a4 a5 a6):∃a0 a1 a2 a3 a4 a5 a6,τ=f a0 a1 a2 a3 a4 a5 a6/\p a0 a1 a2 a3 a4 a5 a6:=⟨a0,a1,a2,a3,a4,a5,a6,e,h⟩
theorem xe8 {A0 A1 A2 A3 A4 A5 A6 A7:Type} {σ:Type} {f:A0->A1->A2->A3->A4->A5->A6->A7->σ} {p:A0->A1->A2->A3->A4->A5->A6->A7->Prop} {τ:σ} {C:σ->Prop} (h:∃a0 a1 a2 a3 a4 a5 a6 a7,τ=f a0 a1 a2 a3 a4 a5 a6 a7/\p a0 a1 a2 a3 a4 a5 a6 a7) (k:∀a0 a1 a2 a3 a4 a5 a6 a7,p a0 a1 a2 a3 a4 a5 a6 a7->C (f a0 a1 a2 a3 a4 a5 a6 a7)):C τ:=by
 obtain⟨a0,a1,a2,a3,a4,a5,a6,a7,e,h⟩:=h;rw[e];exact k _ _ _ _ _ _ _ _ h
theorem xe9 {A0 A1 A2 A3 A4 A5 A6 A7 A8:Type} {σ:Type} {f:A0->A1->A2->A3->A4->A5->A6->A7->A8->σ} {p:A0->A1->A2->A3->A4->A5->A6->A7->A8->Prop} {τ:σ} {C:σ->Prop} (h:∃a0 a1 a2 a3 a4 a5 a6 a7 a8,τ=f a0 a1 a2 a3 a4 a5 a6 a7 a8/\p a0 a1 a2 a3 a4 a5 a6 a7 a8) (k:∀a0 a1 a2 a3 a4 a5 a6 a7 a8,p a0 a1 a2 a3 a4 a5 a6 a7 a8->C (f a0 a1 a2 a3 a4 a5 a6 a7 a8)):C τ:=by
 obtain⟨a0,a1,a2,a3,a4,a5,a6,a7,a8,e,h⟩:=h;rw[e];exact k _ _ _ _ _ _ _ _ _ h
theorem xe10 {A0 A1 A2 A3 A4 A5 A6 A7 A8 A9:Type} {σ:Type} {f:A0->A1->A2->A3->A4->A5->A6->A7->A8->A9->σ} {p:A0->A1->A2->A3->A4->A5->A6->A7->A8->A9->Prop} {τ:σ} {C:σ->Prop} (h:∃a0 a1 a2 a3 a4 a5 a6 a7 a8 a9,τ=f a0 a1 a2 a3 a4 a5 a6 a7 a8 a9/\p a0 a1 a2 a3 a4 a5 a6 a7 a8 a9) (k:∀a0 a1 a2 a3 a4 a5 a6 a7 a8 a9,p a0 a1 a2 a3 a4 a5 a6 a7 a8 a9->C (f a0 a1 a2 a3 a4 a5 a6 a7 a8 a9)):C τ:=by
 obtain⟨a0,a1,a2,a3,a4,a5,a6,a7,a8,a9,e,h⟩:=h;rw[e];exact k _ _ _ _ _ _ _ _ _ _ h
theorem xe11 {A0 A1 A2 A3 A4 A5 A6 A7 A8 A9 A10:Type} {σ:Type} {f:A0->A1->A2->A3->A4->A5->A6->A7->A8->A9->A10->σ} {p:A0->A1->A2->A3->A4->A5->A6->A7->A8->A9->A10->Prop} {τ:σ} {C:σ->Prop} (h:∃a0 a1 a2 a3 a4 a5 a6 a7 a8 a9 a10,τ=f a0 a1 a2 a3 a4 a5 a6 a7 a8 a9 a10/\p a0 a1 a2 a3 a4 a5 a6 a7 a8 a9 a10) (k:∀a0 a1 a2 a3 a4 a5 a6 a7 a8 a9 a10,p a0 a1 a2 a3 a4 a5 a6 a7 a8 a9 a10->C (f a0 a1 a2 a3 a4 a5 a6 a7 a8 a9 a10)):C τ:=by
 obtain⟨a0,a1,a2,a3,a4,a5,a6,a7,a8,a9,a10,e,h⟩:=h;rw[e];exact k _ _ _ _ _ _ _ _ _ _ _ h
theorem ae2 {a0 a1 C:Prop} (h:a0/\a1) (k:a0->a1->C):C:=k h.1 h.2
theorem ae3 {a0 a1 a2 C:Prop} (h:a0/\a1/\a2) (k:a0->a1->a2->C):C:=k h.1 h.2.1 h.2.2
theorem ae4 {a0 a1 a2 a3 C:Prop} (h:a0/\a1/\a2/\a3) (k:a0->a1->a2->a3->C):C:=k h.1 h.2.1 h.2.2.1 h.2.2.2
theorem ae5 {a0 a1 a2 a3 a4 C:Prop} (h:a0/\a1/\a2/\a3/\a4) (k:a0->a1->a2->a3->a4->C):C:=k h.1 h.2.1 h.2.2.1 h.2.2.2.1 h.2.2.2.2
theorem ae6 {a0 a1 a2 a3 a4 a5 C:Prop} (h:a0/\a1/\a2/\a3/\a4/\a5) (k:a0->a1->a2->a3->a4->a5->C):C:=k h.1 h.2.1 h.2.2.1 h.2.2.2.1 h.2.2.2.2.1 h.2.2.2.2.2
theorem ae7 {a0 a1 a2 a3 a4 a5 a6 C:Prop} (h:a0/\a1/\a2/\a3/\a4/\a5/\a6) (k:a0->a1->a2->a3->a4->a5->a6->C):C:=k h.1 h.2.1 h.2.2.1 h.2.2.2.1 h.2.2.2.2.1 h.2.2.2.2.2.1 h.2.2.2.2.2.2
theorem ae8 {a0 a1 a2 a3 a4 a5 a6 a7 C:Prop} (h:a0/\a1/\a2/\a3/\a4/\a5/\a6/\a7) (k:a0->a1->a2->a3->a4->a5->a6->a7->C):C:=k h.1 h.2.1 h.2.2.1 h.2.2.2.1 h.2.2.2.2.1 h.2.2.2.2.2.1 h.2.2.2.2.2.2.1 h.2.2.2.2.2.2.2
theorem ae9 {a0 a1 a2 a3 a4 a5 a6 a7 a8 C:Prop} (h:a0/\a1/\a2/\a3/\a4/\a5/\a6/\a7/\a8) (k:a0->a1->a2->a3->a4->a5->a6->a7->a8->C):C:=k h.1 h.2.1 h.2.2.1 h.2.2.2.1 h.2.2.2.2.1 h.2.2.2.2.2.1 h.2.2.2.2.2.2.1 h.2.2.2.2.2.2.2.1 h.2.2.2.2.2.2.2.2
theorem ae10 {a0 a1 a2 a3 a4 a5 a6 a7 a8 a9 C:Prop} (h:a0/\a1/\a2/\a3/\a4/\a5/\a6/\a7/\a8/\a9) (k:a0->a1->a2->a3->a4->a5->a6->a7->a8->a9->C):C:=k h.1 h.2.1 h.2.2.1 h.2.2.2.1 h.2.2.2.2.1 h.2.2.2.2.2.1 h.2.2.2.2.2.2.1 h.2.2.2.2.2.2.2.1 h.2.2.2.2.2.2.2.2.1 h.2.2.2.2.2.2.2.2.2
theorem ae11 {a0 a1 a2 a3 a4 a5 a6 a7 a8 a9 a10 C:Prop} (h:a0/\a1/\a2/\a3/\a4/\a5/\a6/\a7/\a8/\a9/\a10) (k:a0->a1->a2->a3->a4->a5->a6->a7->a8->a9->a10->C):C:=k h.1 h.2.1 h.2.2.1 h.2.2.2.1 h.2.2.2.2.1 h.2.2.2.2.2.1 h.2.2.2.2.2.2.1 h.2.2.2.2.2.2.2.1 h.2.2.2.2.2.2.2.2.1 h.2.2.2.2.2.2.2.2.2.1 h.2.2.2.2.2.2.2.2.2.2
theorem ae12 {a0 a1 a2 a3 a4 a5 a6 a7 a8 a9 a10 a11 C:Prop} (h:a0/\a1/\a2/\a3/\a4/\a5/\a6/\a7/\a8/\a9/\a10/\a11) (k:a0->a1->a2->a3->a4->a5->a6->a7->a8->a9->a10->a11->C):C:=k h.1 h.2.1 h.2.2.1 h.2.2.2.1 h.2.2.2.2.1 h.2.2.2.2.2.1 h.2.2.2.2.2.2.1 h.2.2.2.2.2.2.2.1 h.2.2.2.2.2.2.2.2.1 h.2.2.2.2.2.2.2.2.2.1 h.2.2.2.2.2.2.2.2.2.2.1 h.2.2.2.2.2.2.2.2.2.2.2
end L3
namespace L3
open PySem PySem.Spec PyProof.Rows L2
section
variable {X:Cx}
end
section
variable {X:Cx}
def kJc:TS3:=fun _ _ _=>False
theorem kQv {e c:Option Expr} {pos:Pos}:PS3 X (.Raise e c pos) kJc:=fun _ _ _ _ _ _ _ h=>h.elim
end
section
variable {X:Cx}
noncomputable def rCatS (K:PySem.W.Frag):R2:=fun x y H Q=>∃l b xs zs,x= .ref l/\y= .ref b/\SqL K H l xs/\SqL K H b zs/\xs.length+zs.length<=sizeLine/\∀p,H p=none->Q (.ref p) (upd H p (.lst (xs++zs)))
theorem qZf:OpR X (binaryOp .Add) (rCatS X.K):=by
 intro pins s σ H x y v u Q I rx ry h
 obtain⟨l,b,xs,zs,rfl,rfl,hH,hB,hz,q⟩:=h
 cases rx
 cases ry
 obtain⟨its,r,⟨⟨cls,dd,data,sl⟩,n,e,hc,_,hd⟩,_⟩:=I.list hH
 obtain⟨its2,r2,⟨⟨cls2,dd2,data2,sl2⟩,n2,e2,hc2,_,hd2⟩,_⟩:=I.list hB
 simp only at hc hd hc2 hd2
 subst hc hd hc2 hd2
 have l1:=r.length
 have l2:=r2.length
 refine concat_meets ⟨_,e,rfl⟩ ⟨_,e2,rfl⟩ noFill_list_add seq_list_add PySem.F.slot_list_add PySem.F.entry_list_add (PySem.F.args_list_add_2 _ _) (list_addW l b its.toArray its2.toArray n n2 dd dd2 sl sl2 (by rw[lJp,lJp];omega)) ⟨e,e2,?_⟩
 have ea:its.toArray++its2.toArray=(its++its2).toArray:=by simp
 rw[ea]
 exact⟨.ref _,_,I.lnew (t':=s.toks) (r.append r2) (by rw[lJ7];omega),rfl,q _ I.fresh⟩
def rAddS:R3:=fun x y G Q=>match x with
 | .scr xs=>∃ys,jUz G y=some ys/\xs.length+ys.length<=sizeLine/\∀l,G l=none->Q (.ref l) (gup G l (.lst (xs++ys)))
 | _=>jKi x y G Q
theorem o_addS:Op3 X (binaryOp .Add) rAddS:=by
 have hc:Op3 X (binaryOp .Add) fun x y G Q=>∃xs ys,x= .scr xs/\jUz G y=some ys/\xs.length+ys.length<=sizeLine/\∀l,G l=none->Q (.ref l) (gup G l (.lst (xs++ys))):=
  Op3.of qZf fun H G x y a b Q hg ra rb ⟨xs,ys,ex,hy,hz,h⟩=>by
   subst ex
   obtain⟨p,vs,rfl,h1,h2⟩:=jUr hg ra (show jUz G (.scr xs)=some xs from rfl)
   obtain⟨q,ws,rfl,h3,h4⟩:=jUr hg rb hy
   exact⟨p,q,vs,ws,rfl,rfl,h1,h3,by rw[<-h2.length,<-h4.length];exact hz,fun l hl=>⟨.ref l,_,.upd (.none hl),hg.lstNew (h2.append h4) (.none hl),rfl,h l (hg.fresh hl)⟩⟩
 refine (o_addF.or hc).imp fun x y G Q h=> ?_
 cases x with
 | scr xs=>obtain⟨ys,h1,h2,h3⟩:=h;exact .inr ⟨xs,ys,rfl,h1,h2,h3⟩
 | _=>exact .inl h
end
section
variable {X:Cx}
end
section
variable {P:Program} {w:World} {A:Around} {E:Value->Shared->Prop} {s:Shared} {d it:Addr} {o:Obj} {es:Array DictEntry} {ep i:Nat}
theorem qJl {K:Type} [DecidableEq K] (knd:HeapKind P w K) (a:Addr) (hd:(d == sysModules)=false):
  MeetsIn P w (Builtin.«dict.get» ⟨[.ref d,.ref a],[]⟩) (fun A R s=>knd.room A.in1/\∃k xs,knd.is s.heap k a/\s.heap.DictOfH knd d xs/\R (.ok (.ret (((atKey xs k).map (·.2)).getD .none))) {s with toks:=s.toks+knd.draws k}):=
 .of_wp fun A R (s) ⟨hu,k,xs,hkey,hm,h⟩=>by
  unfold Builtin.«dict.get»; refine lJa ?_
  unfold Builtin.Dict.keyAndDefault;refine lJa (lXr hm.typeIs ?_)
  refine (show wpAny _ _ (pure (d,Value.ref a,none)) _ _ s from lJd ?_)
  refine lJa (m:=dictGet d (.ref a)) (wpAny_dictGet_heap hu hkey hm ?_)
  cases e:(atKey xs k).map (·.2) with
  | some v=>rw[e] at h;exact lJd ⟨_,rfl,h⟩
  | none=>
   rw[e] at h
   refine lJa (m:=Builtin.Dict.missed d (.ref a)) ?_
   unfold Builtin.Dict.missed
   rw[lJb (by rw[hd];exact (lJk))]
   exact lJd (lJd ⟨_,rfl,h⟩)
end
section
variable {X:Cx}
def kXw:T->List T->Gp->VK3->Prop:=fun x as G Q=>∃p ys o,x= .ref p/\as=[.tup ys]/\dAt G (.ref p) (.tup ys)=some o/\Q (o.getD .non) G
theorem qQl (hu:X.A.units+20<cLine):Mt3 X "dict.get" kXw:=by
 rintro pins s τ G H x as v us Q ⟨σ,I,hs,hg⟩ ⟨a,ra,rv⟩ ⟨bs,rbs,rus⟩ ⟨p,ys,o,ex,ea,hd,q⟩
 subst ex;subst ea
 cases (show a= .ref p from ra);cases rv
 obtain⟨b,rfl,rb⟩:=jVf rbs
 obtain⟨u1,rfl,ru1⟩:=rus.one
 obtain⟨p',ov,ep,g,e1,e2⟩:=kKa hg ra rb hd
 cases ep
 obtain⟨q',vs,e,h3,h4⟩:=(show ∃q vs,b= .ref q/\H q=some (.tup vs)/\Reps X.K H ys vs from rb)
 subst e
 cases (show u1=Value.ref q' from ru1)
 rcases g with ⟨kvs,k,e,ey,l⟩ | ⟨kvs,k,b,e,ey,eb,l⟩
 ·cases k<;>cases ey
 ·cases ey
  obtain⟨z,hdd,xs,rel,dd⟩:=kYh I.hok e
  refine call_meetsIn lQl dd.typeIs PySem.F.entry_dict_get (PySem.F.args_dict_get_2 _ _) (qJl (jKf X.prog X.w) q' hdd) ⟨jJy hu,k,xs,jYv I.hok eb,dd,?_⟩
  have ro:=rel.val k
  rw[<-l] at ro
  cases ov with
  | none=>
   cases o with
   | some t=>cases e1
   | none=>
    cases ea:atKey xs k with
    | some pp=>rw[ea] at ro;exact (show False from ro).elim
    | none=>exact⟨.non,G,H,.refl H,⟨σ,I.tok _,hs,hg⟩,⟨.non,rfl,rfl⟩,q⟩
  | some wv=>
   cases o with
   | none=>cases e1
   | some t=>
    obtain⟨wv',e',rt⟩:=e2 t rfl
    cases e'
    cases ea:atKey xs k with
    | none=>rw[ea] at ro;exact (show False from ro).elim
    | some pp=>rw[ea] at ro;exact⟨t,G,H,.refl H,⟨σ,I.tok _,hs,hg⟩,⟨wv,rt,ro⟩,q⟩
theorem jY7 {α β:Type} {F:α->β->Prop}:∀ {l:List α} {m:List β} {i:Nat} {x:α},Paired F l m->l[i]? =some x->∃y,m[i]? =some y/\F x y
 | _,_,_,_,.nil,h=>by simp at h
 | _,_,0,_,.cons r t,h=>by cases h;exact⟨_,rfl,r⟩
 | _,_,i+1,_,.cons r t,h=>jY7 (i:=i) t h
end
section
open PySem.SeqAt
open PySem.AutoSeq1 (wpAny_loadPart')
open PySem.MeetsSeq PySem.MeetsSeq2 PySem.MeetsSeq3
end
section
variable {prog:Program} {w:World} {A:Around} {E:Value->Shared->Prop} {s:Shared}
end
section
variable {X:Cx}
end
section
variable {X:Cx}
end
def CN (K:PySem.W.Frag) (cn:Str) (C:Addr):Prop:=PySem.W.nsIn K mainGlobals cn=some (some (.ref C))
theorem CN.one {K:PySem.W.Frag} {cn:Str} {C D:Addr} (h:CN K cn C) (h':CN K cn D):C=D:=by
 unfold CN at h h';rw[h] at h';cases h';rfl
structure ObF (K:PySem.W.Frag) (cn f:Str):Prop where
 ex:∃C,CN K cn C/\Cls K C/\NoAttr K C f
def jYp (f:Str) (t:T):List (Str×T)->List (Str×T)
 | []=>[(f,t)]
 | (g,x)::r=>if g=f then (g,t)::r else (g,x)::jYp f t r
def fldT (f:Str):List (Str×T)->Option T
 | []=>none
 | (g,x)::r=>if g=f then some x else fldT f r
theorem jY6 {K:PySem.W.Frag} {H:Hp} {fs:List (Str×T)} {ws:List (Str×V)} (h:PKV K H fs ws) (f:Str):
  (fldT f fs=none->ws.lookup f=none)/\∀t,fldT f fs=some t->∃v,ws.lookup f=some v/\Rep K H t v:=by
 unfold PKV at h
 induction h with
 | nil=>exact⟨fun _=>rfl,fun t e=>by cases e⟩
 | @cons a b l m r _ ih=>
  obtain⟨g,x⟩:=a;obtain⟨g',v⟩:=b;obtain⟨e,rv⟩:=r;cases e
  by_cases q:g=f
  ·subst q
   refine⟨fun e=> ?_,fun t e=> ?_⟩
   ·simp[fldT] at e
   ·simp only[fldT,lJ4] at e;cases e;exact⟨v,by simp[List.lookup],rv⟩
  ·have e2:List.lookup f ((g,v)::m)=List.lookup f m:=by
    have:(f == g)=false:=by simp;exact fun z=>q z.symm
    simp only[List.lookup,this]
   rw[e2];simp only[fldT,q,lJt];exact ih
theorem qZb {K:PySem.W.Frag} {H:Hp} {fs:List (Str×T)} {ws:List (Str×V)} (h:PKV K H fs ws) (f:Str) {t:T} {v:V} (r:Rep K H t v):PKV K H (jYp f t fs) (putF f v ws):=by
 unfold PKV at h ⊢
 induction h with
 | nil=>exact .cons ⟨rfl,r⟩ .nil
 | @cons a b l m r0 ht ih=>
  obtain⟨g,x⟩:=a;obtain⟨g',u⟩:=b;obtain⟨e,rv⟩:=r0;cases e
  by_cases q:g=f
  ·simp only[jYp,putF,q,lJ4];exact .cons ⟨rfl,r⟩ ht
  ·simp only[jYp,putF,q,lJt];exact .cons ⟨rfl,rv⟩ ih
def fldR (cn f:Str) (G:Gp):T->Option T
 | .ref a=>match G a with
  | some (.ins c fs)=>if c=cn then fldT f fs else none
  | _=>none
 | _=>none
noncomputable def kJg (cn f:Str) (G:Gp) (x y:T):Option Gp:=match x with
 | .ref a=>match G a with
  | some (.ins c fs)=>if c=cn/\fs.length<1000 then some (gup G a (.ins c (jYp f y fs))) else none
  | _=>none
 | _=>none
def obR (cn m:Str) (G:Gp):T->Bool
 | .ref a=>match G a with
  | some (.ins c fs)=>decide (c=cn)&&(fldT m fs).isNone
  | _=>false
 | _=>false
theorem qJv {cn f:Str} {G:Gp} {x t:T} (h:fldR cn f G x=some t):∃a fs,x= .ref a/\G a=some (.ins cn fs)/\fldT f fs=some t:=by
 unfold fldR at h
 split at h
 ·rename_i a
  split at h
  ·rename_i c fs hG
   split at h
   ·rename_i e;subst e;exact⟨a,fs,rfl,hG,h⟩
   ·cases h
  ·cases h
 ·cases h
theorem kXi {cn f:Str} {G G':Gp} {x t:T} (h:kJg cn f G x t=some G'):∃a fs,x= .ref a/\G a=some (.ins cn fs)/\fs.length<1000/\G'=gup G a (.ins cn (jYp f t fs)):=by
 unfold kJg at h
 split at h
 ·rename_i a
  split at h
  ·rename_i c fs hG
   split at h
   ·rename_i e;obtain⟨e,l⟩:=e;subst e;cases h;exact⟨a,fs,rfl,hG,l,rfl⟩
   ·cases h
  ·cases h
 ·cases h
theorem jXc {cn m:Str} {G:Gp} {x:T} (h:obR cn m G x=true):∃a fs,x= .ref a/\G a=some (.ins cn fs)/\fldT m fs=none:=by
 unfold obR at h
 split at h
 ·rename_i a
  split at h
  ·rename_i c fs hG
   rw[lKo,decide_eq_true_iff] at h
   obtain⟨e,l⟩:=h;subst e;exact⟨a,fs,rfl,hG,by simpa using l⟩
  ·cases h
 ·cases h
def tFld (cn f:Str) (ta:TE3):TE3:=fun τ G Q=>ta τ G fun x G1=>∃t,fldR cn f G1 x=some t/\Q t G1
def kQq (cn f:Str) (ta tv:TE3):TS3:=fun D τ G=>tv τ G fun y G1=>ta τ G1 fun x G2=>∃G3,kJg cn f G2 x y=some G3/\D.nx τ G3
def jQq (cn m:Str) (sp:Sp3) (ta:TE3) (t:TA3):TE3:=fun τ G Q=>ta τ G fun x G1=>obR cn m G1 x=true/\t τ G1 fun xs G2=>sp (x::xs) G2 Q
def qVc (cn:Str) (sp:Sp3) (t:TA3):TE3:=fun τ G Q=>t τ G fun xs G1=>∀x,G1 x=none->sp (.ref x::xs) (gup G1 x (.ins cn [])) fun v G2=>v= .non/\Q (.ref x) G2
section
variable {X:Cx} {cn f m:Str} {pos pos' apos p:Pos} {e o value:Expr} {es:List Expr} {ta tv:TE3} {t:TA3} {k:Nat} {ps:List Str} {sp:Sp3}
theorem jQg (c:ObF X.K cn f) (he:PE3 X e ta) (hb:attributeBase e f X.env (eval e X.env)=eval e X.env:=by rfl):PE3 X (.Attribute e f pos) (tFld cn f ta):=by
 intro pins s τ G H Q I h
 obtain⟨C,hC,hc,hn⟩:=c.ex
 refine uJe hb (thn (he pins s τ G H _ I h) fun u s1 w_=>w_.el fun x G1 H1 e1 i_ r_ q=>i_.el fun σ I1 hs1 hg1=>r_.el fun v rv ru=> ?_)
 obtain⟨t,ht,q⟩:=q
 obtain⟨a,fs,rfl,hG,hf⟩:=qJv ht
 cases (show v= .ref a from rv)
 obtain rfl:u=Value.ref a:=ru
 obtain⟨C',dx,ws,hH,hC',pk⟩:=(show ∃C dx ws,H1 a=some (.ins C dx ws)/\CN X.K cn C/\PKV X.K H1 fs ws from hg1 a _ hG)
 cases hC.one hC'
 obtain⟨v',hl,rv'⟩:=(jY6 pk f).2 t hf
 exact qJu I1 hH hc hn hl fun u' s2 I2 ru'=>⟨t,G1,H1,e1,⟨σ,I2,hs1,hg1⟩,⟨v',rv',ru'⟩,q⟩
theorem qJc (c:ObF X.K cn f) (ha:PE3 X o ta) (hv:PE3 X value tv) (hs:swapsWith value (some (.Attribute o f pos')) pos.line X.env=pure false:=by rfl):PS3 X (.Assign [.Attribute o f pos'] value pos) (kQq cn f ta tv):=by
 intro pins s τ G H D I h
 obtain⟨C,hC,hc,hn⟩:=c.ex
 refine plainObj_wpAny_Assign_Attribute (thn (hv pins s τ G H _ I h) fun u s1 w_=>w_.el fun y G1 H1 e1 I1 ry q1=>thn (ha pins s1 τ G1 H1 _ I1 q1) fun ov s2 w_=>w_.el fun x G2 H2 e2 i_ r_ q=>i_.el fun σ I2 hs2 hg2=>r_.el fun v rv ru=> ?_) hs
 obtain⟨G3,ht,q⟩:=q
 obtain⟨a,fs,rfl,hG,hl,rfl⟩:=kXi ht
 cases (show v= .ref a from rv)
 obtain rfl:ov=Value.ref a:=ru
 obtain⟨C',dx,ws,hH,hC',pk⟩:=(show ∃C dx ws,H2 a=some (.ins C dx ws)/\CN X.K cn C/\PKV X.K H2 fs ws from hg2 a _ hG)
 cases hC.one hC'
 obtain⟨vy,rvy,ruy⟩:=ry.mono e2
 refine qJb I2 hH hc hn (by rw[<-show fs.length=ws.length from lQd pk];exact hl) ruy fun s3 I3=> ?_
 have ext:Ext H2 (upd H2 a (.ins C dx (putF f vy ws))):= .upd (.ins hH)
 exact⟨τ,_,_,(e1.trans e2).trans ext,⟨σ,I3,hs2.mono ext,hg2.upd (.ins hH) (go:= .ins cn (jYp f y fs)) ⟨C,dx,_,jJ3,hC,(qZb pk f rvy).mono ext⟩⟩,q⟩
structure CalM (P:Program) (w:World) (K:PySem.W.Frag) (mg:Str->Option Value) (base:Heap) (k:Nat) (cn m:Str) (ps:List Str) (sp:Sp3):Prop where
 ex:∃C f fd,CN K cn C/\Cls K C/\Meth K C m f/\Fn3 P w K mg base k f fd ps sp/\Binds K fd ps []
 mono:Mono sp
 len:∀xs G Q,sp xs G Q->xs.length=ps.length
structure CalC (P:Program) (w:World) (K:PySem.W.Frag) (mg:Str->Option Value) (base:Heap) (k:Nat) (cn:Str) (ps:List Str) (sp:Sp3):Prop where
 ex:∃C f fd,CN K cn C/\mg cn=some (.ref C)/\Mk K C f/\Fn3 P w K mg base k f fd ps sp/\Binds K fd ps []
 mono:Mono sp
 len:∀xs G Q,sp xs G Q->xs.length=ps.length
theorem qUm {pl:Sem Bool} (M:CalM X.prog X.w X.K X.mg X.base k cn m ps sp) (hr:Room k X.A) (he:PE3 X o ta) (ha:PA3 X (e::es) t)
  (hst:starEach (e::es) X.env=(false,eval e X.env)::starEach es X.env:=by rfl) (hpl:(backTo pos (starEach es X.env)).any (·.1)=false:=by rfl)
  (ht:eval (.Call (.Attribute o m apos) (e::es) [] pos) X.env=(do
   let ov <-eval o X.env
   standAt apos.atName
   let (f,first) <-holding [ov] (getMethod ov m pl)
   callWith pos f first (backTo pos (starEach (e::es) X.env)) (backToKw pos (keywordEach [] X.env))):=by rfl):
  PE3 X (.Call (.Attribute o m apos) (e::es) [] pos) (jQq cn m sp ta t):=by
 intro pins s τ G H Q I h
 obtain⟨C,f,fd,hC,hc,hm,F,hb⟩:=M.ex
 refine lV3 (pl:=pl) (thn (he pins s τ G H _ I h) fun u s1 w_=>w_.el fun x G1 H1 e1 I1 r_ q=>r_.el fun v rv ru=> ?_) ht
 obtain⟨ob,q⟩:=q
 obtain⟨a,fs,rfl,hG,hf⟩:=jXc ob
 cases (show v= .ref a from rv)
 obtain rfl:u=Value.ref a:=ru
 obtain⟨σ,J1,hs1,hg1⟩:=id I1
 obtain⟨C',dx,ws,hH,hC',pk⟩:=(show ∃C dx ws,H1 a=some (.ins C dx ws)/\CN X.K cn C/\PKV X.K H1 fs ws from hg1 a _ hG)
 cases hC.one hC'
 refine jVa J1 hH hc hm ((jY6 pk m).1 hf) ?_
 refine lV0 (first:=[.ref a]) (h₀:=X.base) J1.ok.mod.kin hm.kp (thn (ha pos pins s1 τ G1 H1 _ I1 q) fun us s2 w_=>w_.el fun xs G2 H2 e2 i_ r_ q2=>i_.el fun σ2 I2 hs2 hg2=>r_.el fun as ras rvs=>⟨I2.kIn,?_⟩) hst hpl
 refine thn (qKr (us:= .ref a::us) (vs:= .ref a::as) (dvs:=[]) (ds:=[]) (E:=E0) (Q:=up X.K H2 Q) F hr hb .nil qVz I2 (.cons rfl rvs) ?_) fun u s' z=>(jVo hs2 z).ext (e1.trans e2)
 rw[lQa]
 have rr:Reps X.K H2 (.ref a::xs) (.ref a::as):=⟨_,_,rfl,rfl,ras⟩
 exact⟨by rw[<-rr.length];exact M.len _ _ _ q2,_,G2,rr,hg2,M.mono _ _ _ _ (fun t G' hq v H' e g r=>⟨t,G',e,g,r,hq⟩) q2⟩
theorem jUk {pl:Sem Bool} (M:CalM X.prog X.w X.K X.mg X.base k cn m ps sp) (hr:Room k X.A) (he:PE3 X o ta)
  (ht:eval (.Call (.Attribute o m apos) [] [] pos) X.env=(do
   let ov <-eval o X.env
   standAt apos.atName
   let (f,first) <-holding [ov] (getMethod ov m pl)
   callWith pos f first (backTo pos (starEach [] X.env)) (backToKw pos (keywordEach [] X.env))):=by rfl):
  PE3 X (.Call (.Attribute o m apos) [] [] pos) (jQq cn m sp ta tNil):=by
 intro pins s τ G H Q I h
 obtain⟨C,f,fd,hC,hc,hm,F,hb⟩:=M.ex
 refine lV3 (pl:=pl) (thn (he pins s τ G H _ I h) fun u s1 w_=>w_.el fun x G1 H1 e1 i_ r_ q=>i_.el fun σ J1 hs1 hg1=>r_.el fun v rv ru=> ?_) ht
 obtain⟨ob,q⟩:=q
 obtain⟨a,fs,rfl,hG,hf⟩:=jXc ob
 cases (show v= .ref a from rv)
 obtain rfl:u=Value.ref a:=ru
 obtain⟨C',dx,ws,hH,hC',pk⟩:=(show ∃C dx ws,H1 a=some (.ins C dx ws)/\CN X.K cn C/\PKV X.K H1 fs ws from hg1 a _ hG)
 cases hC.one hC'
 refine jVa J1 hH hc hm ((jY6 pk m).1 hf) ?_
 refine PySem.W.callWith_K0 (first:=[.ref a]) J1.kIn hm.kp ?_
 refine thn (qKr (us:=[.ref a]) (vs:=[.ref a]) (dvs:=[]) (ds:=[]) (E:=E0) (Q:=up X.K H1 Q) F hr hb .nil qVz J1 (.cons rfl .nil) ?_) fun u s' z=>(jVo hs1 z).ext e1
 rw[lQa]
 have rr:Reps X.K H1 [.ref a] [.ref a]:=⟨_,_,rfl,rfl,rfl⟩
 exact⟨by rw[<-rr.length];exact M.len _ _ _ q,_,G1,rr,hg1,M.mono _ _ _ _ (fun t G' hq v H' e g r=>⟨t,G',e,g,r,hq⟩) q⟩
theorem e_make (M:CalC X.prog X.w X.K X.mg X.base k cn ps sp) (hr:Room (k+1) X.A) (ha:PA3 X (e::es) t) (hg:Gl X cn:=by rfl)
  (hdb:(cn == ("__debug__":Str))=false:=by decide) (he:starEach (e::es) X.env=(false,eval e X.env)::starEach es X.env:=by rfl) (hpl:(backTo pos (starEach es X.env)).any (·.1)=false:=by rfl):
  PE3 X (.Call (.Name cn p) (e::es) [] pos) (qVc cn sp t):=by
 intro pins s τ G H Q I h
 obtain⟨C,f,fd,hC,hm,hmk,F,hb⟩:=M.ex
 obtain⟨σ0,I0,hs0,hg0⟩:=id I
 refine lQ7 (kJz I0 hg hm ?_ hdb)
 refine lV0 (h₀:=X.base) I0.ok.mod.kin hmk.kp (thn (ha pos pins s τ G H _ I h) fun us s1 w_=>w_.el fun xs G1 H1 e1 i_ r_ q=>i_.el fun σ I1 hs1 hg1=>r_.el fun as ras rvs=>⟨I1.kIn,?_⟩) he hpl
 refine thn (qVm (dvs:=[]) (ds:=[]) (E:=E0) (Q:=up X.K H1 Q) hmk F hr hb .nil qVz I1 rvs fun x dx hx hdx ne=> ?_) fun u s' z=>(jVo hs1 z).ext e1
 rw[lQa]
 have x1:Ext H1 (upd H1 dx (.own x)):= .upd (.none hdx)
 have hx1:upd H1 dx (.own x) x=none:=by rw[jJx ne.symm];exact hx
 have x2:Ext (upd H1 dx (.own x)) (upd (upd H1 dx (.own x)) x (.ins C dx [])):= .upd (.none hx1)
 have g1:GRel X.K (upd H1 dx (.own x)) G1:=fun b u eb=>by
  have hb:b≠dx:=by rintro rfl;exact (hg1 b u eb).some hdx
  exact (hg1 b u eb).move x1 (jJx hb)
 have g2:GRel X.K (upd (upd H1 dx (.own x)) x (.ins C dx [])) (gup G1 x (.ins cn [])):=g1.upd (.none hx1) ⟨C,dx,[],jJ3,hC,.nil⟩
 have rr:Reps X.K (upd (upd H1 dx (.own x)) x (.ins C dx [])) (.ref x::xs) (.ref x::as):=⟨_,_,rfl,rfl,Reps.mono (x1.trans x2) _ ras⟩
 have q':=q x (hg1.fresh hx)
 refine⟨by rw[<-rr.length];exact M.len _ _ _ q',_,_,rr,g2,M.mono _ _ _ _ (fun t G' hq v H' e g r=> ?_) q'⟩
 obtain⟨e0,hq⟩:=hq
 subst e0
 exact⟨r,.ref x,G',(x1.trans x2).trans e,g,rfl,hq⟩
end
end L3
namespace L3
open PySem PySem.Spec PyProof.Rows L2 PySem.W
structure Lies (P:Program) (w:World) (outer:List Env) (H:Hp) (s:Shared) (a C:Addr) (B:Heap) (a0:Value) (H':Hp) (s':Shared):Prop where
 os:s'.os=s.os
 bare:AllBare s'.gens
 fly:Heap.FlyingW B outer a (.ref C) a0 s'.heap
 hok:HOk P w H' B
 keep:∀b o,s.heap.get? b=some o->H b=none->b∉frs outer->B.get? b=some o
 there:∀b o,s.heap.get? b=some o->b∉frs outer->∃o',B.get? b=some o'
 slot:∀b o,s.heap.get? b=some o->b∈frs outer->∃sl,s'.heap.get? b=some {o with slots:=sl}
 free:∀b o,s.heap.get? b=some o->H b=none->H' b=none
 tups:∀b xs,H b=some (.tup xs)->H' b=some (.tup xs)
 frzs:∀b o u,H b=some (.frz o u)->H' b=some (.frz o u)
 tbls:∀b ps,H b=some (.tbl ps)->∃more,H' b=some (.tbl (ps++more))
section
variable {P:Program} {w:World} {outer:List Env} {H H':Hp} {s s':Shared} {a C:Addr} {B:Heap} {a0:Value}
theorem Lies.un (l:Lies P w outer H s a C B a0 H' s'):Un (frs outer) [] H H' s.heap s'.heap where
 keep:=fun b o h n f _=>l.fly.1 b o (l.keep b o h n f)
 slot:=fun b o h _ f _=>l.slot b o h f
 free:=fun b o h n _=>l.free b o h n
 there:=fun b o h _=>by
  by_cases f:b∈frs outer
  ·obtain⟨sl,e⟩:=l.slot b o h f
   exact⟨_,e⟩
  ·obtain⟨o',e⟩:=l.there b o h f
   exact⟨o',l.fly.1 b o' e⟩
 tups:=l.tups
 frzs:=l.frzs
 tbls:=l.tbls
theorem qK6 {P:Program} {w:World} {H:Hp} {h:Heap} {a:Addr} {o:HO} (x:ObjOk P w H h a o):∃u,h.get? a=some u:=by
 induction o with
 | lst xs=>obtain⟨z,its,n,r,e⟩:=x;exact⟨_,e⟩
 | tup xs=>obtain⟨z,its,r,ob,e,c⟩:=x;exact⟨_,e⟩
 | dK kvs=>obtain⟨z,y,vs,r,ob,es,ep,e,c⟩:=x;exact⟨_,e⟩
 | dT kvs=>obtain⟨z,y,xs,r,ob,es,ep,e,c⟩:=x;exact⟨_,e⟩
 | set S n=>obtain⟨ob,es,ep,t,e,c⟩:=x;exact⟨_,e⟩
 | ins C dx fs=>obtain⟨d,z,ne,e,_⟩:=x;exact⟨_,e⟩
 | own y=>exact x
 | xd fs=>obtain⟨mA,⟨od,es,ep,e,c⟩,r⟩:=x;exact⟨_,e⟩
 | rng lo hi=>obtain⟨t,u,v,e⟩:=x;exact⟨_,e⟩
 | frz ob u ih=>obtain⟨e,q⟩:=x;exact⟨_,e⟩
 | tbl ps=>exact⟨_,x⟩
 | met f y=>exact⟨_,x⟩
 | ext φ=>obtain⟨p,e,st⟩:=x;exact e
theorem Lies.na (l:Lies P w outer H s a C B a0 H' s'):H' a=none:=by
 cases e:H' a with
 | none=>rfl
 | some o=>
  obtain⟨u,hu⟩:=qK6 (l.hok a o e)
  rw[l.fly.2.1] at hu;cases hu
end
section
variable {X:Cx} {pins:List (Addr×Obj)} {σ:L2.St} {H H':Hp} {s s':Shared} {a C:Addr} {B:Heap} {a0:Value} {E:Value->Shared->Prop}
theorem qZz {l:List Env}:∀env∈l,∀b,env.frame=some b->b∈frs l:=fun env he b hb=>lQ2.mpr ⟨env,he,hb⟩
theorem qV9 (I:Inv X pins σ H s) (hs:X.stack=X.env::X.outer) (hf:X.env.frame=some X.env.locals) (hex:X.ex=[]) {args:List Value} (hm:Heap.MadeExcOf s.heap s'.heap a (.ref C) args) (ho:s'.os=s.os) (hg:s'.gens=s.gens) {Q:Unit->Shared->Prop}
  (k:∀B a0 h',Lies X.prog X.w X.outer X.H₀ X.s₀ a C B a0 H {s' with heap:=h'}->Q () {s' with heap:=h'}):wpAny (model X.prog X.w) X.A (leaving X.env (.ref a)) Q E s':=by
 have hst:=I.stack
 have hfr:X.A.frames=some (X.env::X.outer):=by rw[I.ok.frames,hs]
 rw[hs] at hst
 have sub:∀b,b∈frs (X.env::X.outer)↔b=X.env.locals\/b∈frs X.outer:=fun b=>by
  unfold frs;rw[lQ1,hf];exact lJj
 have inB:∀b o,s.heap.get? b=some o->b≠X.env.locals->b∉frs X.outer->(hideAll s.heap (frs (X.env::X.outer))).get? b=some o:=fun b o h n f=>
  hideAll_get _ h fun z=>((sub b).mp z).elim n f
 have nex:∀b,b∉X.ex:=fun b=>by rw[hex];exact lJv
 have old:∀b o,X.s₀.heap.get? b=some o->b≠X.env.locals:=fun b o h z=>by
  rw[z] at h;exact absurd (lJh h) (Nat.not_lt.mpr I.ok.above)
 refine wpAny_leaves_madeW hfr hf (fun b o h=>of_hideAll _ h) (funFrames_hide hst fun env he b hb=>qZz env he b hb) hm fun h' t fl tp nt up=> ?_
 refine k (hideAll s.heap (frs (X.env::X.outer))) (.ref t) h' ⟨ho.trans I.os,by rw[show ({s' with heap:=h'}:Shared).gens=s.gens from hg];exact I.bare,fl,?_,?_,?_,?_,fun b o h n=>I.base.free b o h n (nex b),I.base.tups,I.base.frzs,I.base.tbls⟩
 ·intro b o e
  refine (I.hok b o e).stay (fun c u hc h=>hideAll_get _ h fun z=> ?_) (fun _ q=>q) fun _ _ q=>q
  have hn:=I.stkFree c (by rw[hs];exact z)
  rcases hc with rfl | hc
  ·rw[e] at hn;cases hn
  ·rw[hc] at hn;cases hn
 ·intro b o h n f
  exact inB b o (I.base.keep b o h n f (nex b)) (old b o h) f
 ·intro b o h f
  obtain⟨o',h'⟩:=I.base.there b o h (nex b)
  exact⟨o',inB b o' h' (old b o h) f⟩
 ·intro b o h f
  obtain⟨sl,e1⟩:=I.base.slot b o h (I.ok.frf b f) f (nex b)
  obtain⟨_,o',ho',hd⟩:=I.funs.mem f
  rw[e1] at ho'
  cases ho'
  obtain⟨sl',e2⟩:=(Heap.UpToSlots.of_keeps hm.keeps).trans up b _ e1 hd
  exact⟨sl',e2⟩
theorem qZp (I:Inv X pins σ H s) (hs:X.stack=X.env::X.outer) (hf:X.env.frame=some X.env.locals) (hex:X.ex=[]) (l:Lies X.prog X.w X.stack H s a C B a0 H' s') {Q:Unit->Shared->Prop}
  (k:∀h',Lies X.prog X.w X.outer X.H₀ X.s₀ a C B a0 H' {s' with heap:=h'}->Q () {s' with heap:=h'}):wpAny (model X.prog X.w) X.A (leaving X.env (.ref a)) Q E s':=by
 have hfr:X.A.frames=some (X.env::X.outer):=by rw[I.ok.frames,hs]
 have sub:∀b,b∈frs X.stack↔b=X.env.locals\/b∈frs X.outer:=fun b=>by
  rw[hs];unfold frs;rw[lQ1,hf];exact lJj
 have nex:∀b,b∉X.ex:=fun b=>by rw[hex];exact lJv
 have old:∀b o,X.s₀.heap.get? b=some o->b≠X.env.locals:=fun b o h z=>by
  rw[z] at h;exact absurd (lJh h) (Nat.not_lt.mpr I.ok.above)
 have nst:∀b o,X.s₀.heap.get? b=some o->b∉frs X.outer->b∉frs X.stack:=fun b o h f z=>((sub b).mp z).elim (old b o h) f
 refine wpAny_leaves_onW hfr hf (by rw[<-hs];exact l.fly) fun h' fl up=>k h' ⟨l.os.trans I.os,l.bare,fl,l.hok,?_,?_,?_,?_,?_,?_,?_⟩
 ·intro b o h n f
  exact l.keep b o (I.base.keep b o h n f (nex b)) (I.base.free b o h n (nex b)) (nst b o h f)
 ·intro b o h f
  obtain⟨o',e⟩:=I.base.there b o h (nex b)
  exact l.there b o' e (nst b o h f)
 ·intro b o h f
  obtain⟨sl,e1⟩:=I.base.slot b o h (I.ok.frf b f) f (nex b)
  obtain⟨sl',e2⟩:=l.slot b _ e1 ((sub b).mpr (.inr f))
  obtain⟨_,o',ho',hd⟩:=I.funs.mem f
  rw[e1] at ho'
  cases ho'
  obtain⟨sl3,e3⟩:=up b _ e2 hd
  exact⟨sl3,e3⟩
 ·intro b o h n
  obtain⟨o',e⟩:=I.base.there b o h (nex b)
  exact l.free b o' e (I.base.free b o h n (nex b))
 ·exact fun b xs h=>l.tups b xs (I.base.tups b xs h)
 ·exact fun b o u h=>l.frzs b o u (I.base.frzs b o u h)
 ·intro b ps h
  obtain⟨m1,e1⟩:=I.base.tbls b ps h
  obtain⟨m2,e2⟩:=l.tbls b _ e1
  exact⟨m1++m2,by rw[e2,Array.append_assoc]⟩
theorem qQp (I:Inv X pins σ H s) (l:Lies X.prog X.w X.stack H s a C B a0 H' s') (hs:X.stack=X.env::X.outer) (hf:X.env.frame=some X.env.locals) {Q:Unit->Shared->Prop}
  (k:∀h',Inv X pins σ H' {s' with heap:=h'}->Lies X.prog X.w X.stack H s a C B a0 H' {s' with heap:=h'}->Q () {s' with heap:=h'}):
  wpAny (model X.prog X.w) X.A (noteFrame (.ref a) X.env) (fun _ s2=>wpAny (model X.prog X.w) X.A (setFlight (.ref a) none) Q E s2) E s':=by
 have hfr:X.A.frames=some (X.env::X.outer):=by rw[I.ok.frames,hs]
 refine wpAny_looks_onW hfr hf (by rw[<-hs];exact l.fly) fun h1 hd up1=> ?_
 refine wpAny_landsW (s:={s' with heap:=h1}) hd fun h2 fl up2=> ?_
 have l2:Lies X.prog X.w X.stack H s a C B a0 H' {s' with heap:=h2}:=by
  refine⟨l.os,l.bare,by rw[hs];exact fl,l.hok,l.keep,l.there,fun b o h f=> ?_,l.free,l.tups,l.frzs,l.tbls⟩
  obtain⟨sl,e⟩:=l.slot b o h f
  obtain⟨_,o',ho',hd'⟩:=I.stack.mem f
  rw[h] at ho'
  cases ho'
  obtain⟨sl2,e2⟩:=(up1.trans up2) b _ e hd'
  exact⟨sl2,e2⟩
 exact k h2 (I.call' l2.os l2.un (l2.hok.kept fun b u e=>l2.fly.1 b u e) l2.bare fun b z=>absurd z lJv) l2
end
abbrev XK3:=Str->Gp->Prop
abbrev SpX:=List T->Gp->VK3->XK3->Prop
def vmro:List Value:=[.type "ValueError",.type "Exception",.type "BaseException",.type "object"]
structure ExC (K:PySem.W.Frag) (mg:Str->Option Value) (cn:Str):Prop where
 ex:∃C,CN K cn C/\mg cn=some (.ref C)/\excIn K C vmro "ValueError.__new__"=true
theorem exc_at {K:PySem.W.Frag} {C:Addr} {bmB:List Value} {newId:String} (q:excIn K C bmB newId=true):
  ∃bm N nm qn bs hdct sn sub ab col dd k0 k1 k2 k3 k5,K.lookup C=some (excClassObj nm qn C N bs bm hdct sn sub ab col dd k0 k1 k2 k3 k5 newId)/\nsOkIn K N=true/\nsIn K N "__init__"=some none/\tailIn K bmB bm=true:=by
 unfold excIn at q
 split at q
 ·rename_i dd cd sl ho
  split at q
  ·rename_i C' bm k0 k1 k2 k3 n k5 hm hs
   (simp only[lKo,beq_iff_eq,Bool.not_eq_true'] at q)
   obtain⟨⟨⟨⟨⟨rfl,rfl⟩,z⟩,ht⟩,hok⟩,hni⟩:=q
   (obtain⟨nm,bs,mro,ns,qn,hd,sn,sub,ab,col,del⟩:=cd)
   dsimp only at hm z hok hni
   subst hm z
   have e:sl= #[k0,k1,k2,k3,some (.builtin n),k5]:=by
    obtain⟨l⟩:=sl
    simp only at hs
    rw[hs]
   subst e
   exact⟨bm,ns,nm,qn,bs,hd,sn,sub,ab,col,dd,k0,k1,k2,k3,k5,ho,hok,hni,ht⟩
  ·cases q
 ·cases q
theorem qZj {K:PySem.W.Frag} {h h':Heap} {N:Addr} {m:Str->Option Value} (X:K.In h) (X':K.In h') (e:nsOkIn K N=true) (hn:h.Ns N m):h'.Ns N m:=by
 unfold nsOkIn at e
 split at e
 ·rename_i ho
  obtain⟨o,es,ep,h1,r⟩:=hn
  have:=X _ _ ho
  rw[h1] at this
  cases this
  exact⟨_,es,ep,X' _ _ ho,r⟩
 ·cases e
theorem qKh {h:Heap} {bm:List Value} (t:OwnTail h vmro bm):bm.contains (.type "BaseException")=true:=t.hasType (by decide)
def CXX (P:Program) (w:World):CXT:=fun outer H s E e s'=>∃a C B a0 H',e= .ref a/\Lies P w outer H s a C B a0 H' s'/\E e (some C) H'
structure XR (X:Cx) (R:XK3):Prop where
 raise_:∀(pins:List (Addr×Obj)) (σ:L2.St) (H1:Hp) (G1:Gp) (s1 s':Shared) (a C:Addr) (cn:Str) (args:List Value),Inv X pins σ H1 s1->GRel X.K H1 G1->CN X.K cn C->Heap.MadeExcOf s1.heap s'.heap a (.ref C) args->s'.os=s1.os->s'.gens=s1.gens->R cn G1->X.xe (.ref a) s'
 pass:∀(pins:List (Addr×Obj)) (σ:L2.St) (H1:Hp) (s1 s':Shared) (a C:Addr) (cn:Str) (B:Heap) (a0:Value) (H':Hp) (G':Gp),Inv X pins σ H1 s1->Lies X.prog X.w X.stack H1 s1 a C B a0 H' s'->GRel X.K H' G'->CN X.K cn C->R cn G'->X.xe (.ref a) s'
 own:PassesOwn (model X.prog X.w) X.A X.env X.xe
noncomputable def dnX (K:PySem.W.Frag) (n:Nat) (sp:SpX):Sp:=fun vs H Q E=>vs.length=n/\∃xs G,Reps K H xs vs/\GRel K H G/\sp xs G (fun t G'=>∀v H',Ext H H'->GRel K H' G'->Rep K H' t v->Q v H') (fun cn G'=>∀e C H',Ext H H'->GRel K H' G'->CN K cn C->E e (some C) H')
def FnX (P:Program) (w:World) (K:PySem.W.Frag) (mg:Str->Option Value) (base:Heap) (k:Nat) (f:Addr) (fd:FuncData) (ps:List Str) (sp:SpX):Prop:=FnOk P w K mg base (CXX P w) k f fd ps (dnX K ps.length sp)
theorem fnX {P:Program} {w:World} {K:PySem.W.Frag} {mg:Str->Option Value} {base:Heap} {x qual:Str} {st:Stmt} {f:Addr} {fd:FuncData} {N ps:List Str} {k:Nat} {sp:SpX} (F:Fun K x qual st f fd) (S:FnScope N ps (jJn st))
  (hbody:∀(cdv:Value) (A:Around) (outer:List Env) (s:Shared) (H:Hp) (E:XK) (R:XK3),Room k (A.deeper (envOfC qual (jJn st) s.heap.objs.size f cdv))->XR (cxOf (CXX P w) P w K mg base N qual (jJn st) f cdv A outer s H E) R->
   ∃t,PSs3 (cxOf (CXX P w) P w K mg base N qual (jJn st) f cdv A outer s H E) (jKx st) t/\∀xs G Q,sp xs G Q R->t {nx:=fun _ G'=>Q .non G',rt:=Q} (jQ6 N xs) G):FnX P w K mg base (k+1) f fd ps sp:=by
 obtain⟨oc,od,kV,doc,pm,an,cdv,ct,osl,rfl,lk,hcd⟩:=F.ex
 refine fn_of (sp:=dnX K ps.length sp) lk hcd S (fun vs H Q E h=>h.1) fun A outer s H vs Q E hr hsp=> ?_
 obtain⟨hl,xs,G,rs,hg,hsp⟩:=hsp
 have hXR:XR (cxOf (CXX P w) P w K mg base N qual (jJn st) f cdv A outer s H E) (fun cn G'=>∀e C H',Ext H H'->GRel K H' G'->CN K cn C->E e (some C) H'):=by
  refine⟨?_,?_,PassesOwn.leaving⟩
  ·intro pins σ H1 G1 s1 s' a C cn args I g1 hc hm ho hg' hR
   exact qV9 I rfl rfl rfl hm ho hg' fun B a0 h' l=>⟨a,C,B,a0,H1,rfl,l,hR (.ref a) C H1 ⟨I.base.tups,I.base.frzs⟩ g1 hc⟩
  ·intro pins σ H1 s1 s' a C cn B a0 H' G' I l g1 hc hR
   refine qZp I rfl rfl rfl l fun h' l'=>⟨a,C,B,a0,H',rfl,l',hR (.ref a) C H' ⟨l'.tups,l'.frzs⟩ g1 hc⟩
 obtain⟨t,ht,hq⟩:=hbody cdv A outer s H E _ hr hXR
 ·refine⟨fun D σ H1=>D.nx=(fun _ H'=>Q .non H')/\D.rt=Q/\σ=L2.start N vs/\H1=H,?_,rfl,rfl,rfl,rfl⟩
  rintro pins s1 σ1 H1 D I ⟨e1,e2,e3,e4⟩
  subst e3;subst e4
  have I3:Inv3 (cxOf (CXX P w) P w K mg base N qual (jJn st) f cdv A outer s H1 E) pins (jQ6 N xs) G H1 s1:=⟨_,I,kU2 rs,hg⟩
  refine thn (ht pins s1 _ G H1 _ I3 (hq xs G _ hsp)) fun fl s2 z=> ?_
  cases fl with
  | next=>obtain⟨τ',G',H',e',⟨σ',I',a,b⟩,q⟩:=z;exact⟨σ',H',I',by rw[e1];exact q .non H' e' b rfl⟩
  | brk=>obtain⟨τ',G',H',e',_,q⟩:=z;exact q.elim
  | cont=>obtain⟨τ',G',H',e',_,q⟩:=z;exact q.elim
  | ret u=>obtain⟨x',τ',G',H',e',⟨σ',I',a,b⟩,⟨v,rv,ru⟩,q⟩:=z;exact⟨v,σ',H',I',ru,by rw[e2];exact q v H' e' b rv⟩
def kYt (sp:SpX):Prop:=∀xs G Q Q' R R',(∀t G',Q t G'->Q' t G')->(∀c G',R c G'->R' c G')->sp xs G Q R->sp xs G Q' R'
section
variable {X:Cx}
theorem kXk {k:Nat} {f:Addr} {fd:FuncData} {ps:List Str} {sp:SpX} {pins:List (Addr×Obj)} {σ:L2.St} {τ:St3} {H1:Hp} {G1:Gp} {s1:Shared} {xs:List T} {as:List V} {us:List Value} {Q:VK3} {R:XK3} {E:Value->Shared->Prop} (F:FnX X.prog X.w X.K X.mg X.base k f fd ps sp) (hr:Room k X.A) (hb:Binds X.K fd ps []) (mono:kYt sp) (len:∀xs G Q R,sp xs G Q R->xs.length=ps.length)
  (I1:Inv X pins σ H1 s1) (hs1:SRel X.K H1 σ τ) (hg1:GRel X.K H1 G1) (ras:Reps X.K H1 xs as) (rvs:Vals as us) (q:sp xs G1 Q R)
  (hE:∀a C cn B a0 H' G' s',Lies X.prog X.w X.stack H1 s1 a C B a0 H' s'->Ext H1 H'->GRel X.K H' G'->CN X.K cn C->R cn G'->E (.ref a) s'):
  wpAny (model X.prog X.w) X.A (call (.ref f) us) (EP3 X pins τ H1 Q) E s1:=by
 have hl:us.length=ps.length:=by rw[<-rvs.length,<-ras.length];exact len _ _ _ _ q
 refine wpAny_call (codeAny_mono (F.run X.A X.stack s1 H1 ⟨us,[]⟩ (us++[]) as (up X.K H1 Q) (fun _ c H'=>∃cn C G',c=some C/\CN X.K cn C/\Ext H1 H'/\GRel X.K H' G'/\R cn G') hr I1.env0 (hb s1 us I1.kIn (by rw[lQa];exact hl)) (by rw[lQa];exact rvs) ?_) fun r s' hq=> ?_)
 ·exact⟨by rw[<-ras.length];exact len _ _ _ _ q,xs,G1,ras,hg1,mono _ _ _ _ _ _ (fun t G' hq v H' e g r=>⟨t,G',e,g,r,hq⟩) (fun cn G' hR e C H' e1 g hc=>⟨cn,C,G',rfl,hc,e1,g,hR⟩) q⟩
 ·cases r with
  | error e=>
   obtain⟨a,C,B,a0,H',rfl,l,cn,C',G',ec,hc,e1,g,hR⟩:=(show CXX X.prog X.w X.stack H1 s1 (fun _ c H'=>∃cn C G',c=some C/\CN X.K cn C/\Ext H1 H'/\GRel X.K H' G'/\R cn G') e s' from hq)
   cases ec
   exact hE a C cn B a0 H' G' s' l e1 g hc hR
  | ok fl=>
   cases fl with
   | ret u=>exact jVo hs1 (I1.after hq)
   | next=>exact False.elim hq
   | brk=>exact False.elim hq
   | cont=>exact False.elim hq
def jX0 (R:XK3) (cn:Str):TS3:=fun _ _ G=>R cn G
theorem kQu {R:XK3} {cn v:Str} {a:Expr} {np cpos pos:Pos} (hx:XR X R) (hC:ExC X.K X.mg cn) (hc:X.calm=true) (ha:PA3 X [a] (jJc (tC (.str v)) tNil)) (hg:Gl X cn:=by rfl) (hdb:(cn == ("__debug__":Str))=false:=by decide)
  (he:starEach [a] X.env=[(false,eval a X.env)]:=by rfl):
  PS3 X (.Raise (some (.Call (.Name cn np) [a] [] cpos)) none pos) (jX0 R cn):=by
 intro pins s τ G H D I h
 obtain⟨C,hcn,hmg,hin⟩:=hC.ex
 obtain⟨σ,I0,hs,hgr⟩:=id I
 obtain⟨bm,N,nm,qn,bs,hdct,sn,sub,ab,col,dd,k0,k1,k2,k3,k5,hC0,hok,hni,ht⟩:=exc_at hin
 refine wpAny_Raise_call_subU (C:=C) (N:=N) (nm:=nm) (q:=qn) (bs:=bs) (bm:=bm) (hdct:=hdct) (sn:=sn) (sub:=sub) (ab:=ab) (col:=col) (dd:=dd) (k0:=k0) (k1:=k1) (k2:=k2) (k3:=k3) (k5:=k5) (mN:=s.heap.nsMap N) (bmB:=vmro) PySem.F.excBase_ValueError (by decide) PySem.F.excBase_ValueError (qKh (tail_of_in I0.kIn ht)) (I0.ok.hd hc) (by rw[he];rfl) (nsMap_none_of_in I0.kIn hok hni) ?_
 refine kJz I0 hg hmg ⟨rfl,?_⟩ hdb
 rw[show backTo cpos (starEach [a] X.env)=[(false,eval a X.env)] by rw[he];rfl]
 refine Calls.evalArgs_plain ?_
 have:=ha cpos pins s τ G H (fun ts G'=>ts.length=1/\R cn G') I ⟨rfl,h⟩
 rw[show backTo cpos (starEach [a] X.env)=[(false,eval a X.env)] by rw[he];rfl] at this
 refine thn this fun us s1 w_=>w_.el fun xs G1 H1 e1 i_ r_ q=>i_.el fun σ1 I1 hs1 hg1=>r_.el fun as ras rvs=> ?_
 have hl:us.length=1:=by rw[<-rvs.length,<-ras.length];exact q.1
 refine⟨rfl,by rw[hl];decide,I1.kIn _ _ hC0,qZj I0.kIn I1.kIn hok (.of_isNs (isNs_of_in I0.kIn hok)),tail_of_in I1.kIn ht,fun h' b hm=> ?_⟩
 exact hx.raise_ pins σ1 H1 G1 s1 {s1 with heap:=h'} b C cn us I1 hg1 hcn hm rfl rfl q.2
end
abbrev RX3:=Str->St3->Gp->Prop
abbrev TEx:=St3->Gp->VK3->RX3->Prop
abbrev TSx:=Ends3->RX3->St3->Gp->Prop
section
variable {X:Cx}
def XP (X:Cx) (pins:List (Addr×Obj)) (H:Hp) (R:RX3) (e:Value) (s':Shared):Prop:=∃a C cn B a0 τ' G1 H1 s1 G' H',e= .ref a/\Ext H H1/\Inv3 X pins τ' G1 H1 s1/\Lies X.prog X.w X.stack H1 s1 a C B a0 H' s'/\Ext H1 H'/\GRel X.K H' G'/\CN X.K cn C/\R cn τ' G'
theorem XP.ext {pins:List (Addr×Obj)} {H H1:Hp} {R:RX3} {e:Value} {s':Shared} (x:Ext H H1) (h:XP X pins H1 R e s'):XP X pins H R e s':=by
 obtain⟨a,C,cn,B,a0,τ',G1,H2,s1,G',H',e1,e2,r⟩:=h
 exact⟨a,C,cn,B,a0,τ',G1,H2,s1,G',H',e1,x.trans e2,r⟩
def PEx (X:Cx) (e:Expr) (t:TEx):Prop:=∀(pins:List (Addr×Obj)) (s:Shared) (τ:St3) (G:Gp) (H:Hp) (Q:VK3) (R:RX3),Inv3 X pins τ G H s->t τ G Q R->wpAny (model X.prog X.w) X.A (eval e X.env) (EP3 X pins τ H Q) (XP X pins H R) s
def PSx (X:Cx) (st:Stmt) (t:TSx):Prop:=∀(pins:List (Addr×Obj)) (s:Shared) (τ:St3) (G:Gp) (H:Hp) (D:Ends3) (R:RX3),Inv3 X pins τ G H s->t D R τ G->wpAny (model X.prog X.w) X.A (exec st X.env) (SP3 X pins H D) (XP X pins H R) s
def PSsx (X:Cx) (st:List Stmt) (t:TSx):Prop:=∀(pins:List (Addr×Obj)) (s:Shared) (τ:St3) (G:Gp) (H:Hp) (D:Ends3) (R:RX3),Inv3 X pins τ G H s->t D R τ G->wpAny (model X.prog X.w) X.A (execs st X.env) (SP3 X pins H D) (XP X pins H R) s
def Calm (X:Cx):Prop:=∀e s,¬ X.xe e s
theorem Calm.any (h:Calm X) {α:Type} {m:Sem α} {Q:α->Shared->Prop} {E:Value->Shared->Prop} {s:Shared} (w:wpAny (model X.prog X.w) X.A m Q X.xe s):wpAny (model X.prog X.w) X.A m Q E s:=
 lKs w (fun _ _ z=>z) fun e s z=>absurd z (h e s)
def qVb (te:TEx) (i:Nat):TSx:=fun D R τ G=>te τ G (fun v G1=>D.nx (τ.set i (some v)) G1) R
theorem sx_set {i:Nat} {x:Str} {e:Expr} {te:TEx} {pos pos':Pos} (hN:X.N.Nodup) (he:PEx X e te) (hi:X.N[i]? =some x:=by rfl) (hx:Loc X.env.scope x:=by first | exact Or.inl rfl | exact Or.inr rfl)
  (hs:swapsWith e (some (.Name x pos')) pos.line X.env=pure false:=by rfl) (hf:X.fn x=true\/X.env.scope.names.lookup x=some .local:=by first | exact .inl rfl | exact .inr rfl):
  PSx X (.Assign [.Name x pos'] e pos) (qVb te i):=by
 intro pins s τ G H D R I h
 refine wpAny_Assign_Name (thn (he pins s τ G H _ R I h) fun v s1 w_=>w_.el fun y G1 H1 e1 i_ r_ q1=>i_.el fun σ I1 hs1 hg1=>r_.el fun a ra rv=> ?_) hs
 exact jUm I1 hN hi hx rv (fun s2 I2=>⟨_,G1,H1,e1,⟨_,I2,hs1.set i ra,hg1⟩,q1⟩) hf
def kK1 (te:TEx):TSx:=fun D R τ G=>te τ G (fun _ G1=>D.nx τ G1) R
theorem qKj {e:Expr} {te:TEx} {pos:Pos} (he:PEx X e te) (hs:swapsWith e none pos.line X.env=pure false:=by rfl):PSx X (.Expr e pos) (kK1 te):=by
 intro pins s τ G H D R I h
 obtain⟨σ,I0,hs0,hg0⟩:=id I
 exact wpAny_Expr_any (thn (he pins s τ G H _ R I h) fun v s1 w_=>w_.el fun x G1 H1 e1 I1 r1 q1=>⟨τ,G1,H1,e1,I1,q1⟩) I0.quiet hs
def tIfX (tc:TT3) (t u:TSx):TSx:=fun D R τ G=>tc τ G fun b G1=>if b=true then t D R τ G1 else u D R τ G1
theorem sx_if {c:Expr} {a b:List Stmt} {tc:TT3} {t u:TSx} {pos:Pos} (hn:Calm X) (hc:PT3 X c tc) (ha:PSsx X a t) (hb:PSsx X b u):PSx X (.If c a b pos) (tIfX tc t u):=by
 intro pins s τ G H D R I h
 refine wpAny_If (thn (hn.any (hc pins s τ G H _ I h)) fun d s1 w_=>w_.el fun G1 H1 e1 I1 q1=> ?_)
 cases d with
 | true=>exact lKs (ha pins s1 τ G1 H1 D R I1 q1) (fun _ _ z=>z.ext e1) fun _ _ z=>z.ext e1
 | false=>exact lKs (hb pins s1 τ G1 H1 D R I1 q1) (fun _ _ z=>z.ext e1) fun _ _ z=>z.ext e1
theorem kJd {st:Stmt} {t:TSx} (h1:PSx X st t):PSsx X [st] t:=by
 intro pins s τ G H D R I h
 refine wpAny_execs_cons (thn (h1 pins s τ G H D R I h) fun f s1 q=> ?_)
 cases f with
 | next=>exact lVu q
 | ret v=>exact q
 | brk=>exact q
 | cont=>exact q
end
section
variable {X:Cx} {pins:List (Addr×Obj)} {σ:L2.St} {H H':Hp} {s s':Shared} {a C:Addr} {B:Heap} {a0:Value}
abbrev hX (X:Cx) (a:Addr):Cx:={X with A:=X.A.mark (some (.ref a)),calm:=false}
theorem Inv.mark (I:Inv X pins σ H s) (a:Addr):Inv (hX X a) pins σ H s:=
 ⟨⟨I.ok.mod,I.ok.kind,I.ok.glob,I.ok.blt,I.ok.above,I.ok.inj,I.ok.has,I.ok.cab,fun z=>Bool.noConfusion z,fun z=>Bool.noConfusion z,I.ok.frames,I.ok.stk,I.ok.exf,I.ok.bs,I.ok.bsz,I.ok.noex,I.ok.exfs,I.ok.funs,I.ok.frf⟩,I.os,I.bare,I.base,I.loc,I.cell,I.free,I.freeC,I.pin,I.hok,I.len⟩
theorem Inv.unmark (I:Inv (hX X a) pins σ H s) (ok:X.Ok):Inv X pins σ H s:=⟨ok,I.os,I.bare,I.base,I.loc,I.cell,I.free,I.freeC,I.pin,I.hok,I.len⟩
theorem Inv3.mark {τ:St3} {G:Gp} (I:Inv3 X pins τ G H s) (a:Addr):Inv3 (hX X a) pins τ G H s:=let ⟨σ,I,x,y⟩:=I;⟨σ,Inv.mark I a,x,y⟩
theorem Inv3.unmark {τ:St3} {G:Gp} (I:Inv3 (hX X a) pins τ G H s) (ok:X.Ok):Inv3 X pins τ G H s:=let ⟨σ,I,x,y⟩:=I;⟨σ,Inv.unmark I ok,x,y⟩
theorem qU6 {M:Model} {A:Around} {E:Value->Shared->Prop} {i:Nat} {x:Str} {v:V} {Q:Unit->Shared->Prop} (I:Inv X pins σ H s) (hN:X.N.Nodup) (hi:X.N[i]? =some x) (hk:X.env.scope.names.lookup x=some .local) (hv:σ[i]? =some (some v))
  (h:∀s',Inv X pins (σ.set i none) H s'->Q () s'):wpAny M A (unbindName X.env x) Q E s:=by
 obtain⟨m,hn,hl⟩:=id I.loc
 have hcls:(X.env.scope.kind == .class||(X.env.scope.kind == .module&&X.env.locals != X.env.globals))=false:=by rw[I.ok.kind];rfl
 have cne:=I.cne
 have hval:∃u,m x=some u:=by
  obtain⟨u,_,q⟩:=hl i x v hi hv (.inl hk)
  rcases q with ⟨_,e⟩ | ⟨k,_⟩
  ·exact⟨u,e⟩
  ·rcases k with k | k<;>(rw[show X.env.kindOf x=some .local from hk] at k;cases k)
 obtain⟨u0,hu0⟩:=hval
 obtain⟨oL,_,_,hoL,_⟩:=id hn
 refine wpAny_unbindName_local hk hn hu0 hcls fun h' u hn' hs=> ?_
 refine h _ ⟨I.ok,I.os,I.bare,⟨fun b o e n hb hx=> ?_,fun b o e n hb hx=> ?_,I.base.free,fun b o e hx=> ?_,I.base.tups,I.base.frzs,I.base.tbls⟩,⟨_,hn',fun j y v' e1 e2 e3=> ?_⟩,fun y c e=> ?_,I.free,I.freeC,fun p hp=> ?_,fun b ob e=> ?_,by simpa using I.len⟩
 ·exact (hs.2 b (lJn (lJ3 (lJh e) I.ok.above))).trans (I.base.keep b o e n hb hx)
 ·obtain⟨sl,e1⟩:=I.base.slot b o e n hb hx
  exact⟨sl,(hs.2 b (lJn (lJ3 (lJh e) I.ok.above))).trans e1⟩
 ·obtain⟨o',e1⟩:=I.base.there b o e hx
  exact⟨o',(hs.2 b (lJn (lJ3 (lJh e) I.ok.above))).trans e1⟩
 ·by_cases hj:j=i
  ·subst hj
   by_cases hlt:j<σ.length
   ·rw[lKk hlt] at e2;cases e2
   ·rw[lJ6 (by simpa using Nat.not_lt.mp hlt)] at e2;cases e2
  ·rw[lKf (Ne.symm hj)] at e2
   obtain⟨u',r',q⟩:=hl j y v' e1 e2 e3
   refine⟨u',r',?_⟩
   rcases q with ⟨k,e⟩ | ⟨k,c,e,z⟩
   ·refine .inl ⟨k,?_⟩
    have:y≠x:=fun e=>hj (kUb hN e1 (e▸hi))
    simp[this,e]
   ·exact .inr ⟨k,c,e,z.sameBut hs (cne y c e)⟩
 ·obtain⟨w',z⟩:=I.cell y c e
  exact⟨w',z.sameBut hs (cne y c e)⟩
 ·obtain⟨e,n,ne,nf,d⟩:=I.pin p hp
  exact⟨(hs.2 p.1 ne).trans e,n,ne,nf,d⟩
 ·refine (I.hok b ob e).stay (fun c w' hc q=>(hs.2 c ?_).trans q) (fun _ q=>q) fun _ _ q=>q
  rintro rfl
  rcases hc with rfl | hc
  ·rw[I.free] at e;cases e
  ·rw[I.free] at hc;cases hc
theorem qQh {M:Model} {A:Around} {E:Value->Shared->Prop} {i:Nat} {x:Str} {pos:Pos} {Q:Unit->Shared->Prop} (I:Inv X pins σ H s) (hN:X.N.Nodup) (hi:X.N[i]? =some x) (hk:X.env.scope.names.lookup x=some .local)
  (h:∀s',Inv X pins (σ.set i none) H s'->Q () s'):wpAny M A (do bindName X.env x .none;unbindBehindTheSuite X.env x pos) Q E s:=by
 have hil:i<σ.length:=by rw[I.len];exact (lJe.mp hi).1
 refine lJa (wpAny_bindName (jUm (v:= .non) I hN hi (.inl hk) rfl (fun s1 I1=> ?_) (.inr hk)))
 unfold unbindBehindTheSuite
 refine wpAny_onRaise (qU6 (v:= .non) I1 hN hi hk (lKk hil) fun s2 I2=>h s2 ?_)
 rw[List.set_set] at I2
 exact I2
theorem SRel.unset {K:PySem.W.Frag} {τ:St3} (h:SRel K H σ τ) (i:Nat):SRel K H (σ.set i none) (τ.set i none):=by
 refine⟨by simp[h.1],fun j u q=> ?_⟩
 by_cases hj:i=j
 ·subst hj
  by_cases hl:i<τ.length
  ·rw[lKk hl] at q;cases q
  ·rw[lJ6 (by simpa using Nat.not_lt.mp hl)] at q;cases q
 ·rw[lKf hj] at q ⊢
  exact h.2 j u q
theorem Lies.new (I:Inv X pins σ H s) (l:Lies X.prog X.w X.stack H s a C B a0 H' s'):s.heap.get? a=none:=by
 cases e:s.heap.get? a with
 | none=>rfl
 | some o=>
  exfalso
  by_cases f:a∈frs X.stack
  ·obtain⟨_,o',ho',hd⟩:=I.stack.mem f
   rw[e] at ho';cases ho'
   obtain⟨sl,e2⟩:=l.slot a o e f
   obtain⟨oe,vs,T,oT,ts,he,hc,hdd,_⟩:=l.fly.2.2.2
   rw[e2] at he;cases he
   exact hd vs hdd
  ·obtain⟨o',e2⟩:=l.there a o e f
   rw[l.fly.2.1] at e2;cases e2
theorem Lies.again {E:Value->Shared->Prop} {A:Around} (I:Inv X pins σ H s) (l:Lies X.prog X.w X.stack H s a C B a0 H' s') {Q:Unit->Shared->Prop} (k:∀h',Lies X.prog X.w X.stack H s a C B a0 H' {s' with heap:=h'}->Q () {s' with heap:=h'}):wpAny (model X.prog X.w) A (setFlight (.ref a) none) Q E s':=by
 refine lands_againW l.fly fun h2 fl up=>k h2 ⟨l.os,l.bare,fl,l.hok,l.keep,l.there,fun b o h f=> ?_,l.free,l.tups,l.frzs,l.tbls⟩
 obtain⟨sl,e⟩:=l.slot b o h f
 obtain⟨_,o',ho',hd'⟩:=I.stack.mem f
 rw[h] at ho'
 cases ho'
 obtain⟨sl2,e2⟩:=up b _ e hd'
 exact⟨sl2,e2⟩
theorem qXa (I:Inv X pins σ H s) (l:Lies X.prog X.w X.stack H s a C B a0 H' s'):∃ob,ob.cls= .ref C/\Inv X pins σ (upd H' a (.frz ob (.ext fun h=>h.get? a=some ob))) s':=by
 obtain⟨ob,hob,hcl⟩:=l.fly.there
 have na:=l.na
 have new:=Lies.new I l
 have u:=l.un
 have hok:=l.hok.kept fun b u e=>l.fly.1 b u e
 refine⟨ob,hcl,I.call' (ch:=[]) l.os ⟨u.keep,u.slot,fun b o h n x=> ?_,u.there,fun b xs h=> ?_,fun b o w h=> ?_,fun b ps h=> ?_⟩ (fun b o e=> ?_) l.bare fun b z=>absurd z lJv⟩
 ·rw[jJx (fun z=>by rw[z,new] at h;cases h)];exact u.free b o h n x
 ·rw[jJx (fun z=>by have:=u.tups b xs h;rw[z,na] at this;cases this)];exact u.tups b xs h
 ·rw[jJx (fun z=>by have:=u.frzs b o w h;rw[z,na] at this;cases this)];exact u.frzs b o w h
 ·obtain⟨m,e⟩:=u.tbls b ps h
  exact⟨m,by rw[jJx (fun z=>by rw[z,na] at e;cases e)];exact e⟩
 ·by_cases hb:b=a
  ·subst hb
   rw[jJ3] at e;cases e
   exact⟨hob,hob,⟨ob,hob⟩,fun h1 h2 p k=>k ob p⟩
  ·rw[jJx hb] at e
   refine (hok b o e).stay (fun c w' _ q=>q) (fun c q=> ?_) fun c xs q=> ?_
   ·rw[jJx (fun z=>by rw[z,na] at q;cases q)];exact q
   ·rw[jJx (fun z=>by rw[z,na] at q;cases q)];exact q
end
structure ExSub (K:PySem.W.Frag) (mg:Str->Option Value) (cn c:Str) (b:Bool):Prop where
 ex:∃C D,CN K cn C/\mg c=some (.ref D)/\exmOne K (.ref C) (.ref D)=some b
section
variable {X:Cx}
noncomputable def tTry (i:Nat) (cs:List Str) (tb:TSx) (th:TS3):TS3:=fun D τ G=>tb D (fun cn τ' G'=>cn∈cs/\∀a,G' a=none->th {nx:=fun τ2 G2=>D.nx (τ2.set i none) G2,rt:=fun _ _=>False} (τ'.set i (some (.ref a))) (gup G' a (.exc cn))) τ G
theorem s_try {body:List Stmt} {b0:Stmt} {bs:List Stmt} {c n:Str} {i:Nat} {cs:List Str} {tb:TSx} {th:TS3} {np hpos pos:Pos} (hn:Calm X) (hN:X.N.Nodup) (hb:PSsx X body tb) (hh:∀a,PSs3 (hX X a) (b0::bs) th) (hcs:∀cn,cn∈cs->ExSub X.K X.mg cn c true)
  (hst:X.stack=X.env::X.outer:=by rfl) (hfr:X.env.frame=some X.env.locals:=by rfl) (hi:X.N[i]? =some n:=by rfl) (hk:X.env.scope.names.lookup n=some .local:=by rfl) (hg:Gl X c:=by rfl) (hdb:(c == ("__debug__":Str))=false:=by decide):
  PS3 X (.Try body [.ExceptHandler (some (.Name c np)) (some n) (b0::bs) hpos] [] [] pos) (tTry i cs tb th):=by
 intro pins s τ G H D I h
 refine wpAny_Try_except (lKs (hb pins s τ G H D _ I h) (fun f s1 q=> ?_) fun e s1 q=> ?_)
 ·cases f with
  | next=>exact lVu q
  | ret v=>exact q
  | brk=>exact q
  | cont=>exact q
 obtain⟨a,C,cn,B,a0,τ',G1,H1,s2,G',H',rfl,e1,I1,l,e2,g,hc,hin,hR⟩:=q
 obtain⟨σ,I2,hs2,hg2⟩:=I1
 obtain⟨C',Dc,hC',hmg,hx⟩:=(hcs cn hin).ex
 cases hC'.one hc
 refine qQp I2 l hst hfr fun h3 I3 l3=> ?_
 refine wpAny_handleBy_cons (codeAny_handlers_test (kJz (X:=hX X a) (Inv.mark I3 a) hg hmg ?_ hdb)) (by intro q;cases q)
 obtain⟨ob,hob,hcl⟩:=l3.fly.there
 have LT:Looks (model X.prog X.w) h3 (typeOf (.ref a)) (.ref C):=hcl▸(Looks.ld (part:=none) hob).andThen .now
 refine (exm_one (K:=X.K) I3.kIn LT hx).at ?_
 (refine codeAny_handlers_suite_as ?_)
 refine Lies.again (X:=X) I2 l3 fun h4 l4=> ?_
 obtain⟨ob4,hcl4,I4⟩:=qXa I2 l4
 have ea:Ext H' (upd H' a (.frz ob4 (.ext fun h=>h.get? a=some ob4))):= .upd (.none l4.na)
 refine jUm (v:= .ref a) I4 hN hi (.inl hk) rfl (fun s5 I5=> ?_) (.inr hk)
 have hs5:SRel X.K (upd H' a (.frz ob4 (.ext fun h=>h.get? a=some ob4))) (σ.set i (some (.ref a))) (τ'.set i (some (.ref a))):=((hs2.mono e2).mono ea).set i rfl
 have ga:G' a=none:=g.fresh l4.na
 have hg5:GRel X.K (upd H' a (.frz ob4 (.ext fun h=>h.get? a=some ob4))) (gup G' a (.exc cn)):=g.upd (.none l4.na) ⟨ob4,C,_,jJ3,hcl4,hc⟩
 have:=hh a pins s5 _ _ _ _ (Inv3.mark ⟨_,I5,hs5,hg5⟩ a) (hR a ga)
 refine lKs this (fun f s6 q=> ?_) fun e s6 q=>absurd q (hn e s6)
 cases f with
 | next=>
  obtain⟨τ6,G6,H6,e6,I6,q⟩:=q
  obtain⟨σ6,I6,hs6,hg6⟩:=Inv3.unmark I6 I2.ok
  exact qQh I6 hN hi hk fun s7 I7=>⟨_,G6,H6,((e1.trans e2).trans ea).trans e6,⟨_,I7,hs6.unset i,hg6⟩,q⟩
 | ret v=>obtain⟨_,_,_,_,_,_,_,q⟩:=q;exact q.elim
 | brk=>obtain⟨_,_,_,_,_,q⟩:=q;exact q.elim
 | cont=>obtain⟨_,_,_,_,_,q⟩:=q;exact q.elim
end
structure ExK (K:PySem.W.Frag) (D:Addr):Prop where
 ga:findIn K (.ref D) "__getattribute__"=some (some (.builtin "BaseException.__getattribute__"))
 gt:findIn K (.ref D) "__getattr__"=some none
 cl:findIn K (.ref D) "__class__"=some (some (.builtin "object.__class__"))
 be:mroIn K D (.type "BaseException")=some true
 ob:mroIn K D (.type "object")=some true
 is:(clsIn K D).isSome=true
section
variable {prog:Program} {w:World} {A:Around} {E:Value->Shared->Prop} {s:Shared} {K:PySem.W.Frag} {x D:Addr} {ox:Obj}
open PySem.Builtin PySem.Builtin.ObjectAttr PySem.Builtin.Getset_descriptor in
theorem qJy {C:Addr} {tp:Value} {R:Result->Shared->Prop} (X:K.In s.heap) (L0:Looks (model prog w) s.heap (typeOf (.ref x)) (.ref C)) (hm:mroIn K C (.type "object")=some true) (h:R (.ok (.ret (.ref C))) s):codeAny (model prog w) A (.call (.builtin "getset_descriptor.__get__") ⟨[.builtin "object.__class__",.ref x,tp],[]⟩) R s:=by
 (obtain⟨hh,g,dr,t,os⟩:=s)
 (have L1:=looks_mroIn (M:=model prog w) X hm)
 (refine codeAny_call_builtin KF.slot_gs.plain KF.entry_gs (KF.slot_gs.check _ _ _ _ _ _ _ _ KF.type_class (KF.args_gs _ _ _) ?_))
 (unfold Builtin.«getset_descriptor.__get__» descrGet)
 rw[dga_obj]
 refine lJa (lJd ?_)
 (unfold descrGetter descrCheckInstance descrNameAndClass isInstance)
 simp only[KF.owner_class]
 repeat lk
 (refine⟨Code.quiet_builtin _ (by decide +kernel),lQo KF.entry_class ?_⟩)
 (unfold Builtin.«object.__class__» shownTypeOf)
 repeat lk
 exact h
theorem qUc {Q:Option Value->Shared->Prop} (X:K.In s.heap) (L0:Looks (model prog w) s.heap (typeOf (.ref x)) (.ref D)) (e:ExK K D) (h:Q (some (.ref D)) {s with toks:=s.toks+1}):wpAny (model prog w) A (getAttr? (.ref x) "__class__") Q E s:=by
 obtain⟨hh,g,d,t,os⟩:=s
 have L1:=looks_findIn (M:=model prog w) X e.ga
 have L2:=looks_findIn (M:=model prog w) X e.cl
 have L3:=looks_findIn (M:=model prog w) X e.gt
 have L4:=looks_mroIn (M:=model prog w) X e.be
 (have hx2:(Value.builtin "BaseException.__getattribute__" == Value.builtin "object.__getattribute__")=false:=by decide +kernel)
 have hx1:(onTheHeap (Value.ref D)&&Value.builtin "BaseException.__getattribute__" == Value.builtin "object.__getattribute__")=false:=by rw[hx2];rfl
 have f3:=PySem.F.attrBase_ValueError.ga.bind (.ref x)
 (unfold getAttr? getAttrBy? getAttrBy)
 (refine lJa (wpAny_mkText (lJa (wpAny_attempt (lK3 (lJa (L0.at (lJa (L1.at ?_)))))))))
 dsimp only
 rw[hx1]
 (simp only[lKj,lJt])
 unfold getAttrByItsOwn
 have X':K.In hh:=X
 have L0:Looks (model prog w) hh (typeOf (Value.ref x)) (Value.ref D):=L0
 have L1:Looks (model prog w) hh (typeLookup (Value.ref D) (Str.ofString "__getattribute__")) (some (Value.builtin "BaseException.__getattribute__")):=L1
 have L2:Looks (model prog w) hh (typeLookup (Value.ref D) (Str.ofString "__class__")) (some (Value.builtin "object.__class__")):=L2
 have L3:Looks (model prog w) hh (typeLookup (Value.ref D) (Str.ofString "__getattr__")) none:=L3
 have L4:Looks (model prog w) hh (isSubtype (Value.ref D) (Value.type "BaseException")) true:=L4
 have key:∀(A:Around) (R:Result->Shared->Prop),R (.ok (.ret (.ref D))) ⟨hh,g,d,t+1,os⟩->codeAny (model prog w) A (.call (.builtin "BaseException.__getattribute__") ⟨[.ref x,.str (Str.ofString "__class__") t],[]⟩) R ⟨hh,g,d,t+1,os⟩:=by
  intro A R hR
  refine codeAny_call_builtin PySem.F.attrBase_ValueError.ga.plain PySem.F.entry_bexc_ga ?_
  (have hk:builtinKind "BaseException.__getattribute__"=some .slot:=by decide +kernel)
  (have hsplit:splitId "BaseException.__getattribute__"=some ("BaseException","__getattribute__"):=by decide +kernel)
  have ha:=PySem.F.args_bexc_ga (.ref x) (.str (Str.ofString "__class__") t)
  (simp only[checkBuiltinCall,hk,hsplit])
  refine lJa (lJa (L0.at (L4.at ?_)))
  rw[lJb (by decide)]
  have hT5:(⟨hh,g,d,t+1,os⟩:Shared).TypeIs (.builtin "object.__class__") "getset_descriptor":=PySem.F.typeOf_object_class
  have f5:=PySem.F.typeOf_object_class
  have f6:=PySem.F.slot_gs_get.lookup
  have f7:=PySem.F.slot_gs_set.lookup
  repeat (any_goals (first | assumption | with_reducible refine L0.at ?_ | with_reducible refine L2.at ?_ | wp_step))
  refine qJy (s:=⟨hh,g,d,t+1,os⟩) X' L0 e.ob ?_
  (repeat (any_goals (first | assumption | wp_step)))
 unfold hookBefore
 rw[lJc (show onTheHeap (Value.ref D)=true from rfl)]
 refine lJa (L3.at ?_)
 (refine lJa (wpAny_attempt (lK3 ?_)))
 unfold callGetattribute
 rw[lJb (by decide)]
 unfold boundAndCalled
 rw[f3]
 refine lJa (lJd ?_)
 refine (show wpAny _ _ (call (Value.builtin "BaseException.__getattribute__") [Value.ref x,Value.str (Str.ofString "__class__") t]) _ _ _ from wpAny_call (key _ _ ?_))
 (exact lJd (lJd h))
def ExAt (x D:Addr) (h:Heap):Prop:=∃ob,h.get? x=some ob/\ob.cls= .ref D
theorem ExAt.ty {M:Model} {h:Heap} (p:ExAt x D h):Looks M h (typeOf (.ref x)) (.ref D):=by
 obtain⟨ob,h1,h2⟩:=p
 exact h2▸(Looks.ld (part:=none) h1).andThen .now
theorem kZh (e:ExK K D):KitX K (.ref x) (.ref D) (ExAt x D) where
 ty:=fun _ _ _ p=>p.ty
 it:=fun _ _ X _=>by
  obtain⟨cd,hc⟩:=lKb.mp e.is
  unfold clsIn at hc
  split at hc
  ·rename_i ho
   intro A' Q' E' s' k q
   unfold isType loadHead
   (exact lJa (wpAny_loadPart (k _ _ (X _ _ ho)) (lJd q)))
  ·cases hc
 ne:=fun h0 tp d0 is0 n0 l0 X htp=>by
  obtain⟨cd,hc⟩:=lKb.mp e.is
  (refine Bool.eq_false_iff.mpr fun q=> ?_)
  have z:D=tp:=Value.ref.inj (beq_iff_eq.mp q)
  subst z
  unfold clsIn at hc
  split at hc
  ·rename_i ho
   (have z:=(X _ _ ho).symm.trans htp)
   cases z
  ·cases hc
 ca:=fun X p k=>qUc X p.ty e k
end
def ClsV (mg:Str->Option Value) (c:Str) (v:Value):Prop:=mg c=some v\/(mg c=none/\bootBuiltins c=some v)
structure IsX (K:PySem.W.Frag) (mg:Str->Option Value) (cs:List Str) (cn:Str) (b:Bool):Prop where
 ex:∃D vs,CN K cn D/\ExK K D/\Paired (fun c v=>ClsV mg c v) cs vs/\kitAny K (.ref D) vs=some b
theorem qJq {K:PySem.W.Frag} {t c:Value} {b:Bool} (h:kitAny K t [c]=some b):kitOne K t c=some b:=by
 unfold kitAny at h
 split at h
 ·rename_i e;cases h;exact e
 ·rename_i e;rw[e];exact h
 ·cases h
def clsT:Value->T
 | .ref C=> .ref C
 | .type n=> .ty n
 | _=> .non
section
variable {X:Cx}
def jX1 (rel:List (Str×Bool)) (tx:TE3):TE3:=fun τ G Q=>tx τ G fun x G1=>∃a cn b,x= .ref a/\G1 a=some (.exc cn)/\(cn,b)∈rel/\Q (.bl b) G1
theorem qYr {pins:List (Addr×Obj)} {τ:St3} {G:Gp} {H:Hp} {s:Shared} {a:Addr} {cn:Str} {D:Addr} (I:Inv3 X pins τ G H s) (h:G a=some (.exc cn)) (hD:CN X.K cn D):ExAt a D s.heap:=by
 obtain⟨σ,I0,_,hg⟩:=I
 obtain⟨ob,C,u,h1,h2,h3⟩:=(show ∃ob C u,H a=some (.frz ob u)/\ob.cls= .ref C/\PySem.W.nsIn X.K mainGlobals cn=some (some (.ref C)) from hg a _ h)
 cases CN.one hD h3
 exact⟨ob,(I0.hok a _ h1).1,h2⟩
theorem e_nm {c:Str} {v:Value} {pc:Pos} (hv:ClsV X.mg c v) (hc:∃C,v= .ref C\/∃n,v= .type n) (hg:Gl X c) (hn:c≠"__name__") (hdb:(c == ("__debug__":Str))=false):PE3 X (.Name c pc) (tC (clsT v)):=by
 intro pins s τ G H Q I h
 obtain⟨σ,I0,_,_⟩:=id I
 have e:EP3 X pins τ H Q v s:=by
  obtain⟨C,rfl | ⟨n,rfl⟩⟩:=hc
  ·exact⟨.ref C,G,H,.refl H,I,⟨.ref C,rfl,rfl⟩,h⟩
  ·exact⟨.ty n,G,H,.refl H,I,⟨.ty n,rfl,rfl⟩,h⟩
 rcases hv with hv | ⟨h1,h2⟩
 ·exact kJz I0 hg hv e hdb
 ·exact jQ7 I0 hg h1 h2 e hn hdb
theorem kZv {rel:List (Str×Bool)} {c:Str} {x:Expr} {tx:TE3} {p pc pos:Pos} (hrel:∀cn b,(cn,b)∈rel->IsX X.K X.mg [c] cn b) (hcl:∃v,ClsV X.mg c v/\∃C,v= .ref C\/∃n,v= .type n) (hx:PE3 X x tx) (hm:X.mg "isinstance"=none) (hg:Gl X "isinstance":=by rfl) (hgc:Gl X c:=by rfl) (hn:c≠"__name__":=by decide) (hdb:(c == ("__debug__":Str))=false:=by decide)
  (he:starEach [x,.Name c pc] X.env=(false,eval x X.env)::starEach [.Name c pc] X.env:=by rfl) (he2:starEach [.Name c pc] X.env=[(false,eval (.Name c pc) X.env)]:=by rfl) (hpl:(backTo pos (starEach [.Name c pc] X.env)).any (·.1)=false:=by rfl):
  PE3 X (.Call (.Name "isinstance" p) [x,.Name c pc] [] pos) (jX1 rel tx):=by
 obtain⟨v,hv,hvc⟩:=hcl
 intro pins s τ G H Q I h
 obtain⟨σ,I0,_,_⟩:=id I
 refine lQ7 (jQ7 I0 hg hm rfl ?_ (by decide) (by decide))
 refine lXt ?_ he hpl
 rw[he,he2]
 refine Calls.spliced_cons (thn (hx pins s τ G H _ I h) fun u s1 w_=>w_.el fun y G1 H1 e1 I1 r1 q1=>Calls.spliced_cons (thn (e_nm hv hvc hgc hn hdb pins s1 τ G1 H1 (fun t G2=>t=clsT v/\G2=G1) I1 ⟨rfl,rfl⟩) fun u2 s2 w2=>Calls.spliced_nil ?_))
 obtain⟨t2,G2,H2,e2,I2,r2,rfl,rfl⟩:=w2
 obtain⟨a,cn,b,rfl,hG,hin,q⟩:=q1
 obtain⟨D,vs,hD,hk,hp,hka⟩:=(hrel cn b hin).ex
 obtain⟨v1,z1,z2⟩:=r1
 cases z1;cases z2
 have hu2:u2=v:=by
  obtain⟨v2,y1,y2⟩:=r2
  obtain⟨C,rfl | ⟨n,rfl⟩⟩:=hvc
  ·cases y1;cases y2;rfl
  ·cases y1;cases y2;rfl
 subst hu2
 cases hp with
 | @cons _ v' _ _ hc hr=>
 cases hr
 have:v'=u2:=by
  rcases hc with h1 | ⟨h1,h2⟩<;>rcases hv with h3 | ⟨h3,h4⟩
  ·rw[h1] at h3;exact lJq h3
  ·rw[h1] at h3;cases h3
  ·rw[h1] at h3;cases h3
  ·rw[h2] at h4;exact lJq h4
 subst this
 obtain⟨σ2,J2,_,_⟩:=id I2
 exact kia_one (kZh hk) J2.kIn (qYr I2 hG hD) (qJq hka) (by intro q;cases q) fun tk=>⟨.bl b,G2,H2,e1.trans e2,I2.tok tk,⟨.bl b,rfl,rfl⟩,q⟩
def Cl1 (v:Value):Prop:=∃C,v= .ref C\/∃n,v= .type n
theorem cl_eq {K:PySem.W.Frag} {H:Hp} {v u:Value} (hv:Cl1 v) (r:RU K H (clsT v) u):u=v:=by
 obtain⟨w,y1,y2⟩:=r
 obtain⟨C,rfl | ⟨n,rfl⟩⟩:=hv
 ·cases y1;cases y2;rfl
 ·cases y1;cases y2;rfl
theorem qX0 {mg:Str->Option Value} {c:Str} {v u:Value} (hc:ClsV mg c v) (hv:ClsV mg c u):v=u:=by
 rcases hc with h1 | ⟨h1,h2⟩<;>rcases hv with h3 | ⟨h3,h4⟩
 ·rw[h1] at h3;exact lJq h3
 ·rw[h1] at h3;cases h3
 ·rw[h1] at h3;cases h3
 ·rw[h2] at h4;exact lJq h4
inductive NmL (X:Cx):List Str->List Expr->Prop
 | nil:NmL X [] []
 | cons {c:Str} {pc:Pos} {cs:List Str} {es:List Expr} (hv:∃v,ClsV X.mg c v/\Cl1 v) (h:NmL X cs es) (hg:Gl X c:=by rfl) (hn:c≠"__name__":=by decide) (hdb:(c == ("__debug__":Str))=false:=by decide) (he:starEach (.Name c pc::es) X.env=(false,eval (.Name c pc) X.env)::starEach es X.env:=by rfl):NmL X (c::cs) (.Name c pc::es)
theorem nml_rd {cs:List Str} {es:List Expr} (h:NmL X cs es):∃vs,Paired (fun c v=>ClsV X.mg c v) cs vs/\(∀v,v∈vs->Cl1 v)/\PA3 X es (fun _ G Q=>Q (vs.map clsT) G):=by
 induction h with
 | nil=>exact⟨[],.nil,fun v h=>absurd h lJv,jJe⟩
 | cons hv h hg hn hdb he ih=>
  obtain⟨v,h1,h2⟩:=hv
  obtain⟨vs,i1,i2,i3⟩:=ih
  refine⟨v::vs,.cons h1 i1,fun u hu=> ?_,?_⟩
  ·rcases (lJj.mp hu) with rfl | hu
   ·exact h2
   ·exact i2 u hu
  ·exact jJa (e_nm h1 h2 hg hn hdb) i3 he
theorem kYv {K:PySem.W.Frag} {H:Hp}:∀ {vs us:List Value} {ws:List V},(∀v,v∈vs->Cl1 v)->Reps K H (vs.map clsT) ws->Vals ws us->us=vs
 | [],_,_,_,r,q=>by cases (show _=[] from r);cases q;rfl
 | v::vs,us,ws,h,r,q=>by
  obtain⟨w,ws',e,r1,r2⟩:=(show ∃w ws',ws=w::ws'/\Rep K H (clsT v) w/\Reps K H (vs.map clsT) ws' from r)
  subst e
  cases q with
  | cons q1 q2=>rw[cl_eq (h v (lKm ..)) ⟨w,r1,q1⟩,kYv (fun u hu=>h u (lKa _ hu)) r2 q2]
theorem kK6 {α β:Type} {F:α->β->Prop} (hF:∀a b b',F a b->F a b'->b=b'):∀ {l:List α} {m n:List β},Paired F l m->Paired F l n->m=n
 | _,_,_,.nil,.nil=>rfl
 | _,_,_,.cons a b,.cons c d=>by rw[hF _ _ _ a c,kK6 hF b d]
theorem e_isiT {rel:List (Str×Bool)} {cs:List Str} {es:List Expr} {x:Expr} {tx:TE3} {k} {p pc pos:Pos} (hrel:∀cn b,(cn,b)∈rel->IsX X.K X.mg cs cn b) (hcl:NmL X cs es) (hz:cs.length<=100) (hx:PE3 X x tx) (hm:X.mg "isinstance"=none) (hg:Gl X "isinstance":=by rfl)
  (he:starEach [x,.Tuple es k pc] X.env=(false,eval x X.env)::starEach [.Tuple es k pc] X.env:=by rfl) (he2:starEach [.Tuple es k pc] X.env=[(false,eval (.Tuple es k pc) X.env)]:=by rfl) (hpl:(backTo pos (starEach [.Tuple es k pc] X.env)).any (·.1)=false:=by rfl):
  PE3 X (.Call (.Name "isinstance" p) [x,.Tuple es k pc] [] pos) (jX1 rel tx):=by
 obtain⟨vs,hv,hvc,hpa⟩:=nml_rd hcl
 have hl:vs.length=cs.length:=(lQd hv).symm
 intro pins s τ G H Q I h
 obtain⟨σ,I0,_,_⟩:=id I
 refine lQ7 (jQ7 I0 hg hm rfl ?_ (by decide) (by decide))
 refine lXt ?_ he hpl
 rw[he,he2]
 refine Calls.spliced_cons (thn (hx pins s τ G H _ I h) fun u s1 w_=>w_.el fun y G1 H1 e1 I1 r1 q1=>Calls.spliced_cons (thn (jKn (x1:=k) hpa pins s1 τ G1 H1 (fun t G2=>t= .tup (vs.map clsT)/\G2=G1) I1 ⟨by rw[lJg,hl,lQn];omega,rfl,rfl⟩) fun u2 s2 w2=>Calls.spliced_nil ?_))
 obtain⟨t2,G2,H2,e2,I2,r2,rfl,rfl⟩:=w2
 obtain⟨a,cn,b,rfl,hG,hin,q⟩:=q1
 obtain⟨D,vs',hD,hk,hp,hka⟩:=(hrel cn b hin).ex
 obtain⟨v1,z1,z2⟩:=r1
 cases z1;cases z2
 cases kK6 (F:=fun c v=>ClsV X.mg c v) (fun _ _ _ a b=>qX0 a b) hp hv
 obtain⟨σ2,J2,_,_⟩:=id I2
 obtain⟨w2,y1,y2⟩:=r2
 obtain⟨tp,ws,rfl,hH,hr⟩:=(show ∃tp ws,w2= .ref tp/\H2 tp=some (.tup ws)/\Reps X.K H2 (vs.map clsT) ws from y1)
 cases y2
 obtain⟨_,its,hvals,⟨oc,od,odt,osl⟩,hget,hcls,n,hdat,hdic⟩:=(show ws.length<=sizeLine/\∃its:List Value,Vals ws its/\TupD s2.heap tp its.toArray from J2.hok tp _ hH)
 cases kYv hvc hr hvals
 dsimp only at hcls hdat hdic
 subst hcls hdat hdic
 exact kia_tup (kZh hk) J2.kIn (qYr I2 hG hD) hget hka (by intro q;cases q) fun tk=>⟨.bl b,G2,H2,e1.trans e2,I2.tok tk,⟨.bl b,rfl,rfl⟩,q⟩
theorem exc_mk {K:PySem.W.Frag} {h:Heap} {mg:Str->Option Value} {cn:Str} {C:Addr} (X:K.In h) (G:h.Ns mainGlobals mg) (a:nsIn K mainGlobals cn=some (some (.ref C))) (q:excIn K C vmro "ValueError.__new__"=true):ExC K mg cn:=⟨C,a,mg_of X G a,q⟩
theorem exsub_mk {K:PySem.W.Frag} {h:Heap} {mg:Str->Option Value} {cn c:Str} {C D:Addr} {v:Bool} (X:K.In h) (G:h.Ns mainGlobals mg) (a:nsIn K mainGlobals cn=some (some (.ref C))) (b:nsIn K mainGlobals c=some (some (.ref D))) (q:exmOne K (.ref C) (.ref D)=some v):ExSub K mg cn c v:=⟨C,D,a,mg_of X G b,q⟩
theorem clsv_own {K:PySem.W.Frag} {h:Heap} {mg:Str->Option Value} {c:Str} {D:Addr} (X:K.In h) (G:h.Ns mainGlobals mg) (b:nsIn K mainGlobals c=some (some (.ref D))):∃v,ClsV mg c v/\Cl1 v:=⟨.ref D,.inl (mg_of X G b),D,.inl rfl⟩
theorem clsv_blt {K:PySem.W.Frag} {h:Heap} {mg:Str->Option Value} {c:Str} {n:String} (X:K.In h) (G:h.Ns mainGlobals mg) (b:nsIn K mainGlobals c=some none) (e:bootBuiltins c=some (.type n)):∃v,ClsV mg c v/\Cl1 v:=⟨.type n,.inr ⟨mg_none_of X G b,e⟩,0,.inr ⟨n,rfl⟩⟩
end
end L3
namespace L3
open PySem
end L3
namespace L3
open PySem PySem.Spec PyProof.Rows L2
end L3
namespace L3
open PySem PySem.Spec PyProof.Rows L2 PySem.W
structure CalMX (P:Program) (w:World) (K:PySem.W.Frag) (mg:Str->Option Value) (base:Heap) (k:Nat) (cn m:Str) (ps:List Str) (sp:SpX):Prop where
 ex:∃C f fd,CN K cn C/\Cls K C/\Meth K C m f/\FnX P w K mg base k f fd ps sp/\Binds K fd ps []
 mono:kYt sp
 len:∀xs G Q R,sp xs G Q R->xs.length=ps.length
def jYf (cn m:Str) (sp:SpX) (ta:TE3) (t:TA3):TEx:=fun τ G Q R=>ta τ G fun x G1=>obR cn m G1 x=true/\t τ G1 fun xs G2=>sp (x::xs) G2 Q fun c G'=>R c τ G'
section
variable {X:Cx} {cn m:Str} {k:Nat} {ps:List Str} {sp:SpX} {o e:Expr} {es:List Expr} {ta:TE3} {t:TA3} {pos apos:Pos}
theorem qUd {pl:Sem Bool} (hn:Calm X) (M:CalMX X.prog X.w X.K X.mg X.base k cn m ps sp) (hr:Room k X.A) (he:PE3 X o ta) (ha:PA3 X (e::es) t)
  (hst:starEach (e::es) X.env=(false,eval e X.env)::starEach es X.env:=by rfl) (hpl:(backTo pos (starEach es X.env)).any (·.1)=false:=by rfl)
  (ht:eval (.Call (.Attribute o m apos) (e::es) [] pos) X.env=(do
   let ov <-eval o X.env
   standAt apos.atName
   let (f,first) <-holding [ov] (getMethod ov m pl)
   callWith pos f first (backTo pos (starEach (e::es) X.env)) (backToKw pos (keywordEach [] X.env))):=by rfl):
  PEx X (.Call (.Attribute o m apos) (e::es) [] pos) (jYf cn m sp ta t):=by
 intro pins s τ G H Q R I h
 obtain⟨C,f,fd,hC,hc,hm,F,hb⟩:=M.ex
 refine lV3 (pl:=pl) (thn (hn.any (he pins s τ G H _ I h)) fun u s1 w_=>w_.el fun x G1 H1 e1 I1 r_ q=>r_.el fun v rv ru=> ?_) ht
 obtain⟨ob,q⟩:=q
 obtain⟨a,fs,rfl,hG,hf⟩:=jXc ob
 cases (show v= .ref a from rv)
 obtain rfl:u=Value.ref a:=ru
 obtain⟨σ,J1,hs1,hg1⟩:=id I1
 obtain⟨C',dx,ws,hH,hC',pk⟩:=(show ∃C dx ws,H1 a=some (.ins C dx ws)/\CN X.K cn C/\PKV X.K H1 fs ws from hg1 a _ hG)
 cases hC.one hC'
 refine jVa J1 hH hc hm ((jY6 pk m).1 hf) ?_
 refine lV0 (first:=[.ref a]) (h₀:=X.base) J1.ok.mod.kin hm.kp (thn (hn.any (ha pos pins s1 τ G1 H1 _ I1 q)) fun us s2 w_=>w_.el fun xs G2 H2 e2 i_ r_ q2=>i_.el fun σ2 I2 hs2 hg2=>r_.el fun as ras rvs=>⟨I2.kIn,?_⟩) hst hpl
 have rr:Reps X.K H2 (.ref a::xs) (.ref a::as):=⟨_,_,rfl,rfl,ras⟩
 refine thn (kXk (us:= .ref a::us) F hr hb M.mono M.len I2 hs2 hg2 rr (.cons rfl rvs) q2 fun a' C' cn' B a0 H' G' s' l ex g hc hR=> ?_) fun u s' z=>z.ext (e1.trans e2)
 exact⟨a',C',cn',B,a0,τ,G2,H2,s2,G',H',rfl,e1.trans e2,⟨σ2,I2,hs2,hg2⟩,l,ex,g,hc,hR⟩
theorem qXs {pl:Sem Bool} (hn:Calm X) (M:CalMX X.prog X.w X.K X.mg X.base k cn m ps sp) (hr:Room k X.A) (he:PE3 X o ta)
  (ht:eval (.Call (.Attribute o m apos) [] [] pos) X.env=(do
   let ov <-eval o X.env
   standAt apos.atName
   let (f,first) <-holding [ov] (getMethod ov m pl)
   callWith pos f first (backTo pos (starEach [] X.env)) (backToKw pos (keywordEach [] X.env))):=by rfl):
  PEx X (.Call (.Attribute o m apos) [] [] pos) (jYf cn m sp ta tNil):=by
 intro pins s τ G H Q R I h
 obtain⟨C,f,fd,hC,hc,hm,F,hb⟩:=M.ex
 refine lV3 (pl:=pl) (thn (hn.any (he pins s τ G H _ I h)) fun u s1 w_=>w_.el fun x G1 H1 e1 i_ r_ q=>i_.el fun σ J1 hs1 hg1=>r_.el fun v rv ru=> ?_) ht
 obtain⟨ob,q⟩:=q
 obtain⟨a,fs,rfl,hG,hf⟩:=jXc ob
 cases (show v= .ref a from rv)
 obtain rfl:u=Value.ref a:=ru
 obtain⟨C',dx,ws,hH,hC',pk⟩:=(show ∃C dx ws,H1 a=some (.ins C dx ws)/\CN X.K cn C/\PKV X.K H1 fs ws from hg1 a _ hG)
 cases hC.one hC'
 refine jVa J1 hH hc hm ((jY6 pk m).1 hf) ?_
 refine PySem.W.callWith_K0 (first:=[.ref a]) J1.kIn hm.kp ?_
 have rr:Reps X.K H1 [.ref a] [.ref a]:=⟨_,_,rfl,rfl,rfl⟩
 refine thn (kXk (us:=[.ref a]) F hr hb M.mono M.len J1 hs1 hg1 rr (.cons rfl .nil) q fun a' C' cn' B a0 H' G' s' l ex g hc hR=> ?_) fun u s' z=>z.ext e1
 exact⟨a',C',cn',B,a0,τ,G1,H1,s1,G',H',rfl,e1,⟨σ,J1,hs1,hg1⟩,l,ex,g,hc,hR⟩
end
theorem rel2 {K:PySem.W.Frag} {mg:Str->Option Value} {cs:List Str} {c1 c2:Str} {b1 b2:Bool} (h1:IsX K mg cs c1 b1) (h2:IsX K mg cs c2 b2):∀cn' b',(cn',b')∈[(c1,b1),(c2,b2)]->IsX K mg cs cn' b':=fun cn' b' z=>by
 rcases (lJj.mp z) with z | z
 ·cases z;exact h1
 ·cases lJ1.mp z;exact h2
theorem sub2 {K:PySem.W.Frag} {mg:Str->Option Value} {c1 c2 c:Str} (h1:ExSub K mg c1 c true) (h2:ExSub K mg c2 c true):∀cn',cn'∈[c1,c2]->ExSub K mg cn' c true:=fun cn' z=>by
 rcases (lJj.mp z) with z | z
 ·cases z;exact h1
 ·cases lJ1.mp z;exact h2
def kU0 (cn m:Str) (sp:SpX) (R:XK3) (ta:TE3) (t:TA3):TE3:=fun τ G Q=>ta τ G fun x G1=>obR cn m G1 x=true/\t τ G1 fun xs G2=>sp (x::xs) G2 Q R
section
variable {X:Cx} {cn m:Str} {k:Nat} {ps:List Str} {sp:SpX} {o e:Expr} {es:List Expr} {ta:TE3} {t:TA3} {pos apos:Pos}
theorem qUl {R:XK3} {pl:Sem Bool} (hx:XR X R) (M:CalMX X.prog X.w X.K X.mg X.base k cn m ps sp) (hr:Room k X.A) (he:PE3 X o ta) (ha:PA3 X (e::es) t)
  (hst:starEach (e::es) X.env=(false,eval e X.env)::starEach es X.env:=by rfl) (hpl:(backTo pos (starEach es X.env)).any (·.1)=false:=by rfl)
  (ht:eval (.Call (.Attribute o m apos) (e::es) [] pos) X.env=(do
   let ov <-eval o X.env
   standAt apos.atName
   let (f,first) <-holding [ov] (getMethod ov m pl)
   callWith pos f first (backTo pos (starEach (e::es) X.env)) (backToKw pos (keywordEach [] X.env))):=by rfl):
  PE3 X (.Call (.Attribute o m apos) (e::es) [] pos) (kU0 cn m sp R ta t):=by
 intro pins s τ G H Q I h
 obtain⟨C,f,fd,hC,hc,hm,F,hb⟩:=M.ex
 refine lV3 (pl:=pl) (thn (he pins s τ G H _ I h) fun u s1 w_=>w_.el fun x G1 H1 e1 I1 r_ q=>r_.el fun v rv ru=> ?_) ht
 obtain⟨ob,q⟩:=q
 obtain⟨a,fs,rfl,hG,hf⟩:=jXc ob
 cases (show v= .ref a from rv)
 obtain rfl:u=Value.ref a:=ru
 obtain⟨σ,J1,hs1,hg1⟩:=id I1
 obtain⟨C',dx,ws,hH,hC',pk⟩:=(show ∃C dx ws,H1 a=some (.ins C dx ws)/\CN X.K cn C/\PKV X.K H1 fs ws from hg1 a _ hG)
 cases hC.one hC'
 refine jVa J1 hH hc hm ((jY6 pk m).1 hf) ?_
 refine lV0 (first:=[.ref a]) (h₀:=X.base) J1.ok.mod.kin hm.kp (thn (ha pos pins s1 τ G1 H1 _ I1 q) fun us s2 w_=>w_.el fun xs G2 H2 e2 i_ r_ q2=>i_.el fun σ2 I2 hs2 hg2=>r_.el fun as ras rvs=>⟨I2.kIn,?_⟩) hst hpl
 have rr:Reps X.K H2 (.ref a::xs) (.ref a::as):=⟨_,_,rfl,rfl,ras⟩
 refine thn (kXk (us:= .ref a::us) F hr hb M.mono M.len I2 hs2 hg2 rr (.cons rfl rvs) q2 fun a' C' cn' B a0 H' G' s' l _ g hc hR=>hx.pass pins σ2 H2 s2 s' a' C' cn' B a0 H' G' I2 l g hc hR) fun u s' z=>z.ext (e1.trans e2)
end
theorem rel3 {K:PySem.W.Frag} {mg:Str->Option Value} {cs:List Str} {c1 c2 c3:Str} {b1 b2 b3:Bool} (h1:IsX K mg cs c1 b1) (h2:IsX K mg cs c2 b2) (h3:IsX K mg cs c3 b3):∀cn' b',(cn',b')∈[(c1,b1),(c2,b2),(c3,b3)]->IsX K mg cs cn' b':=fun cn' b' z=>by
 rcases (lJj.mp z) with z | z
 ·cases z;exact h1
 ·exact rel2 h2 h3 cn' b' z
theorem sub3 {K:PySem.W.Frag} {mg:Str->Option Value} {c1 c2 c3 c:Str} (h1:ExSub K mg c1 c true) (h2:ExSub K mg c2 c true) (h3:ExSub K mg c3 c true):∀cn',cn'∈[c1,c2,c3]->ExSub K mg cn' c true:=fun cn' z=>by
 rcases (lJj.mp z) with z | z
 ·cases z;exact h1
 ·exact sub2 h2 h3 cn' z
end L3
namespace L3
open PySem PySem.Spec PyProof.Rows L2
section
variable {X:Cx}
end
section
variable {X:Cx}
end
section
variable {P:Program} {w:World} {d:Addr}
theorem qJk {K:Type} [DecidableEq K] (knd:HeapKind P w K) (a:Addr) (z:Value) (hd:(d == sysModules)=false):
  MeetsIn P w (Builtin.«dict.get» ⟨[.ref d,.ref a,z],[]⟩) (fun A R s=>knd.room A.in1/\∃k xs,knd.is s.heap k a/\s.heap.DictOfH knd d xs/\R (.ok (.ret (((atKey xs k).map (·.2)).getD z))) {s with toks:=s.toks+knd.draws k}):=
 .of_wp fun A R (s) ⟨hu,k,xs,hkey,hm,h⟩=>by
  unfold Builtin.«dict.get»; refine lJa ?_
  unfold Builtin.Dict.keyAndDefault;refine lJa (lXr hm.typeIs ?_)
  refine (show wpAny _ _ (pure (d,Value.ref a,some z)) _ _ s from lJd ?_)
  refine lJa (m:=dictGet d (.ref a)) (wpAny_dictGet_heap hu hkey hm ?_)
  cases e:(atKey xs k).map (·.2) with
  | some v=>rw[e] at h;exact lJd ⟨_,rfl,h⟩
  | none=>
   rw[e] at h
   refine lJa (m:=Builtin.Dict.missed d (.ref a)) ?_
   unfold Builtin.Dict.missed
   rw[lJb (by rw[hd];exact (lJk))]
   exact lJd (lJd ⟨_,rfl,h⟩)
end
section
variable {X:Cx}
def qVt:T->List T->Gp->VK3->Prop:=fun x as G Q=>∃p ys z o,x= .ref p/\as=[.tup ys,z]/\dAt G (.ref p) (.tup ys)=some o/\Q (o.getD z) G
theorem qYm (hu:X.A.units+20<cLine):Mt3 X "dict.get" qVt:=by
 rintro pins s τ G H x as v us Q ⟨σ,I,hs,hg⟩ ⟨a,ra,rv⟩ ⟨bs,rbs,rus⟩ ⟨p,ys,zz,o,ex,ea,hd,q⟩
 subst ex;subst ea
 cases (show a= .ref p from ra);cases rv
 obtain⟨b,bz,rfl,rb,rz⟩:=kKj rbs
 obtain⟨u1,uz,rfl,ru1,ruz⟩:=rus.two
 obtain⟨p',ov,ep,g,e1,e2⟩:=kKa hg ra rb hd
 cases ep
 obtain⟨q',vs,e,h3,h4⟩:=(show ∃q vs,b= .ref q/\H q=some (.tup vs)/\Reps X.K H ys vs from rb)
 subst e
 cases (show u1=Value.ref q' from ru1)
 rcases g with ⟨kvs,k,e,ey,l⟩ | ⟨kvs,k,b,e,ey,eb,l⟩
 ·cases k<;>cases ey
 ·cases ey
  obtain⟨z,hdd,xs,rel,dd⟩:=kYh I.hok e
  refine call_meetsIn lQl dd.typeIs PySem.F.entry_dict_get (PySem.F.args_dict_get_3 _ _ _) (qJk (jKf X.prog X.w) q' uz hdd) ⟨jJy hu,k,xs,jYv I.hok eb,dd,?_⟩
  have ro:=rel.val k
  rw[<-l] at ro
  cases ov with
  | none=>
   cases o with
   | some t=>cases e1
   | none=>
    cases ea:atKey xs k with
    | some pp=>rw[ea] at ro;exact (show False from ro).elim
    | none=>exact⟨zz,G,H,.refl H,⟨σ,I.tok _,hs,hg⟩,⟨bz,rz,ruz⟩,q⟩
  | some wv=>
   cases o with
   | none=>cases e1
   | some t=>
    obtain⟨wv',e',rt⟩:=e2 t rfl
    cases e'
    cases ea:atKey xs k with
    | none=>rw[ea] at ro;exact (show False from ro).elim
    | some pp=>rw[ea] at ro;exact⟨t,G,H,.refl H,⟨σ,I.tok _,hs,hg⟩,⟨wv,rt,ro⟩,q⟩
end
section
variable {prog:Program} {w:World} {A:Around} {E:Value->Shared->Prop} {s:Shared}
end
section
variable {P:Program} {w:World} {A:Around} {E:Value->Shared->Prop} {s:Shared} {it l:Addr} {xs:Array Value}
end
section
variable {X:Cx}
end
end L3
namespace PySem
open Sem (wp)
set_option maxRecDepth 100000
end PySem
namespace L3
open PySem PySem.Spec PyProof.Rows L2
section
variable {prog:Program} {w:World} {A:Around} {E:Value->Shared->Prop} {s:Shared}
end
section
variable {X:Cx}
end
end L3
namespace L3
open PySem PySem.Spec PyProof.Rows L2 PySem.W
section
variable {prog:Program} {w:World} {A:Around} {E:Value->Shared->Prop} {s:Shared}
end
section
variable {w:World} {prog:Program}
section
variable {A:Around} {R:Result->Shared->Prop} {I:Addr} {fp:List Addr} {G:Array GenState->Array GenState->Prop} {n:Nat} {P:Nat->Value->Prop} {St:Nat->Shared->Prop}
end
section
variable {E:Value->Shared->Prop} {s:Shared} {A:Around}
end
end
section
variable {prog:Program} {w:World} {A:Around} {E:Value->Shared->Prop} {s:Shared}
end
section
variable {prog:Program} {w:World} {A:Around} {E:Value->Shared->Prop} {s:Shared}
end
section
variable {X:Cx}
end
end L3
namespace PySem
open Sem (wp)
set_option maxRecDepth 100000
namespace F
end F
end PySem
namespace L3
open PySem PySem.Spec PyProof.Rows L2 PySem.W
section
variable {prog:Program} {w:World} {A:Around} {E:Value->Shared->Prop} {s:Shared}
theorem kZ0 {M:Model} {a:Addr} {o:Obj} {Q:Option Obj->Shared->Prop} (ho:s.heap.get? a=some o) (h:Q (some o) s):wpAny M A (loadIfAlive a) Q E s:=by
 intro Γ p _
 unfold loadIfAlive
 rw[Sem.wp_loadIfAlive,ho]
 exact h
def ZipM (h:Heap) (z TI TO T:Addr) (b:Bool):Prop:=h.get? z=some {cls:= .type "zip",dict:=none,data:= .fields #[rawInt T,.bool b,.bool false,.ref TI,.ref TO],slots:= #[]}
theorem kUw {z TI TO T:Addr} {bb:Bool} {K:Bool->Shared->Prop} (hz:ZipM s.heap z TI TO T bb) (k:∀h0,ZipM h0 z TI TO T true->Heap.SameBut z s.heap h0->K false {s with heap:=h0}):
  wpAny (model prog w) A (if (Value.bool bb != Value.bool true)=true then do setField (.ref z) 1 (.bool true);pure false else pure false) K E s:=by
 cases bb with
 | true=>exact lJd (k s.heap hz (.refl _ _))
 | false=>exact lJa (wpAny_setField_rec hz (by simp) fun h0 hz0 sb=>lJd (k h0 hz0 sb))
theorem kQj {z TI TO i1 i2 l1 l2 T:Addr} {oT:Obj} {bb:Bool} {k1 k2:Nat} {xs ys:Array Value} {x y:Value} {Q:Value->Shared->Prop} (D:ZipApart z TI TO i1 i2 l1 l2)
  (hz:ZipM s.heap z TI TO T bb) (hT:s.heap.get? T=some oT) (hTI:IsPair s.heap TI (.ref i1) (.ref i2))
  (h1:s.heap.IsListIter i1 l1 k1) (h2:s.heap.IsListIter i2 l2 k2) (hl1:s.heap.IsList l1 xs) (hl2:s.heap.IsList l2 ys) (hx:xs[k1]? =some x) (hy:ys[k2]? =some y)
  (hQ:∀h',ZipM h' z TI TO T true->h'.IsListIter i1 l1 (k1+1)->h'.IsListIter i2 l2 (k2+1)->IsPair h' s.heap.objs.size x y->h'.objs.size=s.heap.objs.size+1->
   (∀c o,c≠z->c≠i1->c≠i2->s.heap.get? c=some o->h'.get? c=some o)->Q (.ref s.heap.objs.size) {s with heap:=h'}):wpAny (model prog w) A (Builtin.«zip.__next__» ⟨[.ref z],[]⟩) (fun fin s'=>∃v,fin= .done (.ret v)/\Q v s') E s:=by
 refine (show wpAny _ _ (field (.ref z) 2 >>= _) _ _ _ from ?_)
 (refine lJa (lKx hz rfl (x:= .bool false) rfl ?_))
 refine (show wpAny _ _ (field (.ref z) 3 >>= _) _ _ _ from ?_)
 (refine lJa (lKx hz rfl (x:= .ref TI) rfl ?_))
 (refine lJa (wpAny_seqItems hTI rfl ?_))
 refine (show wpAny _ _ (Builtin.SmallTypes.ownedTupleIsFree (.ref z) >>= _) _ _ _ from ?_)
 refine lJa ?_
 (unfold Builtin.SmallTypes.ownedTupleIsFree)
 refine lJa (lKx hz rfl (x:=rawInt T) rfl ?_)
 refine (show wpAny _ _ (loadIfAlive T >>= _) _ _ _ from ?_)
 refine lJa (kZ0 hT ?_)
 (simp only[Option.isNone_some,lKj,lJt])
 refine lJa (lKx hz rfl (x:= .bool bb) rfl ?_)
 refine kUw hz fun h0 hz0 sb=> ?_
 (simp only[lKj,lJt])
 refine lJa ?_
 rw[<-lVv]
 (simp only[List.forIn_cons,List.forIn_nil])
 refine lJa (lJa (lK3 ?_))
 refine (show wpAny _ _ (Builtin.SmallTypes.nextOf (.ref i1) >>= _) _ _ _ from ?_)
 refine lJa (wpAny_nextOf_list_item (s:={s with heap:=h0}) (h1.extBut sb.extBut D.i1z) (hl1.extBut sb.extBut D.l1z) hx fun h₂ h1₂ hs₂=>lJd (lJd ?_))
 dsimp only
 refine lJa (lJa (lK3 ?_))
 refine (show wpAny _ _ (Builtin.SmallTypes.nextOf (.ref i2) >>= _) _ _ _ from ?_)
 refine lJa (wpAny_nextOf_list_item (s:={s with heap:=h₂ }) ((h2.extBut sb.extBut D.i2z).extBut hs₂.extBut D.i12.symm) ((hl2.extBut sb.extBut D.l2z).extBut hs₂.extBut D.l2i1) hy fun h₄ h2₄ hs₄=>lJd (lJd ?_))
 dsimp only
 refine lJd ?_
 dsimp only
 refine lJa (wpAny_newTuple ?_ (by show 2<=sizeLine;decide))
 have sz:h₄.objs.size=s.heap.objs.size:=by rw[hs₄.1,hs₂.1,sb.1]
 have kp:∀c o,c≠z->c≠i1->c≠i2->s.heap.get? c=some o->h₄.get? c=some o:=fun c o c1 c2 c3 e=>hs₄.extBut _ _ c3 (hs₂.extBut _ _ c2 (sb.extBut _ _ c1 e))
 (refine lJd ⟨_,rfl,?_⟩)
 show Q (.ref h₄.objs.size) _
 rw[sz]
 refine hQ _ (lJl _ (hs₄.extBut _ _ D.i2z.symm (hs₂.extBut _ _ D.i1z.symm hz0))) ((h1₂.extBut hs₄.extBut D.i12).at fun o e=>lJl _ e) (h2₄.at fun o e=>lJl _ e) (by rw[<-sz];exact lJz _ rfl) (by rw[lVw,sz]) fun c o c1 c2 c3 e=>lJl _ (kp c o c1 c2 c3 e)
theorem kUv {z TI TO i1 i2 l1 l2 T:Addr} {oT:Obj} {bb:Bool} {k1:Nat} {xs:Array Value} {Q:PySem.Fin->Shared->Prop} (hh:A.handled=none) (D:ZipApart z TI TO i1 i2 l1 l2)
  (hz:ZipM s.heap z TI TO T bb) (hT:s.heap.get? T=some oT) (hTI:IsPair s.heap TI (.ref i1) (.ref i2))
  (h1:s.heap.IsListIter i1 l1 k1) (hl1:s.heap.IsList l1 xs) (hx:xs[k1]? =none)
  (hE:∀h' e,(∀c o,c≠z->c≠i1->s.heap.get? c=some o->h'.get? c=some o)->(∃o,h'.get? e=some o/\o.cls= .type "StopIteration")->E (.ref e) {s with heap:=h'}):wpAny (model prog w) A (Builtin.«zip.__next__» ⟨[.ref z],[]⟩) Q E s:=by
 refine (show wpAny _ _ (field (.ref z) 2 >>= _) _ _ _ from ?_)
 (refine lJa (lKx hz rfl (x:= .bool false) rfl ?_))
 refine (show wpAny _ _ (field (.ref z) 3 >>= _) _ _ _ from ?_)
 (refine lJa (lKx hz rfl (x:= .ref TI) rfl ?_))
 (refine lJa (wpAny_seqItems hTI rfl ?_))
 refine (show wpAny _ _ (Builtin.SmallTypes.ownedTupleIsFree (.ref z) >>= _) _ _ _ from ?_)
 refine lJa ?_
 (unfold Builtin.SmallTypes.ownedTupleIsFree)
 refine lJa (lKx hz rfl (x:=rawInt T) rfl ?_)
 refine (show wpAny _ _ (loadIfAlive T >>= _) _ _ _ from ?_)
 refine lJa (kZ0 hT ?_)
 (simp only[Option.isNone_some,lKj,lJt])
 refine lJa (lKx hz rfl (x:= .bool bb) rfl ?_)
 refine kUw hz fun h0 hz0 sb=> ?_
 (simp only[lKj,lJt])
 refine lJa ?_
 rw[<-lVv]
 (simp only[List.forIn_cons,List.forIn_nil])
 refine lJa (lJa (lK3 ?_))
 refine (show wpAny _ _ (Builtin.SmallTypes.nextOf (.ref i1) >>= _) _ _ _ from ?_)
 refine lJa (wpAny_nextOf_list_end (s:={s with heap:=h0}) hh (h1.extBut sb.extBut D.i1z) (hl1.extBut sb.extBut D.l1z) hx fun h₂ e hs₂ he=> ?_)
 exact hE h₂ e (fun c o c1 c2 q=>hs₂ _ _ c2 (sb.extBut _ _ c1 q)) he
theorem jZo {z TI TO i1 i2 l1 l2 T:Addr} {oT:Obj} {bb:Bool} {k1 k2:Nat} {xs ys:Array Value} {x y:Value} {Q:Option Value->Shared->Prop} (D:ZipApart z TI TO i1 i2 l1 l2)
  (hz:ZipM s.heap z TI TO T bb) (hT:s.heap.get? T=some oT) (hTI:IsPair s.heap TI (.ref i1) (.ref i2))
  (h1:s.heap.IsListIter i1 l1 k1) (h2:s.heap.IsListIter i2 l2 k2) (hl1:s.heap.IsList l1 xs) (hl2:s.heap.IsList l2 ys) (hx:xs[k1]? =some x) (hy:ys[k2]? =some y)
  (hQ:∀h',ZipM h' z TI TO T true->h'.IsListIter i1 l1 (k1+1)->h'.IsListIter i2 l2 (k2+1)->IsPair h' s.heap.objs.size x y->
   (∀c o,c≠z->c≠i1->c≠i2->s.heap.get? c=some o->h'.get? c=some o)->Q (some (.ref s.heap.objs.size)) {s with heap:=h'}):wpAny (model prog w) A (pyNext (.ref z)) Q E s:=by
 have hTy:s.TypeIs (.ref z) "zip":=⟨_,hz,rfl⟩
 unfold pyNext
 exact lJa (wpAny_attempt (lVt (name:=Str.ofString "__next__") hTy lXh
  (lQz lXh hTy PySem.F.entry_zip_next
   (kQj D hz hT hTI h1 h2 hl1 hl2 hx hy fun h' a1 a2 a3 a4 _ a5=>lJd (hQ h' a1 a2 a3 a4 a5)) (PySem.F.args_zip_next_1 _))))
theorem kJt {z TI TO i1 i2 l1 l2 T:Addr} {oT:Obj} {bb:Bool} {k1:Nat} {xs:Array Value} {Q:Option Value->Shared->Prop} (hh:A.handled=none) (D:ZipApart z TI TO i1 i2 l1 l2)
  (hz:ZipM s.heap z TI TO T bb) (hT:s.heap.get? T=some oT) (hTI:IsPair s.heap TI (.ref i1) (.ref i2))
  (h1:s.heap.IsListIter i1 l1 k1) (hl1:s.heap.IsList l1 xs) (hx:xs[k1]? =none)
  (hQ:∀h',(∀c o,c≠z->c≠i1->s.heap.get? c=some o->h'.get? c=some o)->Q none {s with heap:=h'}):wpAny (model prog w) A (pyNext (.ref z)) Q E s:=by
 have hTy:s.TypeIs (.ref z) "zip":=⟨_,hz,rfl⟩
 unfold pyNext
 refine lJa (wpAny_attempt (lVt (name:=Str.ofString "__next__") hTy lXh
  (lQz lXh hTy PySem.F.entry_zip_next (kUv hh D hz hT hTI h1 hl1 hx fun h' e hk he=> ?_) (PySem.F.args_zip_next_1 _))))
 obtain⟨o,ho,hc⟩:=he
 (refine lJa (lV7 (T:="StopIteration") (b:=true) ⟨o,ho,hc⟩ isSubtype_stop ?_))
 exact lJd (hQ _ hk)
end
section
variable {X:Cx}
end
end L3
namespace L3
open PySem PySem.Spec PyProof.Rows L2
section
variable {X:Cx}
end
end L3
namespace L3
open PySem PySem.Spec PyProof.Rows L2 PySem.W
section
variable {prog:Program} {w:World} {A:Around} {E:Value->Shared->Prop} {s:Shared} {d:Addr} {o:Obj} {es:Array DictEntry} {ep:Nat}
theorem kVr {id:String} {Q:Array DictEntry->Shared->Prop} (ho:s.heap.get? d=some o) (hd:o.data= .dict es ep) (hall:∀e,e∈es.toList->(es.filter (·.hash == e.hash)).size<=1/\∃b,e.key= .ref b/\s.TypeIs (.ref b) "tuple") (h:Q es s):wpAny (model prog w) A (Builtin.Dict.entriesForEmpty id d) Q E s:=by
 (unfold Builtin.Dict.entriesForEmpty)
 (refine lJa (lVb ho hd ?_))
 refine lJa ?_
 rw[<-lVv]
 refine wpAny_forIn_list _ (fun rest _ s'=>s'=s/\∀e,e∈rest->e∈es.toList) _ ?_ ?_ _ _ ⟨rfl,fun e he=>he⟩
 ·rintro e rest b s' ⟨rfl,hr⟩
  obtain⟨h1,p,h2,h3⟩:=hall e (hr e (lKm ..))
  rw[h2]
  refine lJa ?_
  unfold Builtin.Dict.quietEq
  refine lJa (lQm h3 PySem.F.slot_tuple_eq.lookup (lJd ?_))
  rw[lJc (by decide),lJb (by omega)]
  exact lJd ⟨rfl,fun e he=>hr e (lKa _ he)⟩
 ·rintro b s' ⟨rfl,_⟩
  exact lJd h
theorem qJz {l:Addr} {Q:Value->Shared->Prop} (hl:(l == sysModules)=false) (ho:s.heap.get? l=some o) (hc:o.ExactDict) (hx:o.data= .dict es ep) (hz:es.size<=sizeLine) (hall:∀e,e∈es.toList->(es.filter (·.hash == e.hash)).size<=1/\∃b,e.key= .ref b/\s.TypeIs (.ref b) "tuple")
  (k:∀h' o' ep',h'.get? s.heap.objs.size=some o'->o'.ExactDict->o'.data= .dict es ep'->(∀b u,s.heap.get? b=some u->h'.get? b=some u)->Q (.ref s.heap.objs.size) {s with heap:=h'}):
  wpAny (model prog w) A (call (.type "dict") [.ref l]) Q E s:=by
 refine callType_codes (Q₁:=fun obj s₁=>obj= .ref s.heap.objs.size/\s₁={s with heap:=s.heap.push {cls:= .type "dict",data:= .dict #[]} }) PySem.F.kt_called_dict (PySem.F.kt_typeCall_dict_1 _) PySem.F.entry_dict_init (kt_code_dict_new _ ⟨rfl,rfl⟩) ?_
 rintro obj s₁ ⟨rfl,rfl⟩
 have hn:(s.heap.push {cls:= .type "dict",data:= .dict #[]}).get? s.heap.objs.size=some {cls:= .type "dict",data:= .dict #[]}:=lJz _ rfl
 have up:∀b u,s.heap.get? b=some u->(s.heap.push {cls:= .type "dict",data:= .dict #[]}).get? b=some u:=fun b u e=>lJl _ e
 have ho':=up _ _ ho
 have hTn:Shared.TypeIs {s with heap:=s.heap.push {cls:= .type "dict",data:= .dict #[]} } (.ref s.heap.objs.size) "dict":=⟨_,hn,rfl⟩
 have hTl:Shared.TypeIs {s with heap:=s.heap.push {cls:= .type "dict",data:= .dict #[]} } (.ref l) "dict":=⟨_,ho',hc.1⟩
 have hdl:s.heap.objs.size≠l:=fun e=>absurd (lJh ho) (by rw[e];exact lVc _)
 refine⟨hTn,PySem.F.args_dict_init_2 _ _,?_⟩
 (unfold Builtin.«dict.__init__»)
 refine lJa ?_
 (unfold Builtin.Dict.selfAndRest)
 refine lJa (lXr hTn ?_)
 refine (show wpAny _ _ (pure (s.heap.objs.size,[Value.ref l])) _ _ _ from ?_)
 refine lJd ?_
 refine (show wpAny _ _ (Builtin.Dict.updateFrom "dict.__init__" s.heap.objs.size (.ref l) [] .none) _ _ _ from ?_)
 (unfold Builtin.Dict.updateFrom)
 refine lJa (lQ0 hTl ?_)
 rw[lJb (by decide)]
 refine lJa ?_
 unfold Builtin.Dict.merge
 refine lJa ?_
 (unfold Builtin.Dict.readDirectly)
 refine lJa (lV7 hTl isSubtype_dict_dict ?_)
 (simp only[Bool.not_true,lKj,lJt])
 refine lJa (lQm hTl PySem.F.slot_dict_iter.lookup (lJd ?_))
 (simp only[beq_self_eq_true,lJ4])
 refine lJa (lJd ?_)
 unfold Builtin.Dict.mergeDict
 rw[lJb (by simpa using hdl)]
 unfold Builtin.Dict.showsAll
 (rw[lJb (by rw[hl];exact lJk)])
 refine lJa (lJd ?_)
 refine lJa (lVb ho' hx ?_)
 dsimp only
 split
 ·refine lJa (lVb hn rfl ?_)
  rw[lJc (by rfl)]
  refine lJa (kVr ho' hx (fun e he=> ?_) ?_)
  ·obtain⟨h1,b,h2,u,h3,h4⟩:=hall e he
   exact⟨h1,b,h2,u,up _ _ h3,h4⟩
  have ex:Obj.ExactDict {cls:= .type "dict",data:= .dict #[]}:=⟨rfl,rfl,rfl⟩
  split
  ·refine lJa (wpAny_updateDictKeysTo hn rfl (lJd ?_) (by omega))
   exact lJa (lJd (lJd ⟨rfl,k _ _ _ (lQs _ hn (Obj.isFreed_of_dict (Obj.data_mapDictKeys rfl _))) (ex.mapDictKeys _) (Obj.data_mapDictKeys rfl _) fun b u e=>((lVj ..).2 b (lJn (lJh e))).trans (up b u e)⟩))
  ·rename_i he
   have h0:es= #[]:=Array.isEmpty_iff.mp (by simpa using he)
   subst h0
   exact lJd (lJa (lJd (lJd ⟨rfl,k _ _ _ hn ex rfl up⟩)))
 ·rename_i he
  have h0:es= #[]:=by
   obtain⟨l⟩:=es
   cases l with
   | nil=>rfl
   | cons e l=>
    obtain⟨_,b,h2,_⟩:=hall e (by simp)
    simp[h2,keyPart] at he
  subst h0
  refine lJa (wpAny_dictEpoch ho' hx ?_)
  refine lJa (lVb ho' hx ?_)
  refine lJa ?_
  (rw[Std.Legacy.Range.forIn_eq_forIn_range'])
  refine (show wpAny _ _ (forIn ([]:List Nat) PUnit.unit _) _ _ _ from ?_)
  rw[List.forIn_nil]
  exact lJd (lJd (lJa (lJd (lJd ⟨rfl,k _ _ _ hn ⟨rfl,rfl,rfl⟩ rfl up⟩))))
end
def hf (r d:Nat):Int:=reduceHash (Builtin.Tuple.tupleHashOf [hashInt r,hashInt d])
def hfs:List Int:=(List.range 24).flatMap fun r=>(List.range 12).map (hf r)
theorem qQ3:hfs.Nodup:=by decide +kernel
theorem kZp {f:Nat->Nat->Int} {m:Nat}:∀ {n:Nat},((List.range n).flatMap fun r=>(List.range m).map (f r)).Nodup->∀ {r d r' d':Nat},r<n->d<m->r'<n->d'<m->f r d=f r' d'->r=r'/\d=d'
 | 0,_,_,_,_,_,hr,_,_,_,_=>absurd hr (lK5 _)
 | n+1,h,r,d,r',d',hr,hd,hr',hd',e=>by
  rw[lKi,lV4,lQk] at h
  obtain⟨h1,h2,h3⟩:=h
  have mem:∀ {r d:Nat},r<n->d<m->f r d∈(List.range n).flatMap fun r=>(List.range m).map (f r):=fun {r d} hr hd=>lQ4.mpr ⟨r,lKy.mpr hr,lJw.mpr ⟨d,lKy.mpr hd,rfl⟩⟩
  have mem2:∀ {d:Nat},d<m->f n d∈([n]:List Nat).flatMap fun r=>(List.range m).map (f r):=fun {d} hd=>lQ4.mpr ⟨n,lJ1.mpr rfl,lJw.mpr ⟨d,lKy.mpr hd,rfl⟩⟩
  rcases lKe r n with a | a
  ·rcases lKe r' n with b | b
   ·exact kZp h1 a hd b hd' e
   ·have:r'=n:=by omega
    subst this
    exact absurd e (h3 _ (mem a hd) _ (mem2 hd'))
  ·have:r=n:=by omega
   subst this
   rcases lKe r' r with b | b
   ·exact absurd e.symm (h3 _ (mem b hd') _ (mem2 hd))
   ·have:r'=r:=by omega
    subst this
    refine⟨rfl,?_⟩
    rw[List.flatMap_singleton,List.Nodup,List.pairwise_map] at h2
    rcases Nat.lt_trichotomy d d' with q | q | q
    ·exact absurd e (lXv.mp h2 d d' (by simpa using hd) (by simpa using hd') q|>fun z=>by simpa using z)
    ·exact q
    ·exact absurd e.symm (lXv.mp h2 d' d (by simpa using hd') (by simpa using hd) q|>fun z=>by simpa using z)
def kV7 (k:TKey):Prop:=∃r d:Nat,r<24/\d<12/\k=[.inl (.inl (r:Int)),.inl (.inl (d:Int))]
theorem qKn {prog:Program} {w:World} {k k':TKey} (h:kV7 k) (h':kV7 k') (e:(jKf prog w).hash k=(jKf prog w).hash k'):k=k':=by
 obtain⟨r,d,hr,hd,rfl⟩:=h
 obtain⟨r',d',hr',hd',rfl⟩:=h'
 obtain⟨rfl,rfl⟩:=kZp qQ3 hr hd hr' hd' (show hf r d=hf r' d' from e)
 rfl
theorem kY7 {α:Type} {f:α->Int} {g:α->DictEntry} (hg:∀a,(g a).hash=f a):∀ {xs:List α},(∀a,a∈xs->∀b,b∈xs->f a=f b->a=b)->xs.Nodup->∀a,a∈xs->((xs.map g).filter fun e=>e.hash == (g a).hash).length<=1
 | [],_,_,a,ha=>absurd ha lJv
 | x::xs,hi,hn,a,ha=>by
  rw[lKd] at hn
  rw[lJr,lK8]
  have none:∀y,y∉xs->y∈x::xs->((xs.map g).filter fun e=>e.hash == (g y).hash)=[]:=fun y hy hm=>by
   rw[List.filter_eq_nil_iff]
   intro e he z
   obtain⟨b,hb,rfl⟩:=lJw.mp he
   have z:(g b).hash=(g y).hash:=by simpa using z
   rw[hg,hg] at z
   exact hy (hi b (lKa _ hb) y hm z▸hb)
  by_cases e:x=a
  ·subst e
   rw[lJc (by simp),none x hn.1 (lKm ..)]
   simp
  ·have hax:a∈xs:=(lJj.mp ha).resolve_left fun z=>e z.symm
   have ne:¬ ((g x).hash == (g a).hash)=true:=fun z=>by
    have z:(g x).hash=(g a).hash:=by simpa using z
    rw[hg,hg] at z
    exact e (hi x (lKm ..) a ha z)
   rw[lJb ne]
   exact kY7 hg (fun a ha b hb=>hi a (lKa _ ha) b (lKa _ hb)) hn.2 a hax
section
variable {X:Cx}
noncomputable def qK0:List T->Gp->VK3->Prop:=fun xs G Q=>∃(p:Addr) (kvs:List (TKey×T)),xs=[.ref p]/\G p=some (.dct kvs)/\(∀e,e∈kvs->kV7 e.1)/\∀q,G q=none->Q (.ref q) (gup G q (.dct kvs))
theorem uJd:Call3 X (.type "dict") qK0:=by
 rintro pins s τ G H xs us Q ⟨σ,I,hs,hg⟩ ⟨as,ras,rvs⟩ ⟨pa,kvs,ex,hp,hk,q⟩
 subst ex
 obtain⟨v,rfl,rv⟩:=jVf ras
 obtain⟨u,rfl,ru⟩:=rvs.one
 cases (show v= .ref pa from rv);cases ru
 obtain⟨ws,h1,h2⟩:=(show ∃ws,H pa=some (.dT ws)/\PKV X.K H kvs ws from hg pa _ hp)
 obtain⟨z,hd,xs,rel,o,es,ep,ho,hc,hx,he,hn⟩:=(show ObjOk X.prog X.w H s.heap pa (.dT ws) from I.hok pa _ h1)
 have l1:es.size=xs.length:=by have a1:=lJx List.length he;simpa using a1
 have l2:=lQd rel
 have small:∀x,x∈xs->kV7 x.1/\TKeyAt H x.1 x.2.1:=fun x hx=>by
  obtain⟨i,hi⟩:=lJ8 hx
  have hiw:i<ws.length:=by have:=(lJe.mp hi).1;omega
  obtain⟨y,k1,k2,k3,_⟩:=jY7 rel (lJi hiw)
  rw[hi] at k1;cases k1
  have hik:i<kvs.length:=by have:=h2.length;omega
  obtain⟨w',m1,m2,_⟩:=jY7 h2 (lJi hik)
  rw[lJi hiw] at m1;cases m1
  rw[<-k2,<-m2]
  exact⟨hk _ (lVm hik),by rw[m2];exact k3⟩
 have xn:xs.Nodup:=List.Pairwise.of_map _ (fun a b hab=>fun z=>hab (by rw[z])) hn
 have xi:∀a,a∈xs->∀b,b∈xs->(jKf X.prog X.w).hash a.1=(jKf X.prog X.w).hash b.1->a=b:=fun a ha b hb e=>by
  have ek:=qKn (small a ha).1 (small b hb).1 e
  obtain⟨i,hi⟩:=lJ8 ha
  (obtain⟨j,hj⟩:=lJ8 hb)
  have hil:=(lJe.mp hi).1
  have:=(lVn (by simpa using hil) hn).mp (show (xs.map (·.1))[i]? =(xs.map (·.1))[j]? by rw[lJs,lJs,hi,hj];simp[ek])
  subst this
  rw[hi] at hj;exact lJq hj
 refine qJz hd ho hc hx (by omega) (fun e hee=> ?_) fun h' o' ep' hn' hc' hx' kp=> ?_
 ·rw[he] at hee
  obtain⟨x,hxm,rfl⟩:=lJw.mp hee
  obtain⟨vs,r1,r2⟩:=(small x hxm).2
  refine⟨?_,x.2.1,rfl,?_⟩
  ·have:=kY7 (g:=entryOfKey (jKf X.prog X.w)) (fun a=>rfl) xi xn x hxm
   rw[<-he] at this
   have e2:(es.filter fun e'=>e'.hash == (entryOfKey (jKf X.prog X.w) x).hash).size=(es.toList.filter fun e'=>e'.hash == (entryOfKey (jKf X.prog X.w) x).hash).length:=by
    rw[<-lVd,Array.toList_filter]
   rw[e2];exact this
  ·obtain⟨_,its,_,ot,hot,hct,_⟩:=(show ObjOk X.prog X.w H s.heap x.2.1 (.tup vs) from I.hok _ _ r1)
   exact⟨ot,hot,hct⟩
 have fr:=I.hok.fresh (lJf s.heap.objs.size)
 have ext:Ext H (upd H s.heap.objs.size (.dT ws)):= .upd (.none fr)
 have big:=I.big
 have I3:=I.laid (a:=s.heap.objs.size) (o:= .dT ws) (h':=h') (t':=s.toks) kp (lJf _) ⟨z,by simpa using (lQr big),xs,Paired.mapP rel fun p q z=>⟨z.1,z.2.1.mono fun b ys e=>ext.tup _ _ e,z.2.2⟩,o',es,ep',hn',hc',hx',he,hn⟩
 exact⟨.ref _,_,_,ext,⟨σ,I3,hs.mono ext,hg.upd (.none fr) (go:= .dct kvs) ⟨ws,jJ3,h2.mono ext⟩⟩,⟨.ref _,rfl,rfl⟩,q _ (hg.fresh fr)⟩
end
end L3
namespace L3
open PySem PySem.Spec PyProof.Rows L2
theorem kVn (y:Array Nat):∀(n:Nat) (z:Array Nat),((List.replicate n y).foldl (· ++ ·) z).size=z.size+n*y.size
 | 0,z=>by simp
 | n+1,z=>by rw[lQb,List.foldl_cons,kVn y n,Array.size_append];rw[Nat.add_mul];omega
section
variable {X:Cx}
def rIxS:R3:=fun x y G Q=>∃(z:Str) (i:Nat) (c:Nat),x= .str z/\y= .int i/\i<1000/\z.cps[i]? =some c/\Q (.str ⟨#[c]⟩) G
theorem ix_S:Ix3 X rIxS:=by
 rintro value slice pins s τ G H x y v u Q ⟨σ,I,hs,hg⟩ ⟨a,ra,rv⟩ ⟨b,rb,ru⟩ ⟨z,i,c,ex,ey,hi,hc,q⟩ hsl
 subst ex;subst ey
 cases (show a= .str z from ra)
 cases (show b= .int (i:Nat) from rb)
 obtain⟨t,rfl⟩:=rv
 obtain⟨t',rfl⟩:=ru
 have hT:s.TypeIs (.str z t) "str":=typeIs_str s z t
 have hlt:i<z.cps.size:=(Array.getElem?_eq_some_iff.mp hc).1
 unfold subscriptTail
 refine lJa ?_
 rw[getitemInPython_of_ne hT.not_modules]
 refine lJa (lQm hT PySem.F.slot_str_getitem.lookup ?_)
 have fin:wpAny (model X.prog X.w) X.A (subscripted slice false (.str z t) (.int (i:Nat) t')) (fun r s₃=>wpAny (model X.prog X.w) X.A (letTemporaryGo value (.str z t) r >>= fun _=>pure r) (EP3 X pins τ H Q) X.xe s₃) X.xe s:=by
  rw[hsl]
  refine wpAny_operating (PyProof.Rows.getItem_str (c:=c) ?_ ?_ ?_)
  ·rw[Bool.or_eq_false_iff];exact⟨lJo (by omega),lJo (by omega)⟩
  ·have:seqIndex? (i:Int) z.length=some i:=by
    unfold seqIndex?
    have h0:¬ ((i:Int)<0):=by omega
    simp[Str.length,hlt,h0]
   rw[this];exact hc
  ·exact lJa (wpAny_letTemporaryGo (lJd ⟨.str ⟨#[c]⟩,G,H,.refl H,⟨σ,I.tok _,hs,hg⟩,⟨.str _,rfl,⟨_,rfl⟩⟩,q⟩))
 first
  | exact lJd (lJa fin)
  | exact lJa (lJd (lJa fin))
def qKk (x:Str) (n:Nat):Str:=if n=1 then x else ⟨(List.replicate n x.cps).foldl (· ++ ·) #[]⟩
def qY8:R3:=fun x y G Q=>∃(z:Str) (n:Nat),x= .str z/\y= .int n/\1<=n/\n<=100/\z.length=1/\Q (.str (qKk z n)) G
theorem o_mulS:Op3 X (binaryOp .Mult) qY8:=by
 rintro pins s τ G H x y v u Q ⟨σ,I,hs,hg⟩ ⟨a,ra,rv⟩ ⟨b,rb,ru⟩ ⟨z,n,ex,ey,h1,h2,hz,q⟩
 subst ex;subst ey
 cases (show a= .str z from ra)
 cases (show b= .int (n:Nat) from rb)
 obtain⟨t,rfl⟩:=rv
 obtain⟨t',rfl⟩:=ru
 have hn1:¬ ((n:Int)<1):=by omega
 have big:(100:Nat)<=sizeLine:=by rw[lQn];decide
 refine PySem.P.mul_str ?_ (fun _ _=> ?_) (fun _ _=> ?_) ?_
 ·rw[Bool.or_eq_false_iff];exact⟨lJo (by omega),lJo (by omega)⟩
 ·rw[hz]
  have:(1:Int)<=(2^63-1) / (n:Int):=(Int.le_ediv_iff_mul_le (by omega)).mpr (by omega)
  omega
 ·rw[hz,Builtin.Str.tooLong];simp;omega
 ·rw[lJb hn1]
  unfold qKk at q
  by_cases e:n=1
  ·subst e
   rw[lJc rfl] at q
   rw[lJc (by rfl)]
   exact⟨.str z,G,H,.refl H,⟨σ,I,hs,hg⟩,⟨.str _,rfl,⟨_,rfl⟩⟩,q⟩
  ·rw[lJb e] at q
   rw[lJb (by rw[hz];simp;omega)]
   rw[Int.toNat_natCast]
   refine⟨?_,.str ⟨(List.replicate n z.cps).foldl (· ++ ·) #[]⟩,G,H,.refl H,⟨σ,I.tok _,hs,hg⟩,⟨.str _,rfl,⟨_,rfl⟩⟩,q⟩
   have hz':z.cps.size=1:=hz
   show ((List.replicate n z.cps).foldl (· ++ ·) #[]).size<=sizeLine
   rw[kVn,hz']
   simp;omega
end
end L3
namespace L3
open PySem PySem.Spec PyProof.Rows L2 PySem.W
theorem qJ6:typeLookup (.type "zip") "__len__"=pure none:=by rw[typeLookup_type,lXq];kernel_rfl
theorem kZ5:typeLookup (.type "zip") "__length_hint__"=pure none:=by rw[typeLookup_type,lXq];kernel_rfl
structure ZSt (h:Heap) (z TI TO i1 i2 l1 l2:Addr) (xs ys:Array Value) (i:Nat):Prop where
 zip:(IsZip h z TI TO .none/\∃a b,IsPair h TO a b)\/∃T bb o,ZipM h z TI TO T bb/\h.get? T=some o/\o.cls= .type "tuple"
 TI_:IsPair h TI (.ref i1) (.ref i2)
 it1:h.IsListIter i1 l1 i
 it2:h.IsListIter i2 l2 i
 li1:h.IsList l1 xs
 li2:h.IsList l2 ys
section
variable {prog:Program} {w:World} {A:Around} {E:Value->Shared->Prop} {s:Shared} {z TI TO i1 i2 l1 l2 S:Addr} {xs ys:Array Value} {i:Nat} {h h':Heap}
theorem ZSt.ty (a:ZSt s.heap z TI TO i1 i2 l1 l2 xs ys i):s.TypeIs (.ref z) "zip":=by
 rcases a.zip with ⟨e,_⟩ | ⟨T,bb,o,e,_⟩
 ·exact⟨_,e,rfl⟩
 ·exact⟨_,e,rfl⟩
theorem ZSt.moved {c:Nat} {acc:Array Value} (D:ZipApart z TI TO i1 i2 l1 l2) (a:ZSt h z TI TO i1 i2 l1 l2 xs ys i) (hS:h.get? S=some {cls:= .type "list",dict:=none,data:= .seq acc c,slots:= #[]}) (sl1:S≠l1) (sl2:S≠l2)
  (kp:∀b o,b≠S->h.get? b=some o->h'.get? b=some o):ZSt h' z TI TO i1 i2 l1 l2 xs ys i:=by
 have ne:∀ {b:Addr} {o:Obj},h.get? b=some o->o.cls≠ .type "list"->b≠S:=fun e c q=>by subst q;rw[hS] at e;cases e;exact c rfl
 have nz:¬ (Value.type "zip"=Value.type "list"):=by decide
 have nt:¬ (Value.type "tuple"=Value.type "list"):=by decide
 obtain⟨q,a1,a2,a3,a4,a5⟩:=a
 refine⟨?_,kp _ _ (ne a1 nt) a1,?_,?_,a4.at fun o e=>kp _ o sl1.symm e,a5.at fun o e=>kp _ o sl2.symm e⟩
 ·rcases q with ⟨e,a,b,f⟩ | ⟨T,bb,o,e,f,g⟩
  ·exact .inl ⟨kp _ _ (ne e nz) e,a,b,kp _ _ (ne f nt) f⟩
  ·exact .inr ⟨T,bb,o,kp _ _ (ne e nz) e,kp _ _ (ne f (by rw[g];decide)) f,g⟩
 ·obtain⟨o,e,c,d⟩:=a2;exact⟨o,kp _ _ (ne e (by rw[c];decide)) e,c,d⟩
 ·obtain⟨o,e,c,d⟩:=a3;exact⟨o,kp _ _ (ne e (by rw[c];decide)) e,c,d⟩
theorem qU5 {x y:Value} {Q:Option Value->Shared->Prop} (D:ZipApart z TI TO i1 i2 l1 l2) (a:ZSt s.heap z TI TO i1 i2 l1 l2 xs ys i) (hx:xs[i]? =some x) (hy:ys[i]? =some y)
  (hQ:∀h',ZSt h' z TI TO i1 i2 l1 l2 xs ys (i+1)->IsPair h' s.heap.objs.size x y->(∀c o,c≠z->c≠TO->c≠i1->c≠i2->s.heap.get? c=some o->h'.get? c=some o)->Q (some (.ref s.heap.objs.size)) {s with heap:=h'}):wpAny (model prog w) A (pyNext (.ref z)) Q E s:=by
 obtain⟨q,a1,a2,a3,a4,a5⟩:=a
 rcases q with ⟨e,a,b,f⟩ | ⟨T,bb,o,e,f,g⟩
 ·refine wpAny_pyNext_zip_item D e a1 f a2 a3 a4 a5 hx hy fun h' c1 c2 c3 c4 c5 _ kp=>hQ h' ⟨.inr ⟨_,_,_,c1,c5,rfl⟩,kp _ _ D.TIz D.TITO D.TIi1 D.TIi2 a1,c3,c4,a4.at fun o e=>kp _ o D.l1z D.l1TO D.l1i1 D.l1i2 e,a5.at fun o e=>kp _ o D.l2z D.l2TO D.l2i1 D.l2i2 e⟩ c5 kp
 ·have t1:T≠z:=by rintro rfl;rw[show s.heap.get? T=_ from e] at f;cases f;exact absurd (show Value.type "zip"=Value.type "tuple" from g) (by decide)
  have t2:T≠i1:=by rintro rfl;obtain⟨q,e,c,_⟩:=a2;rw[f] at e;cases e;rw[g] at c;exact absurd c (by decide)
  have t3:T≠i2:=by rintro rfl;obtain⟨q,e,c,_⟩:=a3;rw[f] at e;cases e;rw[g] at c;exact absurd c (by decide)
  exact jZo D e f a1 a2 a3 a4 a5 hx hy fun h' c1 c2 c3 c5 kp=>hQ h' ⟨.inr ⟨T,_,o,c1,kp _ _ t1 t2 t3 f,g⟩,kp _ _ D.TIz D.TIi1 D.TIi2 a1,c2,c3,a4.at fun o e=>kp _ o D.l1z D.l1i1 D.l1i2 e,a5.at fun o e=>kp _ o D.l2z D.l2i1 D.l2i2 e⟩ c5 fun c o n1 _ n2 n3 e=>kp c o n1 n2 n3 e
theorem qYt {Q:Option Value->Shared->Prop} (hh:A.handled=none) (D:ZipApart z TI TO i1 i2 l1 l2) (a:ZSt s.heap z TI TO i1 i2 l1 l2 xs ys i) (hx:xs[i]? =none) (hQ:∀h',(∀c o,c≠z->c≠TO->c≠i1->c≠i2->s.heap.get? c=some o->h'.get? c=some o)->Q none {s with heap:=h'}):wpAny (model prog w) A (pyNext (.ref z)) Q E s:=by
 obtain⟨q,a1,a2,a3,a4,a5⟩:=a
 rcases q with ⟨e,a,b,f⟩ | ⟨T,bb,o,e,f,g⟩
 ·exact wpAny_pyNext_zip_end hh D e a1 f a2 a3 a4 a5 (.inl hx) fun h' kp=>hQ h' kp
 ·exact kJt hh D e f a1 a2 a4 hx fun h' kp=>hQ h' fun c o n1 _ n2 _ e=>kp c o n1 n2 e
end
theorem Vals.get' {xs:List V} {us:List Value} (h:Vals xs us) {i:Nat} {u:Value} (e:us[i]? =some u):∃x,xs[i]? =some x/\RelV x u:=by
 have hi:i<xs.length:=by have:=h.length;have:=(lJe.mp e).1;omega
 obtain⟨u',e',r⟩:=L2.Vals.get h (lJi hi)
 rw[e] at e';cases e'
 exact⟨_,lJi hi,r⟩
def uJn (H:Hp) (vs ws:List V) (acc:Array Value) (i:Nat):Prop:=acc.size=i/\∀j v u,j<i->vs[j]? =some v->ws[j]? =some u->∃p,acc[j]? =some (.ref p)/\H p=some (.tup [v,u])
theorem qYu {X:Cx} {pins:List (Addr×Obj)} {σ:L2.St} {G:Gp} {A:Around} {R:Result->Shared->Prop} {z TI TO i1 i2 l1 l2 S:Addr} {xs ys:List Value} {vs ws:List V} {res:Value} (hh:A.handled=none) (D:ZipApart z TI TO i1 i2 l1 l2) (sl1:S≠l1) (sl2:S≠l2)
  (sz:S≠z) (sTO:S≠TO) (s1:S≠i1) (s2:S≠i2) (rx:Vals vs xs) (ry:Vals ws ys) (hl:xs.length=ys.length) (hs:xs.length<=sizeLine) {b0:Nat} (hb0:∀b∈[z,TO,i1,i2,S],b<b0):
  ∀(k i:Nat) (s:Shared) (H:Hp) (acc:Array Value) (c:Nat),xs.length-i=k->i<=xs.length->b0<=s.heap.objs.size->L2.Inv X pins σ H s->GRel X.K H G->(∀b∈[z,TO,i1,i2,S],FpOk X pins H b)->ZSt s.heap z TI TO i1 i2 l1 l2 xs.toArray ys.toArray i->
   s.heap.get? S=some {cls:= .type "list",dict:=none,data:= .seq acc c,slots:= #[]}->uJn H vs ws acc i->
   (∀s' H' acc' c',Ext H H'->L2.Inv X pins σ H' s'->GRel X.K H' G->s'.heap.get? S=some {cls:= .type "list",dict:=none,data:= .seq acc' c',slots:= #[]}->uJn H' vs ws acc' xs.length->R (.ok (.ret res)) s')->
   codeAny (model X.prog X.w) A (.builtin "list.extend.loop" ⟨[.ref S,.ref z,res],[]⟩) R s:=by
 intro k
 induction k with
 | zero=>
  intro i s H acc c hk hi hb I hg hf a hS ha hR
  (have hin:i=xs.length:=by omega)
  subst hin
  (refine lQo PySem.F.entry_extend_loop ?_)
  (rw[lQw lXi _])
  refine (show wpAny _ A.in1 (pyNext (.ref z) >>= _) _ _ s from ?_)
  refine lJa (qYt (A:=A.in1) (by simpa using hh) D a (by simp) fun h' kp=>lJd ?_)
  have I':L2.Inv X pins σ H {s with heap:=h',toks:=s.toks}:=kJa (fp:=[z,TO,i1,i2,S]) I (fun b o hb e=>by
   simp only[lJj,lJv,lKc,not_or] at hb
   exact kp b o hb.1 hb.2.1 hb.2.2.1 hb.2.2.2.1 e) hf
  exact hR _ H acc c (.refl H) I' hg (kp _ _ sz sTO s1 s2 hS) ha
 | succ k ih=>
  intro i s H acc c hk hi hb I hg hf a hS ha hR
  (have hlt:i<xs.length:=by omega)
  obtain⟨v,hv,rv⟩:=Vals.get' rx (lJi hlt)
  obtain⟨u,hu,ru⟩:=Vals.get' ry (lJi (show i<ys.length by omega))
  (refine lQo PySem.F.entry_extend_loop ?_)
  (rw[lQw lXi _])
  refine (show wpAny _ A.in1 (pyNext (.ref z) >>= _) _ _ s from ?_)
  refine lJa (qU5 (A:=A.in1) D a (by simp[hlt];rfl) (by simp[show i<ys.length by omega];rfl) fun h' a' hp kp=> ?_)
  have fr:H s.heap.objs.size=none:=I.hok.fresh (lJf _)
  have I1:=jZ9 (t':=s.toks) (h':=h') (p:=s.heap.objs.size) (vs:=[v,u]) (us:=[xs[i],ys[i]'(by omega)]) (fp:=[z,TO,i1,i2,S]) I (fun b o hb e=>by
   simp only[lJj,lJv,lKc,not_or] at hb
   exact kp b o hb.1 hb.2.1 hb.2.2.1 hb.2.2.2.1 e) hf (lJf _) ⟨_,hp,rfl,_,rfl,rfl⟩ (.cons rv (.cons ru .nil)) (by show 2<=sizeLine;decide)
  have ext:Ext H (upd H s.heap.objs.size (.tup [v,u])):= .upd (.none fr)
  have hS':=kp _ _ sz sTO s1 s2 hS
  have hpS:s.heap.objs.size≠S:=lQr (lJh hS)
  have hlt':∀b∈[z,TO,i1,i2,S],b≠s.heap.objs.size:=fun b hb'=>lJn (lJ3 (hb0 b hb') hb)
  have hf':∀b∈[z,TO,i1,i2,S],FpOk X pins (upd H s.heap.objs.size (.tup [v,u])) b:=fun b hb=>by
   obtain⟨q,r⟩:=hf b hb
   exact⟨by rw[jJx (hlt' b hb)];exact q,r⟩
  refine (show wpAny _ A.in1 (updateSeq S (·.push (.ref s.heap.objs.size)) >>= _) _ _ _ from ?_)
  refine lJa ?_
  have kp2:∀b o,b≠S->h'.get? b=some o->(h'.update S (Obj.mapSeq (·.push (Value.ref s.heap.objs.size)))).get? b=some o:=fun b o hb e=>(lVx _ _ (Ne.symm hb)).trans e
  refine wpAny_updateSeq (s:={s with heap:=h'}) hS' rfl (lJd ⟨lVa lXi _,ih (i+1) _ _ (acc.push (.ref s.heap.objs.size)) _ (by omega) hlt (Nat.le_of_lt (Nat.lt_of_le_of_lt hb (lJh (kp2 _ _ hpS hp))))
   (kJa (t':=s.toks) (fp:=[z,TO,i1,i2,S]) I1 (fun b o hb e=>kp2 b o (fun q=>hb (by simp[q])) e) hf') (hg.tupNew fr) hf' (a'.moved D hS' sl1 sl2 kp2) (lQs _ hS' rfl) ?_ fun s'' H'' acc' c' ex I'' g'' hS'' ha'=> ?_⟩) (by rw[ha.1];omega) (by show (acc.push _).size<=sizeLine+1;rw[Array.size_push,ha.1];omega)
  ·refine⟨by rw[Array.size_push,ha.1],fun j v' u' hj h1 h2=> ?_⟩
   rw[Array.getElem?_push]
   by_cases e:j=i
   ·subst e
    rw[hv] at h1;rw[hu] at h2;cases h1;cases h2
    rw[lJc ha.1.symm]
    exact⟨_,rfl,jJ3⟩
   ·rw[lJb (by rw[ha.1];exact e)]
    obtain⟨p,q1,q2⟩:=ha.2 j v' u' (by omega) h1 h2
    exact⟨p,q1,ext.tup _ _ q2⟩
  ·exact hR s'' H'' acc' c' (ext.trans ex) I'' g'' hS'' ha'
theorem qU7 {h:Heap} {a:Addr} {f g:Obj->Obj}:∀b o,b≠a->h.get? b=some o->((h.update a f).update a g).get? b=some o:=fun b o n q=>by
 rw[lVx _ _ n.symm,lVx _ _ n.symm];exact q
theorem qU9 {prog:Program} {w:World} {A:Around} {E:Value->Shared->Prop} {s:Shared} {S:Addr} {c:Nat} {Q:Unit->Shared->Prop} (hS:s.heap.get? S=some {cls:= .type "list",dict:=none,data:= .seq #[] c,slots:= #[]})
  (k:∀h' c',h'.get? S=some {cls:= .type "list",dict:=none,data:= .seq #[] c',slots:= #[]}->(∀b o,b≠S->s.heap.get? b=some o->h'.get? b=some o)->Q () {s with heap:=h'}):wpAny (model prog w) A (Builtin.List.listTouch (.ref S)) Q E s:=
 lJa (wpAny_updateSeq hS rfl (wpAny_updateSeq (lQs _ hS rfl) rfl (k _ _ (lQs _ (lQs _ hS rfl) rfl) qU7)))
theorem kYj {X:Cx} {pins:List (Addr×Obj)} {σ:L2.St} {G:Gp} {H:Hp} {s:Shared} {A:Around} {E:Value->Shared->Prop} {z TI TO i1 i2 l1 l2:Addr} {xs ys:List Value} {vs ws:List V} {Q:List Value->Shared->Prop} (hh:A.handled=none) (D:ZipApart z TI TO i1 i2 l1 l2)
  (rx:Vals vs xs) (ry:Vals ws ys) (hl:xs.length=ys.length) (hs:xs.length<=sizeLine) (hlt:∀b∈[z,TO,i1,i2,l1,l2],b<s.heap.objs.size) (I:L2.Inv X pins σ H s) (hg:GRel X.K H G) (hf:∀b∈[z,TO,i1,i2],FpOk X pins H b) (a:ZSt s.heap z TI TO i1 i2 l1 l2 xs.toArray ys.toArray 0) (hz:IsZip s.heap z TI TO .none)
  (hQ:∀s' H' acc,Ext H H'->L2.Inv X pins σ H' s'->GRel X.K H' G->uJn H' vs ws acc xs.length->Q acc.toList s'):wpAny (model X.prog X.w) A (collect (.ref z)) Q E s:=by
 have nS:∀b∈[z,TO,i1,i2,l1,l2],s.heap.objs.size≠b:=fun b hb=>lQr (hlt b hb)
 unfold collect
 refine lJa (wpAny_runValue (lQo PySem.F.entry_proto_collect ?_))
 (rw[lQw PySem.F.plain_proto_collect _])
 refine (show wpAny _ A.in1 (newList [] >>= fun l=>again (.builtin "list.__iadd__" ⟨[l,.ref z],[]⟩)) _ _ s from lJa (lK7 (lJd ⟨lVa PySem.F.plain_list_iadd _,lQo PySem.F.entry_list_iadd ?_⟩)))
 (rw[lQw PySem.F.plain_list_iadd _])
 have hS:(s.heap.push {cls:= .type "list",data:= .seq ([]:List Value).toArray}).get? s.heap.objs.size=some {cls:= .type "list",data:= .seq ([]:List Value).toArray}:=lJz _ rfl
 have up:∀b o,s.heap.get? b=some o->(s.heap.push {cls:= .type "list",data:= .seq ([]:List Value).toArray}).get? b=some o:=fun b o e=>lJl _ e
 have a1:ZSt (s.heap.push {cls:= .type "list",data:= .seq ([]:List Value).toArray}) z TI TO i1 i2 l1 l2 xs.toArray ys.toArray 0:=by
  obtain⟨q,a1,a2,a3,a4,a5⟩:=a
  refine⟨?_,up _ _ a1,a2.at fun o e=>up _ o e,a3.at fun o e=>up _ o e,a4.at fun o e=>up _ o e,a5.at fun o e=>up _ o e⟩
  rcases q with ⟨e,a,b,f⟩ | ⟨T,bb,o,e,f,g⟩
  ·exact .inl ⟨up _ _ e,a,b,up _ _ f⟩
  ·exact .inr ⟨T,bb,o,up _ _ e,up _ _ f,g⟩
 have I1:L2.Inv X pins σ H {s with heap:=s.heap.push {cls:= .type "list",data:= .seq ([]:List Value).toArray} }:=I.kept (t':=s.toks) up
 have tz:Shared.TypeIs {s with heap:=s.heap.push {cls:= .type "list",data:= .seq ([]:List Value).toArray} } (.ref z) "zip":=ZSt.ty (s:={s with heap:=s.heap.push {cls:= .type "list",data:= .seq ([]:List Value).toArray} }) a1
 refine (show wpAny _ A.in1 (Builtin.List.listExtendWith (.ref s.heap.objs.size) (.ref z) (.ref s.heap.objs.size)) _ _ _ from ?_)
 (unfold Builtin.List.listExtendWith)
 refine lJa (lQ0 tz ?_)
 have h1:Builtin.List.listSameRef (.ref s.heap.objs.size) (.ref z)=false:=by simp[Builtin.List.listSameRef,nS z (by simp)]
 have h2:(Value.type "zip" == Value.type "list")=false:=by decide
 have h3:(Value.type "zip" == Value.type "tuple")=false:=by decide
 (simp only[h1,h2,h3,Bool.or_false,lKj,lJt])
 refine lJa (wpAny_pyIter_zip (s:={s with heap:=s.heap.push {cls:= .type "list",data:= .seq ([]:List Value).toArray} }) (up _ _ hz) ?_)
 (refine lJa (lK3 ?_))
 (unfold Builtin.List.listLengthHint)
 refine lJa (lQm tz qJ6 ?_)
 refine (show wpAny _ A.in1 (specialOf (Value.ref z) (Str.ofString "__length_hint__") >>= _) _ _ _ from ?_)
 refine lJa (lQm tz kZ5 ?_)
 refine lJd ?_
 refine (show wpAny _ A.in1 (rule "list.extend.makes-room" >>= fun _=>Builtin.List.listTouch (.ref s.heap.objs.size) >>= fun _=>
  again (.builtin "list.extend.loop" ⟨[.ref s.heap.objs.size,.ref z,.ref s.heap.objs.size],[]⟩)) _ _ _ from ?_)
 refine lJa (lQ8 ?_)
 refine lJa (qU9 hS fun h9 c9 hS₃ oth=> ?_)
 have hf':∀b∈[z,TO,i1,i2,s.heap.objs.size],FpOk X pins H b:=fun b hb=>by
  by_cases e:b=s.heap.objs.size
  ·subst e;exact I.fpOk (lJf _) (I.hok.fresh (lJf _))
  ·simp only[lJj,lJv,lKc] at hb
   rcases hb with h | h | h | h | h
   ·exact hf b (by simp[h])
   ·exact hf b (by simp[h])
   ·exact hf b (by simp[h])
   ·exact hf b (by simp[h])
   ·exact absurd h e
 have I9:=kJa (h':=h9) (t':=s.toks) (fp:=[z,TO,i1,i2,s.heap.objs.size]) I1 (fun b o hb e=>oth b o (fun q=>hb (by simp[q])) e) hf'
 refine lJd ⟨lVa lXi _,qYu (X:=X) (pins:=pins) (σ:=σ) (G:=G) (A:=A) (S:=s.heap.objs.size) (b0:=s.heap.objs.size+1) hh D (nS l1 (by simp)) (nS l2 (by simp)) (nS z (by simp)) (nS TO (by simp)) (nS i1 (by simp)) (nS i2 (by simp)) rx ry hl hs (fun b hb=> ?_) xs.length 0 _ H _ _ rfl (lJ2 _) (lJh hS₃) I9 hg hf'
  (a1.moved D hS (nS l1 (by simp)) (nS l2 (by simp)) oth) hS₃ ⟨rfl,fun j v u hj=>absurd hj (lK5 _)⟩ fun s' H' acc' c' ex I' g' hS' ha=> ?_⟩
 ·simp only[lJj,lJv,lKc] at hb
  rcases hb with h | h | h | h | h
  ·rw[h];exact lXj (hlt z (by simp))
  ·rw[h];exact lXj (hlt TO (by simp))
  ·rw[h];exact lXj (hlt i1 (by simp))
  ·rw[h];exact lXj (hlt i2 (by simp))
  ·rw[h];exact Nat.lt_succ_self _
 ·refine (show wpAny _ A (load s.heap.objs.size >>= _) _ _ s' from ?_)
  exact lJa (wpAny_load hS' (lJd (hQ s' H' acc' ex I' g' ha)))
theorem kZ2 {H:Hp}:∀ {vs ws:List V} {acc:List Value},vs.length=ws.length->acc.length=vs.length->(∀(j:Nat) (v u:V),vs[j]? =some v->ws[j]? =some u->∃p,acc[j]? =some (.ref p)/\H p=some (.tup [v,u]))->
  ∃ps:List Addr,acc=ps.map Value.ref/\Paired (fun (q:V×V) p=>H p=some (.tup [q.1,q.2])) (vs.zip ws) ps
 | [],[],[],_,_,_=>⟨[],rfl,.nil⟩
 | v::vs,u::ws,a::acc,h1,h2,h=>by
  obtain⟨p,e,q⟩:=h 0 v u rfl rfl
  cases e
  obtain⟨ps,e1,e2⟩:=kZ2 (H:=H) (vs:=vs) (ws:=ws) (acc:=acc) (by simpa using h1) (by simpa using h2) fun j v u a b=>by simpa using h (j+1) v u a b
  exact⟨p::ps,by rw[e1];rfl,.cons q e2⟩
theorem kY2 {K:PySem.W.Frag} {H:Hp}:∀ {xs ys:List T} {vs ws:List V} {ps:List Addr},Reps K H xs vs->Reps K H ys ws->vs.length=ws.length->Paired (fun (q:V×V) p=>H p=some (.tup [q.1,q.2])) (vs.zip ws) ps->Reps K H (zipT xs ys) (ps.map V.ref)
 | [],_,_,_,ps,r1,r2,hl,h=>by
  cases (show _=[] from r1)
  cases h;rfl
 | x::xs,[],_,_,ps,⟨v,vs',e,_,_⟩,r2,hl,h=>by subst e;cases (show _=[] from r2);simp at hl
 | x::xs,y::ys,_,_,ps,⟨v,vs',e,r,rs⟩,⟨u,ws',e',r',rs'⟩,hl,h=>by
  subst e;subst e'
  cases h with
  | cons q t=>exact⟨.ref _,_,rfl,⟨_,_,rfl,q,v,_,rfl,r,u,_,rfl,r',rfl⟩,kY2 rs rs' (by simpa using hl) t⟩
theorem qKa:∀(ps:List Addr),Vals (ps.map V.ref) (ps.map Value.ref)
 | []=> .nil
 | p::ps=> .cons rfl (qKa ps)
section
variable {X:Cx}
def qYx (ta:TA3):TE3:=fun τ G Q=>ta τ G fun vs G1=>∃(x y:T) (xs ys:List T),vs=[x,y]/\jUz G1 x=some xs/\jUz G1 y=some ys/\xs.length=ys.length/\Q (.tup (zipT xs ys)) G1
theorem e_tzip {pos pos' p p':Pos} {a b:Expr} {ta:TA3} (hc:X.calm=true) (hl:Gl X "tuple") (hlm:X.mg "tuple"=none) (hg:Gl X "zip") (hm:X.mg "zip"=none) (hv:bootBuiltins "zip"=some (.type "zip")) (ha:PA3 X [a,b] ta) (hs:starEach [a,b] X.env=[(false,eval a X.env),(false,eval b X.env)]:=by rfl) (hs2:starEach [b] X.env=[(false,eval b X.env)]:=by rfl)
  (hs':starEach [Expr.Call (.Name "zip" p) [a,b] [] pos] X.env=[(false,eval (.Call (.Name "zip" p) [a,b] [] pos) X.env)]:=by rfl):
  PE3 X (.Call (.Name "tuple" p') [.Call (.Name "zip" p) [a,b] [] pos] [] pos') (qYx ta):=by
 intro pins s τ G H Q I h
 obtain⟨σ0,I0,_,_⟩:=id I
 refine Call_ (jQ7 I0 hl hlm rfl (lK4 ?_ hs' rfl))
 rw[hs']
 refine Calls.spliced_cons (Call_ (jQ7 I0 hg hm hv (lK4 (thn (ha pos pins s τ G H _ I h) fun us s1 w_=>w_.el fun xs' G1 H1 e1 i_ r_ q1=>i_.el fun σ I1 hs1 hg1=>r_.el fun as ras rvs=> ?_) (by rw[hs,hs2]) (by rw[hs2];rfl))))
 obtain⟨x,y,xs,ys,e,hx,hy,hle,q⟩:=q1
 subst e
 obtain⟨v,w,rfl,rv,rw'⟩:=kKj ras
 obtain⟨u,u',rfl,ru,ru'⟩:=rvs.two
 obtain⟨pa,vs,rfl,hq1,r1⟩:=jUr hg1 rv hx
 obtain⟨pb,ws,rfl,hq2,r2⟩:=jUr hg1 rw' hy
 cases ru;cases ru'
 obtain⟨its1,rv1,p1,hz1⟩:=I1.list hq1
 obtain⟨its2,rv2,p2,hz2⟩:=I1.list hq2
 have l1:=r1.length
 have l2:=r2.length
 have l3:=rv1.length
 have l4:=rv2.length
 have hal:pa<s1.heap.objs.size:=by obtain⟨o,ho,_⟩:=p1.isList;exact lJh ho
 have hbl:pb<s1.heap.objs.size:=by obtain⟨o,ho,_⟩:=p2.isList;exact lJh ho
 refine call_zip_2 p1.isList p2.isList fun g hz hTI hTO hi1 hi2 hsz hk=> ?_
 have D:ZipApart (s1.heap.objs.size+4) (s1.heap.objs.size+2) (s1.heap.objs.size+3) s1.heap.objs.size (s1.heap.objs.size+1) pa pb:=zapart hal hbl
 have I2:L2.Inv X pins σ H1 {s1 with heap:=g}:=I1.kept (t':=s1.toks) hk
 refine Calls.spliced_nil ?_
 have hZ:ZSt g (s1.heap.objs.size+4) (s1.heap.objs.size+2) (s1.heap.objs.size+3) s1.heap.objs.size (s1.heap.objs.size+1) pa pb its1.toArray its2.toArray 0:=⟨.inl ⟨hz,_,_,hTO⟩,hTI,hi1,hi2,p1.isList.at fun o e=>hk _ o e,p2.isList.at fun o e=>hk _ o e⟩
 have hTz:Shared.TypeIs {s1 with heap:=g} (.ref (s1.heap.objs.size+4)) "zip":=⟨_,hz,rfl⟩
 refine callType_codes (Q₁:=fun obj z=>z.TypeIs obj "tuple"/\EP3 X pins τ H Q obj z) lVl (F.typeCall_tuple_1 _) F.entry_object_init (codeAny_of_tree ?_) fun obj z hz=>⟨hz.1,F.args_object_init_2 obj _,object_init_meets lVl.init.lookup lVl.made (by decide) X.prog X.w X.A.in1 _ z ⟨hz.1,rfl,hz.2⟩⟩
 refine (show wpAny _ X.A.in1.in1 (do checkBuiltinCall "tuple.__new__" ⟨[.type "tuple",.ref (s1.heap.objs.size+4)],[]⟩;again (.builtin "tuple.__new__" ⟨[.type "tuple",.ref (s1.heap.objs.size+4)],[]⟩)) _ _ _ from lJa (wpAny_of_eq (F.newCall_tuple_1 _) (lJd ⟨lVa lXg _,lQo F.entry_tuple_new ?_⟩)))
 rw[lQw lXg _];have h1:=sub_tuple_self
 have h2:=init_tuple_lookup
 have h3:=madeHere_tuple
 have hlt:∀b∈[s1.heap.objs.size+4,s1.heap.objs.size+3,s1.heap.objs.size,s1.heap.objs.size+1,pa,pb],b<({s1 with heap:=g}:Shared).heap.objs.size:=fun b hb=>by
  (simp only[lJj,lJv,lKc] at hb)
  show b<g.objs.size
  rw[hsz]
  rcases hb with h | h | h | h | h | h
  ·rw[h];omega
  ·rw[h];omega
  ·rw[h];omega
  ·rw[h];omega
  ·rw[h];exact Nat.lt_add_right 5 hal
  ·rw[h];exact Nat.lt_add_right 5 hbl
 have hff:∀b∈[s1.heap.objs.size+4,s1.heap.objs.size+3,s1.heap.objs.size,s1.heap.objs.size+1],FpOk X pins H1 b:=fun b hb=>by
  (simp only[lJj,lJv,lKc] at hb)
  have hle:s1.heap.objs.size<=b:=by omega
  exact I1.fpOk hle (I1.hok.fresh hle)
 wp_walk using wpAny_typeOf hTz,kYj (A:=X.A.in1.in1) (I1.ok.hd hc) D rv1 rv2 (by omega) (by omega) hlt I2 hg1 hff hZ hz
 intro s' H' acc ex I' g' ha
 refine (show wpAny _ _ (Builtin.Tuple.tupleExact acc.toList.toArray >>= fun x=>ret x) _ _ _ from ?_)
 unfold Builtin.Tuple.tupleExact;refine lJa (lK7 (lJd ?_) (by show acc.toList.toArray.size<=sizeLine;simp only[Array.toArray_toList];rw[ha.1];omega))
 obtain⟨ps,ea,pr⟩:=kZ2 (H:=H') (vs:=vs) (ws:=ws) (acc:=acc.toList) (by omega) (by rw[lVd,ha.1];omega) fun j v u a b=>by
  obtain⟨p,q1,q2⟩:=ha.2 j v u (by have:=(lJe.mp a).1;omega) a b
  exact⟨p,by rw[Array.getElem?_toList];exact q1,q2⟩
 have pl:ps.length=vs.length:=by have:=lJx List.length ea;rw[lVd,ha.1,lJg] at this;omega
 have fr:H' s'.heap.objs.size=none:=I'.hok.fresh (lJf _)
 have ext:Ext H' (upd H' s'.heap.objs.size (.tup (ps.map V.ref))):= .upd (.none fr)
 have I3:=I'.laid (a:=s'.heap.objs.size) (o:= .tup (ps.map V.ref)) (h':=s'.heap.push {cls:= .type "tuple",data:= .seq acc.toList.toArray}) (t':=s'.toks) (fun b o e=>lJl _ e) (lJf _) ⟨by rw[lJg];omega,ps.map Value.ref,qKa ps,by rw[ea];exact TupD.new _ _⟩
 refine⟨⟨_,lJz _ rfl,rfl⟩,.tup (zipT xs ys),G1,_,(e1.trans ex).trans ext,⟨σ,I3,(hs1.mono ex).mono ext,g'.tupNew fr⟩,⟨.ref s'.heap.objs.size,Rep.tupNew (kY2 (Reps.mono ex _ r1) (Reps.mono ex _ r2) (by omega) pr) fr,rfl⟩,q⟩
end
end L3
namespace L3
open PySem PySem.Spec PyProof.Rows L2
section
variable {X:Cx}
noncomputable def qKi (ta1 tb1 ta2 tb2 ta3 tb3 ta4 tb4:TE3):TE3:=fun τ G Q=>∀p,G p=none->ta1 τ (gup G p (.dck [])) fun x1 G1=>tb1 τ G1 fun y1 G2=>ta2 τ G2 fun x2 G3=>tb2 τ G3 fun y2 G4=>ta3 τ G4 fun x3 G5=>tb3 τ G5 fun y3 G6=>ta4 τ G6 fun x4 G7=>tb4 τ G7 fun y4 G8=> 
 ∃k1 k2 k3 k4,jU1 x1=some k1/\jU1 x2=some k2/\jU1 x3=some k3/\jU1 x4=some k4/\G8 p=some (.dck [])/\Q (.ref p) (gup G8 p (.dck (putT (putT (putT (putT [] k1 y1) k2 y2) k3 y3) k4 y4)))
theorem qZ4 {pos:Pos} {p1 r1 p2 r2 p3 r3 p4 r4:Expr} {ta1 tb1 ta2 tb2 ta3 tb3 ta4 tb4:TE3} (ha1:PE3 X p1 ta1) (hb1:PE3 X r1 tb1) (ha2:PE3 X p2 ta2) (hb2:PE3 X r2 tb2) (ha3:PE3 X p3 ta3) (hb3:PE3 X r3 tb3) (ha4:PE3 X p4 ta4) (hb4:PE3 X r4 tb4):PE3 X (.Dict [some p1,some p2,some p3,some p4] [r1,r2,r3,r4] pos) (qKi ta1 tb1 ta2 tb2 ta3 tb3 ta4 tb4):=by
 rintro pins s τ G H Q ⟨σ,I,hs,hg⟩ h
 have hn:=I.hok.fresh (lJf s.heap.objs.size)
 have I1:=I.laid (a:=s.heap.objs.size) (o:= .dK []) (h':=s.heap.push {cls:= .type "dict",data:= .dict #[]}) (t':=s.toks) (fun _ _ q=>lJl _ q) (lJf _) (kUl s.heap I.big)
 have I3:Inv3 X pins τ (gup G s.heap.objs.size (.dck [])) (upd H s.heap.objs.size (.dK [])) {s with heap:=s.heap.push {cls:= .type "dict",data:= .dict #[]},toks:=s.toks}:=
  ⟨σ,I1,hs.mono (.upd (.none hn)),hg.upd (.none hn) (go:= .dck []) ⟨[],jJ3,.nil⟩⟩
 refine wpAny_Dict_walk (knd:=jKq X.prog X.w) rfl rfl (by simp) (by simp) (lXa (thn (ha1 pins _ τ _ _ _ I3 (h _ (hg.fresh hn))) fun u1 s1 w_=>w_.el fun x1 G1 H1 e1 J1 ru1 q1=>thn (hb1 pins s1 τ G1 H1 _ J1 q1) fun v1 s2 w_=>w_.el fun y1 G2 H2 e2 J2 rv1 q2=>lXa (thn (ha2 pins s2 τ G2 H2 _ J2 q2) fun u2 s3 w_=>w_.el fun x2 G3 H3 e3 J3 ru2 q3=>thn (hb2 pins s3 τ G3 H3 _ J3 q3) fun v2 s4 w_=>w_.el fun y2 G4 H4 e4 J4 rv2 q4=>lXa (thn (ha3 pins s4 τ G4 H4 _ J4 q4) fun u3 s5 w_=>w_.el fun x3 G5 H5 e5 J5 ru3 q5=>thn (hb3 pins s5 τ G5 H5 _ J5 q5) fun v3 s6 w_=>w_.el fun y3 G6 H6 e6 J6 rv3 q6=>lXa (thn (ha4 pins s6 τ G6 H6 _ J6 q6) fun u4 s7 w_=>w_.el fun x4 G7 H7 e7 J7 ru4 q7=>thn (hb4 pins s7 τ G7 H7 _ J7 q7) fun v4 s8 w_=>w_.el fun y4 G8 H8 e8 i_ rv4 q8=>i_.el fun σ6 J8 hs6 hg6=>pairTrees_nil_walk ?_)))))
 obtain⟨k1,k2,k3,k4,hk1,hk2,hk3,hk4,hd6,q⟩:=q8
 obtain⟨ws,hH6,pk⟩:=(show ∃ws,H8 s.heap.objs.size=some (.dK ws)/\PKV X.K H8 [] ws from hg6 _ _ hd6)
 cases pk
 obtain⟨a1,ra1,rw1⟩:=ru1.mono ((((((e2.trans e3).trans e4).trans e5).trans e6).trans e7).trans e8)
 obtain⟨c1,rc1,rx1⟩:=rv1.mono (((((e3.trans e4).trans e5).trans e6).trans e7).trans e8)
 obtain⟨a2,ra2,rw2⟩:=ru2.mono ((((e4.trans e5).trans e6).trans e7).trans e8)
 obtain⟨c2,rc2,rx2⟩:=rv2.mono (((e5.trans e6).trans e7).trans e8)
 obtain⟨a3,ra3,rw3⟩:=ru3.mono ((e6.trans e7).trans e8)
 obtain⟨c3,rc3,rx3⟩:=rv3.mono (e7.trans e8)
 obtain⟨a4,ra4,rw4⟩:=ru4.mono e8
 obtain⟨c4,rc4,rx4⟩:=rv4
 obtain rfl:=jQn hk1 ra1
 obtain rfl:=jQn hk2 ra2
 obtain rfl:=jQn hk3 ra3
 obtain rfl:=jQn hk4 ra4
 obtain⟨rs,cr,rk⟩:=jZe (P:=X.prog) (w:=X.w) (kvs:=[(k1,c1),(k2,c2),(k3,c3),(k4,c4)]) (ws:=[(u1,v1),(u2,v2),(u3,v3),(u4,v4)]) (.cons ⟨rw1,rx1⟩ (.cons ⟨rw2,rx2⟩ (.cons ⟨rw3,rx3⟩ (.cons ⟨rw4,rx4⟩ .nil))))
 obtain⟨z,hdd,vs0,r0,dd⟩:=qUq J8.hok hH6
 cases r0
 refine⟨rs,cr,dd,fun h' dd' hsb=> ?_⟩
 have hq:∃q,h'.get? s.heap.objs.size=some q:=let ⟨q,_,_,hq,_⟩:=dd';⟨q,hq⟩
 have ln:=jYu [(k1,c1),(k2,c2),(k3,c3),(k4,c4)] []
 have JJ:=kJ9 (t':=s8.toks+[(u1,v1),(u2,v2),(u3,v3),(u4,v4)].length) J8 (by rw[hH6];exact True.intro) hsb hq (qUr (kvs:=kK7 [] [(k1,c1),(k2,c2),(k3,c3),(k4,c4)]) (by rw[lQn];simp at ln;omega) hdd (rk.merge .nil) dd')
 have ext:Ext H8 (upd H8 s.heap.objs.size (.dK (kK7 [] [(k1,c1),(k2,c2),(k3,c3),(k4,c4)]))):= .upd (.dK hH6)
 have pk:PKV X.K H8 (putT (putT (putT (putT [] k1 y1) k2 y2) k3 y3) k4 y4) (kK7 [] [(k1,c1),(k2,c2),(k3,c3),(k4,c4)]):=PKV.put (PKV.put (PKV.put (PKV.put (kvs:=[]) .nil k1 rc1) k2 rc2) k3 rc3) k4 rc4
 exact⟨.ref s.heap.objs.size,_,_,((((((((Ext.upd (.none hn)).trans e1).trans e2).trans e3).trans e4).trans e5).trans e6).trans e7).trans (e8.trans ext),⟨σ6,JJ,hs6.mono ext,hg6.upd (.dK hH6) (go:= .dck (putT (putT (putT (putT [] k1 y1) k2 y2) k3 y3) k4 y4)) ⟨_,jJ3,pk.mono ext⟩⟩,⟨.ref _,rfl,rfl⟩,q⟩
end
section
variable {X:Cx}
noncomputable def kXx:T->List T->Gp->VK3->Prop:=fun x as G Q=>∃p q xs ys,x= .ref p/\as=[.ref q]/\G p=some (.lst xs)/\G q=some (.lst ys)/\xs.length+ys.length<=sizeLine/\Q .non (gup G p (.lst (xs++ys)))
theorem kZe:Mt3 X "list.extend" kXx:=by
 rintro pins s τ G H x as v us Q ⟨σ,I,hs,hg⟩ ⟨a,ra,rv⟩ ⟨bs,rbs,rus⟩ ⟨p,q,xs,ys,ex,ea,hp,hq,hz,k⟩
 subst ex;subst ea
 cases (show a= .ref p from ra);cases rv
 obtain⟨b1,rfl,r1⟩:=jVf rbs
 cases (show b1= .ref q from r1)
 obtain⟨u1,rfl,ru1⟩:=rus.one
 cases ru1
 obtain⟨vs,h1,h2⟩:=hg.lst hp
 obtain⟨ws,h3,h4⟩:=hg.lst hq
 obtain⟨z,its,n,r,hl,e⟩:=I.lstM h1
 obtain⟨z',its',n',r',hl',e'⟩:=I.lstM h3
 have hlen:=h2.length
 have hlen':=h4.length
 have q1:=r.length
 have q2:=r'.length
 have hc:¬(!its.toArray.isEmpty&&Builtin.List.listTooLong (its.toArray.size+its'.toArray.size))=true:=by
  have:Builtin.List.listTooLong (its.toArray.size+its'.toArray.size)=false:=by
   unfold Builtin.List.listTooLong
   (rw[lJp,lJp])
   exact lJo (by omega)
  rw[this,Bool.and_false];exact lJk
 refine lQ6 F.slot_list_extend ⟨_,e,rfl⟩ F.entry_list_extend (F.args_list_extend_2 _ _) (AutoSeq1.list_extend_list_list_0 p its.toArray n q its'.toArray n' hc (by rw[lJp];omega) (by rw[lJp,lJp];omega)) ⟨e,e',?_⟩
 have e2:Ext H (upd H p (.lst (vs++ws))):= .upd (.lst h1)
 refine⟨.non,_,_,e2,⟨σ,I.lset (its':=its++its') h1 e ?_ (r.append r') ?_,hs.mono e2,hg.lstNew (xs:=xs++ys) (h2.append h4) (.lst h1)⟩,⟨.non,rfl,rfl⟩,k⟩
 ·simp
 ·rw[lJ7];omega
end
section
variable {X:Cx}
end
section
variable {A:Around} {E:Value->Shared->Prop} {s:Shared} {M:Model}
end
section
variable {X:Cx} {scope:Scope} {cl:List (Str×Addr)} {mask:List Bool}
end
section
variable {X:Cx} {scope:Scope} {cl:List (Str×Addr)} {mask:List Bool} {elt iter tg:Expr} {ifs:List Expr} {pos:Pos} {wi:TI3} {g:TG3} {tif:TT3} {te:TE3}
end
theorem jZk {K β:Type} [DecidableEq K] {k:K} {p:β}:∀ {xs:List (K×β)} {j:Nat},(xs.map (·.1)).Nodup->xs[j]? =some (k,p)->xs.eraseIdx j=xs.filter fun x=>decide (x.1≠k)
 | [],_,_,h=>by simp at h
 | x::xs,0,hn,h=>by
  simp at h;subst h
  rw[lJr,(lKd)] at hn
  rw[List.eraseIdx_cons_zero,lK8,lJb (by simp)]
  refine (List.filter_eq_self.mpr fun y hy=> ?_).symm
  simp only[lV9]
  exact fun e=>hn.1 (e▸lJw.mpr ⟨y,hy,rfl⟩)
 | x::xs,j+1,hn,h=>by
  rw[lJr,(lKd)] at hn
  have h':xs[j]? =some (k,p):=by simpa using h
  have ne:x.1≠k:=fun e=>hn.1 (e▸lJw.mpr ⟨(k,p),lJm h',rfl⟩)
  rw[List.eraseIdx_cons_succ,lK8,lJc (by simpa using ne),jZk hn.2 h']
theorem kVh {α β:Type} (f:α->β):∀(xs:List α) (j:Nat),(xs.map f).eraseIdx j=(xs.eraseIdx j).map f
 | [],_=>rfl
 | _::_,0=>rfl
 | x::xs,j+1=>by rw[lJr,List.eraseIdx_cons_succ,List.eraseIdx_cons_succ,lJr,kVh f xs j]
section
variable {prog:Program} {w:World} {A:Around} {E:Value->Shared->Prop} {s:Shared}
theorem jZh {K:Type} [DecidableEq K] {knd:HeapKind prog w K} {d a:Addr} {xs:List (K×Addr×Value)} {k:K} {Q:Option DictEntry->Shared->Prop} (hu:knd.room A) (hkey:knd.is s.heap k a) (hm:s.heap.DictOfH knd d xs) (hsz:xs.length<=sizeLine)
  (hnone:atKey xs k=none->Q none {s with toks:=s.toks+knd.draws k})
  (hsome:∀p h' (e:DictEntry),atKey xs k=some p->e.val=p.2->h'.DictOfH knd d (xs.filter fun x=>decide (x.1≠k))->Heap.SameBut d s.heap h'->Q (some e) {s with heap:=h',toks:=s.toks+knd.draws k}):
  wpAny (model prog w) A (Builtin.Dict.takeOut d (.ref a)) Q E s:=by
 (obtain⟨o,es,ep,ho,hc,hd,he,his,hn⟩:=hm)
 unfold Builtin.Dict.takeOut
 refine lK3 (lJa (knd.pyHash hu hkey (lJa (wpAny_dictFind_heap (s:={s with toks:=s.toks+knd.draws k}) hu hkey ho hd he his hn (fun hno=> ?_) fun j p hj=> ?_))))
 ·exact lJd (hnone (atKey_none_of_get hno))
 ·refine lJa (lVb (s:={s with toks:=s.toks+knd.draws k}) ho hd ?_)
  rw[entry_at he j,hj]
  have ef:=jZk hn hj
  refine lJa (wpAny_updateDictKeys (hz:=by rw[size_of_entries he];exact hsz) (s:={s with toks:=s.toks+knd.draws k}) ho hd (lJd (hsome p _ _ (atKey_of_get hn hj) rfl ⟨_,_,ep+1,lQs _ ho (Obj.isFreed_of_dict (Obj.data_mapDictKeys hd _)),hc.mapDictKeys _,Obj.data_mapDictKeys hd _,?_,fun x hx=> ?_,?_⟩ (lVj ..))))
  ·rw[<-ef]
   obtain⟨l⟩:=es
   simp only at he
   simp only[he,List.eraseIdxIfInBounds_toArray]
   exact kVh _ xs j
  ·exact knd.keeps (his x (lQq.mp hx).1) ho hd (lVj ..)
  ·exact hn.sublist (List.Sublist.map _ List.filter_sublist)
theorem kY6 {K:Type} [DecidableEq K] {knd:HeapKind prog w K} {d a:Addr} {xs:List (K×Addr×Value)} {k:K} {rest:List Value} {R:PySem.Fin->Shared->Prop} (hu:knd.room A) (hkey:knd.is s.heap k a) (hm:s.heap.DictOfH knd d xs) (hsz:xs.length<=sizeLine) (hd:(d == sysModules)=false)
  (hr:(rest=[]/\atKey xs k≠none)\/∃x,rest=[x])
  (hnone:∀x tk,rest=[x]->atKey xs k=none->R (.done (.ret x)) {s with toks:=tk})
  (hsome:∀p h' tk,atKey xs k=some p->h'.DictOfH knd d (xs.filter fun x=>decide (x.1≠k))->Heap.SameBut d s.heap h'->R (.done (.ret p.2)) {s with heap:=h',toks:=tk}):
  wpAny (model prog w) A (Builtin.«dict.pop» ⟨.ref d:: .ref a::rest,[]⟩) R E s:=by
 obtain⟨o,es,ep,ho,hc,hdd,he,his,hn⟩:=id hm
 have em:es.isEmpty=decide (xs=[]):=by
  have:=size_of_entries he
  cases xs with
  | nil=>simp at this;simp[this]
  | cons x xs=>simp at this;simp[Array.isEmpty,this]
 have none_of:xs=[]->atKey xs k=none:=fun z=>by rw[z];rfl
 unfold Builtin.«dict.pop»
 refine lJa ?_
 (unfold Builtin.Dict.keyAndDefault)
 (refine lJa (lXr hm.typeIs ?_))
 rcases hr with ⟨rfl,hr⟩ | ⟨x,rfl⟩
 ·refine (show wpAny _ _ (pure (d,Value.ref a,none)) _ _ s from lJd ?_)
  have hne:¬ xs=[]:=fun z=>hr (none_of z)
  refine lJa (lVb ho hdd (lJa (lJd ?_)))
  rw[em,lJo hne]
  dsimp only
  rw[lJb (by decide)]
  refine lJa (jZh hu hkey hm hsz (fun z=>absurd z hr) fun p h' e hp hv hm' hs'=> ?_)
  rw[lJb (by simp)]
  exact lJa (wpAny_letGo (lJd (hv▸hsome p h' _ hp hm' hs')))
 ·refine (show wpAny _ _ (pure (d,Value.ref a,some x)) _ _ s from lJd ?_)
  refine lJa (lVb ho hdd (lJa (lJd ?_)))
  rw[em]
  dsimp only
  by_cases hne:xs=[]
  ·rw[lJc (by simpa using hne)]
   refine lJa (lQ8 (lJa (lJd ?_)))
   rw[lJc (by rfl)]
   exact lJa (wpAny_missedRemoval_other hd (lJa (lQ8 (lJd (hnone x s.toks rfl (none_of hne))))))
  ·rw[lJb (by simpa using hne)]
   refine lJa (jZh hu hkey hm hsz (fun z=> ?_) fun p h' e hp hv hm' hs'=> ?_)
   ·rw[lJc (by rfl)]
    exact lJa (wpAny_missedRemoval_other hd (lJa (lQ8 (lJd (hnone x _ rfl z)))))
   ·rw[lJb (by simp)]
    exact lJa (wpAny_letGo (lJd (hv▸hsome p h' _ hp hm' hs')))
end
theorem Paired.filt {α β κ:Type} [DecidableEq κ] {R:α->β->Prop} {f:α->κ} {g:β->κ} (k:κ) (hk:∀a b,R a b->f a=g b) {xs:List α} {ys:List β} (h:Paired R xs ys):Paired R (xs.filter fun x=>decide (f x≠k)) (ys.filter fun y=>decide (g y≠k)):=by
 induction h with
 | nil=>exact .nil
 | @cons a b as bs r t ih=>
  rw[lK8,lK8,hk a b r]
  by_cases e:g b≠k
  ·rw[lJc (by simpa using e),lJc (by simpa using e)];exact .cons r ih
  ·rw[lJb (by simpa using e),lJb (by simpa using e)];exact ih
def jZs {κ:Type} [DecidableEq κ] (kvs:List (κ×T)) (k:κ):List (κ×T):=kvs.filter fun e=>decide (e.1≠k)
section
variable {X:Cx}
noncomputable def kXv:T->List T->Gp->VK3->Prop:=fun x as G Q=>∃p kvs ys ks,x= .ref p/\G p=some (.dct kvs)/\jU8 ys=some ks/\((as=[.tup ys]/\∃v,valT kvs ks=some v/\Q v (gup G p (.dct (jZs kvs ks))))\/
 ∃z,as=[.tup ys,z]/\(∀v,valT kvs ks=some v->Q v (gup G p (.dct (jZs kvs ks))))/\(valT kvs ks=none->Q z G))
theorem kZc (hu:X.A.units+20<cLine):Mt3 X "dict.pop" kXv:=by
 rintro pins s τ G H x as v us Q ⟨σ,I,hs,hg⟩ ⟨a,ra,rv⟩ ⟨bs,rbs,rus⟩ ⟨p,kvs,ys,ks,ex,hG,hk,hor⟩
 subst ex
 cases (show a= .ref p from ra);cases rv
 obtain⟨ws,h1,h2⟩:=(show ∃ws,H p=some (.dT ws)/\PKV X.K H kvs ws from hg p _ hG)
 obtain⟨z0,hd,xs,rel,dd⟩:=dt_of I.hok h1
 have hl:xs.length<=sizeLine:=by rw[<-lQd rel];exact z0
 have ro:=rel.val ks
 obtain⟨g1,g2⟩:=h2.val ks
 have some_:∀pp,atKey xs ks=some pp->∃t wv,valT kvs ks=some t/\Rep X.K H t wv/\RelV wv pp.2:=fun pp hp=>by
  rw[hp] at ro
  cases ev:valV ws ks with
  | none=>rw[ev] at ro;exact (show False from ro).elim
  | some wv=>
   rw[ev] at ro g2
   obtain⟨t,ht⟩:=lKb.mp (g2.trans rfl)
   obtain⟨wv',e',rt⟩:=g1 t ht
   rw[ev] at e';cases e'
   exact⟨t,wv,ht,rt,ro⟩
 have none_:atKey xs ks=none->valT kvs ks=none:=fun hn=>by
  rw[hn] at ro
  cases et:valT kvs ks with
  | none=>rfl
  | some t=>
   obtain⟨wv,e',_⟩:=g1 t et
   rw[e'] at ro;exact (show False from ro).elim
 have fin:∀(pp:Addr×Value) (h':Heap) (tk:Nat) (t:T) (wv:V),valT kvs ks=some t->Rep X.K H t wv->RelV wv pp.2->h'.DictOfH (jKf X.prog X.w) p (xs.filter fun x=>decide (x.1≠ks))->Heap.SameBut p s.heap h'->Q t (gup G p (.dct (jZs kvs ks)))->EP3 X pins τ H Q pp.2 {s with heap:=h',toks:=tk}:=by
  intro pp h' tk t wv ht rt rw' dd' hsb q
  obtain⟨qo,es,ep,hq,k2,k3,k4,_,k5⟩:=dd'
  have hl':(ws.filter fun x=>decide (x.1≠ks)).length<=sizeLine:=lJ9 (lVo _ _) z0
  have rel':KT H (ws.filter fun x=>decide (x.1≠ks)) (xs.filter fun x=>decide (x.1≠ks)):=Paired.filt ks (fun a b r=>r.1) rel
  have h2':PKV X.K H (jZs kvs ks) (ws.filter fun x=>decide (x.1≠ks)):=Paired.filt ks (fun a b r=>r.1) h2
  have I':=kJ9 (t':=tk) I (by rw[h1];exact True.intro) hsb ⟨qo,hq⟩ (ob:= .dT (ws.filter fun x=>decide (x.1≠ks))) ⟨hl',hd,_,rel'.keeps (fun b' ys' ec=>by rw[jJx (ne_of ec h1 (fun z=>nomatch z))];exact ec),qo,es,ep,hq,k2,k3,k4,k5⟩
  have e:Ext H (upd H p (.dT (ws.filter fun x=>decide (x.1≠ks)))):= .upd (.dT h1)
  exact⟨t,_,_,e,⟨σ,I',hs.mono e,hg.upd (.dT h1) (go:= .dct (jZs kvs ks)) ⟨_,jJ3,PKV.mono e h2'⟩⟩,⟨wv,Rep.mono e _ rt,rw'⟩,q⟩
 rcases hor with ⟨ea,v,hv,q⟩ | ⟨zz,ea,q1,q2⟩
 ·subst ea
  obtain⟨b,rfl,rb⟩:=jVf rbs
  obtain⟨u1,rfl,ru1⟩:=rus.one
  obtain⟨q',vs,e,h3,h4⟩:=(show ∃q vs,b= .ref q/\H q=some (.tup vs)/\Reps X.K H ys vs from rb)
  subst e
  cases (show u1=Value.ref q' from ru1)
  have eb:=jU7 hk h3 h4
  have hne:atKey xs ks≠none:=fun z=>by rw[none_ z] at hv;cases hv
  refine lQz lVp dd.typeIs PySem.F.entry_dict_pop (kY6 (knd:=jKf X.prog X.w) (jJy hu) (jYv I.hok eb) dd hl hd (.inl ⟨rfl,hne⟩) (fun x tk e=>by cases e) fun pp h' tk hp dd' hsb=> ?_) (PySem.F.args_dict_pop_2 _ _)
  obtain⟨t,wv,ht,rt,rr⟩:=some_ pp hp
  rw[hv] at ht;cases ht
  exact⟨_,rfl,fin pp h' tk v wv hv rt rr dd' hsb q⟩
 ·subst ea
  obtain⟨b,bz,rfl,rb,rz⟩:=kKj rbs
  obtain⟨u1,uz,rfl,ru1,ruz⟩:=rus.two
  obtain⟨q',vs,e,h3,h4⟩:=(show ∃q vs,b= .ref q/\H q=some (.tup vs)/\Reps X.K H ys vs from rb)
  subst e
  cases (show u1=Value.ref q' from ru1)
  have eb:=jU7 hk h3 h4
  refine lQz lVp dd.typeIs PySem.F.entry_dict_pop (kY6 (knd:=jKf X.prog X.w) (jJy hu) (jYv I.hok eb) dd hl hd (.inr ⟨uz,rfl⟩) (fun x tk e hn=> ?_) fun pp h' tk hp dd' hsb=> ?_) (PySem.F.args_dict_pop_3 _ _ _)
  ·cases e
   exact⟨_,rfl,zz,G,H,.refl H,⟨σ,I.tok _,hs,hg⟩,⟨bz,rz,ruz⟩,q2 (none_ hn)⟩
  ·obtain⟨t,wv,ht,rt,rr⟩:=some_ pp hp
   exact⟨_,rfl,fin pp h' tk t wv ht rt rr dd' hsb (q1 t ht)⟩
end
section
variable {X:Cx}
def qY9:T->List T->Gp->VK3->Prop:=fun x as G Q=>∃p kvs y k z,x= .ref p/\as=[y,z]/\G p=some (.dck kvs)/\jU1 y=some k/\Q ((valT kvs k).getD z) G
theorem m_getK:Mt3 X "dict.get" qY9:=by
 rintro pins s τ G H x as v us Q ⟨σ,I,hs,hg⟩ ⟨a,ra,rv⟩ ⟨bs,rbs,rus⟩ ⟨p,kvs,y,k,zz,ex,ea,hG,hk,q⟩
 subst ex;subst ea
 cases (show a= .ref p from ra);cases rv
 obtain⟨b,bz,rfl,rb,rz⟩:=kKj rbs
 obtain⟨u1,uz,rfl,ru1,ruz⟩:=rus.two
 obtain rfl:=jQn hk rb
 obtain⟨ws,h1,h2⟩:=(show ∃ws,H p=some (.dK ws)/\PKV X.K H kvs ws from hg p _ hG)
 obtain⟨z0,hd,vs,rel,dd⟩:=qUq I.hok h1
 have ro:=rel.val k
 obtain⟨g1,g2⟩:=h2.val k
 refine call_meetsIn lQl dd.typeIs PySem.F.entry_dict_get (PySem.F.args_dict_get_3 _ _ _) (meets_dict_get_default (jKq X.prog X.w) p (kUf ru1) hd uz) ⟨valueAt vs,dd.mapOf,?_⟩
 cases ev:valV ws k with
 | none=>
  rw[ev] at ro g2
  have en:valT kvs k=none:=by
   cases et:valT kvs k with
   | none=>rfl
   | some t=>rw[et] at g2;cases g2
  rw[en] at q
  cases ea:valueAt vs k with
  | some w=>rw[ea] at ro;exact (show False from ro).elim
  | none=>exact⟨zz,G,H,.refl H,⟨σ,I.tok _,hs,hg⟩,⟨bz,rz,ruz⟩,q⟩
 | some wv=>
  rw[ev] at ro g2
  obtain⟨t,ht⟩:=lKb.mp (g2.trans rfl)
  obtain⟨wv',e',rt⟩:=g1 t ht
  rw[ev] at e';cases e'
  rw[ht] at q
  cases ea:valueAt vs k with
  | none=>rw[ea] at ro;exact (show False from ro).elim
  | some w=>
   rw[ea] at ro
   exact⟨t,G,H,.refl H,⟨σ,I.tok _,hs,hg⟩,⟨wv,rt,ro⟩,q⟩
def rInU:R3:=fun x y G Q=>∃xs,y= .tup xs/\eqOk x=true/\kJ5 xs=true/\Q (.bl ((tds xs).any fun z=>PyData.eqv z (td x))) G
theorem o_inU (hu:X.A.units+64<cLine):Op3 X (compareOp .In) rInU:=by
 rintro pins s τ G H x y v u Q ⟨σ,I,hs,hg⟩ ⟨a,ra,rv⟩ ⟨b,rb,ru⟩ ⟨xs,ey,ox,oxs,q⟩
 subst ey
 obtain⟨p,vs,rfl,h1,h2⟩:=(show ∃p vs,b= .ref p/\H p=some (.tup vs)/\Reps X.K H xs vs from rb)
 cases ru
 obtain⟨its,r1,⟨o,ho,hc,n,hd⟩,_⟩:=I.tuple (.of h1)
 simp only[eqOk,kJ5,lKo,lV9] at ox oxs
 obtain⟨as,r3⟩:=jYl I xs oxs.1.1 h2 r1
 obtain⟨bs,r4⟩:=kQy I x ox.1.1 ra rv
 have hd':=ox.2
 exact SeqAt.in_tuple_reads (.tuple ho hc hd (by simpa using r3)) r4 (by simpa[PyData.canLay0] using oxs.1.2) ox.1.2 (by have:=Nat.min_le_right (PyData.depthAll (tds xs)) (td x).depth;omega) ⟨.bl _,G,H,.refl H,⟨σ,I,hs,hg⟩,⟨.bl _,rfl,rfl⟩,q⟩
end
section
variable {X:Cx}
def rAny:List T->Gp->VK3->Prop:=fun xs G Q=>∃(p:Addr) (bs:List Bool),xs=[.ref p]/\G p=some (.lst (bs.map T.bl))/\Q (.bl (bs.any fun x=>x)) G
theorem kV3:∀(bs:List Bool),bs.any (fun x=>x)=(List.range bs.length).any fun i=>bs.getD i false
 | []=>rfl
 | b::bs=>by
  rw[lKl,kV3 bs,lKn,List.range_succ_eq_map,lKl,List.any_map]
  simp[Function.comp_def,List.getD]
theorem c_any (hc:X.calm=true):Call3 X (.builtin "any") rAny:=by
 rintro pins s τ G H as us Q ⟨σ,I,hs,hg⟩ ⟨bs',rbs,rus⟩ ⟨p,bs,e,hp,q⟩
 subst e
 obtain⟨a,rfl,ra⟩:=jVf rbs
 cases (show a= .ref p from ra)
 obtain⟨u,rfl,ru⟩:=rus.one
 cases ru
 obtain⟨vs,h1,h2⟩:=hg.lst hp
 obtain⟨its,rv,pl,hz⟩:=I.list (.of h1)
 have eit:=kQx h2 rv
 subst eit
 have hne:p≠s.heap.objs.size:=by obtain⟨o,n,ho,_⟩:=pl;exact lJn (lJh ho)
 have hw:=Walks.list (prog:=X.prog) (w:=X.w) (A:=X.A.in1) (show X.A.in1.handled=none from I.ok.hd hc) s.heap.objs.size p hne (bs.map Value.bool).toArray
 refine call_any_walk (wpAny_pyIter_list pl.isList ⟨_,_,[s.heap.objs.size],_,_,_,fun i=>bs.getD i false,rfl,hw,⟨⟨_,lJz _ rfl,rfl,rfl⟩,pl.isList.push _⟩,?_,?_⟩)
 ·intro i v s' Q' E' hP hQ
  have hP':(bs.map Value.bool)[i]? =some v:=by simpa using hP
  rw[lJs] at hP'
  cases e:bs[i]? with
  | none=>rw[e] at hP';cases hP'
  | some c=>
   rw[e] at hP';cases hP'
   have:bs.getD i false=c:=by simp[List.getD,e]
   have hQ':Q' (bs.getD i false) s':=hQ
   rw[this] at hQ'
   exact lQy hQ'
 ·intro h' tk hk
  have hk2:∀b o,s.heap.get? b=some o->h'.get? b=some o:=fun b o e=>hk b o (by simpa using lJn (lJh e)) (lJl _ e)
  refine⟨.bl _,G,H,.refl H,⟨σ,I.kept hk2,hs,hg⟩,⟨.bl _,rfl,?_⟩,q⟩
  rw[kV3]
  simp
  rfl
end
end L3
namespace W
open PySem L3
local macro_rules
 | `(tactic| wp_walk using 1, $ts,*) => do
  let ls ← ts.getElems.mapM fun t => `(Lean.Parser.Tactic.simpLemma| $t:term)
  let ns ← ("tSeq tIfS jJs tOp rGt rLt rGe rSub L3.rI0 L3.rI rIxF tVar tC tAsg tCB jJc tNil kXy rLen rAbs rMax kU6 gTup jKt gNil gSub jJi jUy tRet tRetN jKw jQf jJr tLst tTup tIf tNot tAnd tOr qYz tOrV tNotV tPar jKi jVm rMod rFdiv rPow rIsN qJf kKv tTru rTru truT tUn rNeg kZ1 qV4 qV6 qV5 qZ0 qUa qZt qZu at0 at1 at2 ix30 ix31 ix32 qVk qVi qZv qVl Option.map_some and_assoc T.int.injEq T.bl.injEq T.tup.injEq T.ref.injEq List.cons.injEq and_true true_and exists_eq_left exists_eq_left' exists_and_left exists_eq_right List.getElem?_cons_zero List.getElem?_cons_succ List.set_cons_zero List.set_cons_succ List.length_cons List.length_nil Nat.reduceAdd Option.some.injEq jJf jXf reduceCtorEq false_and exists_false exists_const Bool.true_eq Bool.not_eq_true' Bool.not_true Bool.not_false if_true if_false decide_eq_true_eq tBM jK6 kJs jKp qVd jXz GO.lst.injEq msk List.zipWith_cons_cons List.zipWith_nil_left List.zipWith_nil_right Bool.false_eq_true qYv".splitOn " ").toArray.mapM fun n => `(Lean.Parser.Tactic.simpLemma| $(Lean.mkIdent n.toName):term)
  let al:=ns++ls
  `(tactic| ((try dsimp only [$al,*]); (try simp only [$al,*])))
local macro_rules
 | `(tactic| omega) => `(tactic| first | exact szle rfl | lia)
def BoxAt (G:Gp) (b:Addr) (n:Nat):Prop:=∃x y z:Int,G b=some (.lst [.int x,.int y,.int z])/\0<=x/\0<=y/\y<2147483648/\0<=z/\z<=n
def Keep (b:Addr) (G G':Gp):Prop:=∀c o,c≠b->G c=some o->G' c=some o
theorem Keep.refl (b:Addr) (G:Gp):Keep b G G:=fun _ _ _ h=>h
theorem Keep.trans {b:Addr} {G G1 G2:Gp} (h:Keep b G G1) (h':Keep b G1 G2):Keep b G G2:=fun c o hc e=>h' c o hc (h c o hc e)
theorem Keep.gup {b:Addr} {G:Gp} {o:GO}:Keep b G (gup G b o):=fun c u hc e=>by rw[jJh hc];exact e
theorem Keep.new {b p:Addr} {G:Gp} {o:GO} (hp:G p=none):Keep b G (L3.gup G p o):=fun c u _ e=>by rw[jJh];exact e;rintro rfl;rw[hp] at e;cases e
abbrev RdOk (sp:Sp3) (rd:TS3) (N:List Str):Prop:=∀xs G Q,sp xs G Q->rd {nx:=fun _ G'=>Q .non G',rt:=Q} (jQ6 N xs) G
noncomputable def jJq:Sp3:=fun xs G Q=>∃(b:Addr) (m:Int) (n:Nat),xs=[.ref b,.int m]/\BoxAt G b n/\n<2^40/\1<=m/\m<2^29/\∀(r:Int) G',0<=r->r<m->BoxAt G' b (n+1)->Keep b G G'->Q (.int r) G'
def qX8:List Str:=["_law_box_here","_law_many","_law_found","_law_once"]
noncomputable def kJo:TS3:=
 (tSeq (tIfS (jJs (tOp rGt (tOp rIxF (tVar 0) (tC (.int 0))) (tC (.int 0)))) (tSeq (tAsg (tCB kXy (jJc (tOp rIxF (tVar 0) (tC (.int 0))) (jJc (tVar 1) tNil))) (gTup 2 (jKt (gSub (tVar 0) (tC (.int 0)) jUy) (jKt (jJi 2) gNil))))
 (tRet (tVar 2))) jKw)
 (tSeq (tAsg (tOp jKi (tOp rIxF (tVar 0) (tC (.int 2))) (tC (.int 1))) (gSub (tVar 0) (tC (.int 2)) jUy))
 (tSeq (tAsg (tOp rMod (tOp jVm (tOp jKi (tOp rIxF (tVar 0) (tC (.int 1))) (tOp jVm (tC (.int 39373)) (tOp rIxF (tVar 0) (tC (.int 2))))) (tOp jKi (tC (.int 48271)) (tOp rIxF (tVar 0) (tC (.int 2))))) (tC (.int 2147483647))) (jJi 3))
 (tSeq (tAsg (tOp rMod (tOp jKi (tOp jVm (tVar 3) (tOp jKi (tOp rMod (tVar 3) (tC (.int 40009))) (tC (.int 7)))) (tOp rIxF (tVar 0) (tC (.int 2)))) (tC (.int 2147483629))) (gSub (tVar 0) (tC (.int 1)) jUy))
 (tRet (tOp rMod (tOp rFdiv (tOp rMod (tOp jVm (tOp rIxF (tVar 0) (tC (.int 1))) (tOp jKi (tOp rMod (tOp rIxF (tVar 0) (tC (.int 1))) (tC (.int 1009))) (tC (.int 3)))) (tC (.int 998244353))) (tC (.int 7))) (tVar 1)))))))
theorem kXp:RdOk jJq kJo qX8:=by
 intro xs G Q h_;apply xe3 h_;clear h_;intro b m n h_;apply ae5 h_;clear h_;intro q0_ hn hm1 hm2 k
 obtain⟨x,y,z,hb,hx,hy0,hy1,hz0,hz1⟩:=q0_
 show kJo _ [some (.ref b),some (.int m),none,none] G
 wp_walk using 1,kJo,jKs hb,qYe hb
 have box:∀x' y' z':Int,0<=x'->0<=y'->y'<2147483648->0<=z'->z'<=n+1->BoxAt (gup G b (.lst [.int x',.int y',.int z'])) b (n+1):=fun x' y' z' h1 h2 h3 h4 h5=>⟨x',y',z',jJf,h1,h2,h3,h4,by omega⟩
 split
 ·refine⟨⟨by omega,by omega⟩,k _ _ (lV5 _ (by omega)) (lV6 _ (by omega)) (box _ _ _ (Int.ediv_nonneg hx (by omega)) hy0 hy1 hz0 (by omega)) .gup⟩
 ·have a0:=lV5 ((y+39373*(z+1))*(48271+(z+1))) (b:=2147483647) (by decide)
  have a1:=lV6 ((y+39373*(z+1))*(48271+(z+1))) (b:=2147483647) (by decide)
  refine⟨.inl (by decide),.inr ⟨by omega,by omega⟩,by decide,by decide,?_⟩
  generalize (y+39373*(z+1))*(48271+(z+1))%2147483647=u at a0 a1 ⊢
  have b0:=lV5 (u*(u%40009+7)+(z+1)) (b:=2147483629) (by decide)
  have b1:=lV6 (u*(u%40009+7)+(z+1)) (b:=2147483629) (by decide)
  refine⟨.inl ⟨by omega,by omega⟩,by decide,by decide,?_⟩
  generalize (u*(u%40009+7)+(z+1))%2147483629=v at b0 b1 ⊢
  refine⟨.inl ⟨by omega,by omega⟩,by decide,⟨by decide,by decide⟩,by omega,?_⟩
  exact k _ _ (lV5 _ (by omega)) (lV6 _ (by omega)) (box _ _ _ hx b0 (by omega) (by omega) (by omega)) .gup
abbrev jYc (ns:List Int):List T:=ns.map T.int
theorem sz:sizeLine=16777216:=PySem.sizeLine_eq
def jXi:Sp3:=fun xs G Q=>∃(ns:List Int) (k:Int),xs=[.scr (jYc ns),.int k]/\ns.length<=63/\0<=k/\k<100/\∀p G',G p=none->BoxAt G' p 0->Sub G G'->Q (.ref p) G'
def uJj:List Str:=["_law_script","_law_k","_law_cell"]
noncomputable def kQ3:TS3:=
 (tSeq (tAsg (tOp rIxF (tOp rAddS (tVar 0) (tOp jVm (tLst (jJc (tC (.int 0)) tNil)) (tOp jKi (tVar 1) (tC (.int 1))))) (tVar 1)) (jJi 2))
 (tRet (tLst (jJc (tOp jVm (tCB rAbs (jJc (tVar 2) tNil)) (tCB kU6 (jJc (tOp rGe (tCB rAbs (jJc (tVar 2) tNil)) (tOp rPow (tC (.int 10)) (tC (.int 18)))) tNil))) (jJc (tOp rMod (tOp jVm (tOp jKi (tOp jKi (tOp rMod (tVar 2) (tC (.int 2147483647))) (tOp jVm (tC (.int 7919)) (tVar 1))) (tC (.int 11))) (tC (.int 48271))) (tC (.int 2147483629))) (jJc (tC (.int 0)) tNil))))))
theorem qJe:RdOk jXi kQ3 uJj:=by
 intro xs G Q h_;apply xe2 h_;clear h_;intro ns k h_;apply ae4 h_;clear h_;intro hl hk0 hk1 kk
 show kQ3 _ [some (.scr (jYc ns)),some (.int k),none] G
 have hs:=sz
 wp_walk using 1,kQ3
 refine⟨by omega,fun p hp=> ?_⟩
 have e1:mulR (gup G p (GO.lst [T.int 0])) (.ref p) (.int (k+1))=some (.newL (List.replicate (k+1).toNat [T.int 0]).flatten):=by
  simp only[mulR,jJf];rw[lJc];refine⟨?_,?_,?_⟩<;>simp<;>omega
 wp_walk using 1,e1
 intro q hq
 obtain⟨hqp,hq0⟩:=jJt hq
 have hfl:(List.replicate (k+1).toNat [T.int 0]).flatten=List.replicate (k+1).toNat (T.int 0):=by
  induction (k+1).toNat with
  | zero=>rfl
  | succ n ih=>rw[lQb,lQ3,ih];rfl
 refine⟨_,show asL (gup _ q _ q)=_ by rw[jJf];rfl,by rw[hfl];simp;omega,?_⟩
 intro r hr
 obtain⟨hrq,hr1⟩:=jJt hr
 obtain⟨hrp,hr0⟩:=jJt hr1
 obtain⟨v,hv⟩:∃v:Int,L2.atI (jYc ns++(List.replicate (k+1).toNat [T.int 0]).flatten) k=some (.int v):=by
  rw[atZ hk0,hfl]
  by_cases h:k.toNat<ns.length
  ·rw[lKg (by simpa using h)]
   exact⟨ns[k.toNat],by simp[h]⟩
  ·rw[lQf (by simpa using h),lXc]
   exact⟨0,by rw[lJc];simp;omega⟩
 wp_walk using 1,hv
 refine⟨⟨by decide,by decide,by decide⟩,.inr (by split<;>split<;>decide),by decide,.inl (by decide),.inr (by decide),by decide,by omega,fun b hbn=> ?_⟩
 obtain⟨hbr,hb1⟩:=jJt hbn
 obtain⟨hbq,hb2⟩:=jJt hb1
 obtain⟨hbp,hb0⟩:=jJt hb2
 refine kk b _ hb0 ⟨_,_,_,jJf,Int.mul_nonneg (by split<;>omega) (by split<;>split<;>decide),lV5 _ (by decide),?_,Int.le_refl _,by simp⟩ ((((Sub.new hp).over hq0).over hr0).over hb0)
 have:=lV6 ((v%2147483647+7919*k+11)*48271) (b:=2147483629) (by decide)
 omega
abbrev Web:=List (List (Nat×Nat))
def encE (e:Nat×Nat):T:= .tup [.int e.1,.int e.2]
def encR (r:List (Nat×Nat)):T:= .tup (r.map encE)
def encW (W:Web):T:= .tup (W.map encR)
def en (W:Web) (r i:Nat):Option (Nat×Nat):=(W[r]?).bind fun es=>es[i]?
def Sym (W:Web):Prop:=∀r i s j,en W r i=some (s,j)->en W s j=some (r,i)
def sw:Nat->Nat
 | 0=>1
 | 1=>0
 | n=>n
theorem sw_sw {n:Nat} (h:n<=2):sw (sw n)=n/\sw n<=2:=by
 have:n=0\/n=1\/n=2:=by omega
 rcases this with rfl | rfl | rfl<;>exact⟨rfl,by decide⟩
def RowsAt (G:Gp) (h:Addr) (Hs:Web) (rs:List Addr):Prop:=G h=some (.lst (rs.map T.ref))/\rs.length=Hs.length/\∀(i:Nat) (r:Addr),rs[i]? =some r->∃hs:List (Nat×Nat),Hs[i]? =some hs/\G r=some (.lst (hs.map encE))
theorem RowsAt.sub {G G':Gp} {h:Addr} {Hs:Web} {rs:List Addr} (s:Sub G G') (x:RowsAt G h Hs rs):RowsAt G' h Hs rs:=⟨s _ _ x.1,x.2.1,fun i r e=>let ⟨hs,h1,h2⟩:=x.2.2 i r e;⟨hs,h1,s _ _ h2⟩⟩
structure JoinOk (Hs:Web):Prop where
 len:Hs.length<=1000
 row:∀(r:Nat) (hs:List (Nat×Nat)),Hs[r]? =some hs->hs.length<=1000
 inj:∀r i r' i' h,en Hs r i=some h->en Hs r' i'=some h->r=r'/\i=i'
 part:∀r i t s,en Hs r i=some (t,s)->s<=2/\∃r' i',en Hs r' i'=some (t,sw s)
def keyE (e:Nat×Nat):L2.TKey:=[.inl (.inl (e.1:Int)),.inl (.inl (e.2:Int))]
theorem kUe {a b:Nat×Nat} (h:keyE a=keyE b):a=b:=by
 obtain⟨a1,a2⟩:=a;obtain⟨b1,b2⟩:=b
 simp only[keyE,List.cons.injEq,Sum.inl.injEq,and_true] at h
 obtain⟨h1,h2⟩:=h
 rw[Int.ofNat.inj h1,Int.ofNat.inj h2]
theorem kQa {a b:Int}:jU8 [.int a,.int b]=some [.inl (.inl a),.inl (.inl b)]:=rfl
theorem jYe {κ:Type} [DecidableEq κ] (kvs:List (κ×T)) (k j:κ) (v:T):valT (putT kvs k v) j=if k=j then some v else valT kvs j:=by
 unfold putT valT
 by_cases h:(kvs.any fun kv=>decide (kv.1=k))=true
 ·rw[lJc h]
  induction kvs with
  | nil=>simp at h
  | cons p ps ih=>
   rw[lJr,lKh,lKh]
   by_cases hp:p.1=k
   ·rw[lJc hp]
    by_cases hj:k=j
    ·simp[hp,hj]
    ·have h1:¬ p.1=j:=fun z=>hj (hp.symm.trans z)
     simp only[h1,decide_false,hj,lJt]
     by_cases h2:(ps.any fun kv=>decide (kv.1=k))=true
     ·have:=ih h2;rw[lJb hj] at this;exact this
     ·have hm:ps.map (fun kv=>if kv.1=k then (kv.1,v) else kv)=ps:=by
       rw[List.map_congr_left (g:=id)];· simp
       intro a ha
       have:¬ a.1=k:=fun z=>h2 (List.any_eq_true.mpr ⟨a,ha,by simp[z]⟩)
       simp[this]
      rw[hm]
   ·rw[lJb hp]
    have h2:(ps.any fun kv=>decide (kv.1=k))=true:=by
     rw[lKl,lJo hp,Bool.false_or] at h;exact h
    have:=ih h2
    by_cases hj:p.1=j
    ·have:¬ k=j:=fun z=>hp (hj.trans z.symm)
     simp[hj,this]
    ·simp only[hj,decide_false];exact this
 ·rw[lJb h,List.find?_append]
  have hn:(kvs.find? fun kv=>decide (kv.1=j))=none\/∃p,(kvs.find? fun kv=>decide (kv.1=j))=some p:=by
   cases kvs.find? fun kv=>decide (kv.1=j) with
   | none=>exact .inl rfl
   | some p=>exact .inr ⟨p,rfl⟩
  by_cases hj:k=j
  ·subst hj
   have:(kvs.find? fun kv=>decide (kv.1=k))=none:=by
    rw[List.find?_eq_none]
    intro a ha z
    exact h (List.any_eq_true.mpr ⟨a,ha,z⟩)
   simp[this]
  ·rcases hn with e | ⟨p,e⟩
   ·simp[e,hj]
   ·simp[e,hj]
theorem jVn {κ:Type} [DecidableEq κ] (kvs:List (κ×T)) (k:κ) (v:T):(putT kvs k v).length<=kvs.length+1:=by
 unfold putT;split<;>simp
theorem qZ9 {G:Gp} {p:Addr} {kvs:List (L2.TKey×T)} {ys:List T} {ks:L2.TKey} (h:G p=some (.dct kvs)) (hk:jU8 ys=some ks):dAt G (.ref p) (.tup ys)=some (valT kvs ks):=by simp only[dAt,h,hk]
theorem qZw {G:Gp} {p:Addr} {kvs:List (L2.TKey×T)} {ys:List T} {ks:L2.TKey} {t:T} (h:G p=some (.dct kvs)) (hk:jU8 ys=some ks) (ht:valT kvs ks=some t):ixR G (.ref p) (.tup ys)=some t:=by
 simp only[ixR,seqT,h,asL,qZ9 h hk,ht]
theorem jYj {G:Gp} {p:Addr} {kvs:List (L2.TKey×T)} {ys:List T} {ks:L2.TKey} {v:T} (h:G p=some (.dct kvs)) (hk:jU8 ys=some ks) (hz:kvs.length<sizeLine):setR G (.ref p) (.tup ys) v=some (gup G p (.dct (putT kvs ks v))):=by
 simp only[setR,h,hk,hz,lJ4]
theorem jQu {W:Web} {r i:Nat} {e:Nat×Nat} (h:en W r i=some e):∃es,W[r]? =some es/\es[i]? =some e:=by
 unfold en at h
 cases e1:W[r]? with
 | none=>rw[e1] at h;cases h
 | some es=>rw[e1] at h;exact⟨es,rfl,h⟩
theorem jYw {W:Web} {r i:Nat} {es:List (Nat×Nat)} {e:Nat×Nat} (h1:W[r]? =some es) (h2:es[i]? =some e):en W r i=some e:=by unfold en;rw[h1];exact h2
structure Joined (Hs W:Web):Prop where
 len:W.length=Hs.length
 row:∀(r:Nat) (hs:List (Nat×Nat)),Hs[r]? =some hs->∃es,W[r]? =some es/\es.length=hs.length
 to:∀r i t sd s j,en Hs r i=some (t,sd)->en Hs s j=some (t,sw sd)->en W r i=some (s,j)
theorem Joined.sym {Hs W:Web} (J:Joined Hs W) (ok:JoinOk Hs):Sym W:=by
 intro r i s j h
 obtain⟨es,h1,h2⟩:=jQu h
 have hr:r<Hs.length:=by rw[<-J.len];exact (lJe.mp h1).1
 obtain⟨es',h3,h4⟩:=J.row r _ (lJi hr)
 rw[h1] at h3;cases h3
 have hi:i<Hs[r].length:=by rw[<-h4];exact (lJe.mp h2).1
 have e1:en Hs r i=some (Hs[r][i]):=jYw (lJi hr) (lJi hi)
 generalize Hs[r][i]=e0 at e1
 obtain⟨t,sd⟩:=e0
 obtain⟨hsd,r',i',e2⟩:=ok.part r i t sd e1
 have e3:=J.to r i t sd r' i' e1 e2
 rw[h] at e3
 cases e3
 refine J.to s j t (sw sd) r i e2 ?_
 rw[(sw_sw hsd).1];exact e1
open Classical in
def oth (Hs:Web) (e:Nat×Nat):Nat×Nat:=if h:∃p:Nat×Nat,en Hs p.1 p.2=some (e.1,sw e.2) then h.choose else (0,0)
theorem qYj {Hs:Web} {e:Nat×Nat} {r i:Nat} (h:en Hs r i=some (e.1,sw e.2)):en Hs (oth Hs e).1 (oth Hs e).2=some (e.1,sw e.2):=by
 unfold oth
 have:∃p:Nat×Nat,en Hs p.1 p.2=some (e.1,sw e.2):=⟨(r,i),h⟩
 rw[dif_pos this];exact this.choose_spec
theorem qJr {Hs:Web} (ok:JoinOk Hs):Joined Hs (Hs.map (List.map (oth Hs))) where
 len:=by simp
 row:=fun r hs h=>⟨hs.map (oth Hs),by simp[h],by simp⟩
 to:=fun r i t sd s j h1 h2=>by
  obtain⟨es,q1,q2⟩:=jQu h1
  have:en (Hs.map (List.map (oth Hs))) r i=some (oth Hs (t,sd)):=jYw (es:=es.map (oth Hs)) (by simp[q1]) (by simp[q2])
  rw[this]
  have h3:=qYj (e:=(t,sd)) h2
  obtain⟨z1,z2⟩:=ok.inj _ _ _ _ _ h3 h2
  rw[<-z1,<-z2]
def jX4:Sp3:=fun xs G Q=>∃(h:Addr) (Hs:Web) (rs:List Addr),xs=[.ref h]/\RowsAt G h Hs rs/\JoinOk Hs/\∀G' W,Sub G G'->Joined Hs W->Q (encW W) G'
def qJ3:List Str:=["_law_halves","_law_at","_law_room","_law_door","_law_half","_law_web_here","_law_doors","_law_tie","_law_side"]
noncomputable def jX7:TS3:=
 (tSeq (tAsg jX2 (jJi 1))
 (tSeq (tFor (jKv (jJc (tCB rLen (jJc (tVar 0) tNil)) tNil)) (jJi 2) (tFor (kUg (jJc (tOp rIxF (tVar 0) (tVar 2)) tNil)) (gTup 2 (jKt (jJi 3) (jKt (jJi 4) gNil))) (tAsg (tTup (jJc (tVar 2) (jJc (tVar 3) tNil))) (gSub (tVar 1) (tVar 4) jUy))))
 (tSeq (tAsg (tLst tNil) (jJi 5))
 (tSeq (tFor (iSeq (tVar 0)) (jJi 6) (jQf (tBM "list" jK6 (tVar 5) (jJc (tCB jKp (jJc (jUs [false,false,false,false,false,false,false,true,true] (iSeq (tVar 6)) (gTup 2 (jKt (jJi 7) (jKt (jJi 8) gNil))) jXz (tOp rIxF (tVar 1) (tTup (jJc (tVar 7) (jJc (tOp rIxF (tLst (jJc (tC (.int 1)) (jJc (tC (.int 0)) (jJc (tC (.int 2)) tNil)))) (tVar 8)) tNil))))) tNil)) tNil))))
 (tRet (tCB jKp (jJc (tVar 5) tNil)))))))
def Tab (Hs:Web) (kvs:List (L2.TKey×T)) (done:Nat->Nat->Prop):Prop:=∀r i e,en Hs r i=some e->done r i->valT kvs (keyE e)=some (encE (r,i))
theorem kY1 {n i:Nat} {x:T} (h:(rngT 0 n)[i]? =some x):i<n/\x= .int i:=by
 unfold rngT at h
 rw[lJs] at h
 have hi:i<n:=by
  rcases lKe i n with z | z
  ·exact z
  ·rw[lJ6 (by simpa using z)] at h;cases h
 simp[hi] at h
 exact⟨hi,h.symm⟩
theorem jUb {n:Nat}:(rngT 0 n).length=n:=by simp[rngT]
theorem kQ0:RdOk jX4 jX7 qJ3:=by
 intro xs G Q h_;apply xe3 h_;clear h_;intro h Hs rs h_;apply ae3 h_;clear h_;intro q0_ ok kk
 obtain⟨hh,hlen,hrow⟩:=q0_
 show jX7 _ [some (.ref h),none,none,none,none,none,none,none,none] G
 have hs:=sz
 have hL:=ok.len
 wp_walk using 1,jX7,jX2,jJ1,jKv
 refine .inl fun d hd=> ?_
 have hhd:=jJg hh hd
 have hrl:(rs.map T.ref).length=Hs.length:=by simp[hlen]
 refine⟨rs.map T.ref,by simp only[seqT,jJh hhd,hh,asL],by rw[hrl];omega,by rw[hrl];omega,?_⟩
 rw[hrl,show ((Hs.length:Int)).toNat=Hs.length by omega]
 refine⟨fun r τ G'=>∃(v2 v3 v4:Option T) (kvs:List (L2.TKey×T)),τ=[some (.ref h),some (.ref d),v2,v3,v4,none,none,none,none]/\G' d=some (.dct kvs)/\kvs.length<=1000*r/\Tab Hs kvs (fun r' _=>r'<r)/\Sub G G',?_,?_,?_,?_⟩
 ·exact⟨none,none,none,[],rfl,jJf,lJ2 _,fun r i e _ z=>absurd z (lK5 _),.new hd⟩
 ·intros;trivial
 ·intro r x τ G1 hx h_;apply xe4 h_;clear h_;intro v2 v3 v4 kvs h_;apply ae4 h_;clear h_;intro hdk hkl tab sb
  obtain⟨hr,rfl⟩:=kY1 hx
  have hri:r<rs.length:=by omega
  obtain⟨hs',hH,hG⟩:=hrow r rs[r] (lJi hri)
  have hh1:=sb _ _ hh
  have hG1:=sb _ _ hG
  have hat:L2.atI (rs.map T.ref) (r:Int)=some (.ref rs[r]):=by rw[atN];simp[hri]
  have hrow1000:=ok.row r hs' hH
  wp_walk using 1,jJ1,kUg,jKs hh1,hat
  refine⟨hs'.map encE,by simp only[jUz,hG1,asL],?_⟩
  refine⟨fun i τ G'=>∃(v3 v4:Option T) (kvs:List (L2.TKey×T)),τ=[some (.ref h),some (.ref d),some (.int r),v3,v4,none,none,none,none]/\G' d=some (.dct kvs)/\kvs.length<=1000*r+i/\Tab Hs kvs (fun r' i'=>r'<r\/(r'=r/\i'<i))/\Sub G G',?_,?_,?_,?_⟩
  ·exact⟨v3,v4,kvs,rfl,hdk,hkl,fun r' i' e he hd'=>tab r' i' e he (by rcases hd' with z | ⟨_,z⟩;exact z;exact absurd z (lK5 _)),sb⟩
  ·intro i τ G' hi h_;apply xe3 h_;clear h_;intro v3 v4 kvs h_;apply ae4 h_;clear h_;intro h1 h2 h3 h4
   simp only[jUz,h4 _ _ hG,asL]
  ·intro i x τ G2 hx h_;apply xe3 h_;clear h_;intro v3 v4 kvs h_;apply ae4 h_;clear h_;intro h1 h2 h3 h4
   have hi:i<hs'.length:=by have:=(lJe.mp hx).1;simpa[jKl] using this
   have hri2:(hs'.map encE)[i]? =some (encE hs'[i]):=by simp[hi]
   rw[jXk hri2] at hx
   cases hx
   have hz:kvs.length<sizeLine:=by omega
   wp_walk using 1,encE,jYj h1 kQa hz
   refine⟨by omega,?_⟩
   refine⟨putT kvs (keyE hs'[i]) (encE (r,i)),rfl,by have:=jVn kvs (keyE hs'[i]) (encE (r,i));omega,fun r' i' e he hd'=> ?_,h4.over hd⟩
   show valT (putT kvs (keyE hs'[i]) _) (keyE e)=_
   rw[jYe]
   have eri:en Hs r i=some hs'[i]:=jYw hH (lJi hi)
   by_cases hk:keyE hs'[i]=keyE e
   ·rw[lJc hk]
    have:=kUe hk
    subst this
    obtain⟨z1,z2⟩:=ok.inj _ _ _ _ _ eri he
    subst z1;subst z2;rfl
   ·rw[lJb hk]
    refine h3 r' i' e he ?_
    rcases hd' with z | ⟨z1,z2⟩
    ·exact .inl z
    ·subst z1
     by_cases hii:i'=i
     ·subst hii;rw[eri] at he;cases he;exact absurd rfl hk
     ·exact .inr ⟨rfl,by omega⟩
  ·intro τ G' h_;apply xe3 h_;clear h_;intro v3 v4 kvs h_;apply ae4 h_;clear h_;intro h1 h2 h3 h4
   refine⟨some (.int r),v3,v4,rfl,kvs,h1,?_,fun r' i' e he hd'=>h3 r' i' e he ?_,h4⟩
   ·simp only[jKl,lJg] at h2;omega
   ·rcases lKe r' r with z | z
    ·exact .inl z
    ·have:r'=r:=by omega
     subst this
     obtain⟨es,q1,q2⟩:=jQu he
     rw[hH] at q1;cases q1
     exact .inr ⟨rfl,by simpa[jKl] using (lJe.mp q2).1⟩
 ·intro τ G1 h_;apply xe4 h_;clear h_;intro v2 v3 v4 kvs h_;apply ae4 h_;clear h_;intro hdk hkl tab sb
  rw[jUb] at tab
  wp_walk using 1,jJ1,iSeq
  refine⟨lJ2 _,fun w hw=> ?_⟩
  have hdw:=jJg hdk hw
  have hhw:=jJg (sb _ _ hh) hw
  refine⟨rs.map T.ref,by simp only[seqT,jJh hhw,sb _ _ hh,asL],?_⟩
  refine⟨fun i τ G'=>∃(v6:Option T),τ=[some (.ref h),some (.ref d),v2,v3,v4,some (.ref w),v6,none,none]/\G' w=some (.lst ((Hs.take i).map fun hs=>encR (hs.map (oth Hs))))/\Sub G1 G',?_,?_,?_,?_⟩
  ·exact⟨none,rfl,by simp[jJf],.new hw⟩
  ·intro i τ G' hi h_;apply xe1 h_;clear h_;intro v6 h_;apply ae2 h_;clear h_;intro h1 h2
   simp only[seqT,h2 _ _ (sb _ _ hh),asL]
  ·intro i x τ G2 hx0 h_;apply xe1 h_;clear h_;intro v6 h_;apply ae2 h_;clear h_;intro h1 h2
   obtain⟨ra,hx,rfl⟩:=jKr hx0
   obtain⟨hs',hH,hG⟩:=hrow i ra hx
   have hG2:=h2 _ _ (sb _ _ hG)
   have hrow1000:=ok.row i hs' hH
   wp_walk using 1,iSeq,jKc h1
   refine⟨hs'.map encE,jJl hG2,?_⟩
   refine jQw (fun e=>encE (oth Hs e)) (by omega) (fun G' s=>jJl (s _ _ hG2)) ?_ ?_
   ·intro j e he G' K K0 s hk
    obtain⟨t,sd⟩:=e
    have hen:=jYw hH he
    obtain⟨hsd,r',i',e2⟩:=ok.part _ _ _ _ hen
    have hv:=qYj (e:=(t,sd)) e2
    have hr':(oth Hs (t,sd)).1<List.length Hs:=by obtain⟨es,q1,q2⟩:=jQu hv;exact (lJe.mp q1).1
    have ht:=tab _ _ _ hv hr'
    have hd3:=s _ _ (h2 _ _ hdk)
    wp_walk using 1,encE
    refine⟨by omega,fun p hp=> ?_⟩
    have hdp:=jJg hd3 hp
    have hsw:L2.atI [T.int 1,T.int 0,T.int 2] (sd:Int)=some (.int (sw sd:Int)):=by
     have:sd=0\/sd=1\/sd=2:=by omega
     rcases this with rfl | rfl | rfl<;>rw[atN]<;>rfl
    refine⟨_,hsw,by omega,_,qZw (ks:=[.inl (.inl (t:Int)),.inl (.inl (sw sd:Int))]) (by rw[jJh hdp];exact hd3) kQa ht,hk _ (.new hp)⟩
   ·intro D G3 hD h3 h4
    wp_walk using 1,jJl h3,h4 _ _ h1
    refine⟨by simp;omega,?_,((h2.trans h4).over hw)⟩
    rw[lV1,hH];simp[encR]
  ·intro τ G' h_;apply xe1 h_;clear h_;intro v6 h_;apply ae2 h_;clear h_;intro h1 h2
   wp_walk using 1,jJl h1
   have e1:(Hs.take (rs.map T.ref).length).map (fun hs=>encR (hs.map (oth Hs)))=(Hs.map (List.map (oth Hs))).map encR:=by
    rw[hrl,lVk,lK0];rfl
   rw[e1]
   exact kk G' _ (sb.trans h2) (qJr ok)
theorem BoxAt.mono {G:Gp} {b:Addr} {n m:Nat} (h:BoxAt G b n) (hm:n<=m):BoxAt G b m:=by
 obtain⟨x,y,z,h1,h2,h3,h4,h5,h6⟩:=h
 exact⟨x,y,z,h1,h2,h3,h4,h5,by omega⟩
theorem BoxAt.some {G:Gp} {b:Addr} {n:Nat} (h:BoxAt G b n):∃o,G b=some o:=by
 obtain⟨x,y,z,h1,_⟩:=h
 exact⟨_,h1⟩
theorem BoxAt.sub {G G':Gp} {b:Addr} {n:Nat} (h:BoxAt G b n) (s:Sub G G'):BoxAt G' b n:=by
 obtain⟨x,y,z,h1,h2,h3,h4,h5,h6⟩:=h
 exact⟨x,y,z,s _ _ h1,h2,h3,h4,h5,h6⟩
theorem BoxAt.gup {G:Gp} {b p:Addr} {n:Nat} {o:GO} (h:BoxAt G b n) (hp:b≠p):BoxAt (gup G p o) b n:=by
 obtain⟨x,y,z,h1,h2,h3,h4,h5,h6⟩:=h
 exact⟨x,y,z,by rw[jJh hp];exact h1,h2,h3,h4,h5,h6⟩
theorem Keep.sub {b:Addr} {G G':Gp} (h:Sub G G'):Keep b G G':=fun c o _ e=>h c o e
theorem Keep.over {b p:Addr} {G G':Gp} {o:GO} (h:Keep b G G') (hp:G p=none):Keep b G (L3.gup G' p o):=fun c u hc e=>by rw[jJh];exact h c u hc e;rintro rfl;rw[hp] at e;cases e
theorem RowsAt.keep {b:Addr} {G G':Gp} {h:Addr} {Hs:Web} {rs:List Addr} (s:Keep b G G') (hb:b∉h::rs) (x:RowsAt G h Hs rs):RowsAt G' h Hs rs:=by
 simp only[lJj,not_or] at hb
 exact⟨s _ _ (Ne.symm hb.1) x.1,x.2.1,fun i r e=>let ⟨hs,h1,h2⟩:=x.2.2 i r e;⟨hs,h1,s _ _ (by rintro rfl;exact hb.2 (lJm e)) h2⟩⟩
theorem RowsAt.set {G:Gp} {h:Addr} {Hs:Web} {rs:List Addr} {r:Nat} {a:Addr} {hs':List (Nat×Nat)} (x:RowsAt G h Hs rs) (hn:(h::rs).Nodup) (hr:rs[r]? =some a):RowsAt (gup G a (.lst (hs'.map encE))) h (Hs.set r hs') rs:=by
 rw[lKd] at hn
 have hrl:r<rs.length:=(lJe.mp hr).1
 refine⟨by rw[jJh];exact x.1;rintro rfl;exact hn.1 (lJm hr),by rw[lQt];exact x.2.1,fun i c e=> ?_⟩
 by_cases hi:i=r
 ·subst hi
  rw[hr] at e;cases e
  exact⟨hs',by rw[lKk];rw[<-x.2.1];exact hrl,jJf⟩
 ·obtain⟨hs,h1,h2⟩:=x.2.2 i c e
  refine⟨hs,by rw[lKf (Ne.symm hi)];exact h1,?_⟩
  rw[jJh];exact h2
  rintro rfl
  have hil:i<rs.length:=(lJe.mp e).1
  exact hi ((lVn hil hn.2).mp (e.trans hr.symm))
def hv (n t:Nat) (p:Nat×Nat):List (Nat×Nat×Nat):=if p.2=n then [(p.1,t,2)] else [(p.1,t,0),(p.2,t,1)]
def hvs (P:List (Nat×Nat)) (n k:Nat):List (Nat×Nat×Nat):=(List.range k).flatMap fun t=>match P[t]? with
 | some p=>hv n t p
 | none=>[]
theorem jVs {P:List (Nat×Nat)} {n k:Nat} {p:Nat×Nat} (h:P[k]? =some p):hvs P n (k+1)=hvs P n k++hv n k p:=by
 unfold hvs
 rw[lKi,lV4]
 simp[h]
theorem kQd {n t:Nat} {p:Nat×Nat} {r t' s:Nat} (h:(r,t',s)∈hv n t p):t'=t/\s<=2/\((p.2=n/\s=2/\r=p.1)\/(p.2≠n/\s=0/\r=p.1)\/(p.2≠n/\s=1/\r=p.2)):=by
 unfold hv at h
 split at h
 ·rename_i hp;simp at h;obtain⟨rfl,rfl,rfl⟩:=h;exact⟨rfl,by omega,.inl ⟨hp,rfl,rfl⟩⟩
 ·rename_i hp;simp at h
  rcases h with ⟨rfl,rfl,rfl⟩ | ⟨rfl,rfl,rfl⟩
  ·exact⟨rfl,by omega,.inr (.inl ⟨hp,rfl,rfl⟩)⟩
  ·exact⟨rfl,by omega,.inr (.inr ⟨hp,rfl,rfl⟩)⟩
theorem kJ4 {P:List (Nat×Nat)} {n k:Nat} {r t s:Nat} (h:(r,t,s)∈hvs P n k):∃p,P[t]? =some p/\t<k/\(r,t,s)∈hv n t p:=by
 unfold hvs at h
 rw[lQ4] at h
 obtain⟨t',h1,h2⟩:=h
 cases e:P[t']? with
 | none=>rw[e] at h2;cases h2
 | some p=>
  rw[e] at h2
  have h2:(r,t,s)∈hv n t' p:=h2
  have ht:=(kQd h2).1
  subst ht
  exact⟨p,e,lKy.mp h1,h2⟩
theorem kZn {P:List (Nat×Nat)} {n k:Nat} {r t s:Nat} {p:Nat×Nat} (h:P[t]? =some p) (hk:t<k) (hm:(r,t,s)∈hv n t p):(r,t,s)∈hvs P n k:=by
 unfold hvs
 rw[lQ4]
 exact⟨t,lKy.mpr hk,by rw[h];exact hm⟩
theorem kJ3 {P:List (Nat×Nat)} {n:Nat}:∀k,((hvs P n k).map fun x=>x.2).Nodup
 | 0=>by simp[hvs]
 | k+1=>by
  cases e:P[k]? with
  | none=>
   have:hvs P n (k+1)=hvs P n k:=by unfold hvs;rw[lKi,lV4];simp[e]
   rw[this];exact kJ3 k
  | some p=>
   rw[jVs e,lVq,lQk]
   refine⟨kJ3 k,by unfold hv;split<;>simp,?_⟩
   intro a ha b hb
   obtain⟨⟨r,t,s⟩,h1,rfl⟩:=lJw.mp ha
   obtain⟨⟨r',t',s'⟩,h2,rfl⟩:=lJw.mp hb
   obtain⟨_,_,h3,_⟩:=kJ4 h1
   have h4:=(kQd h2).1
   intro z
   have:t=t':=lJx Prod.fst z
   omega
theorem kUh {P:List (Nat×Nat)} {n:Nat}:∀k,(hvs P n k).length<=2*k
 | 0=>by simp[hvs]
 | k+1=>by
  have ih:=kUh (P:=P) (n:=n) k
  cases e:P[k]? with
  | none=>
   have:hvs P n (k+1)=hvs P n k:=by unfold hvs;rw[lKi,lV4];simp[e]
   rw[this];omega
  | some p=>
   rw[jVs e,lJ7]
   have:(hv n k p).length<=2:=by unfold hv;split<;>simp
   omega
structure HalfL (L:List (Nat×Nat×Nat)) (n:Nat) (Hs:Web):Prop where
 len:Hs.length=n
 perm:∀(r:Nat) (hs:List (Nat×Nat)),Hs[r]? =some hs->hs.Perm ((L.filter fun x=>x.1 == r).map fun x=>x.2)
theorem ins_perm {α:Type} {xs:List α} {k:Nat} {y:α}:(xs.take k++y::xs.drop k).Perm (xs++[y]):=by
 have h1:(xs.take k++y::xs.drop k).Perm (y::(xs.take k++xs.drop k)):=List.perm_middle
 rw[List.take_append_drop] at h1
 exact h1.trans (List.perm_append_comm (l₁:=[y]) (l₂:=xs))
theorem HalfL.ins {L:List (Nat×Nat×Nat)} {n:Nat} {Hs:Web} {r k:Nat} {hs:List (Nat×Nat)} {e:Nat×Nat} (h:HalfL L n Hs) (hr:Hs[r]? =some hs):HalfL (L++[(r,e)]) n (Hs.set r (hs.take k++e::hs.drop k)) where
 len:=by rw[lQt];exact h.len
 perm:=fun r' hs' h'=>by
  have hrl:r<Hs.length:=(lJe.mp hr).1
  rw[List.filter_append,lVq]
  by_cases hi:r'=r
  ·subst hi
   rw[lKk hrl] at h'
   cases h'
   have:=h.perm r' hs hr
   refine ins_perm.trans ?_
   simp
   exact this.append_right [e]
  ·rw[lKf (Ne.symm hi)] at h'
   have:=h.perm r' hs' h'
   have hne:¬ r=r':=fun z=>hi z.symm
   simp[hne]
   exact this
theorem HalfL.mem {L:List (Nat×Nat×Nat)} {n:Nat} {Hs:Web} {r i:Nat} {e:Nat×Nat} (h:HalfL L n Hs) (he:en Hs r i=some e):(r,e)∈L:=by
 obtain⟨es,h1,h2⟩:=jQu he
 have:=(h.perm r es h1).mem_iff.mp (lJm h2)
 obtain⟨⟨r',e'⟩,h3,rfl⟩:=lJw.mp this
 obtain⟨h4,h5⟩:=lQq.mp h3
 have:r'=r:=by simpa using h5
 subst this;exact h4
theorem HalfL.of {L:List (Nat×Nat×Nat)} {n:Nat} {Hs:Web} {r:Nat} {e:Nat×Nat} (h:HalfL L n Hs) (hr:r<n) (he:(r,e)∈L):∃i,en Hs r i=some e:=by
 have hrl:r<Hs.length:=by rw[h.len];exact hr
 have h1:Hs[r]? =some Hs[r]:=lJi hrl
 have:e∈Hs[r]:=(h.perm r _ h1).mem_iff.mpr (lJw.mpr ⟨(r,e),lQq.mpr ⟨he,by simp⟩,rfl⟩)
 obtain⟨i,hi⟩:=lJ8 this
 exact⟨i,jYw h1 hi⟩
def kUq (P:List (Nat×Nat)) (n:Nat):Prop:=∀p,p∈P->p.1<n/\p.2<=n
theorem HalfL.ok {P:List (Nat×Nat)} {n:Nat} {Hs:Web} (h:HalfL (hvs P n P.length) n Hs) (hp:kUq P n) (hn:n<=1000) (hl:P.length<=500):JoinOk Hs where
 len:=by rw[h.len];exact hn
 row:=fun r hs hr=>by
  rw[(h.perm r hs hr).length_eq,lJg]
  have h1:=lVo (fun x:Nat×Nat×Nat=>x.1 == r) (hvs P n P.length)
  have h2:=kUh (P:=P) (n:=n) P.length
  omega
 inj:=fun r i r' i' e h1 h2=>by
  obtain⟨t,s⟩:=e
  obtain⟨p,q1,q2,q3⟩:=kJ4 (h.mem h1)
  obtain⟨p',q1',q2',q3'⟩:=kJ4 (h.mem h2)
  rw[q1] at q1';cases q1'
  have m1:=(kQd q3).2.2
  have m2:=(kQd q3').2.2
  have hrr:r=r':=by
   rcases m1 with ⟨a,b,c⟩ | ⟨a,b,c⟩ | ⟨a,b,c⟩<;>rcases m2 with ⟨a',b',c'⟩ | ⟨a',b',c'⟩ | ⟨a',b',c'⟩<;>omega
  subst hrr
  refine⟨rfl,?_⟩
  obtain⟨es,z1,z2⟩:=jQu h1
  obtain⟨es',z3,z4⟩:=jQu h2
  rw[z1] at z3;cases z3
  have nd:es.Nodup:=by
   rw[(h.perm r es z1).nodup_iff]
   exact (List.filter_sublist.map _).nodup (kJ3 _)
  exact (lVn (lJe.mp z2).1 nd).mp (z2.trans z4.symm)
 part:=fun r i t s h1=>by
  obtain⟨p,q1,q2,q3⟩:=kJ4 (h.mem h1)
  obtain⟨_,h2,m⟩:=kQd q3
  refine⟨h2,?_⟩
  have hpp:=hp p (lJm q1)
  rcases m with ⟨a,rfl,c⟩ | ⟨a,rfl,c⟩ | ⟨a,rfl,c⟩
  ·exact⟨r,i,h1⟩
  ·obtain⟨i',h3⟩:=h.of (r:=p.2) (e:=(t,1)) (by omega) (kZn q1 q2 (by unfold hv;rw[lJb a];simp))
   exact⟨p.2,i',h3⟩
  ·obtain⟨i',h3⟩:=h.of (r:=p.1) (e:=(t,0)) (by omega) (kZn q1 q2 (by unfold hv;rw[lJb a];simp))
   exact⟨p.1,i',h3⟩
structure Made (P:List (Nat×Nat)) (n:Nat) (W:Web):Prop where
 len:W.length=n
 sym:Sym W
 deg:∀(r:Nat) (es:List (Nat×Nat)),W[r]? =some es->es.length=((hvs P n P.length).filter fun x=>x.1 == r).length
 tie:∀p,p∈P->p.2<n->∃i j,en W p.1 i=some (p.2,j)
theorem qZo {P:List (Nat×Nat)} {n:Nat} {Hs W:Web} (h:HalfL (hvs P n P.length) n Hs) (hp:kUq P n) (ok:JoinOk Hs) (J:Joined Hs W):Made P n W where
 len:=by rw[J.len,h.len]
 sym:=J.sym ok
 deg:=fun r es hr=>by
  have hrl:r<Hs.length:=by rw[<-J.len];exact (lJe.mp hr).1
  obtain⟨es',h1,h2⟩:=J.row r _ (lJi hrl)
  rw[hr] at h1;cases h1
  rw[h2,(h.perm r _ (lJi hrl)).length_eq,lJg]
 tie:=fun p hpm hpn=>by
  obtain⟨t,ht⟩:=lJ8 hpm
  have htl:t<P.length:=(lJe.mp ht).1
  have hne:¬ p.2=n:=by omega
  obtain⟨i,h1⟩:=h.of (r:=p.1) (e:=(t,0)) (hp p hpm).1 (kZn ht htl (by unfold hv;rw[lJb hne];simp))
  obtain⟨j,h2⟩:=h.of (r:=p.2) (e:=(t,1)) hpn (kZn ht htl (by unfold hv;rw[lJb hne];simp))
  exact⟨i,j,J.to _ _ _ _ _ _ h1 h2⟩
theorem Keep.none {b p:Addr} {G G':Gp} (h:Keep b G G') (hb:p≠b) (hp:G' p=none):G p=none:=by
 cases e:G p with
 | none=>rfl
 | some o=>rw[h p o hb e] at hp;cases hp
theorem qXg {xs:List (Nat×Nat)} {k:Nat} {y:Nat×Nat}:insT (xs.map encE) k (encE y)=(xs.take k++y::xs.drop k).map encE:=by simp[insT,List.map_take,List.map_drop]
theorem HalfL.len_le {L:List (Nat×Nat×Nat)} {n:Nat} {Hs:Web} {r:Nat} {hs:List (Nat×Nat)} (h:HalfL L n Hs) (hr:Hs[r]? =some hs):hs.length<=L.length:=by
 rw[(h.perm r hs hr).length_eq,lJg];exact lVo _ _
theorem kJ7 {E:Ends3} {G G2:Gp} {b D p:Addr} {rs:List Addr} {n k m':Nat} {S:List (Nat×Nat)} {L:List (Nat×Nat×Nat)} {Hs:Web} {w1 w2 w5 w6 w8 w9:Option T}
  (h1:HalfL L n Hs) (h2:RowsAt G2 D Hs rs) (h3:BoxAt G2 b m') (h4:Keep b G G2) (hnd:(D::rs).Nodup) (hbn:b∉D::rs) (hfr:∀r,r∈D::rs->G r=none) (hp:G2 p=some (.lst (S.map encE))) (hpn:p∉D::rs) (hpb:p≠b) (hS:∀x,x∈S->x.1<n) (hm:m'+S.length<2^40) (hL:L.length+S.length<10000)
  (kk:∀G' Hs' v8 v9,HalfL (L++S.map fun x=>(x.1,k,x.2)) n Hs'->RowsAt G' D Hs' rs->BoxAt G' b (m'+S.length)->Keep b G G'->E.nx [some (.ref b),w1,w2,some (.ref D),some (.int k),w5,w6,some (.ref p),v8,v9] G'):
  uJl (gTup 2 (jKt (jJi 8) (jKt (jJi 9) gNil))) (jQf (tBM "list" kJs (tOp rIxF (tVar 3) (tVar 8)) (jJc (jJr jJq (jJc (tVar 0) (jJc (tOp jKi (tCB rLen (jJc (tOp rIxF (tVar 3) (tVar 8)) tNil)) (tC (T.int 1))) tNil))) (jJc (tTup (jJc (tVar 4) (jJc (tVar 9) tNil))) tNil)))) E
   [some (.ref b),w1,w2,some (.ref D),some (.int k),w5,w6,some (.ref p),w8,w9] (S.map encE) (fun G'=>seqT G' (.ref p)=some (S.map encE)) G2:=by
 have hs:=sz
 refine⟨fun j τ G'=>∃(v8 v9:Option T) (Hs:Web),τ=[some (.ref b),w1,w2,some (.ref D),some (.int k),w5,w6,some (.ref p),v8,v9]/\HalfL (L++(S.take j).map fun x=>(x.1,k,x.2)) n Hs/\RowsAt G' D Hs rs/\BoxAt G' b (m'+j)/\Keep b G G'/\G' p=some (.lst (S.map encE)),?_,?_,?_,?_⟩
 ·exact⟨w8,w9,Hs,rfl,by simpa using h1,h2,h3,h4,hp⟩
 ·intro j τ G' hj h_;apply xe3 h_;clear h_;intro v8 v9 Hs h_;apply ae5 h_;clear h_;intro i1 i2 i3 i4 i5
  exact jJl i5
 ·intro j x τ G' hx0 h_;apply xe3 h_;clear h_;intro v8 v9 Hs h_;apply ae5 h_;clear h_;intro i1 i2 i3 i4 i5
  obtain⟨⟨r,s⟩,hx,rfl⟩:=jKr hx0
  have hj:j<S.length:=(lJe.mp hx).1
  have hr:r<n:=hS _ (lJm hx)
  have hrl:r<rs.length:=by rw[i2.2.1,i1.len];exact hr
  have hra:rs[r]? =some rs[r]:=lJi hrl
  generalize rs[r]=a at hra
  obtain⟨hs',hh1,hh2⟩:=i2.2.2 r a hra
  have hat:L2.atI (rs.map T.ref) (r:Int)=some (.ref a):=by rw[atN];simp[hra]
  have hle:=i1.len_le hh1
  have hlt:(L++(S.take j).map fun x=>(x.1,k,x.2)).length<10000:=by simp;omega
  wp_walk using 1,encE,jKs i2.1,hat,jKc hh2,jJl hh2,List.length_map
  refine⟨b,_,m'+j,rfl,i3,by omega,by omega,by omega,fun c G3 c0 c1 bx kp=> ?_⟩
  have ham:a∈D::rs:=lKa _ (lJm hra)
  have hab:a≠b:=by rintro rfl;exact hbn ham
  have hap:a≠p:=by rintro rfl;exact hpn ham
  have i2':=i2.keep kp hbn
  refine⟨by omega,hs'.map encE,c,rfl,kp _ _ hab hh2,c0,by simp;omega,by simp;omega,?_⟩
  rw[show T.tup [T.int (k:Int),T.int (s:Int)]=encE (k,s) from rfl,qXg]
  refine⟨Hs.set r (hs'.take c.toNat++(k,s)::hs'.drop c.toNat),?_,i2'.set hnd hra,?_,(i4.trans kp).over (hfr a ham),?_⟩
  ·have:=i1.ins (k:=c.toNat) (e:=(k,s)) hh1
   rw[lV1,hx,lVq,<-lXe]
   exact this
  ·exact bx.gup hab.symm
  ·rw[jJh hap.symm];exact kp _ _ hpb i5
 ·intro τ G' h_;apply xe3 h_;clear h_;intro v8 v9 Hs h_;apply ae5 h_;clear h_;intro i1 i2 i3 i4 i5
  rw[lJg] at i1 i3
  rw[lVk] at i1
  exact kk G' Hs v8 v9 i1 i2 i3 i4
theorem jZ1 {xs:List T}:(numT xs).length=xs.length:=by simp[numT]
noncomputable def jUt:Sp3:=fun xs G Q=>∃(b pr:Addr) (P:List (Nat×Nat)) (n m:Nat),xs=[.ref b,.ref pr,.int n]/\BoxAt G b m/\m+2*P.length<2^40/\pr≠b/\G pr=some (.lst (P.map encE))/\kUq P n/\n<=1000/\P.length<=500/\∀W G',Made P n W->BoxAt G' b (m+2*P.length)->Keep b G G'->Q (encW W) G'
def kUr:List Str:=["_law_box_here","_law_pairs","_law_many","_law_halves","_law_tie","_law_one","_law_other","_law_sides","_law_room","_law_side"]
noncomputable def jUv:TS3:=
 (tSeq (tAsg (jUs [false,false,false,false,false,false,false,false,true,false] (jKv (jJc (tVar 2) tNil)) (jJi 8) jXz (tLst tNil)) (jJi 3))
 (tSeq (tFor (kUg (jJc (tVar 1) tNil)) (gTup 2 (jKt (jJi 4) (jKt (gTup 2 (jKt (jJi 5) (jKt (jJi 6) gNil))) gNil))) (tSeq (tAsg (tIf (jJs (tOp rEqA (tVar 6) (tVar 2))) (tLst (jJc (tTup (jJc (tVar 5) (jJc (tC (.int 2)) tNil))) tNil)) (tLst (jJc (tTup (jJc (tVar 5) (jJc (tC (.int 0)) tNil))) (jJc (tTup (jJc (tVar 6) (jJc (tC (.int 1)) tNil))) tNil)))) (jJi 7))
 (tFor (iSeq (tVar 7)) (gTup 2 (jKt (jJi 8) (jKt (jJi 9) gNil))) (jQf (tBM "list" kJs (tOp rIxF (tVar 3) (tVar 8)) (jJc (jJr jJq (jJc (tVar 0) (jJc (tOp jKi (tCB rLen (jJc (tOp rIxF (tVar 3) (tVar 8)) tNil)) (tC (.int 1))) tNil))) (jJc (tTup (jJc (tVar 4) (jJc (tVar 9) tNil))) tNil)))))))
 (tRet (jJr jX4 (jJc (tVar 3) tNil)))))
theorem jQj {n:Nat}:rngT 0 n=(List.range n).map fun (k:Nat)=>T.int k:=by simp[rngT]
theorem jZl:RdOk jUt jUv kUr:=by
 intro xs G Q h_;apply xe5 h_;clear h_;intro b pr P n m h_;apply ae8 h_;clear h_;intro hb hm hpb hpr hP hn hPl kk
 show jUv _ [some (.ref b),some (.ref pr),some (.int n),none,none,none,none,none,none,none] G
 have hs:=sz
 wp_walk using 1,jUv,jJ1,jKv,kUg
 refine⟨by omega,by omega,?_⟩
 rw[show ((n:Int)).toNat=n by omega,jQj]
 refine kQf (fun _=>[]) (by simp;omega) (fun _ _=>trivial) ?_ ?_
 ·intro i e he G' K K0 s hk
  wp_walk using 1,tSeq
  exact⟨lJ2 _,fun p hp=>hk p _ hp jJf (.new hp)⟩
 ·intro D rs G1 hD hD1 s1 hrl hnd hrs
  rw[lKw] at hrl
  obtain⟨bo,hbo⟩:=hb.some
  have hbn:b∉D::rs:=by
   intro z
   rw[lJj] at z
   rcases z with rfl | z
   ·rw[hD] at hbo;cases hbo
   ·obtain⟨j,hj⟩:=lJ8 z
    have hjl:j<rs.length:=(lJe.mp hj).1
    have:=(hrs j b j hj (by rw[lQx (by omega)])).1
    rw[this] at hbo;cases hbo
  have hfr:∀r,r∈D::rs->G r=none:=by
   intro r z
   rw[lJj] at z
   rcases z with rfl | z
   ·exact hD
   ·obtain⟨j,hj⟩:=lJ8 z
    have hjl:j<rs.length:=(lJe.mp hj).1
    exact (hrs j r j hj (by rw[lQx (by omega)])).1
  refine⟨P.map encE,by simp only[jUz,s1 _ _ hpr,asL],?_⟩
  refine⟨fun k τ G'=>∃(v4 v5 v6 v7 v8 v9:Option T) (Hs:Web),τ=[some (.ref b),some (.ref pr),some (.int n),some (.ref D),v4,v5,v6,v7,v8,v9]/\HalfL (hvs P n k) n Hs/\RowsAt G' D Hs rs/\BoxAt G' b (m+2*k)/\Keep b G G',?_,?_,?_,?_⟩
  ·refine⟨none,none,none,none,none,none,List.replicate n [],rfl,⟨by simp,?_⟩,⟨hD1,by simp[hrl],?_⟩,hb.sub s1,.sub s1⟩
   ·intro r hs' h
    have:hs'=[]:=by rw[lXc] at h;split at h;cases h;rfl;cases h
    subst this;simp[hvs]
   ·intro i r h
    have hi:i<n:=by rw[<-hrl];exact (lJe.mp h).1
    exact⟨[],by simp[hi],(hrs i r i h (by simp[hi])).2⟩
  ·intro k τ G' hk h_;apply xe7 h_;clear h_;intro v4 v5 v6 v7 v8 v9 Hs h_;apply ae4 h_;clear h_;intro h1 h2 h3 h4
   simp only[jUz,h4 _ _ hpb hpr,asL]
  ·intro k x τ G2 hx h_;apply xe7 h_;clear h_;intro v4 v5 v6 v7 v8 v9 Hs h_;apply ae4 h_;clear h_;intro h1 h2 h3 h4
   have hk:k<P.length:=by have:=(lJe.mp hx).1;simpa[jZ1] using this
   rw[jXk (x:=encE P[k]) (by simp[hk])] at hx
   cases hx
   generalize hpk:P[k]=p
   have hpe:P[k]? =some p:=by rw[lJi hk,hpk]
   obtain⟨a,c⟩:=p
   obtain⟨ha,hc⟩:=hP _ (lJm hpe)
   have ha:a<n:=ha
   have hc:c<=n:=hc
   wp_walk using 1,encE,rEqA,iSeq,jJ1
   rw[show eqG G2 (T.int (c:Int)) (T.int (n:Int))=some (decide ((c:Int)=n)) from rfl]
   have hL:=kUh (P:=P) (n:=n) k
   refine⟨_,rfl,?_⟩
   have fresh:∀p,G2 p=none->p∉D::rs/\p≠b:=by
    intro p hp
    refine⟨fun z=> ?_,?_⟩
    ·rw[lJj] at z
     rcases z with rfl | z
     ·rw[h2.1] at hp;cases hp
     ·obtain⟨j,hj⟩:=lJ8 z
      obtain⟨_,_,q⟩:=h2.2.2 j p hj
      rw[q] at hp;cases hp
    ·rintro rfl
     obtain⟨o,ho⟩:=h3.some
     rw[ho] at hp;cases hp
   by_cases hcn:c=n
   ·rw[lJc (by simp[hcn])]
    refine⟨by omega,by omega,fun p hp=> ?_⟩
    obtain⟨f1,f2⟩:=fresh p hp
    refine kJ7 (S:=[(a,2)]) h1 (h2.sub (.new hp)) (h3.gup f2.symm) (h4.over (h4.none f2 hp)) hnd hbn hfr jJf f1 f2 (by simp[ha]) (by simp;omega) (by simp;omega) ?_
    intro G' Hs' v8 v9 i1 i2 i3 i4
    refine⟨_,_,_,_,_,_,rfl,Hs',?_,i2,i3.mono (by simp;omega),i4⟩
    rw[jVs hpe];unfold hv;rw[lJc hcn];exact i1
   ·rw[lJb (by simp;omega)]
    refine⟨by omega,by omega,by omega,fun p hp=> ?_⟩
    obtain⟨f1,f2⟩:=fresh p hp
    refine kJ7 (S:=[(a,0),(c,1)]) h1 (h2.sub (.new hp)) (h3.gup f2.symm) (h4.over (h4.none f2 hp)) hnd hbn hfr jJf f1 f2 (by simp;omega) (by simp;omega) (by simp;omega) ?_
    intro G' Hs' v8 v9 i1 i2 i3 i4
    refine⟨_,_,_,_,_,_,rfl,Hs',?_,i2,i3.mono (by simp;omega),i4⟩
    rw[jVs hpe];unfold hv;rw[lJb hcn];exact i1
  ·intro τ G' h_;apply xe7 h_;clear h_;intro v4 v5 v6 v7 v8 v9 Hs h_;apply ae4 h_;clear h_;intro h1 h2 h3 h4
   rw[jZ1,lJg] at h1 h3
   wp_walk using 1,tSeq
   have ok:=h1.ok hP hn hPl
   refine⟨D,Hs,rs,rfl,h2,ok,fun G3 W s3 J=> ?_⟩
   exact kk W G3 (qZo h1 hP ok J) (h3.sub s3) (h4.trans (.sub s3))
def dgr (P:List (Nat×Nat)) (n r:Nat):Nat:=((hvs P n P.length).filter fun x=>x.1 == r).length
def jQz (n:Nat) (p:Nat×Nat):List Nat:=if p.2=n then [p.1] else [p.1,p.2]
theorem qQ0 {P Q:List (Nat×Nat)} {n:Nat}:∀k,k<=P.length->hvs (P++Q) n k=hvs P n k
 | 0,_=>rfl
 | k+1,h=>by
  have e:P[k]? =some P[k]:=lJi (by omega)
  rw[jVs e,jVs (p:=P[k]) (by rw[lKg (by omega)];exact e),qQ0 k (by omega)]
theorem qXm {P:List (Nat×Nat)} {n:Nat} {p:Nat×Nat}:hvs (P++[p]) n (P++[p]).length=hvs P n P.length++hv n P.length p:=by
 rw[lJ7,List.length_singleton,jVs (p:=p) (by simp),qQ0 _ (lJf _)]
theorem hv_cnt {n t r:Nat} {p:Nat×Nat}:((hv n t p).filter fun x=>x.1 == r).length=(jQz n p).count r:=by
 unfold hv jQz
 split
 ·by_cases h:p.1=r<;>simp[h]
 ·by_cases h:p.1=r<;>by_cases h':p.2=r<;>simp[h,h',lK8]
theorem jZ4 {P:List (Nat×Nat)} {n r:Nat} {p:Nat×Nat}:dgr (P++[p]) n r=dgr P n r+(jQz n p).count r:=by
 unfold dgr
 rw[qXm,List.filter_append,lJ7,hv_cnt]
theorem qXr {L:List (Nat×Nat×Nat)} {k:Nat}:(L.filter fun x=>decide (x.1<k+1)).length=(L.filter fun x=>decide (x.1<k)).length+(L.filter fun x=>x.1 == k).length:=by
 induction L with
 | nil=>rfl
 | cons a as ih=>
  rw[lK8,lK8,lK8]
  rcases Nat.lt_trichotomy a.1 k with h | h | h
  ·have h1:a.1<k+1:=by omega
   have h2:¬ a.1=k:=by omega
   simp[h,h1,h2,ih];omega
  ·have h1:a.1<k+1:=by omega
   simp[h,ih];omega
  ·have h1:¬ a.1<k+1:=by omega
   have h2:¬ a.1=k:=by omega
   have h3:¬ a.1<k:=by omega
   simp[h1,h2,h3,ih]
theorem qYh {L:List (Nat×Nat×Nat)} {d:Nat}:∀k,(∀r,r<k->d<=(L.filter fun x=>x.1 == r).length)->k*d<=(L.filter fun x=>decide (x.1<k)).length
 | 0,_=>by simp
 | k+1,h=>by
  rw[qXr,lQu]
  have h1:=qYh k fun r hr=>h r (by omega)
  have h2:=h k (by omega)
  omega
theorem qQ8 {P:List (Nat×Nat)} {n d k:Nat} (hd:2<=d) (hk:P.length<k):∃r,r<k/\dgr P n r<d:=by
 apply lXb
 intro h
 have h1:∀r,r<k->d<=((hvs P n P.length).filter fun x=>x.1 == r).length:=fun r hr=>by
  rcases lKe (dgr P n r) d with z | z
  ·exact absurd ⟨r,hr,z⟩ h
  ·exact z
 have h2:=qYh k h1
 have h3:=lVo (fun x:Nat×Nat×Nat=>decide (x.1<k)) (hvs P n P.length)
 have h4:=kUh (P:=P) (n:=n) P.length
 have h5:k*2<=k*d:=Nat.mul_le_mul_left k hd
 omega
theorem qXz {P:List (Nat×Nat)} {n k r:Nat} (h:∀p,p∈P->p.1<k/\p.2<k) (hr:k<=r):dgr P n r=0:=by
 unfold dgr
 rw[lQh,List.filter_eq_nil_iff]
 rintro⟨a,t,s⟩ hx
 obtain⟨p,h1,h2,h3⟩:=kJ4 hx
 have h4:=h p (lJm h1)
 have h5:=(kQd h3).2.2
 simp
 omega
def jUc (n:Nat) (f:Nat->Nat):List T:=(List.range n).map fun r=>T.int (f r)
theorem kQk {n:Nat} {f:Nat->Nat} {r:Nat} (h:r<n):L2.atI (jUc n f) (r:Int)=some (.int (f r)):=by rw[atN];simp[jUc,h]
theorem qKd {n:Nat} {f:Nat->Nat}:(jUc n f).length=n:=by simp[jUc]
theorem qKc {n:Nat} {f:Nat->Nat} {r v:Nat}:(jUc n f).set r (.int v)=jUc n fun x=>if x=r then v else f x:=by
 apply lQp
 intro i
 by_cases hi:i=r
 ·subst hi
  by_cases h:i<n
  ·rw[lKk (by simpa[jUc] using h)];simp[jUc,h]
  ·rw[lJ6 (by simp[jUc];omega),lJ6 (by simp[jUc];omega)]
 ·rw[lKf (Ne.symm hi)]
  by_cases h:i<n
  ·simp[jUc,h,hi]
  ·rw[lJ6 (by simp[jUc];omega),lJ6 (by simp[jUc];omega)]
theorem bump {E:Ends3} {G2:Gp} {u:Addr} {n:Nat} {f:Nat->Nat} {es:List Nat} {stay:Gp->Prop} {w0 w1 w2 w4 w5 w6 w7 w8 w9 w10 w11:Option T} (hu:G2 u=some (.lst (jUc n f))) (hst:∀G',(∀c,c≠u->G' c=G2 c)->stay G') (hes:∀e,e∈es->e<n)
  (kk:∀G' v7,G' u=some (.lst (jUc n fun r=>f r+es.count r))->(∀c,c≠u->G' c=G2 c)->E.nx [w0,w1,w2,some (.ref u),w4,w5,w6,v7,w8,w9,w10,w11] G'):
  uJl (jJi 7) (tAsg (tOp jKi (tOp rIxF (tVar 3) (tVar 7)) (tC (.int 1))) (gSub (tVar 3) (tVar 7) jUy)) E [w0,w1,w2,some (.ref u),w4,w5,w6,w7,w8,w9,w10,w11] (es.map fun e=>T.int (e:Nat)) stay G2:=by
 refine⟨fun j τ G'=>∃v7,τ=[w0,w1,w2,some (.ref u),w4,w5,w6,v7,w8,w9,w10,w11]/\G' u=some (.lst (jUc n fun r=>f r+(es.take j).count r))/\(∀c,c≠u->G' c=G2 c),?_,?_,?_,?_⟩
 ·exact⟨w7,rfl,by simpa using hu,fun _ _=>rfl⟩
 ·intro j τ G' hj h_;apply xe1 h_;clear h_;intro v7 h_;apply ae2 h_;clear h_;intro h1 h2
  exact hst G' h2
 ·intro j x τ G' hx0 h_;apply xe1 h_;clear h_;intro v7 h_;apply ae2 h_;clear h_;intro h1 h2
  obtain⟨e,hx,rfl⟩:=jKr hx0
  have he:=hes e (lJm hx)
  have hix:L2.ixN (jUc n fun r=>f r+(es.take j).count r).length (e:Int)=some e:=kVj (by rw[qKd];exact he)
  wp_walk using 1,jKs h1,kQk he,jZy h1 hix
  refine⟨?_,fun c hc=>by rw[jJh hc];exact h2 c hc⟩
  rw[show T.int (((f e+(es.take j).count e:Nat):Int)+1)=T.int ((f e+(es.take j).count e+1:Nat):Int) by simp,qKc]
  congr 1
  funext r
  rw[lV1,hx,Option.toList_some,List.count_append]
  by_cases hr:r=e
  ·subst hr;simp;omega
  ·have:¬ e=r:=fun z=>hr z.symm
   simp[hr,this]
 ·intro τ G' h_;apply xe1 h_;clear h_;intro v7 h_;apply ae2 h_;clear h_;intro h1 h2
  rw[lJg,lVk] at h1
  exact kk G' v7 h1 h2
structure WebOk (n d:Nat) (W:Web):Prop where
 len:W.length=n
 sym:Sym W
 deg:∀(r:Nat) (es:List (Nat×Nat)),W[r]? =some es->es.length<=d
 low:∀r,1<=r->r<n->∃i a j,en W r i=some (a,j)/\a<r
structure POk (P:List (Nat×Nat)) (n d k:Nat):Prop where
 ok:kUq P n
 deg:∀r,r<n->dgr P n r<=d
 low:∀r,1<=r->r<k->∃p,p∈P/\p.2=r/\p.1<r
theorem POk.web {P:List (Nat×Nat)} {n d:Nat} {W:Web} (h:POk P n d n) (m:Made P n W):WebOk n d W where
 len:=m.len
 sym:=m.sym
 deg:=fun r es hr=>by
  rw[m.deg r es hr];exact h.deg r (by rw[<-m.len];exact (lJe.mp hr).1)
 low:=fun r h1 h2=>by
  obtain⟨p,q1,q2,q3⟩:=h.low r h1 h2
  obtain⟨i,j,q4⟩:=m.tie p q1 (by omega)
  have:=m.sym _ _ _ _ q4
  rw[q2] at this
  exact⟨j,p.1,i,this,q3⟩
noncomputable def jYh:Sp3:=fun xs G Q=>∃(b:Addr) (n d m:Nat),xs=[.ref b,.int n,.int d]/\BoxAt G b m/\m+300<2^40/\1<=n/\n<=24/\2<=d/\d<=100/\∀W G',WebOk n d W->BoxAt G' b (m+300)->Keep b G G'->Q (encW W) G'
def uJi:List Str:=["_law_box_here","_law_many","_law_most","_law_used","_law_pairs","_law_room","_law_free","_law_end","_law_turn_here","_law_pair","_law_ends_here","_law_one"]
noncomputable def kQ2:TS3:=
 (tSeq (tAsg (tOp jVm (tLst (jJc (tC (.int 0)) tNil)) (tVar 1)) (jJi 3))
 (tSeq (tAsg (tLst tNil) (jJi 4))
 (tSeq (tFor (qZx (jJc (tC (.int 1)) (jJc (tVar 1) tNil))) (jJi 5) (tSeq (tAsg (jUs [false,false,false,false,false,false,false,false,false,false,false,true] (jKv (jJc (tVar 5) tNil)) (jJi 11) (jJs (tOp rLt (tOp rIxF (tVar 3) (tVar 11)) (tVar 2))) (tVar 11)) (jJi 6))
 (tSeq (jQf (tBM "list" jK6 (tVar 4) (jJc (tTup (jJc (tOp rIxF (tVar 6) (jJr jJq (jJc (tVar 0) (jJc (tCB rLen (jJc (tVar 6) tNil)) tNil)))) (jJc (tVar 5) tNil))) tNil)))
 (tFor (iSeq (tOp rIxF (tVar 4) (tUn rNeg (tC (.int 1))))) (jJi 7) (tAsg (tOp jKi (tOp rIxF (tVar 3) (tVar 7)) (tC (.int 1))) (gSub (tVar 3) (tVar 7) jUy))))))
 (tSeq (tFor (jKv (jJc (jJr jJq (jJc (tVar 0) (jJc (tOp jKi (tVar 1) (tC (.int 2))) tNil))) tNil)) (jJi 8) (tSeq (tAsg (tTup (jJc (jJr jJq (jJc (tVar 0) (jJc (tVar 1) tNil))) (jJc (jJr jJq (jJc (tVar 0) (jJc (tOp jKi (tVar 1) (tC (.int 1))) tNil))) tNil))) (jJi 9))
 (tSeq (tAsg (jUs [false,false,false,false,false,false,false,true,false,false,false,false] (iSeq (tVar 9)) (jJi 7) (jJs (tOp rLt (tVar 7) (tVar 1))) (tVar 7)) (jJi 10))
 (tIfS (jJs (tCB rAll (jJc (jUs [false,false,false,false,false,false,false,true,false,false,false,false] (iSeq (tVar 10)) (jJi 7) jXz (tOp rLeF (tOp jKi (tOp rIxF (tVar 3) (tVar 7)) (tBM "list" kK5 (tVar 10) (jJc (tVar 7) tNil))) (tVar 2))) tNil))) (tSeq (jQf (tBM "list" jK6 (tVar 4) (jJc (tVar 9) tNil)))
 (tFor (iSeq (tVar 10)) (jJi 7) (tAsg (tOp jKi (tOp rIxF (tVar 3) (tVar 7)) (tC (.int 1))) (gSub (tVar 3) (tVar 7) jUy)))) jKw))))
 (tRet (jJr jUt (jJc (tVar 0) (jJc (tVar 4) (jJc (tVar 1) tNil)))))))))
theorem qVp {n:Nat}:(List.replicate n [T.int 0]).flatten=jUc n fun _=>0:=by
 have:(List.replicate n [T.int 0]).flatten=List.replicate n (T.int 0):=by
  induction n with
  | zero=>rfl
  | succ n ih=>rw[lQb,lQ3,ih];rfl
 rw[this]
 apply lQp
 intro i
 by_cases h:i<n
 ·simp[jUc,h]
 ·rw[lJ6 (by simp;omega),lJ6 (by simp[jUc];omega)]
theorem qKt {lo n:Nat}:rngT lo n=(List.range n).map fun (k:Nat)=>T.int ((lo+k:Nat):Int):=by simp[rngT]
theorem uJa {es:List Nat} {r:Nat}:(es.map fun e=>T.int (e:Nat)).countP (fun z=>eqT z (.int r))=es.count r:=by
 rw[List.countP_map,List.count]
 congr 1
 funext e
 simp only[eqT,Function.comp]
 by_cases h:e=r
 ·subst h;simp
 ·have h2:¬ (e:Int)=r:=by omega
  rw[beq_eq_false_iff_ne.mpr h,beq_eq_false_iff_ne.mpr h2]
theorem kVp {es:List Nat}:(es.map fun e=>T.int (e:Nat)).all jU2=true:=by
 rw[List.all_map,lQv];intros;rfl
theorem kV6 {α:Type} {f:α->Bool}:∀ {es:List α},kYm (es.map fun e=>T.bl (f e))=some (es.all f)
 | []=>rfl
 | e::es=>by rw[lJr,kYm,kV6,lQg]
theorem qJd:RdOk jYh kQ2 uJi:=by
 intro xs G Q h_;apply xe4 h_;clear h_;intro b n d m h_;apply ae7 h_;clear h_;intro hb hm hn1 hn2 hd1 hd2 kk
 show kQ2 _ [some (.ref b),some (.int n),some (.int d),none,none,none,none,none,none,none,none,none] G
 have hs:=sz
 wp_walk using 1,kQ2,jJ1,jKv,qZx
 refine⟨by omega,fun z hz=> ?_⟩
 have e1:mulR (gup G z (GO.lst [T.int 0])) (.ref z) (.int n)=some (.newL (jUc n fun _=>0)):=by
  rw[<-qVp]
  simp only[mulR,jJf];rw[lJc];congr;refine⟨?_,?_,?_⟩<;>simp<;>omega
 wp_walk using 1,e1
 intro u hu
 obtain⟨huz,hu0⟩:=jJt hu
 refine⟨lJ2 _,fun pr hpr=> ?_⟩
 obtain⟨hpu,hpr1⟩:=jJt hpr
 obtain⟨hpz,hpr0⟩:=jJt hpr1
 obtain⟨bo,hbo⟩:=hb.some
 have hbu:=jJg hbo hu0
 have hbp:=jJg hbo hpr0
 have hbz:=jJg hbo hz
 refine⟨by omega,by omega,by omega,by omega,?_⟩
 rw[show ((n:Int)-1).toNat=n-1 by omega,show rngT 1 (n-1)=rngT ((1:Nat):Int) (n-1) from rfl,qKt]
 let J1:Nat->St3->Gp->Prop:=fun k τ G'=>∃(v5 v6 v7:Option T) (P:List (Nat×Nat)),τ=[some (.ref b),some (.int n),some (.int d),some (.ref u),some (.ref pr),v5,v6,v7,none,none,none,none]/\P.length=k/\POk P n d (k+1)/\(∀p,p∈P->p.1<k+1/\p.2<k+1)/\G' u=some (.lst (jUc n (dgr P n)))/\G' pr=some (.lst (P.map encE))/\BoxAt G' b (m+k)/\Keep b G G'
 refine⟨J1,?_,?_,?_,?_⟩
 ·refine xi4 none none none [] rfl ⟨rfl,⟨by intro p h;simp at h,fun r _=>by simp[dgr,hvs],fun r h1 h2=>by omega⟩,by intro p h;simp at h,by rw[jJh hpu.symm,jJf];rfl,jJf,((hb.gup hbz).gup hbu).gup hbp,(((Keep.new hz).over hu0).over hpr0)⟩
 ·intros;trivial
 ·intro k x τ G1 hx0 h_;apply xe4 h_;clear h_;intro v5 v6 v7 P h_;apply ae7 h_;clear h_;intro hPl hP hlt hgu hgp hbx hkp
  obtain⟨e,hx,rfl⟩:=jKr hx0
  obtain⟨hk,rfl⟩:k<n-1/\k=e:=by
   rw[lJe] at hx;obtain⟨q1,q2⟩:=hx;simp at q1 q2;exact⟨q1,q2⟩
  wp_walk using 1,iSeq,jKv,jJ1
  refine⟨by omega,by omega,?_⟩
  rw[show (((1+k:Nat)):Int).toNat=1+k by omega,jQj]
  refine jXp (fun r=>if dgr P n r<d then some (T.int (r:Nat)) else none) (by simp;omega) (fun _ _=>trivial) ?_ ?_
  ·intro i r hr G2 K K0 s2 hK hK0
   obtain⟨hr1,rfl⟩:i<1+k/\i=r:=by
    rw[lJe] at hr;obtain⟨q1,q2⟩:=hr;simp at q1 q2;exact⟨q1,q2⟩
   wp_walk using 1,jKs (s2 _ _ hgu),kQk (show i<n by omega)
   by_cases hdg:dgr P n i<d
   ·rw[lJc (by omega)]
    exact hK _ _ (by rw[lJc hdg]) (.refl _)
   ·rw[lJb (by omega)]
    exact hK0 (by rw[lJb hdg]) _ (.refl _)
  ·intro fr G2 hfr hfr2 s2
   obtain⟨F,hF1,hF2⟩:∃F:List Nat,(List.range (1+k)).filterMap (fun r=>if dgr P n r<d then some (T.int (r:Nat)) else none)=F.map (fun r=>T.int (r:Nat))/\F=(List.range (1+k)).filter fun r=>decide (dgr P n r<d):=by
    refine⟨_,?_,rfl⟩
    generalize List.range (1+k)=l
    induction l with
    | nil=>rfl
    | cons a as ih=>
     rw[lQ1,lK8]
     by_cases h:dgr P n a<d<;>simp[h,ih]
   rw[hF1] at hfr2
   have hFl:F.length<=1+k:=by rw[hF2];have:=lVo (fun r=>decide (dgr P n r<d)) (List.range (1+k));rw[lKw] at this;exact this
   have hF0:1<=F.length:=by
    obtain⟨r,q1,q2⟩:=qQ8 (P:=P) (n:=n) (d:=d) (k:=1+k) hd1 (by omega)
    have:r∈F:=by rw[hF2,lQq];exact⟨lKy.mpr q1,by simpa using q2⟩
    exact List.length_pos_of_mem this
   have hgp2:=s2 _ _ hgp
   wp_walk using 1,jKc hgp2,jJl hfr2,List.length_map
   refine⟨b,_,m+k,rfl,hbx.sub s2,by omega,by omega,by omega,fun c G3 c0 c1 bx kp=> ?_⟩
   have hfb:fr≠b:=by rintro rfl;obtain⟨o,ho⟩:=hbx.some;rw[ho] at hfr;cases hfr
   have hcF:c.toNat<F.length:=by omega
   have hca:L2.atI (F.map fun r=>T.int (r:Nat)) c=some (.int (F[c.toNat]:Nat)):=by rw[atZ c0];simp[hcF]
   have hmem:F[c.toNat]∈F:=lVm hcF
   generalize F[c.toNat]=a at hca hmem
   rw[hF2,lQq] at hmem
   have ha1:a<1+k:=lKy.mp hmem.1
   have ha2:dgr P n a<d:=by simpa using hmem.2
   have hgp3:=kp _ _ hbp.symm hgp2
   have hgu3:=kp _ _ hbu.symm (s2 _ _ hgu)
   wp_walk using 1,jKs (kp _ _ hfb hfr2),hca,hgp3
   refine⟨by omega,by simp;omega,_,uJf,[T.int (a:Nat),T.int ((1+k:Nat):Int)],rfl,?_⟩
   have hne:u≠pr:=hpu.symm
   have hE:jQz n (a,1+k)=[a,1+k]:=by unfold jQz;rw[lJb (show ¬ (1+k)=n by omega)]
   refine bump (es:=[a,1+k]) (n:=n) (f:=dgr P n) (by rw[jJh hne];exact hgu3) (fun _ _=>rfl) (by simp;omega) ?_
   intro G4 v7 hu4 hk4
   have hlt':∀p,p∈P++[(a,1+k)]->p.1<k+1+1/\p.2<k+1+1:=by
    intro p hp
    rw[lKt,lJ1] at hp
    rcases hp with hp | rfl
    ·have:=hlt p hp;omega
    ·exact⟨by show a<_;omega,by show 1+k<_;omega⟩
   refine xi4 _ _ _ (P++[(a,1+k)]) rfl ⟨by simp[hPl],⟨?_,?_,?_⟩,hlt',?_,?_,?_,?_⟩
   ·intro p hp
    have:=hlt' p hp;omega
   ·intro r hr
    rw[jZ4,hE]
    have h0:=hP.deg r hr
    have hz1:=qXz (n:=n) (r:=1+k) hlt (by omega)
    by_cases h1:r=a
    ·subst h1
     have:¬ 1+k=r:=by omega
     simp[this];omega
    ·have h1':¬ a=r:=fun z=>h1 z.symm
     by_cases h2:1+k=r
     ·subst h2;simp[h1'];omega
     ·simp[h1',h2];omega
   ·intro r h1 h2
    by_cases h3:r<k+1
    ·obtain⟨p,q1,q2⟩:=hP.low r h1 h3
     exact⟨p,lQe _ q1,q2⟩
    ·exact⟨(a,1+k),by simp,by show 1+k=r;omega,by show a<r;omega⟩
   ·rw[hu4,show (fun r=>dgr P n r+List.count r [a,1+k])=dgr (P++[(a,1+k)]) n from funext fun r=>by rw[jZ4,hE]]
   ·rw[hk4 pr hpu,jJf];simp[encE]
   ·obtain⟨x,y,w,z1,z2⟩:=bx
    exact⟨x,y,w,by rw[hk4 b hbu,jJh hbp];exact z1,z2⟩
   ·intro c o hc he
    have hcu:=jJg he hu0
    have hcp:=jJg he hpr0
    rw[hk4 c hcu,jJh hcp]
    exact kp _ _ hc (s2 _ _ (hkp _ _ hc he))
 ·intro τ G1 h_;apply xe4 h_;clear h_;intro v5 v6 v7 P h_;apply ae7 h_;clear h_;intro hPl hP hlt hgu hgp hbx hkp
  rw[lJg,lKw] at hPl hP hbx
  rw[show n-1+1=n by omega] at hP
  wp_walk using 1,jJ1,jKv
  refine⟨b,_,m+(n-1),rfl,hbx,by omega,by omega,by omega,fun q G2 q0 q1 bx kp=> ?_⟩
  refine⟨q,rfl,by omega,by omega,?_⟩
  let J2:Nat->St3->Gp->Prop:=fun k τ G'=>∃(v7 v8 v9 v10 v11:Option T) (P:List (Nat×Nat)),τ=[some (.ref b),some (.int n),some (.int d),some (.ref u),some (.ref pr),v5,v6,v7,v8,v9,v10,v11]/\P.length<=n+k/\POk P n d n/\G' u=some (.lst (jUc n (dgr P n)))/\G' pr=some (.lst (P.map encE))/\BoxAt G' b (m+n+2*k)/\Keep b G G'
  refine⟨J2,?_,?_,?_,?_⟩
  ·exact xi6 _ _ _ _ _ P rfl ⟨by omega,hP,kp _ _ hbu.symm hgu,kp _ _ hbp.symm hgp,bx.mono (by omega),hkp.trans kp⟩
  ·intros;trivial
  ·intro k x τ G3 hx0 h_;apply xe6 h_;clear h_;intro v7 v8 v9 v10 v11 P h_;apply ae6 h_;clear h_;intro hPl hP hgu hgp hbx hkp
   have hk:k<q.toNat:=by have:=(lJe.mp hx0).1;rw[jUb] at this;exact this
   wp_walk using 1,jJ1,iSeq
   refine⟨b,_,_,rfl,hbx,by omega,by omega,by omega,fun c G4 c0 c1 bx4 kp4=> ?_⟩
   refine⟨b,_,_,rfl,bx4,by omega,by omega,by omega,fun e G5 e0 e1 bx5 kp5=> ?_⟩
   obtain⟨a,rfl⟩:=lKv c0
   obtain⟨y,rfl⟩:=lKv e0
   have ha:a<n:=by omega
   have hy:y<=n:=by omega
   have kp35:=kp4.trans kp5
   have hgu5:=kp35 _ _ hbu.symm hgu
   have hgp5:=kp35 _ _ hbp.symm hgp
   refine⟨by omega,?_⟩
   have hEn:∀e',e'∈jQz n (a,y)->e'<n:=by
    intro e' he'
    unfold jQz at he'
    split at he'<;>simp at he'<;>simp at * <;>omega
   have hEl:(jQz n (a,y)).length<=2:=by unfold jQz;split<;>simp
   refine jXp (es:=[a,y]) (enc:=fun r:Nat=>T.int r) (fun r=>if r<n then some (T.int (r:Nat)) else none) (by simp;omega) (fun _ _=>trivial) ?_ ?_
   ·intro i r hr G6 K K0 s6 hK hK0
    wp_walk using 1,tSeq
    by_cases hrn:r<n
    ·rw[lJc (by omega)]
     exact hK _ _ (by rw[lJc hrn]) (.refl _)
    ·rw[lJb (by omega)]
     exact hK0 (by rw[lJb hrn]) _ (.refl _)
   ·intro en G6 hen hen6 s6
    have hEE:List.filterMap (fun r=>if r<n then some (T.int (r:Nat)) else none) [a,y]=(jQz n (a,y)).map fun r=>T.int (r:Nat):=by
     unfold jQz
     by_cases hyn:y=n
     ·simp[ha,hyn]
     ·have:y<n:=by omega
      simp[ha,hyn,this]
    rw[hEE] at hen6
    refine⟨_,jJl hen6,?_⟩
    refine jQw (fun r=>T.bl (decide (dgr P n r+(jQz n (a,y)).count r<=d))) (by omega) (fun G' s=>jJl (s _ _ hen6)) ?_ ?_
    ·intro i r hr G7 K K0 s7 hK
     have hrn:=hEn r (lJm hr)
     wp_walk using 1,jKs (s7 _ _ (s6 _ _ hgu5)),kQk hrn,jKc (s7 _ _ hen6),kK5,s7 _ _ hen6,rLeF
     refine⟨rfl,kVp,?_⟩
     rw[uJa,show decide (((dgr P n r:Nat):Int)+((jQz n (a,y)).count r:Nat)<=(d:Nat))=decide (dgr P n r+(jQz n (a,y)).count r<=d) from decide_eq_decide.mpr (by omega)]
     exact hK _ (.refl _)
    ·intro al G7 hal hal7 s7
     refine⟨al,_,_,rfl,hal7,kV6,_,rfl,?_⟩
     have s57:=s6.trans s7
     have hgp7:=s57 _ _ hgp5
     have hgu7:=s57 _ _ hgu5
     have henp:en≠pr:=(jJg hgp5 hen).symm
     have henu:en≠u:=(jJg hgu5 hen).symm
     have hkp7:Keep b G G7:=(hkp.trans kp35).trans (.sub s57)
     split
     ·rename_i hall
      rw[lQv] at hall
      refine⟨by rw[jKc hgp7];trivial,_,hgp7,by simp;omega,_,jJl (by rw[jJh henp];exact s7 _ _ hen6),?_⟩
      refine bump (es:=jQz n (a,y)) (n:=n) (f:=dgr P n) (by rw[jJh hpu.symm];exact hgu7) (fun G' hG'=>jJl (by rw[hG' _ henu,jJh henp];exact s7 _ _ hen6)) hEn ?_
      intro G8 w7 hu8 hk8
      refine xi6 _ _ _ _ _ (P++[(a,y)]) rfl ⟨by simp;omega,⟨?_,?_,?_⟩,?_,?_,?_,?_⟩
      ·intro p hp
       rw[lKt,lJ1] at hp
       rcases hp with hp | rfl
       ·exact hP.ok p hp
       ·exact⟨ha,hy⟩
      ·intro r hr
       rw[jZ4]
       by_cases hm:r∈jQz n (a,y)
       ·simpa using hall r hm
       ·rw[List.count_eq_zero_of_not_mem hm];exact hP.deg r hr
      ·intro r h1 h2
       obtain⟨p,q1,q2⟩:=hP.low r h1 h2
       exact⟨p,lQe _ q1,q2⟩
      ·rw[hu8,show (fun r=>dgr P n r+List.count r (jQz n (a,y)))=dgr (P++[(a,y)]) n from funext fun r=>by rw[jZ4]]
      ·rw[hk8 pr hpu,jJf];simp[encE]
      ·obtain⟨x1,y1,w,z1,z2⟩:=(bx5.sub s57).mono (show m+n+2*k+1+1<=m+n+2*(k+1) by omega)
       exact⟨x1,y1,w,by rw[hk8 b hbu,jJh hbp];exact z1,z2⟩
      ·intro c o hc he
       have hcu:=jJg he hu0
       have hcp:=jJg he hpr0
       rw[hk8 c hcu,jJh hcp]
       exact hkp7 _ _ hc he
     ·exact xi6 _ _ _ _ _ P rfl ⟨by omega,hP,hgu7,hgp7,(bx5.sub s57).mono (by omega),hkp7⟩
  ·intro τ G3 h_;apply xe6 h_;clear h_;intro v7 v8 v9 v10 v11 P h_;apply ae6 h_;clear h_;intro hPl hP hgu hgp hbx hkp
   rw[jUb] at hPl hbx
   wp_walk using 1,tSeq
   refine⟨b,pr,P,n,_,rfl,hbx,by omega,hbp.symm,hgp,hP.ok,by omega,by omega,fun W G4 mw bx4 kp4=> ?_⟩
   exact kk W G4 (hP.web mw) (bx4.mono (by omega)) (hkp.trans kp4)
def Conn (W:Web):Prop:=∀S:Nat->Prop,S 0->(∀r i s j,S r->en W r i=some (s,j)->S s)->∀r,r<W.length->S r
theorem WebOk.conn {n d:Nat} {W:Web} (h:WebOk n d W):Conn W:=by
 intro S h0 hst r
 induction r using Nat.strongRecOn with
 | ind r ih=>
  intro hr
  by_cases hz:r=0
  ·subst hz;exact h0
  ·obtain⟨i,a,j,q1,q2⟩:=h.low r (by omega) (by rw[<-h.len];exact hr)
   exact hst a j r i (ih a q2 (by omega)) (h.sym _ _ _ _ q1)
theorem kUj {W:Web} {r i:Nat} {e:Nat×Nat} (h:en W r i=some e):r<W.length:=by
 obtain⟨es,h1,h2⟩:=jQu h
 exact (lJe.mp h1).1
def ring (n:Nat):Web:=(List.range n).map fun r=>[((r+1)%n,1),((r+n-1)%n,0)]
theorem kZu {n r:Nat} (h:r<n):en (ring n) r 0=some ((r+1)%n,1):=jYw (es:=[((r+1)%n,1),((r+n-1)%n,0)]) (by simp[ring,h]) rfl
theorem kUi {n r:Nat} (h:r<n):en (ring n) r 1=some ((r+n-1)%n,0):=jYw (es:=[((r+1)%n,1),((r+n-1)%n,0)]) (by simp[ring,h]) rfl
theorem kQw {n:Nat}:(ring n).length=n:=by simp[ring]
theorem qY6 {n:Nat} (hn:1<=n):WebOk n 2 (ring n) where
 len:=kQw
 sym:=by
  intro r i s j h
  have hr:r<n:=by have:=kUj h;rwa [kQw] at this
  have hi:i=0\/i=1:=by
   obtain⟨es,h1,h2⟩:=jQu h
   have:es=[((r+1)%n,1),((r+n-1)%n,0)]:=by simp[ring,hr] at h1;exact h1.symm
   subst this
   have:=(lJe.mp h2).1
   simp at this;omega
  rcases hi with rfl | rfl
  ·rw[kZu hr] at h;cases h
   rw[kUi (lQ5 _ (by omega))]
   congr 2
   by_cases hz:r+1=n
   ·rw[hz,Nat.mod_self];rw[lK6 (by omega)];omega
   ·rw[lK6 (show r+1<n by omega),show r+1+n-1=r+n by omega,Nat.add_mod_right,lK6 hr]
  ·rw[kUi hr] at h;cases h
   rw[kZu (lQ5 _ (by omega))]
   congr 2
   by_cases hz:r=0
   ·subst hz;rw[lK6 (show 0+n-1<n by omega),show 0+n-1+1=n by omega,Nat.mod_self]
   ·rw[show r+n-1=(r-1)+n by omega,Nat.add_mod_right,lK6 (show r-1<n by omega),show r-1+1=r by omega,lK6 hr]
 deg:=fun r es hr=>by
  have hrl:r<n:=by have:=(lJe.mp hr).1;rwa [kQw] at this
  simp[ring,hrl] at hr;rw[<-hr];simp
 low:=fun r h1 h2=>⟨1,r-1,0,by rw[kUi h2,show r+n-1=(r-1)+n by omega,Nat.add_mod_right,lK6 (show r-1<n by omega)],by omega⟩
def kJf:Sp3:=fun xs G Q=>∃n:Nat,xs=[.int n]/\1<=n/\n<=1000/\∀G',Sub G G'->Q (encW (ring n)) G'
def qX9:List Str:=["_law_many","_law_room"]
noncomputable def kJp:TS3:=
 (tRet (tCB jKp (jJc (jUs [false,true] (jKv (jJc (tVar 0) tNil)) (jJi 1) jXz (tTup (jJc (tTup (jJc (tOp rMod (tOp jKi (tVar 1) (tC (.int 1))) (tVar 0)) (jJc (tC (.int 1)) tNil))) (jJc (tTup (jJc (tOp rMod (tOp rSub (tVar 1) (tC (.int 1))) (tVar 0)) (jJc (tC (.int 0)) tNil))) tNil)))) tNil)))
theorem kXq:RdOk kJf kJp qX9:=by
 intro xs G Q h_;apply xe1 h_;clear h_;intro n h_;apply ae3 h_;clear h_;intro hn1 hn2 kk
 show kJp _ [some (.int n),none] G
 have hs:=sz
 wp_walk using 1,kJp,jKv
 refine⟨by omega,by omega,?_⟩
 rw[show ((n:Int)).toNat=n by omega,jQj]
 refine jQw (fun r=>encR [((r+1)%n,1),((r+n-1)%n,0)]) (by simp;omega) (fun _ _=>trivial) ?_ ?_
 ·intro i r hr G' K K0 s hk
  have hrn:r<n:=by
   rw[lJe] at hr;obtain⟨q1,q2⟩:=hr;simp at q1 q2;omega
  wp_walk using 1,tSeq
  have e1:((r:Int)+1)%(n:Int)=(((r+1)%n:Nat):Int):=by simp
  have e2:((r:Int)-1)%(n:Int)=(((r+n-1)%n:Nat):Int):=by
   rw[Int.natCast_emod,show ((r+n-1:Nat):Int)=(r:Int)-1+n by omega,Int.add_emod_right]
  rw[e1,e2]
  refine⟨by omega,by omega,by omega,by omega,by omega,?_⟩
  exact hk _ (.refl _)
 ·intro D G' hD h1 h2
  wp_walk using 1,jJl h1
  have:=kk G' h2
  rw[encW,ring,lK0] at this
  exact this
structure Fine (W:Web):Prop where
 len:W.length<=1000
 row:∀(r:Nat) (es:List (Nat×Nat)),W[r]? =some es->es.length<=1000
 rng:∀r i s j,en W r i=some (s,j)->s<W.length
theorem jUi {W:Web} {r:Nat} {es:List (Nat×Nat)} (h:W[r]? =some es):L2.atI (W.map encR) (r:Int)=some (encR es):=by rw[atN];simp[h]
theorem qUi {es:List (Nat×Nat)} {i:Nat} {e:Nat×Nat} (h:es[i]? =some e):L2.atI (es.map encE) (i:Int)=some (encE e):=by rw[atN];simp[h]
theorem jYk {n k:Nat} {x:T} (h:(rngT 0 n)[k]? =some x):k<n/\x= .int (k:Nat):=kY1 h
def leE (a b:Nat×Nat):Bool:=HT.lexLe [(a.1:Int),(a.2:Int)] [(b.1:Int),(b.2:Int)]
theorem leE_iff {a b:Nat×Nat}:leE a b=true↔(a.1<b.1\/(a.1=b.1/\a.2<=b.2)):=by
 unfold leE
 rw[HT.lexLe_cons,HT.lexLe_cons,HT.lexLe_nil]
 by_cases h1:a.1=b.1
 ·rw[lJc (by omega)]
  by_cases h2:a.2=b.2
  ·rw[lJc (by omega)];simp;omega
  ·rw[lJb (by omega)];simp;omega
 ·rw[lJb (by omega)];simp;omega
abbrev Tie:=(Nat×Nat)×(Nat×Nat)
def encT (x:Tie):T:= .tup [encE x.1,encE x.2]
def jZt (r:Nat) (es:List (Nat×Nat)) (i:Nat):Option Tie:=match es[i]? with
 | some e=>if leE (r,i) e=true then some ((r,i),e) else none
 | none=>none
def rowE (W:Web) (r:Nat):List Tie:=match W[r]? with
 | some es=>(List.range es.length).filterMap (jZt r es)
 | none=>[]
def jK9 (W:Web):List Tie:=(List.range W.length).flatMap (rowE W)
theorem jXq {r i:Nat} {es:List (Nat×Nat)} {x:Tie} (h:jZt r es i=some x):x.1=(r,i)/\es[i]? =some x.2/\leE x.1 x.2=true:=by
 unfold jZt at h
 split at h
 ·rename_i e he
  split at h
  ·rename_i hl;cases h;exact⟨rfl,he,hl⟩
  ·cases h
 ·cases h
theorem endsL_mem {W:Web} {x:Tie}:x∈jK9 W↔en W x.1.1 x.1.2=some x.2/\leE x.1 x.2=true:=by
 obtain⟨⟨r,i⟩,e⟩:=x
 unfold jK9
 rw[lQ4]
 constructor
 ·rintro⟨r',h1,h2⟩
  unfold rowE at h2
  split at h2
  ·rename_i es hes
   rw[lQ2] at h2
   obtain⟨i',h3,h4⟩:=h2
   obtain⟨q1,q2,q3⟩:=jXq h4
   cases q1
   exact⟨jYw hes q2,q3⟩
  ·cases h2
 ·rintro⟨h1,h2⟩
  obtain⟨es,q1,q2⟩:=jQu h1
  refine⟨r,lKy.mpr (lJe.mp q1).1,?_⟩
  unfold rowE
  rw[q1]
  show _∈List.filterMap _ _
  rw[lQ2]
  refine⟨i,lKy.mpr (lJe.mp q2).1,?_⟩
  have q2:es[i]? =some e:=q2
  unfold jZt
  rw[q2]
  show (if leE (r,i) e=true then _ else _)=_
  rw[lJc h2]
theorem pw_fm {α β:Type} {f:α->Option β} {R:β->β->Prop} {xs:List α} (hx:xs.Nodup) (h:∀a a' b b',a≠a'->f a=some b->f a'=some b'->R b b'):(xs.filterMap f).Pairwise R:=by
 rw[List.pairwise_filterMap]
 exact hx.imp fun hne b hb b' hb'=>h _ _ b b' hne hb hb'
theorem kYf {W:Web}:(jK9 W).Nodup:=by
 unfold jK9
 have h:∀l:List Nat,l.Nodup->(l.flatMap (rowE W)).Nodup:=by
  intro l hl
  induction l with
  | nil=>exact lVy
  | cons a as ih=>
   rw[lKd] at hl
   rw[List.flatMap_cons,lQk]
   refine⟨?_,ih hl.2,?_⟩
   ·unfold rowE
    split
    ·refine pw_fm List.nodup_range ?_
     rintro i i' x x' hne hx hx' rfl
     have q1:=(jXq hx).1
     have q2:=(jXq hx').1
     rw[q1] at q2;cases q2;exact hne rfl
    ·exact lVy
   ·intro x hx y hy
    rintro rfl
    rw[lQ4] at hy
    obtain⟨a',h1,h2⟩:=hy
    have fst:∀r,x∈rowE W r->x.1.1=r:=by
     intro r hr
     unfold rowE at hr
     split at hr
     ·rw[lQ2] at hr
      obtain⟨i,_,h4⟩:=hr
      rw[(jXq h4).1]
     ·cases hr
    have:a=a':=(fst a hx).symm.trans (fst a' h2)
    subst this;exact hl.1 h1
 exact h _ List.nodup_range
def jYi:Sp3:=fun xs G Q=>∃W:Web,xs=[encW W]/\Fine W/\∀p G',G p=none->G' p=some (.lst ((jK9 W).map encT))->(jK9 W).length<=1000000->Sub G G'->Q (.ref p) G'
def qYb:List Str:=["_law_web_here","_law_found","_law_room","_law_door"]
noncomputable def kJr:TS3:=
 (tSeq (tAsg (tLst tNil) (jJi 1))
 (tSeq (tFor (jKv (jJc (tCB rLen (jJc (tVar 0) tNil)) tNil)) (jJi 2) (tFor (jKv (jJc (tCB rLen (jJc (tOp rIxF (tVar 0) (tVar 2)) tNil)) tNil)) (jJi 3) (tIfS (jJs (tOp rLeF (tTup (jJc (tVar 2) (jJc (tVar 3) tNil))) (tOp rIxF (tOp rIxF (tVar 0) (tVar 2)) (tVar 3)))) (jQf (tBM "list" jK6 (tVar 1) (jJc (tTup (jJc (tTup (jJc (tVar 2) (jJc (tVar 3) tNil))) (jJc (tOp rIxF (tOp rIxF (tVar 0) (tVar 2)) (tVar 3)) tNil))) tNil))) jKw)))
 (tRet (tVar 1))))
theorem kXs:RdOk jYi kJr qYb:=by
 intro xs G Q h_;apply xe1 h_;clear h_;intro W h_;apply ae2 h_;clear h_;intro fine kk
 show kJr _ [some (.tup (W.map encR)),none,none,none] G
 have hs:=sz
 have hl:=fine.len
 wp_walk using 1,kJr,jJ1,jKv,List.length_map
 refine⟨lJ2 _,fun p hp=>⟨by omega,by omega,?_⟩⟩
 rw[show ((W.length:Int)).toNat=W.length by omega]
 refine⟨fun k τ G'=>∃(v2 v3:Option T),τ=[some (.tup (W.map encR)),some (.ref p),v2,v3]/\G' p=some (.lst (((List.range k).flatMap (rowE W)).map encT))/\((List.range k).flatMap (rowE W)).length<=1000*k/\Sub G G',?_,?_,?_,?_⟩
 ·exact⟨none,none,rfl,jJf,lJ2 _,.new hp⟩
 ·intros;trivial
 ·intro k x τ G1 hx h_;apply xe2 h_;clear h_;intro v2 v3 h_;apply ae3 h_;clear h_;intro h1 h2 h3
  obtain⟨hk,rfl⟩:=jYk hx
  have hW:W[k]? =some W[k]:=lJi hk
  generalize W[k]=es at hW
  have hes:=fine.row k es hW
  wp_walk using 1,jJ1,jKv,jUi hW,encR,List.length_map
  refine⟨by omega,by omega,?_⟩
  rw[show ((es.length:Int)).toNat=es.length by omega]
  refine⟨fun i τ G'=>∃(v3:Option T),τ=[some (.tup (W.map encR)),some (.ref p),some (.int k),v3]/\G' p=some (.lst (((List.range k).flatMap (rowE W)++(List.range i).filterMap (jZt k es)).map encT))/\((List.range k).flatMap (rowE W)++(List.range i).filterMap (jZt k es)).length<=1000*k+i/\Sub G G',?_,?_,?_,?_⟩
  ·exact⟨v3,rfl,by simpa using h1,by simpa using h2,h3⟩
  ·intros;trivial
  ·intro i x τ G2 hx h_;apply xe1 h_;clear h_;intro v3 h_;apply ae3 h_;clear h_;intro i1 i2 i3
   obtain⟨hi,rfl⟩:=jYk hx
   have hE:es[i]? =some es[i]:=lJi hi
   generalize es[i]=e at hE
   wp_walk using 1,rLeF,jUi hW,encR,qUi hE,encE,jKc i1,i1
   refine⟨by omega,?_⟩
   have hle:HT.lexLe [(k:Int),(i:Int)] [(e.1:Int),(e.2:Int)]=leE (k,i) e:=rfl
   rw[hle]
   by_cases hc:leE (k,i) e=true
   ·have hcell:jZt k es i=some ((k,i),e):=by unfold jZt;rw[hE];show (if _ then _ else _)=_;rw[lJc hc]
    rw[lJc hc]
    refine⟨by omega,by omega,by rw[lJg];omega,?_,?_,i3.over hp⟩
    ·rw[lKi,lQj];simp[hcell,encT,encE]
    ·rw[lKi,lQj,lJ7,lJ7]
     rw[lJ7] at i2
     simp[hcell] at i2 ⊢; omega
   ·have hcell:jZt k es i=none:=by unfold jZt;rw[hE];show (if _ then _ else _)=_;rw[lJb hc]
    rw[lJb hc]
    refine⟨?_,?_,i3⟩
    ·rw[lKi,lQj];simp[hcell]
    ·rw[lKi,lQj];simp[hcell];simp at i2;omega
  ·intro τ G' h_;apply xe1 h_;clear h_;intro v3 h_;apply ae3 h_;clear h_;intro i1 i2 i3
   rw[jUb] at i1 i2
   have e1:(List.range (k+1)).flatMap (rowE W)=(List.range k).flatMap (rowE W)++(List.range es.length).filterMap (jZt k es):=by
    rw[lKi,lV4]
    congr 1
    simp[rowE,hW]
   refine⟨_,_,rfl,by rw[e1];exact i1,by rw[e1];omega,i3⟩
 ·intro τ G1 h_;apply xe2 h_;clear h_;intro v2 v3 h_;apply ae3 h_;clear h_;intro h1 h2 h3
  rw[jUb] at h1 h2
  wp_walk using 1,tSeq
  exact kk p G1 hp h1 (by show ((List.range W.length).flatMap (rowE W)).length<=_;omega) h3
def jJo (F:List Nat):List T:=F.map fun e=>T.int (e:Nat)
theorem qXh {F:List Nat} {r:Nat}:inT (.int r) (jJo F)=F.contains r:=by
 unfold inT jJo
 rw[List.any_map,List.contains_eq_any_beq]
 congr 1
 funext e
 simp only[Function.comp,eqT]
 by_cases h:e=r
 ·subst h;simp
 ·have h2:¬ (e:Int)=r:=by omega
  have h3:¬ r=e:=fun z=>h z.symm
  rw[beq_eq_false_iff_ne.mpr h3,beq_eq_false_iff_ne.mpr h2]
theorem qXi {G:Gp} {p:Addr} {F:List Nat} {r:Nat} (h:G p=some (.lst (jJo F))):inR G (.int r) (.ref p)=some (F.contains r):=by
 unfold inR
 rw[jJl h]
 show (if _ then _ else _)=_
 rw[lJc ⟨rfl,kVp⟩,qXh]
theorem jJ5:∀ {n:Nat} {F:List Nat} (hn:F.Nodup) (hl:∀x,x∈F->x<n),F.length<=n
 | 0,F,hn,hl=>by
  cases F with
  | nil=>exact lJf _
  | cons a as=>exact absurd (hl a (lKm)) (lK5 _)
 | n+1,F,hn,hl=>by
  have h1:=jJ5 (n:=n) (hn.erase n) (fun x hx=>by
   rw[hn.mem_erase_iff] at hx
   have:=hl x hx.2;omega)
  by_cases h:n∈F
  ·rw[List.length_erase_of_mem h] at h1;omega
  ·rw[List.erase_of_not_mem h] at h1;omega
theorem kVg {F:List Nat} {n:Nat} (hn:F.Nodup) (hl:∀x,x∈F->x<n) (he:F.length=n):∀r,r<n->r∈F:=by
 intro r hr
 apply lXb
 intro hm
 have:(r::F).length<=n:=jJ5 (lKd.mpr ⟨hm,hn⟩) (fun x hx=>by rw[lJj] at hx;rcases hx with rfl | hx;exact hr;exact hl x hx)
 simp at this;omega
def Closed (W:Web) (S:Nat->Prop):Prop:=∀r i s j,S r->en W r i=some (s,j)->S s
structure Found (W:Web) (r0:Nat) (F:List Nat):Prop where
 nd:F.Nodup
 lt:∀x,x∈F->x<W.length
 got:∀S,S r0->Closed W S->∀x,x∈F->S x
def vis (F:List Nat) (es:List (Nat×Nat)):List Nat:=es.foldl (fun F e=>if F.contains e.1=true then F else F++[e.1]) F
def row (W:Web) (r:Nat):List (Nat×Nat):=(W[r]?).getD []
theorem qKs {W:Web} {r:Nat} {es:List (Nat×Nat)} (h:W[r]? =some es):row W r=es:=by unfold row;rw[h];rfl
theorem jZv {F:List Nat} {es:List (Nat×Nat)} {j:Nat} {e:Nat×Nat} (h:es[j]? =some e):vis F (es.take (j+1))=if (vis F (es.take j)).contains e.1=true then vis F (es.take j) else vis F (es.take j)++[e.1]:=by
 unfold vis
 rw[lV1,h,List.foldl_append];rfl
def bfsN (W:Web):Nat->Nat->List Nat->List Nat
 | 0,_,F=>F
 | n+1,k,F=>match F[k]? with
  | some r=>bfsN W n (k+1) (vis F (row W r))
  | none=>F
def bfs (W:Web) (r:Nat):List Nat:=bfsN W W.length 0 [r]
theorem kKe {W:Web} {n k:Nat} {F:List Nat} (h:F.length<=k):bfsN W n k F=F:=by
 cases n with
 | zero=>rfl
 | succ n=>rw[bfsN,lJ6 h]
theorem kKd {W:Web} {n k r:Nat} {F:List Nat} (h:F[k]? =some r):bfsN W (n+1) k F=bfsN W n (k+1) (vis F (row W r)):=by rw[bfsN,h]
noncomputable def jV0:Sp3:=fun xs G Q=>∃(W:Web) (r0:Nat),xs=[encW W,.int r0]/\Fine W/\r0<W.length/\∀p G' F,G p=none->G' p=some (.lst (jJo F))->Found W r0 F->F=bfs W r0->Sub G G'->Q (.ref p) G'
def kYq:List Str:=["_law_web_here","_law_room","_law_found","_law_at","_law_other","_law_door"]
noncomputable def jV6:TS3:=
 (tSeq (tAsg (tLst (jJc (tVar 1) tNil)) (jJi 2))
 (tSeq (tAsg (tC (.int 0)) (jJi 3))
 (tSeq (kJb (jJs (tOp rLt (tVar 3) (tCB rLen (jJc (tVar 2) tNil)))) (tSeq (tFor (iSeq (tOp rIxF (tVar 0) (tOp rIxF (tVar 2) (tVar 3)))) (gTup 2 (jKt (jJi 4) (jKt (jJi 5) gNil))) (tIfS (jJs (tOp jQm (tVar 4) (tVar 2))) (jQf (tBM "list" jK6 (tVar 2) (jJc (tVar 4) tNil))) jKw))
 (tAsg (tOp jKi (tVar 3) (tC (.int 1))) (jJi 3))))
 (tRet (tVar 2)))))
theorem kKm:RdOk jV0 jV6 kYq:=by
 intro xs G Q h_;apply xe2 h_;clear h_;intro W r0 h_;apply ae3 h_;clear h_;intro fine hr0 kk
 show jV6 _ [some (.tup (W.map encR)),some (.int r0),none,none,none,none] G
 have hs:=sz
 have hl:=fine.len
 wp_walk using 1,jV6,kJb,jJ1
 refine⟨by omega,fun p hp=> ?_⟩
 refine⟨fun m τ G'=>∃(at':Nat) (v4 v5:Option T) (F:List Nat),τ=[some (.tup (W.map encR)),some (.int r0),some (.ref p),some (.int at'),v4,v5]/\G' p=some (.lst (jJo F))/\Found W r0 F/\Sub G G'/\bfs W r0=bfsN W (W.length-at') at' F/\m=W.length-at',⟨_,0,none,none,[r0],rfl,jJf,⟨by simp,by simpa using hr0,fun S h0 _ x hx=>by rw[lJ1] at hx;rw[hx];exact h0⟩,.new hp,rfl,rfl⟩,?_⟩
 intro m τ G1 h_;apply xe4 h_;clear h_;intro at' v4 v5 F h_;apply ae5 h_;clear h_;intro h1 h2 h3 hB e4_
 subst e4_
 wp_walk using 1,iSeq,jJl h1,jKs h1
 have hFl:=jJ5 h2.nd h2.lt
 split
 ·rename_i hc
  have hat:at'<F.length:=by rw[jJo,lJg] at hc;omega
  have hF:F[at']? =some F[at']:=lJi hat
  have hfm:F[at']∈F:=lVm hat
  generalize F[at']=r at hF hfm
  have hrW:=h2.lt r hfm
  have hW:W[r]? =some W[r]:=lJi hrW
  generalize W[r]=es at hW
  have hatI:L2.atI (jJo F) (at':Int)=some (.int r):=by rw[atN];simp[jJo,hF]
  wp_walk using 1,hatI,jUi hW,encR
  refine⟨fun τ G'=>∃(v4 v5:Option T) (F:List Nat),τ=[some (.tup (W.map encR)),some (.int r0),some (.ref p),some (.int ((at'+1:Nat):Int)),v4,v5]/\G' p=some (.lst (jJo F))/\Found W r0 F/\Sub G G'/\bfs W r0=bfsN W (W.length-(at'+1)) (at'+1) F,?_,?_⟩
  ·intro τ' G' h_;apply xe3 h_;clear h_;intro v4 v5 F' h_;apply ae4 h_;clear h_;intro i1 i2 i3 iB
   exact⟨W.length-(at'+1),by omega,at'+1,v4,v5,rfl,F',i1,i2,i3,iB,rfl⟩
  ·refine⟨fun j τ G'=>∃(v4 v5:Option T) (F':List Nat),τ=[some (.tup (W.map encR)),some (.int r0),some (.ref p),some (.int at'),v4,v5]/\G' p=some (.lst (jJo F'))/\r∈F'/\Found W r0 F'/\Sub G G'/\F'=vis F (es.take j),?_,?_,?_,?_⟩
   ·exact⟨v4,v5,F,rfl,h1,hfm,h2,h3,rfl⟩
   ·intros;trivial
   ·intro j x τ G2 hx0 h_;apply xe3 h_;clear h_;intro v4 v5 F0 h_;apply ae5 h_;clear h_;intro i1 i2 i3 i4 iB
    obtain⟨⟨s,t⟩,hx,rfl⟩:=jKr hx0
    have hen:=jYw hW hx
    wp_walk using 1,encE,jQm,qXi i1,jKc i1,i1
    by_cases hm:s∈F0
    ·rw[lJb (by simp[hm])]
     exact⟨F0,rfl,i2,i3,i4,by rw[jZv hx,<-iB,lJc (by simpa using hm)]⟩
    ·rw[lJc (by simp[hm])]
     have hFl:=jJ5 i3.nd i3.lt
     refine⟨by rw[jJo,lJg];omega,F0++[s],by simp[jJo],lQe _ i2,⟨?_,?_,?_⟩,i4.over hp,by rw[jZv hx,<-iB,lJb (by simpa using hm)]⟩
     ·rw[lQk];exact⟨i3.nd,by simp,fun a ha b hb=>by rw[lJ1] at hb;subst hb;rintro rfl;exact hm ha⟩
     ·intro x hx
      rw[lKt,lJ1] at hx
      rcases hx with hx | rfl
      ·exact i3.lt x hx
      ·exact fine.rng _ _ _ _ hen
     ·intro S h0 hc x hx
      rw[lKt,lJ1] at hx
      rcases hx with hx | rfl
      ·exact i3.got S h0 hc x hx
      ·exact hc _ _ _ _ (i3.got S h0 hc r i2) hen
   ·intro τ G' h_;apply xe3 h_;clear h_;intro v4 v5 F0 h_;apply ae5 h_;clear h_;intro i1 i2 i3 i4 iB
    wp_walk using 1,tSeq
    refine⟨by simp,F0,i1,i3,i4,?_⟩
    rw[lJg,lVk] at iB
    rw[hB,show W.length-at'=W.length-(at'+1)+1 by omega,kKd hF,qKs hW,<-iB]
 ·rename_i hc
  exact kk p G1 F hp h1 h2 (by rw[hB,kKe (by rw[jJo,lJg] at hc;omega)]) h3
structure Turn (m:Nat) (σ:List Nat):Prop where
 len:σ.length=m
 nd:σ.Nodup
 lt:∀x,x∈σ->x<m
def Invol (σ:List Nat):Prop:=∀(k x:Nat),σ[k]? =some x->σ[x]? =some k
theorem Turn.at {m:Nat} {σ:List Nat} (h:Turn m σ) {k:Nat} (hk:k<m):∃x,σ[k]? =some x/\x<m:=by
 have hk':k<σ.length:=by rw[h.len];exact hk
 exact⟨σ[k],lJi hk',h.lt _ (lVm hk')⟩
theorem Turn.onto {m:Nat} {σ:List Nat} (h:Turn m σ) {x:Nat} (hx:x<m):∃k,k<m/\σ[k]? =some x:=by
 obtain⟨k,hk⟩:=lJ8 (kVg h.nd h.lt h.len x hx)
 exact⟨k,by rw[<-h.len];exact (lJe.mp hk).1,hk⟩
theorem Turn.inj {m:Nat} {σ:List Nat} (h:Turn m σ) {k k' x:Nat} (h1:σ[k]? =some x) (h2:σ[k']? =some x):k=k':=
 (lVn (lJe.mp h1).1 h.nd).mp (h1.trans h2.symm)
theorem Invol.turn {m:Nat} {σ:List Nat} (hl:σ.length=m) (h:Invol σ):Turn m σ where
 len:=hl
 nd:=by
  unfold List.Nodup
  refine lXv.mpr ?_
  intro i j hi hj hij e
  have h1:=h j _ (lJi hj)
  have h2:=h i _ (lJi hi)
  rw[e,h1] at h2;cases h2;omega
 lt:=fun x hx=>by
  obtain⟨k,hk⟩:=lJ8 hx
  rw[<-hl];exact (lJe.mp (h k x hk)).1
theorem Invol.swap {σ:List Nat} {a b:Nat} (h:Invol σ) (ha:σ[a]? =some a) (hb:σ[b]? =some b) (hab:a≠b):Invol ((σ.set a b).set b a):=by
 have hal:=(lJe.mp ha).1
 have hbl:=(lJe.mp hb).1
 have gt:∀k,((σ.set a b).set b a)[k]? =if k=b then some a else if k=a then some b else σ[k]? :=by
  intro k
  by_cases h1:k=b
  ·subst h1;rw[lJc rfl,lKk (by simpa using hbl)]
  ·rw[lJb h1,lKf (fun z=>h1 z.symm)]
   by_cases h2:k=a
   ·subst h2;rw[lJc rfl,lKk hal]
   ·rw[lJb h2,lKf (fun z=>h2 z.symm)]
 intro k x hk
 rw[gt] at hk ⊢
 by_cases h1:k=b
 ·subst h1;rw[lJc rfl] at hk;cases hk
  rw[lJb hab,lJc rfl]
 ·rw[lJb h1] at hk
  by_cases h2:k=a
  ·subst h2;rw[lJc rfl] at hk;cases hk
   rw[lJc rfl]
  ·rw[lJb h2] at hk
   have hx:=h k x hk
   have h3:x≠b:=by rintro rfl;rw[hb] at hx;cases hx;exact h1 rfl
   have h4:x≠a:=by rintro rfl;rw[ha] at hx;cases hx;exact h2 rfl
   rw[lJb h3,lJb h4];exact hx
noncomputable def kJe:Sp3:=fun xs G Q=>∃(b:Addr) (m n:Nat) (own:Bool),xs=[.ref b,.int m,.bl own]/\BoxAt G b n/\n+m<2^40/\1<=m/\m<=1000/\∀ σ G',Turn m σ->(own=true->Invol σ)->BoxAt G' b (n+m)->Keep b G G'->Q (.tup (jJo σ)) G'
def qX7:List Str:=["_law_box_here","_law_many","_law_own","_law_order","_law_k","_law_turn_here","_law_one","_law_other"]
noncomputable def kJn:TS3:=
 (tSeq (tAsg (tLst tNil) (jJi 3))
 (tSeq (tFor (jKv (jJc (tVar 1) tNil)) (jJi 4) (jQf (tBM "list" kJs (tVar 3) (jJc (jJr jJq (jJc (tVar 0) (jJc (tOp jKi (tVar 4) (tC (.int 1))) tNil))) (jJc (tVar 4) tNil)))))
 (tSeq (tIfS (tNot (tTru rTru (tVar 2))) (tRet (tCB jKp (jJc (tVar 3) tNil))) jKw)
 (tSeq (tAsg (jXh (jJc (tVar 1) tNil)) (jJi 5))
 (tSeq (tFor (qXl (jJc (tC (.int 0)) (jJc (tOp rSub (tVar 1) (tC (.int 1))) (jJc (tC (.int 2)) tNil)))) (jJi 4) (tSeq (tPar 6 7 (jJc (tOp rIxF (tVar 3) (tVar 4)) (jJc (tOp rIxF (tVar 3) (tOp jKi (tVar 4) (tC (.int 1)))) tNil)))
 (tSeq (tAsg (tVar 7) (gSub (tVar 5) (tVar 6) jUy))
 (tAsg (tVar 6) (gSub (tVar 5) (tVar 7) jUy)))))
 (tRet (tCB jKp (jJc (tVar 5) tNil))))))))
theorem kXo:RdOk kJe kJn qX7:=by
 intro xs G Q h_;apply xe4 h_;clear h_;intro b m n own h_;apply ae5 h_;clear h_;intro hb hn hm1 hm2 kk
 show kJn _ [some (.ref b),some (.int m),some (.bl own),none,none,none,none,none] G
 have hs:=sz
 obtain⟨bo,hbo⟩:=hb.some
 wp_walk using 1,kJn,jJ1,jKv,qXl,jXh
 refine⟨lJ2 _,fun o ho=>⟨by omega,by omega,?_⟩⟩
 have hob:=jJg hbo ho
 rw[show ((m:Int)).toNat=m by omega]
 refine⟨fun k τ G'=>∃(v4:Option T) (σ:List Nat),τ=[some (.ref b),some (.int m),some (.bl own),some (.ref o),v4,none,none,none]/\G' o=some (.lst (jJo σ))/\Turn k σ/\BoxAt G' b (n+k)/\Keep b G G',?_,?_,?_,?_⟩
 ·exact⟨none,[],rfl,jJf,⟨rfl,lVy,fun x hx=>by cases hx⟩,hb.gup hob,.new ho⟩
 ·intros;trivial
 ·intro k x τ G1 hx h_;apply xe2 h_;clear h_;intro v4 σ h_;apply ae4 h_;clear h_;intro h1 h2 h3 h4
  obtain⟨hk,rfl⟩:=jYk hx
  wp_walk using 1,jKc h1
  refine⟨b,_,n+k,rfl,h3,by omega,by omega,by omega,fun c G2 c0 c1 bx kp=> ?_⟩
  have h1':=kp _ _ hob.symm h1
  refine⟨jJo σ,c,rfl,h1',c0,by rw[jJo,lJg,h2.len];omega,by rw[jJo,lJg,h2.len];omega,σ.take c.toNat++k::σ.drop c.toNat,?_,⟨?_,?_,?_⟩,bx.gup hob,(h4.trans kp).over ho⟩
  ·simp[insT,jJo,List.map_take,List.map_drop]
  ·rw[ins_perm.length_eq,lJ7,h2.len];rfl
  ·rw[ins_perm.nodup_iff,lQk]
   exact⟨h2.nd,by simp,fun a ha e he=>by rw[lJ1] at he;subst he;have:=h2.lt a ha;omega⟩
  ·intro x hx
   rw[ins_perm.mem_iff,lKt,lJ1] at hx
   rcases hx with hx | rfl
   ·have:=h2.lt x hx;omega
   ·omega
 ·intro τ G1 h_;apply xe2 h_;clear h_;intro v4 σ h_;apply ae4 h_;clear h_;intro h1 h2 h3 h4
  rw[jUb] at h2 h3
  wp_walk using 1,jJl h1
  cases own with
  | false=>exact kk σ G1 h2 (fun z=>by cases z) h3 h4
  | true=>
   wp_walk using 1,jJ1,qXl,jXh
   refine⟨by omega,by omega,fun t ht=> ?_⟩
   have hto:=jJg h1 ht
   have htb:b≠t:=by obtain⟨u,hu⟩:=h3.some;exact jJg hu ht
   have ht0:=h4.none htb.symm ht
   have hsm:Builtin.Range.small 0 ((m:Int)-1) 2=true:=by
    unfold Builtin.Range.small Builtin.Range.rangeSize
    simp only[Builtin.Range.rangeFitsLong,lKo,Bool.or_eq_true,lV9,beq_iff_eq,show (2:Int)>0 by decide,lJ4]
    split<;>omega
   refine⟨by decide,by decide,hsm,?_⟩
   have hN:(Builtin.Range.rangeSize 0 ((m:Int)-1) 2).toNat=m / 2:=by
    unfold Builtin.Range.rangeSize;rw[lJc (by decide)]
    split<;>omega
   rw[hN,show ((m:Int)).toNat=m by omega,jQj]
   refine⟨fun k τ G'=>∃(v4 v6 v7:Option T) (ρ:List Nat),τ=[some (.ref b),some (.int m),some (.bl true),some (.ref o),v4,some (.ref t),v6,v7]/\G' t=some (.lst (jJo ρ))/\G' o=some (.lst (jJo σ))/\Invol ρ/\ρ.length=m/\(∀i x,2*k<=i->σ[i]? =some x->ρ[x]? =some x)/\BoxAt G' b (n+m)/\Keep b G G',?_,?_,?_,?_⟩
   ·refine⟨_,_,_,List.range m,rfl,jJf,by rw[jJh hto];exact h1,?_,by simp,?_,h3.gup htb,h4.over ht0⟩
    ·intro k x hk
     obtain⟨q1,q2⟩:=lJe.mp hk
     simp at q1 q2;subst q2;exact hk
    ·intro i x _ hx
     have:=h2.lt x (lJm hx)
     simp[this]
   ·intros;trivial
   ·intro k x τ G2 hx h_;apply xe4 h_;clear h_;intro v4 v6 v7 ρ h_;apply ae7 h_;clear h_;intro i1 i2 i3 i4 i5 i6 i7
    obtain⟨hk,rfl⟩:k<m / 2/\x= .int ((2*k:Nat):Int):=by
     obtain⟨q1,q2⟩:=lJe.mp hx
     simp[rngS] at q1 q2;refine⟨q1,?_⟩;rw[<-q2];congr 1;omega
    obtain⟨a,ha,_⟩:=h2.at (show 2*k<m by omega)
    obtain⟨c,hc,_⟩:=h2.at (show 2*k+1<m by omega)
    have hca:L2.atI (jJo σ) ((2*k:Nat):Int)=some (.int (a:Nat)):=by rw[atN];simp[jJo,ha]
    have hcc:L2.atI (jJo σ) (((2*k:Nat):Int)+1)=some (.int (c:Nat)):=by rw[show ((2*k:Nat):Int)+1=((2*k+1:Nat):Int) by omega,atN];simp[jJo,hc]
    have hac:a≠c:=by rintro rfl;have:=h2.inj ha hc;omega
    have fa:=i5 (2*k) a (lJf _) ha
    have fc:=i5 (2*k+1) c (by omega) hc
    have hal:a<ρ.length:=(lJe.mp fa).1
    have hcl:c<ρ.length:=(lJe.mp fc).1
    have ixa:L2.ixN (jJo ρ).length (a:Int)=some a:=kVj (by rw[jJo,lJg];exact hal)
    have ixc:L2.ixN ((jJo ρ).set a (.int (c:Nat))).length (c:Int)=some c:=kVj (by rw[lQt,jJo,lJg];exact hcl)
    wp_walk using 1,jKs i2,hca,hcc,jZy i1 ixa,ixc
    have e1:((jJo ρ).set a (.int (c:Nat))).set c (.int (a:Nat))=jJo ((ρ.set a c).set c a):=by simp[jJo,List.map_set]
    rw[e1]
    refine⟨(ρ.set a c).set c a,rfl,by rw[jJh hto];exact i2,i3.swap fa fc hac,by simp[i4],?_,i6.gup htb,i7.over ht0⟩
    intro i x hi hx
    have hxa:a≠x:=by rintro rfl;have:=h2.inj ha hx;omega
    have hxc:c≠x:=by rintro rfl;have:=h2.inj hc hx;omega
    rw[lKf hxc,lKf hxa]
    exact i5 i x (by omega) hx
   ·intro τ G2 h_;apply xe4 h_;clear h_;intro v4 v6 v7 ρ h_;apply ae7 h_;clear h_;intro i1 i2 i3 i4 i5 i6 i7
    wp_walk using 1,jJl i1
    exact kk ρ G2 (i3.turn i4) (fun _=>i3) i6 i7
structure TurnsOk (W:Web) (m:Nat) (Ts:List (List Nat)):Prop where
 len:Ts.length=(jK9 W).length
 ok:∀(t:Nat) (x:Tie) (σ:List Nat),(jK9 W)[t]? =some x->Ts[t]? =some σ->Turn m σ/\(x.1=x.2->Invol σ)
def Bel (W:Web) (Ts:List (List Nat)) (x i y j:Nat):Prop:=∃(t:Nat) (e f:Nat×Nat) (σ:List Nat) (k k':Nat),(jK9 W)[t]? =some (e,f)/\Ts[t]? =some σ/\σ[k]? =some k'/\
 ((x=e.1+k*W.length/\i=e.2/\y=f.1+k'*W.length/\j=f.2)\/(y=e.1+k*W.length/\j=e.2/\x=f.1+k'*W.length/\i=f.2))
theorem Bel.symm {W:Web} {Ts:List (List Nat)} {x i y j:Nat} (h:Bel W Ts x i y j):Bel W Ts y j x i:=by
 obtain⟨t,e,f,σ,k,k',h1,h2,h3,h4⟩:=h
 exact⟨t,e,f,σ,k,k',h1,h2,h3,h4.symm⟩
theorem spl {n r k r' k':Nat} (h1:r<n) (h2:r'<n) (h:r+k*n=r'+k'*n):r=r'/\k=k':=by
 have e1:(r+k*n)%n=r:=by rw[lXw,lK6 h1]
 have e2:(r'+k'*n)%n=r':=by rw[lXw,lK6 h2]
 have hn:0<n:=by omega
 have e3:(r+k*n) / n=k:=by rw[Nat.add_mul_div_right _ _ hn,Nat.div_eq_of_lt h1,Nat.zero_add]
 have e4:(r'+k'*n) / n=k':=by rw[Nat.add_mul_div_right _ _ hn,Nat.div_eq_of_lt h2,Nat.zero_add]
 rw[h] at e1 e3
 exact⟨e1.symm.trans e2,e3.symm.trans e4⟩
theorem kQp {W:Web} {t:Nat} {x:Tie} (h:(jK9 W)[t]? =some x):en W x.1.1 x.1.2=some x.2/\leE x.1 x.2=true:=endsL_mem.mp (lJm h)
theorem kQo {W:Web} {t t':Nat} {x:Tie} (h:(jK9 W)[t]? =some x) (h':(jK9 W)[t']? =some x):t=t':=(lVn (lJe.mp h).1 kYf).mp (h.trans h'.symm)
theorem Bel.fn {W:Web} {m:Nat} {Ts:List (List Nat)} {x i y j y' j':Nat} (hs:Sym W) (ok:TurnsOk W m Ts) (h:Bel W Ts x i y j) (h':Bel W Ts x i y' j'):y=y'/\j=j':=by
 obtain⟨t,e,f,σ,k,l,h1,h2,h3,h4⟩:=h
 obtain⟨t',e',f',σ',k',l',h1',h2',h3',h4'⟩:=h'
 obtain⟨q1,q2⟩:=kQp h1
 obtain⟨q1',q2'⟩:=kQp h1'
 have q1:en W e.1 e.2=some (f.1,f.2):=q1
 have q1':en W e'.1 e'.2=some (f'.1,f'.2):=q1'
 have qs:=hs _ _ _ _ q1
 have qs':=hs _ _ _ _ q1'
 have l1:=kUj q1
 have l2:=kUj qs
 have l1':=kUj q1'
 have l2':=kUj qs'
 obtain⟨e1,e2⟩:=e;obtain⟨f1,f2⟩:=f;obtain⟨e1',e2'⟩:=e';obtain⟨f1',f2'⟩:=f'
 obtain⟨T1,T2⟩:=ok.ok _ _ _ h1 h2
 simp only at *
 rcases h4 with ⟨rfl,rfl,rfl,rfl⟩ | ⟨rfl,rfl,rfl,rfl⟩<;>rcases h4' with ⟨z1,rfl,rfl,rfl⟩ | ⟨rfl,rfl,z1,rfl⟩
 ·obtain⟨rfl,rfl⟩:=spl l1 l1' z1
  rw[q1] at q1';cases q1'
  have:=kQo h1 h1';subst this
  rw[h2] at h2';cases h2'
  rw[h3] at h3';cases h3'
  exact⟨rfl,rfl⟩
 ·obtain⟨rfl,rfl⟩:=spl l1 l2' z1
  rw[q1] at qs';cases qs'
  have a1:=leE_iff.mp q2
  have a2:=leE_iff.mp q2'
  simp only at a1 a2
  have:e1=f1/\i=j:=by omega
  obtain⟨rfl,rfl⟩:=this
  have:=kQo h1 h1';subst this
  rw[h2] at h2';cases h2'
  have:=T2 rfl _ _ h3'
  rw[h3] at this;cases this
  exact⟨rfl,rfl⟩
 ·obtain⟨rfl,rfl⟩:=spl l2 l1' z1
  rw[qs] at q1';cases q1'
  have a1:=leE_iff.mp q2
  have a2:=leE_iff.mp q2'
  simp only at a1 a2
  have:e1=f1/\j=i:=by omega
  obtain⟨rfl,rfl⟩:=this
  have:=kQo h1 h1';subst this
  rw[h2] at h2';cases h2'
  have:=T2 rfl _ _ h3
  rw[h3'] at this;cases this
  exact⟨rfl,rfl⟩
 ·obtain⟨rfl,rfl⟩:=spl l2 l2' z1
  rw[qs] at qs';cases qs'
  have:=kQo h1 h1';subst this
  rw[h2] at h2';cases h2'
  have:=T1.inj h3 h3';subst this
  exact⟨rfl,rfl⟩
def cl (M:List (List T)) (x i:Nat):Option T:=(M[x]?).bind fun ts=>ts[i]?
def put (M:List (List T)) (x i:Nat) (v:T):List (List T):=match M[x]? with
 | some ts=>M.set x (ts.set i v)
 | none=>M
theorem kUm {M:List (List T)} {x i:Nat} {v:T} (h:cl M x i=some v):∃ts,M[x]? =some ts/\ts[i]? =some v:=by
 unfold cl at h
 cases e1:M[x]? with
 | none=>rw[e1] at h;cases h
 | some ts=>rw[e1] at h;exact⟨ts,rfl,h⟩
theorem kVw {M:List (List T)} {x i:Nat} {ts:List T} (h1:M[x]? =some ts):cl M x i=ts[i]? :=by unfold cl;rw[h1];rfl
theorem kZw {M:List (List T)} {x i:Nat} {v u:T} (h:cl M x i=some u) (x' i':Nat):cl (put M x i v) x' i'=if x'=x/\i'=i then some v else cl M x' i':=by
 obtain⟨ts,h1,h2⟩:=kUm h
 have hx:=(lJe.mp h1).1
 have hi:=(lJe.mp h2).1
 unfold put
 rw[h1]
 show cl (M.set x (ts.set i v)) x' i'=_
 by_cases hxx:x'=x
 ·subst hxx
  rw[kVw (lKk hx),kVw h1]
  by_cases hii:i'=i
  ·subst hii;rw[lKk hi,lJc ⟨rfl,rfl⟩]
  ·rw[lKf (fun z=>hii z.symm),lJb (fun z=>hii z.2)]
 ·rw[lJb (fun z=>hxx z.1)]
  unfold cl
  rw[lKf (fun z=>hxx z.symm)]
structure SInv (W:Web) (m:Nat) (Ts:List (List Nat)) (M:List (List T)):Prop where
 len:M.length=m*W.length
 row:∀(x:Nat) (ts:List T),M[x]? =some ts->∃es,W[x%W.length]? =some es/\ts.length=es.length
 val:∀x i v,cl M x i=some v->v= .non\/∃y j,Bel W Ts x i y j/\v=encE (y,j)
def Fl (M:List (List T)) (x i:Nat):Prop:=∃e,cl M x i=some (encE e)
theorem SInv.at {W:Web} {m:Nat} {Ts:List (List Nat)} {M:List (List T)} {r i k:Nat} {e:Nat×Nat} (h:SInv W m Ts M) (hk:k<m) (he:en W r i=some e):∃ts,M[r+k*W.length]? =some ts/\i<ts.length:=by
 obtain⟨es,h1,h2⟩:=jQu he
 have hr:=kUj he
 have hx:r+k*W.length<M.length:=by
  rw[h.len]
  have:(k+1)*W.length<=m*W.length:=lXk _ hk
  rw[lQu] at this;omega
 have hM:M[r+k*W.length]? =some M[r+k*W.length]:=lJi hx
 obtain⟨es',q1,q2⟩:=h.row _ _ hM
 rw[lXw,lK6 hr,h1] at q1;cases q1
 exact⟨_,hM,by rw[q2];exact (lJe.mp h2).1⟩
theorem SInv.put {W:Web} {m:Nat} {Ts:List (List Nat)} {M:List (List T)} {x i y j:Nat} {ts:List T} (h:SInv W m Ts M) (hx:M[x]? =some ts) (hi:i<ts.length) (hb:Bel W Ts x i y j):
  SInv W m Ts (M.set x (ts.set i (encE (y,j))))/\Fl (M.set x (ts.set i (encE (y,j)))) x i/\∀x' i',Fl M x' i'->Fl (M.set x (ts.set i (encE (y,j)))) x' i':=by
 have hc:cl M x i=some ts[i]:=by rw[kVw hx];exact lJi hi
 have hp:M.set x (ts.set i (encE (y,j)))=_root_.W.put M x i (encE (y,j)):=by unfold _root_.W.put;rw[hx]
 have hxl:=(lJe.mp hx).1
 refine⟨⟨by rw[lQt];exact h.len,fun x' ts' h'=> ?_,fun x' i' v hv=> ?_⟩,?_,fun x' i' ⟨e,he⟩=> ?_⟩
 ·by_cases hxx:x'=x
  ·subst hxx
   rw[lKk hxl] at h';cases h'
   rw[lQt];exact h.row _ _ hx
  ·rw[lKf (fun z=>hxx z.symm)] at h';exact h.row _ _ h'
 ·rw[hp,kZw hc] at hv
  by_cases hxx:x'=x/\i'=i
  ·rw[lJc hxx] at hv;cases hv
   obtain⟨rfl,rfl⟩:=hxx
   exact .inr ⟨y,j,hb,rfl⟩
  ·rw[lJb hxx] at hv;exact h.val _ _ _ hv
 ·exact⟨(y,j),by rw[hp,kZw hc,lJc ⟨rfl,rfl⟩]⟩
 ·by_cases hxx:x'=x/\i'=i
  ·exact⟨(y,j),by rw[hp,kZw hc,lJc hxx]⟩
  ·exact⟨e,by rw[hp,kZw hc,lJb hxx];exact he⟩
structure Sheet (W:Web) (m:Nat) (V:Web):Prop where
 len:V.length=m*W.length
 row:∀(x:Nat) (ts:List (Nat×Nat)),V[x]? =some ts->∃es,W[x%W.length]? =some es/\ts.length=es.length
 sym:Sym V
def uJm (W:Web) (m:Nat) (Ts:List (List Nat)) (M:List (List T)) (d:Nat->Nat->Prop):Prop:=∀t k e f σ k',d t k->(jK9 W)[t]? =some (e,f)->Ts[t]? =some σ->σ[k]? =some k'->Fl M (e.1+k*W.length) e.2/\Fl M (f.1+k'*W.length) f.2
def dec:T->Nat×Nat
 | .tup [.int a,.int b]=>(a.toNat,b.toNat)
 | _=>(0,0)
theorem kJ8 {e:Nat×Nat}:dec (encE e)=e:=by obtain⟨a,b⟩:=e;simp[encE,dec]
theorem qVg {W:Web} {m:Nat} {Ts:List (List Nat)} {M:List (List T)} (hs:Sym W) (ok:TurnsOk W m Ts) (h:SInv W m Ts M) (hd:uJm W m Ts M fun t k=>t<(jK9 W).length/\k<m):Sheet W m (M.map (List.map dec))/\M=(M.map (List.map dec)).map (List.map encE):=by
 have full:∀x i v,cl M x i=some v->Fl M x i:=by
  intro x i v hv
  obtain⟨ts,h1,h2⟩:=kUm hv
  obtain⟨es,q1,q2⟩:=h.row _ _ h1
  have hx:x<m*W.length:=by rw[<-h.len];exact (lJe.mp h1).1
  have hi:i<es.length:=by rw[<-q2];exact (lJe.mp h2).1
  have hW:0<W.length:=by rcases Nat.eq_zero_or_pos W.length with z | z;rw[z] at hx;omega;exact z
  have hk:x / W.length<m:=Nat.div_lt_of_lt_mul (by rw[Nat.mul_comm];exact hx)
  have hxe:x%W.length+x / W.length*W.length=x:=by rw[Nat.mul_comm];exact Nat.mod_add_div x W.length
  have he:=jYw q1 (lJi hi)
  generalize es[i]=e at he
  obtain⟨s,j⟩:=e
  by_cases hle:leE (x%W.length,i) (s,j)=true
  ·obtain⟨t,ht⟩:=lJ8 (endsL_mem (x:=((x%W.length,i),(s,j))).mpr ⟨he,hle⟩)
   have htl:=(lJe.mp ht).1
   have htT:t<Ts.length:=by rw[ok.len];exact htl
   have hσ:Ts[t]? =some Ts[t]:=lJi htT
   obtain⟨k',hk',_⟩:=(ok.ok _ _ _ ht hσ).1.at hk
   have:=(hd t _ _ _ _ _ ⟨htl,hk⟩ ht hσ hk').1
   simp only at this
   rw[hxe] at this;exact this
  ·have hle2:leE (s,j) (x%W.length,i)=true:=by
    rw[leE_iff] at hle ⊢; simp only at hle ⊢; omega
   obtain⟨t,ht⟩:=lJ8 (endsL_mem (x:=((s,j),(x%W.length,i))).mpr ⟨hs _ _ _ _ he,hle2⟩)
   have htl:=(lJe.mp ht).1
   have htT:t<Ts.length:=by rw[ok.len];exact htl
   have hσ:Ts[t]? =some Ts[t]:=lJi htT
   obtain⟨k0,hk0,hk1⟩:=(ok.ok _ _ _ ht hσ).1.onto hk
   have:=(hd t _ _ _ _ _ ⟨htl,hk0⟩ ht hσ hk1).2
   simp only at this
   rw[hxe] at this;exact this
 have enM:∀x i e,en (M.map (List.map dec)) x i=some e->cl M x i=some (encE e)/\Bel W Ts x i e.1 e.2:=by
  intro x i e he
  obtain⟨es,h1,h2⟩:=jQu he
  rw[lJs] at h1
  cases e1:M[x]? with
  | none=>rw[e1] at h1;cases h1
  | some ts=>
   rw[e1] at h1;cases h1
   rw[lJs] at h2
   cases e2:ts[i]? with
   | none=>rw[e2] at h2;cases h2
   | some v=>
    rw[e2] at h2;cases h2
    have hc:cl M x i=some v:=by rw[kVw e1];exact e2
    obtain⟨e',he'⟩:=full x i v hc
    rw[hc] at he';cases he'
    rw[kJ8]
    refine⟨hc,?_⟩
    rcases h.val _ _ _ hc with z | ⟨y,j,hb,z⟩
    ·cases z
    ·have:e'=(y,j):=by rw[<-kJ8 (e:=e'),z,kJ8]
     rw[this];exact hb
 have toM:∀x i e,cl M x i=some (encE e)->en (M.map (List.map dec)) x i=some e:=by
  intro x i e he
  obtain⟨ts,h1,h2⟩:=kUm he
  exact jYw (es:=ts.map dec) (by simp[h1]) (by simp[h2,kJ8])
 refine⟨⟨by rw[lJg];exact h.len,fun x ts hx=> ?_,fun x i y j he=> ?_⟩,?_⟩
 ·rw[lJs] at hx
  cases e1:M[x]? with
  | none=>rw[e1] at hx;cases hx
  | some us=>
   rw[e1] at hx;cases hx
   rw[lJg];exact h.row _ _ e1
 ·obtain⟨h1,h2⟩:=enM x i (y,j) he
  have h3:Bel W Ts y j x i:=h2.symm
  have hin:∃v,cl M y j=some v:=by
   obtain⟨t,e,f,σ,k,k',q1,q2,q3,q4⟩:=h3
   obtain⟨z1,z2⟩:=kQp q1
   have z1:en W e.1 e.2=some (f.1,f.2):=z1
   have T1:=(ok.ok _ _ _ q1 q2).1
   have hk:k<m:=by rw[<-T1.len];exact (lJe.mp q3).1
   have hk':k'<m:=T1.lt _ (lJm q3)
   rcases q4 with ⟨a1,a2,_,_⟩ | ⟨_,_,a1,a2⟩
   ·obtain⟨ts,b1,b2⟩:=h.at hk z1
    exact⟨ts[e.2],by rw[a1,a2,kVw b1];exact lJi b2⟩
   ·obtain⟨ts,b1,b2⟩:=h.at hk' (hs _ _ _ _ z1)
    exact⟨ts[f.2],by rw[a1,a2,kVw b1];exact lJi b2⟩
  obtain⟨v,hv⟩:=hin
  obtain⟨e',he'⟩:=full y j v hv
  have h4:=toM y j e' he'
  obtain⟨_,h5⟩:=enM y j e' h4
  obtain⟨a1,a2⟩:=Bel.fn hs ok h3 h5
  rw[h4,<-show (e'.1,e'.2)=e' from rfl,<-a1,<-a2]
 ·rw[lK0]
  conv=>lhs;rw[<-List.map_id M]
  apply List.map_congr_left
  intro ts hts
  show ts=(ts.map dec).map encE
  rw[lK0]
  conv=>lhs;rw[<-List.map_id ts]
  apply List.map_congr_left
  intro v hv
  obtain⟨x,hx⟩:=lJ8 hts
  obtain⟨i,hi⟩:=lJ8 hv
  obtain⟨e,he⟩:=full x i v (by rw[kVw hx];exact hi)
  rw[kVw hx,hi] at he;cases he
  show encE e=encE (dec (encE e))
  rw[kJ8]
def RowsT (G:Gp) (h:Addr) (M:List (List T)) (rs:List Addr):Prop:=G h=some (.lst (rs.map T.ref))/\rs.length=M.length/\∀(i:Nat) (r:Addr),rs[i]? =some r->∃ts:List T,M[i]? =some ts/\G r=some (.lst ts)
theorem RowsT.set {G:Gp} {h:Addr} {M:List (List T)} {rs:List Addr} {r:Nat} {a:Addr} {ts:List T} (x:RowsT G h M rs) (hn:(h::rs).Nodup) (hr:rs[r]? =some a):RowsT (gup G a (.lst ts)) h (M.set r ts) rs:=by
 rw[lKd] at hn
 have hrl:r<rs.length:=(lJe.mp hr).1
 refine⟨by rw[jJh];exact x.1;rintro rfl;exact hn.1 (lJm hr),by rw[lQt];exact x.2.1,fun i c e=> ?_⟩
 by_cases hi:i=r
 ·subst hi
  rw[hr] at e;cases e
  exact⟨ts,by rw[lKk];rw[<-x.2.1];exact hrl,jJf⟩
 ·obtain⟨us,h1,h2⟩:=x.2.2 i c e
  refine⟨us,by rw[lKf (Ne.symm hi)];exact h1,?_⟩
  rw[jJh];exact h2
  rintro rfl
  have hil:i<rs.length:=(lJe.mp e).1
  exact hi ((lVn hil hn.2).mp (e.trans hr.symm))
theorem RowsT.get {G:Gp} {h:Addr} {M:List (List T)} {rs:List Addr} {x:Nat} {ts:List T} (R:RowsT G h M rs) (hx:M[x]? =some ts):∃a,rs[x]? =some a/\L2.atI (rs.map T.ref) (x:Int)=some (.ref a)/\G a=some (.lst ts):=by
 have hxl:x<rs.length:=by rw[R.2.1];exact (lJe.mp hx).1
 have hr:rs[x]? =some rs[x]:=lJi hxl
 obtain⟨us,h1,h2⟩:=R.2.2 x _ hr
 rw[hx] at h1;cases h1
 exact⟨_,hr,by rw[atN,lJs,hr];rfl,h2⟩
theorem qY7 {n:Nat}:(List.replicate n [T.non]).flatten=List.replicate n T.non:=by
 induction n with
 | zero=>rfl
 | succ n ih=>rw[lQb,lQ3,ih];rfl
def rowN (W:Web) (x:Nat):List T:=List.replicate ((W[x%W.length]?).getD []).length .non
theorem qJa {W:Web} {m:Nat} {Ts:List (List Nat)}:SInv W m Ts ((List.range (m*W.length)).map (rowN W)) where
 len:=by simp
 row:=fun x ts h=>by
  rw[lJs] at h
  cases e:(List.range (m*W.length))[x]? with
  | none=>rw[e] at h;cases h
  | some y=>
   rw[e] at h;cases h
   obtain⟨q1,q2⟩:=lJe.mp e
   simp at q1 q2;subst q2
   have hW:0<W.length:=by rcases Nat.eq_zero_or_pos W.length with z | z;rw[z] at q1;omega;exact z
   have hx:x%W.length<W.length:=lQ5 _ hW
   exact⟨W[x%W.length],lJi hx,by simp[rowN,hx]⟩
 val:=fun x i v h=>by
  obtain⟨ts,h1,h2⟩:=kUm h
  rw[lJs] at h1
  cases e:(List.range (m*W.length))[x]? with
  | none=>rw[e] at h1;cases h1
  | some y=>
   rw[e] at h1;cases h1
   have:=lJm h2
   unfold rowN at this
   exact .inl (List.mem_replicate.mp this).2
noncomputable def jVz:Sp3:=fun xs G Q=>∃(W:Web) (tr:Addr) (m:Nat) (Ts:List (List Nat)),xs=[encW W,.ref tr,.int m]/\Fine W/\Sym W/\1<=W.length/\1<=m/\m*W.length<=1000/\TurnsOk W m Ts/\G tr=some (.lst (Ts.map fun σ=>T.tup (jJo σ)))/\∀V G',Sheet W m V->Sub G G'->Q (encW V) G'
def kYp:List Str:=["_law_web_here","_law_turns","_law_many","_law_made","_law_t","_law_one","_law_other","_law_k","_law_spot","_law_there","_law_n","_law_room"]
noncomputable def jV5:TS3:=
 (tSeq (tAsg (jUs [false,false,false,false,false,false,false,false,false,false,true,false] (jKv (jJc (tOp jVm (tVar 2) (tCB rLen (jJc (tVar 0) tNil))) tNil)) (jJi 10) jXz (tOp jVm (tLst (jJc (tC .non) tNil)) (tCB rLen (jJc (tOp rIxF (tVar 0) (tOp rMod (tVar 10) (tCB rLen (jJc (tVar 0) tNil)))) tNil)))) (jJi 3))
 (tSeq (tFor (kUg (jJc (jJr jYi (jJc (tVar 0) tNil)) tNil)) (gTup 2 (jKt (jJi 4) (jKt (gTup 2 (jKt (jJi 5) (jKt (jJi 6) gNil))) gNil))) (tFor (jKv (jJc (tVar 2) tNil)) (jJi 7) (tSeq (tAsg (tOp jKi (tOp rIxF (tVar 5) (tC (.int 0))) (tOp jVm (tVar 7) (tCB rLen (jJc (tVar 0) tNil)))) (jJi 8))
 (tSeq (tAsg (tOp jKi (tOp rIxF (tVar 6) (tC (.int 0))) (tOp jVm (tOp rIxF (tOp rIxF (tVar 1) (tVar 4)) (tVar 7)) (tCB rLen (jJc (tVar 0) tNil)))) (jJi 9))
 (tSeq (tAsg (tTup (jJc (tVar 9) (jJc (tOp rIxF (tVar 6) (tC (.int 1))) tNil))) (gSub (tOp rIxF (tVar 3) (tVar 8)) (tOp rIxF (tVar 5) (tC (.int 1))) jUy))
 (tAsg (tTup (jJc (tVar 8) (jJc (tOp rIxF (tVar 5) (tC (.int 1))) tNil))) (gSub (tOp rIxF (tVar 3) (tVar 9)) (tOp rIxF (tVar 6) (tC (.int 1))) jUy)))))))
 (tRet (tCB jKp (jJc (jUs [false,false,false,false,false,false,false,false,false,false,false,true] (iSeq (tVar 3)) (jJi 11) jXz (tCB jKp (jJc (tVar 11) tNil))) tNil)))))
theorem kKl:RdOk jVz jV5 kYp:=by
 intro xs G Q h_;apply xe4 h_;clear h_;intro W tr m Ts h_;apply ae8 h_;clear h_;intro fine sym hW1 hm1 hmn ok htr kk
 show jV5 _ [some (.tup (W.map encR)),some (.ref tr),some (.int m),none,none,none,none,none,none,none,none,none] G
 have hs:=sz
 have hl:=fine.len
 have hm2:m<=1000:=lJ9 (Nat.le_mul_of_pos_right m hW1) hmn
 wp_walk using 1,jV5,jJ1,jKv,kUg,iSeq,List.length_map
 have hcast:(m:Int)*(W.length:Int)=((m*W.length:Nat):Int):=by simp
 rw[hcast]
 refine⟨.inr ⟨by omega,by omega⟩,by omega,by omega,?_⟩
 rw[show ((m*W.length:Nat):Int).toNat=m*W.length by omega,jQj]
 refine kQf (rowN W) (by simp;omega) (fun _ _=>trivial) ?_ ?_
 ·intro x x' hx G' K K0 s hk
  obtain⟨q1,q2⟩:=lJe.mp hx
  simp at q1 q2;subst q2
  have hmod:x%W.length<W.length:=lQ5 _ hW1
  have hWx:W[x%W.length]? =some W[x%W.length]:=lJi hmod
  have hrow:rowN W x=List.replicate (W[x%W.length]).length .non:=by simp[rowN,hWx]
  rw[hrow] at hk
  generalize W[x%W.length]=es at hWx hk
  have hes:=fine.row _ _ hWx
  wp_walk using 1,List.length_map,show (x:Int)%(W.length:Int)=((x%W.length:Nat):Int) by simp,jUi hWx,encR
  refine⟨by omega,fun p hp=>⟨by omega,.newL (List.replicate es.length .non),?_,?_⟩⟩
  ·rw[<-qY7]
   simp only[mulR,jJf];rw[lJc];congr;refine⟨?_,?_,?_⟩<;>simp<;>omega
  ·rw[qUa]
   intro q hq
   have hq0:=(jJt hq).2
   exact hk q _ hq0 jJf ((Sub.new hp).over hq0)
 ·intro D rs G1 hD hD1 s1 hrl hnd hrs
  rw[lKw] at hrl
  have hfr:∀r,r∈rs->G r=none:=by
   intro r z
   obtain⟨j,hj⟩:=lJ8 z
   have hjl:j<rs.length:=(lJe.mp hj).1
   exact (hrs j r j hj (by rw[lQx (by omega)])).1
  refine⟨W,rfl,fine,fun pe G2 hpe hG2 hlen s2=> ?_⟩
  have hpn:∀r,r∈rs->pe≠r:=by
   rintro r z rfl
   obtain⟨j,hj⟩:=lJ8 z
   have hjl:j<rs.length:=(lJe.mp hj).1
   have:=(hrs j pe j hj (by rw[lQx (by omega)])).2
   rw[this] at hpe;cases hpe
  refine⟨(jK9 W).map encT,by simp only[jUz,hG2,asL],?_⟩
  let J1:Nat->St3->Gp->Prop:=fun t τ G'=>∃(v4 v5 v6 v7 v8 v9:Option T) (M:List (List T)),τ=[some (.tup (W.map encR)),some (.ref tr),some (.int m),some (.ref D),v4,v5,v6,v7,v8,v9,none,none]/\RowsT G' D M rs/\SInv W m Ts M/\uJm W m Ts M (fun t' k=>t'<t/\k<m)/\Sub G G'/\G' pe=some (.lst ((jK9 W).map encT))
  refine⟨J1,?_,?_,?_,?_⟩
  ·refine xi7 none none none none none none ((List.range (m*W.length)).map (rowN W)) rfl ⟨⟨s2 _ _ hD1,by simp[hrl],fun i r hi=> ?_⟩,qJa,fun t k e f σ k' h=>absurd h.1 (lK5 _),s1.trans s2,hG2⟩
   have hil:i<m*W.length:=by rw[<-hrl];exact (lJe.mp hi).1
   exact⟨rowN W i,by simp[hil],s2 _ _ (hrs i r i hi (by simp[hil])).2⟩
  ·intro t τ G' ht h_;apply xe7 h_;clear h_;intro v4 v5 v6 v7 v8 v9 M h_;apply ae5 h_;clear h_;intro i1 i2 i3 i4 i5
   simp only[jUz,i5,asL]
  ·intro t x τ G3 hx h_;apply xe7 h_;clear h_;intro v4 v5 v6 v7 v8 v9 M h_;apply ae5 h_;clear h_;intro i1 i2 i3 i4 i5
   have ht:t<(jK9 W).length:=by have:=(lJe.mp hx).1;simpa[jZ1] using this
   have hte:(jK9 W)[t]? =some (jK9 W)[t]:=lJi ht
   rw[jXk (x:=encT (jK9 W)[t]) (by simp[ht])] at hx
   cases hx
   generalize (jK9 W)[t]=x at hte
   obtain⟨e,f⟩:=x
   have htT:t<Ts.length:=by rw[ok.len];exact ht
   have hσ:Ts[t]? =some Ts[t]:=lJi htT
   generalize Ts[t]=σ at hσ
   obtain⟨T1,T2⟩:=ok.ok _ _ _ hte hσ
   have hef:en W e.1 e.2=some (f.1,f.2):=(kQp hte).1
   have hfe:=sym _ _ _ _ hef
   wp_walk using 1,jJ1,jKv,encT
   refine⟨by omega,by omega,?_⟩
   rw[show ((m:Int)).toNat=m by omega]
   let J2:Nat->St3->Gp->Prop:=fun k τ G'=>∃(v7 v8 v9:Option T) (M:List (List T)),τ=[some (.tup (W.map encR)),some (.ref tr),some (.int m),some (.ref D),some (.int t),some (encE e),some (encE f),v7,v8,v9,none,none]/\RowsT G' D M rs/\SInv W m Ts M/\uJm W m Ts M (fun t' k'=>(t'<t/\k'<m)\/(t'=t/\k'<k))/\Sub G G'/\G' pe=some (.lst ((jK9 W).map encT))
   refine⟨J2,?_,?_,?_,?_⟩
   ·refine xi4 v7 v8 v9 M rfl ⟨i1,i2,fun t' k e f σ k' h=> ?_,i4,i5⟩
    rcases h with h | h
    ·exact i3 t' k e f σ k' h
    ·exact absurd h.2 (lK5 _)
   ·intros;trivial
   ·intro k x τ G4 hx h_;apply xe4 h_;clear h_;intro v7 v8 v9 M h_;apply ae5 h_;clear h_;intro i1 i2 i3 i4 i5
    obtain⟨hk,rfl⟩:=jYk hx
    obtain⟨k',hk',hkm⟩:=T1.at hk
    have hb1:Bel W Ts (e.1+k*W.length) e.2 (f.1+k'*W.length) f.2:=⟨t,e,f,σ,k,k',hte,hσ,hk',.inl ⟨rfl,rfl,rfl,rfl⟩⟩
    obtain⟨ts,m1,m2⟩:=i2.at hk hef
    obtain⟨a,a1,a2,a3⟩:=i1.get m1
    have ham:=lJm a1
    obtain⟨p1,p2,p3⟩:=i2.put m1 m2 hb1
    have q1:=i1.set (ts:=ts.set e.2 (encE (f.1+k'*W.length,f.2))) hnd a1
    obtain⟨us,m3,m4⟩:=p1.at hkm hfe
    obtain⟨c,c1,c2,c3⟩:=q1.get m3
    have hcm:=lJm c1
    obtain⟨p4,p5,p6⟩:=p1.put m3 m4 hb1.symm
    have q2:=q1.set (ts:=us.set f.2 (encE (e.1+k*W.length,e.2))) hnd c1
    have g2:L2.atI (Ts.map fun σ=>T.tup (jJo σ)) (t:Int)=some (.tup (jJo σ)):=by rw[atN];simp[hσ]
    have g3:L2.atI (jJo σ) (k:Int)=some (.int (k':Nat)):=by rw[atN];simp[jJo,hk']
    have b1:e.1+k*W.length<m*W.length:=by rw[<-i2.len];exact (lJe.mp m1).1
    have b2:f.1+k'*W.length<m*W.length:=by rw[<-p1.len];exact (lJe.mp m3).1
    have s8:(e.1:Int)+(k:Int)*(W.length:Int)=((e.1+k*W.length:Nat):Int):=by simp
    have s9:(f.1:Int)+(k':Int)*(W.length:Int)=((f.1+k'*W.length:Nat):Int):=by simp
    wp_walk using 1,encE,List.length_map,jKs (i4 _ _ htr),g2,g3,s8,s9,jKs i1.1,a2,jZy a3 (kVj m2)
    refine⟨.inr ⟨by omega,by omega⟩,.inr ⟨by omega,by omega⟩,by omega,by omega,.ref c,(jKs q1.1).trans c2,_,jZy c3 (kVj m4),xi4 _ _ _ _ rfl ⟨q2,p4,?_,(i4.over (hfr a ham)).over (hfr c hcm),?_⟩⟩
    ·intro t' k0 e' f' σ' k1 h g4 g5 g6
     by_cases hh:t'=t/\k0=k
     ·obtain⟨rfl,rfl⟩:=hh
      rw[hte] at g4;cases g4
      rw[hσ] at g5;cases g5
      rw[hk'] at g6;cases g6
      exact⟨p6 _ _ p2,p5⟩
     ·obtain⟨z1,z2⟩:=i3 t' k0 e' f' σ' k1 (by omega) g4 g5 g6
      exact⟨p6 _ _ (p3 _ _ z1),p6 _ _ (p3 _ _ z2)⟩
    ·rw[jJh (hpn c hcm),jJh (hpn a ham)];exact i5
   ·intro τ G' h_;apply xe4 h_;clear h_;intro v7 v8 v9 M h_;apply ae5 h_;clear h_;intro i1 i2 i3 i4 i5
    rw[jUb] at i3
    refine xi7 _ _ _ _ _ _ M rfl ⟨i1,i2,fun t' k e f σ k' h=>i3 t' k e f σ k' ?_,i4,i5⟩
    by_cases hh:t'=t
    ·exact .inr ⟨hh,h.2⟩
    ·exact .inl ⟨by omega,h.2⟩
  ·intro τ G3 h_;apply xe7 h_;clear h_;intro v4 v5 v6 v7 v8 v9 M h_;apply ae5 h_;clear h_;intro i1 i2 i3 i4 i5
   rw[jZ1,lJg] at i3
   obtain⟨sh,eM⟩:=qVg sym ok i2 i3
   wp_walk using 1,iSeq,jJl i1.1
   refine jQw (es:=rs) (fun r=>T.tup (match G3 r with | some (.lst ts)=>ts | _=>[])) (by omega) (fun G' s=>jJl (s _ _ i1.1)) ?_ ?_
   ·intro i r hr G4 K K0 s hk
    obtain⟨ts,z1,z2⟩:=i1.2.2 i r hr
    wp_walk using 1,jJl (s _ _ z2)
    have:=hk G4 (.refl _)
    rw[z2] at this
    exact this
   ·intro E G4 hE h4 s4
    refine⟨_,jJl h4,?_⟩
    have e1:rs.map (fun r=>T.tup (match G3 r with | some (.lst ts)=>ts | _=>[]))=(M.map (List.map dec)).map encR:=by
     have e2:(M.map (List.map dec)).map encR=M.map T.tup:=by
      conv=>rhs;rw[eM]
      rw[lK0,lK0,lK0];rfl
     rw[e2]
     apply lQp
     intro i
     by_cases hi:i<rs.length
     ·have hri:rs[i]? =some rs[i]:=lJi hi
      obtain⟨ts,z1,z2⟩:=i1.2.2 i _ hri
      rw[lJs,lJs,hri,z1]
      simp only[lQi,z2]
     ·rw[lJ6 (by rw[lJg];omega),lJ6 (by rw[lJg,<-i1.2.1];omega)]
    rw[e1]
    exact kk _ G4 sh (i4.trans s4)
def Cov (W:Web) (m:Nat) (V:Web):Prop:=V=W\/(Sheet W m V/\Conn V)
theorem Sheet.fine {W V:Web} {m:Nat} (h:Sheet W m V) (f:Fine W) (hm:m*W.length<=1000):Fine V where
 len:=by rw[h.len];exact hm
 row:=fun x ts hx=>by obtain⟨es,h1,h2⟩:=h.row x ts hx;rw[h2];exact f.row _ _ h1
 rng:=fun r i s j he=>kUj (h.sym _ _ _ _ he)
theorem Found.conn {V:Web} {F:List Nat} (h:Found V 0 F) (hl:F.length=V.length):Conn V:=fun S h0 hst r hr=>h.got S h0 hst r (kVg h.nd h.lt hl r hr)
theorem kYe {G:Gp} {e f:Nat×Nat}:eqG G (encE e) (encE f)=some (decide (e=f)):=by
 obtain⟨a,b⟩:=e;obtain⟨c,d⟩:=f
 rw[show eqG G (encE (a,b)) (encE (c,d))=some (eqT (encE (a,b)) (encE (c,d))) from rfl]
 congr 1
 simp only[encE,eqT,eqTs,Bool.and_true]
 by_cases h1:a=c
 ·by_cases h2:b=d
  ·simp[h1,h2]
  ·have:¬ (b:Int)=d:=by omega
   simp[h1,h2,this]
 ·have:¬ (a:Int)=c:=by omega
  simp[h1,this]
theorem kJ6 {G:Gp} {a c:Nat}:eqG G (.int a) (.int c)=some (decide (a=c)):=by
 rw[show eqG G (.int a) (.int c)=some (eqT (.int a) (.int c)) from rfl]
 congr 1
 simp only[eqT]
 by_cases h1:a=c
 ·simp[h1]
 ·have:¬ (a:Int)=c:=by omega
  simp[h1,this]
noncomputable def jV1:Sp3:=fun xs G Q=>∃(b:Addr) (W:Web) (m n:Nat),xs=[.ref b,encW W,.int m]/\BoxAt G b n/\n+3*((jK9 W).length*m)<2^40/\Fine W/\Sym W/\1<=W.length/\1<=m/\m*W.length<=1000/\∀V G',Cov W m V->BoxAt G' b (n+3*((jK9 W).length*m))->Keep b G G'->Q (encW V) G'
def kYr:List Str:=["_law_box_here","_law_web_here","_law_many","_law_turn_here","_law_turns","_law_made","_law_pair"]
noncomputable def jV8:TS3:=
 (tSeq (tFor (jKv (jJc (tC (.int 3)) tNil)) (jJi 3) (tSeq (tAsg (jUs [false,false,false,false,false,false,true] (iSeq (jJr jYi (jJc (tVar 1) tNil))) (jJi 6) jXz (jJr kJe (jJc (tVar 0) (jJc (tVar 2) (jJc (tOp rEqA (tOp rIxF (tVar 6) (tC (.int 0))) (tOp rIxF (tVar 6) (tC (.int 1)))) tNil))))) (jJi 4))
 (tSeq (tAsg (jJr jVz (jJc (tVar 1) (jJc (tVar 4) (jJc (tVar 2) tNil)))) (jJi 5))
 (tIfS (jJs (tOp rEqA (tCB rLen (jJc (jJr jV0 (jJc (tVar 5) (jJc (tC (.int 0)) tNil))) tNil)) (tCB rLen (jJc (tVar 5) tNil)))) (tRet (tVar 5)) jKw))))
 (tRet (tVar 1)))
theorem kKn:RdOk jV1 jV8 kYr:=by
 intro xs G Q h_;apply xe4 h_;clear h_;intro b W m n h_;apply ae8 h_;clear h_;intro hb hn fine sym hW1 hm1 hmn kk
 show jV8 _ [some (.ref b),some (encW W),some (.int m),none,none,none,none] G
 have hs:=sz
 have hm2:m<=1000:=lJ9 (Nat.le_mul_of_pos_right m hW1) hmn
 wp_walk using 1,jV8,jJ1,jKv
 refine⟨by decide,by decide,?_⟩
 refine⟨fun k τ G'=>∃(v3 v4 v5:Option T),τ=[some (.ref b),some (encW W),some (.int m),v3,v4,v5,none]/\BoxAt G' b (n+k*((jK9 W).length*m))/\Keep b G G',?_,?_,?_,?_⟩
 ·exact⟨none,none,none,rfl,by simpa using hb,.refl _ _⟩
 ·intros;trivial
 ·intro k x τ G1 hx h_;apply xe3 h_;clear h_;intro v3 v4 v5 h_;apply ae2 h_;clear h_;intro hb1 kp1
  have hk:k<3:=by have:=(lJe.mp hx).1;rw[jUb] at this;exact this
  have hk3:(k+1)*((jK9 W).length*m)<=3*((jK9 W).length*m):=lXk _ (by omega)
  rw[lQu] at hk3
  obtain⟨bo,hbo⟩:=hb1.some
  wp_walk using 1,iSeq
  refine⟨W,rfl,fine,fun pe G2 hpe hG2 hlen s2=> ?_⟩
  have hpb:=jJg hbo hpe
  refine⟨_,jJl hG2,?_⟩
  intro D hD
  have hDb:=jJg (s2 _ _ hbo) hD
  have hDe:=jJg hG2 hD
  refine⟨fun i acc G'=>∃Ts:List (List Nat),acc=Ts.map (fun σ=>T.tup (jJo σ))/\Ts.length=i/\(∀(t:Nat) (x:Tie) (σ:List Nat),(jK9 W)[t]? =some x->Ts[t]? =some σ->Turn m σ/\(x.1=x.2->Invol σ))/\BoxAt G' b (n+k*((jK9 W).length*m)+i*m)/\Keep b G2 G'/\G' D=some (.lst acc),?_,?_,?_,?_⟩
  ·exact⟨[],rfl,rfl,fun t x σ _ h=>by simp at h,by simpa using (hb1.sub s2).gup hDb,.new hD,jJf⟩
  ·rintro i acc G' hi ⟨Ts,rfl,j1,j2,j3,j4,j5⟩
   exact⟨jJl (j4 _ _ hpb.symm hG2),j5⟩
  ·rintro i x acc G3 hx0 ⟨Ts,rfl,j1,j2,j3,j4,j5⟩
   obtain⟨⟨e,f⟩,hte,rfl⟩:=jKr hx0
   have hi:i<(jK9 W).length:=(lJe.mp hte).1
   have him:(i+1)*m<=(jK9 W).length*m:=lXk _ hi
   rw[lQu] at him
   wp_walk using 1,encT,rEqA,kYe
   refine⟨b,m,_,_,rfl,j3,by omega,hm1,hm2,fun σ G4 T1 T2 bx kp=> ?_⟩
   refine⟨kp _ _ hDb.symm j5,by rw[lJg];omega,Ts++[σ],by simp,by simp[j1],?_,?_,?_⟩
   ·intro t y ρ h1 h2
    by_cases htl:t<Ts.length
    ·rw[lKg htl] at h2;exact j2 t y ρ h1 h2
    ·have htl2:t<(Ts++[σ]).length:=(lJe.mp h2).1
     simp at htl2
     have:t=Ts.length:=by omega
     subst this
     rw[lQf (lJf _)] at h2
     simp at h2;subst h2
     rw[j1,hte] at h1;cases h1
     exact⟨T1,fun z=>T2 (by simpa using z)⟩
   ·exact (bx.gup hDb).mono (by rw[lQu];omega)
   ·exact (j4.trans kp).over hD
  ·rintro acc G3 ⟨Ts,rfl,j1,j2,j3,j4,j5⟩
   rw[lJg] at j1 j3
   have hkp3:Keep b G G3:=(kp1.trans (.sub s2)).trans j4
   refine⟨W,D,m,Ts,rfl,fine,sym,hW1,hm1,hmn,⟨j1,j2⟩,j5,fun V G4 sh s4=> ?_⟩
   have hVl:1<=V.length:=by rw[sh.len];exact Nat.mul_pos hm1 hW1
   refine⟨V,0,rfl,sh.fine fine hmn,hVl,fun p G5 F hp hp5 fd _ s5=> ?_⟩
   wp_walk using 1,rEqA,jJl hp5,encW,jJo,List.length_map,kJ6
   split
   ·rename_i hc
    have hc:F.length=V.length:=by simpa using hc
    exact kk V G5 (.inr ⟨sh,fd.conn hc⟩) (((j3.sub s4).sub s5).mono (by omega)) ((hkp3.trans (.sub s4)).trans (.sub s5))
   ·exact⟨((j3.sub s4).sub s5).mono (by rw[lQu];omega),(hkp3.trans (.sub s4)).trans (.sub s5)⟩
 ·intro τ G1 h_;apply xe3 h_;clear h_;intro v3 v4 v5 h_;apply ae2 h_;clear h_;intro hb1 kp1
  rw[jUb] at hb1
  wp_walk using 1,tSeq
  exact kk W G1 (.inl rfl) hb1 kp1
structure AnyWeb (W:Web):Prop where
 pos:1<=W.length
 len:W.length<=24
 sym:Sym W
 deg:∀(r:Nat) (es:List (Nat×Nat)),W[r]? =some es->es.length<=6
 conn:Conn W
theorem WebOk.any {n d:Nat} {W:Web} (h:WebOk n d W) (h1:1<=n) (h2:n<=24) (h3:d<=6):AnyWeb W:=⟨by rw[h.len];exact h1,by rw[h.len];exact h2,h.sym,fun r es hr=>lJ9 (h.deg r es hr) h3,h.conn⟩
theorem WebOk.fine {n d:Nat} {W:Web} (h:WebOk n d W) (h2:n<=24) (h3:d<=6):Fine W:=⟨by rw[h.len];omega,fun r es hr=>by have:=h.deg r es hr;omega,fun r i s j he=>kUj (h.sym _ _ _ _ he)⟩
theorem kZo {α β:Type} {f:α->List β} {d:Nat}:∀ {l:List α},(∀a,a∈l->(f a).length<=d)->(l.flatMap f).length<=l.length*d
 | [],_=>by simp
 | a::l,h=>by
  rw[List.flatMap_cons,lJ7,lKn,lQu]
  have h1:=h a (lKm)
  have h2:=kZo (l:=l) fun x hx=>h x (lKa _ hx)
  omega
theorem qXx {W:Web} {d:Nat} (h:∀(r:Nat) (es:List (Nat×Nat)),W[r]? =some es->es.length<=d):(jK9 W).length<=W.length*d:=by
 have:=kZo (f:=rowE W) (d:=d) (l:=List.range W.length) fun r hr=>by
  unfold rowE
  split
  ·rename_i es hes
   have h1:=lV2 (jZt r es) (List.range es.length)
   rw[lKw] at h1
   have h2:=h r es hes
   omega
  ·simp
 rwa [lKw] at this
def jUo:Sp3:=fun xs G Q=>∃(b:Addr) (n:Nat),xs=[.ref b]/\BoxAt G b n/\n+1000<2^40/\∀W G',AnyWeb W->BoxAt G' b (n+1000)->Keep b G G'->Q (encW W) G'
def kYs:List Str:=["_law_box_here","_law_way","_law_base","_law_many"]
noncomputable def jV9:TS3:=
 (tSeq (tAsg (jJr jJq (jJc (tVar 0) (jJc (tC (.int 8)) tNil))) (jJi 1))
 (tSeq (tIfS (jJs (tOp rEqA (tVar 1) (tC (.int 0)))) (tRet (jJr jYh (jJc (tVar 0) (jJc (tOp jKi (tC (.int 8)) (jJr jJq (jJc (tVar 0) (jJc (tC (.int 17)) tNil)))) (jJc (tOp jKi (tC (.int 3)) (jJr jJq (jJc (tVar 0) (jJc (tC (.int 4)) tNil)))) tNil))))) jKw)
 (tSeq (tIfS (jJs (tOp rLt (tVar 1) (tC (.int 4)))) (tRet (jJr jYh (jJc (tVar 0) (jJc (tOp jKi (tC (.int 1)) (jJr jJq (jJc (tVar 0) (jJc (tC (.int 7)) tNil)))) (jJc (tOp jKi (tC (.int 2)) (jJr jJq (jJc (tVar 0) (jJc (tC (.int 3)) tNil)))) tNil))))) jKw)
 (tSeq (tIfS (jJs (tOp rEqA (tVar 1) (tC (.int 4)))) (tRet (jJr kJf (jJc (tOp jKi (tC (.int 1)) (jJr jJq (jJc (tVar 0) (jJc (tC (.int 12)) tNil)))) tNil))) jKw)
 (tSeq (tAsg (jJr jYh (jJc (tVar 0) (jJc (tOp jKi (tC (.int 1)) (jJr jJq (jJc (tVar 0) (jJc (tC (.int 4)) tNil)))) (jJc (tOp jKi (tC (.int 2)) (jJr jJq (jJc (tVar 0) (jJc (tC (.int 2)) tNil)))) tNil)))) (jJi 2))
 (tSeq (tAsg (tOp jKi (tC (.int 2)) (jJr jJq (jJc (tVar 0) (jJc (tOp rIxF (tLst (jJc (tC (.int 5)) (jJc (tC (.int 5)) (jJc (tC (.int 5)) (jJc (tC (.int 3)) tNil))))) (tOp rSub (tCB rLen (jJc (tVar 2) tNil)) (tC (.int 1)))) tNil)))) (jJi 3))
 (tRet (jJr jV1 (jJc (tVar 0) (jJc (tVar 2) (jJc (tVar 3) tNil)))))))))))
theorem kKo:RdOk jUo jV9 kYs:=by
 intro xs G Q h_;apply xe2 h_;clear h_;intro b n h_;apply ae3 h_;clear h_;intro hb hn kk
 show jV9 _ [some (.ref b),none,none,none] G
 have hs:=sz
 wp_walk using 1,jV9,rEqA
 refine⟨b,_,n,rfl,hb,by omega,by omega,by omega,fun w G1 w0 w1 b1 k1=> ?_⟩
 obtain⟨w,rfl⟩:=lKv w0
 have e0:eqG G1 (T.int (w:Nat)) (T.int 0)=some (decide (w=0)):=kJ6 (c:=0)
 have e4:eqG G1 (T.int (w:Nat)) (T.int 4)=some (decide (w=4)):=kJ6 (c:=4)
 wp_walk using 1,e0,e4
 split
 ·refine⟨b,_,_,rfl,b1,by omega,by omega,by omega,fun r G2 r0 r1 b2 k2=> ?_⟩
  wp_walk using 1,tSeq
  refine⟨b,_,_,rfl,b2,by omega,by omega,by omega,fun q G3 q0 q1 b3 k3=> ?_⟩
  wp_walk using 1,tSeq
  obtain⟨r,rfl⟩:=lKv r0
  obtain⟨q,rfl⟩:=lKv q0
  refine⟨b,8+r,3+q,_,by simp,b3,by omega,by omega,by omega,by omega,by omega,fun W G4 ok b4 k4=> ?_⟩
  exact kk W G4 (ok.any (by omega) (by omega) (by omega)) (b4.mono (by omega)) (((k1.trans k2).trans k3).trans k4)
 split
 ·refine⟨b,_,_,rfl,b1,by omega,by omega,by omega,fun r G2 r0 r1 b2 k2=> ?_⟩
  wp_walk using 1,tSeq
  refine⟨b,_,_,rfl,b2,by omega,by omega,by omega,fun q G3 q0 q1 b3 k3=> ?_⟩
  wp_walk using 1,tSeq
  obtain⟨r,rfl⟩:=lKv r0
  obtain⟨q,rfl⟩:=lKv q0
  refine⟨b,1+r,2+q,_,by simp,b3,by omega,by omega,by omega,by omega,by omega,fun W G4 ok b4 k4=> ?_⟩
  exact kk W G4 (ok.any (by omega) (by omega) (by omega)) (b4.mono (by omega)) (((k1.trans k2).trans k3).trans k4)
 split
 ·refine⟨b,_,_,rfl,b1,by omega,by omega,by omega,fun r G2 r0 r1 b2 k2=> ?_⟩
  wp_walk using 1,tSeq
  obtain⟨r,rfl⟩:=lKv r0
  refine⟨1+r,by simp,by omega,by omega,fun G3 s3=> ?_⟩
  exact kk _ G3 ((qY6 (n:=1+r) (by omega)).any (by omega) (by omega) (by omega)) ((b2.sub s3).mono (by omega)) ((k1.trans k2).trans (.sub s3))
 refine⟨b,_,_,rfl,b1,by omega,by omega,by omega,fun r G2 r0 r1 b2 k2=> ?_⟩
 wp_walk using 1,tSeq
 refine⟨b,_,_,rfl,b2,by omega,by omega,by omega,fun q G3 q0 q1 b3 k3=> ?_⟩
 wp_walk using 1,tSeq
 obtain⟨r,rfl⟩:=lKv r0
 obtain⟨q,rfl⟩:=lKv q0
 refine⟨b,1+r,2+q,_,by simp,b3,by omega,by omega,by omega,by omega,by omega,fun W G4 ok b4 k4=> ?_⟩
 wp_walk using 1,encW,List.length_map
 refine⟨by omega,fun p hp=> ?_⟩
 obtain⟨bo,hbo⟩:=b4.some
 have hbp:=jJg hbo hp
 have hWl:=ok.len
 have hfine:=ok.fine (by omega) (by omega)
 have hends:=qXx ok.deg
 obtain⟨c,hc,hc1,hc2,hc3⟩:∃c:Nat,L2.atI [T.int 5,T.int 5,T.int 5,T.int 3] ((W.length:Int)-1)=some (.int (c:Nat))/\1<=c/\c<=5/\(c+1)*W.length<=24:=by
  have:W.length=1\/W.length=2\/W.length=3\/W.length=4:=by omega
  rcases this with h | h | h | h<;>rw[h]
  ·exact⟨5,rfl,by decide,by decide,by decide⟩
  ·exact⟨5,rfl,by decide,by decide,by decide⟩
  ·exact⟨5,rfl,by decide,by decide,by decide⟩
  ·exact⟨3,rfl,by decide,by decide,by decide⟩
 refine⟨_,hc,?_⟩
 refine⟨b,_,_,rfl,b4.gup hbp,by omega,by omega,by omega,fun x G5 x0 x1 b5 k5=> ?_⟩
 wp_walk using 1,tSeq
 obtain⟨x,rfl⟩:=lKv x0
 have hm:(2+x)*W.length<=24:=lJ9 (lXk _ (by omega)) hc3
 have hcost:(jK9 W).length*(2+x)<=12*6:=Nat.mul_le_mul (lJ9 hends (by rw[hWl];exact Nat.mul_le_mul (show 1+r<=4 by omega) (show 2+q<=3 by omega))) (by omega)
 refine⟨b,W,2+x,_,by simp[encW],b5,by omega,hfine,ok.sym,by omega,by omega,by omega,fun V G6 cov b6 k6=> ?_⟩
 refine kk V G6 ?_ (b6.mono (by omega)) (((((k1.trans k2).trans k3).trans k4).trans (.new hp)).trans k5 |>.trans k6)
 rcases cov with rfl | ⟨sh,cn⟩
 ·exact ok.any (by omega) (by omega) (by omega)
 ·refine⟨by rw[sh.len];exact Nat.mul_pos (by omega) (by omega),by rw[sh.len];exact hm,sh.sym,fun y es hy=> ?_,cn⟩
  obtain⟨es',h1,h2⟩:=sh.row y es hy
  have:=ok.deg _ _ h1
  omega
theorem kXc {kvs:List (L2.Key×T)} {k:L2.Key}:(valT kvs k).isSome=true↔k∈kvs.map Prod.fst:=by
 unfold valT
 rw[lXf,List.find?_isSome,lJw]
 exact⟨fun ⟨a,h1,h2⟩=>⟨a,h1,by simpa using h2⟩,fun ⟨a,h1,h2⟩=>⟨a,h1,by simpa using h2⟩⟩
def keyN (x:Nat):L2.Key:= .inl (x:Nat)
theorem kZi {F:List Nat} {x:Nat}:keyN x∈F.map keyN↔x∈F:=by
 rw[lJw]
 refine⟨fun ⟨a,ha,e⟩=> ?_,fun h=>⟨x,h,rfl⟩⟩
 have e1:(Sum.inl (a:Int):L2.Key)=Sum.inl (x:Int):=e
 have:(a:Int)=x:=by injection e1
 have:a=x:=by omega
 exact this▸ha
theorem qQy {G:Gp} {d:Addr} {kvs:List (L2.Key×T)} {F:List Nat} {x:Nat} (h:G d=some (.dck kvs)) (hk:kvs.map Prod.fst=F.map keyN):inR G (.int (x:Nat)) (.ref d)=some (decide (x∈F)):=by
 have e1:seqT G (.ref d)=none:=by simp only[seqT,h];rfl
 have e2:dAt G (.ref d) (.int (x:Nat))=some (valT kvs (keyN x)):=by simp only[dAt,h,jU1];rfl
 unfold inR
 simp only[e1,e2]
 congr 1
 rw[Bool.eq_iff_iff,kXc,hk,kZi];simp
theorem qVv {kvs:List (L2.Key×T)} {k:L2.Key} {v:T} (h:k∉kvs.map Prod.fst):putT kvs k v=kvs++[(k,v)]:=by
 unfold putT
 rw[lJb]
 rw[List.any_eq_true]
 rintro⟨a,ha,e⟩
 exact h (lJw.mpr ⟨a,ha,by simpa using e⟩)
theorem qVj {G:Gp} {d:Addr} {kvs:List (L2.Key×T)} {x:Nat} {v:T} (h:G d=some (.dck kvs)) (hz:kvs.length<sizeLine):setR G (.ref d) (.int (x:Nat)) v=some (gup G d (.dck (putT kvs (keyN x) v))):=by
 simp only[setR,h,jU1]
 rw[lJc hz];rfl
theorem kUa {xs:List T} {j:Nat} {y:T} (h:(numT xs)[j]? =some y):∃x,xs[j]? =some x/\y= .tup [.int j,x]:=by
 have hj:j<xs.length:=by have:=(lJe.mp h).1;rwa [jKl] at this
 refine⟨xs[j],lJi hj,?_⟩
 rw[jXk (lJi hj)] at h
 cases h;rfl
theorem kYz {G G':Gp} (h:Sub G G') {p:Addr} (hp:G' p=none):G p=none:=by
 cases e:G p with
 | none=>rfl
 | some o=>rw[h _ _ e] at hp;cases hp
theorem vis_sub {F:List Nat} {es:List (Nat×Nat)}:(∃E,vis F es=F++E)/\(∀e,e∈es->e.1∈vis F es)/\(∀x,x∈vis F es->x∈F\/∃e,e∈es/\e.1=x)/\(F.Nodup->(vis F es).Nodup):=by
 induction es generalizing F with
 | nil=>exact⟨⟨[],by simp[vis]⟩,by simp,fun x h=> .inl h,fun h=>h⟩
 | cons e es ih=>
  have hv:vis F (e::es)=vis (if F.contains e.1=true then F else F++[e.1]) es:=rfl
  rw[hv]
  by_cases h:F.contains e.1=true
  ·rw[lJc h]
   obtain⟨⟨E,i1⟩,i2,i3,i4⟩:=ih (F:=F)
   refine⟨⟨E,i1⟩,fun d hd=> ?_,fun x hx=> ?_,i4⟩
   ·rcases (lJj.mp hd) with rfl | hde
    ·rw[i1];exact lQe _ (by simpa using h)
    ·exact i2 d hde
   ·rcases i3 x hx with h | ⟨d,hd,e⟩
    ·exact .inl h
    ·exact .inr ⟨d,lKa _ hd,e⟩
  ·rw[lJb h]
   obtain⟨⟨E,i1⟩,i2,i3,i4⟩:=ih (F:=F++[e.1])
   refine⟨⟨e.1::E,by rw[i1];simp⟩,fun d hd=> ?_,fun x hx=> ?_,fun hn=>i4 ?_⟩
   ·rcases (lJj.mp hd) with rfl | hde
    ·rw[i1];exact lQe _ (by simp)
    ·exact i2 d hde
   ·rcases i3 x hx with h | ⟨d,hd,e'⟩
    ·rcases (lKt.mp h) with h | hs
     ·exact .inl h
     ·exact .inr ⟨e,lKm ..,(lJ1.mp hs).symm⟩
    ·exact .inr ⟨d,lKa _ hd,e'⟩
   ·rw[lQk]
    exact⟨hn,by simp,fun a ha b hb=>by rw[lJ1] at hb;subst hb;rintro rfl;exact h (by simpa using ha)⟩
structure Bfs (W:Web) (k:Nat) (F:List Nat):Prop where
 nd:F.Nodup
 lt:∀x,x∈F->x<W.length
 near:∀(i x:Nat) (e:Nat×Nat),i<k->F[i]? =some x->e∈row W x->e.1∈F
theorem qY5 {W:Web} {x:Nat} {e:Nat×Nat} (h:e∈row W x):∃i,en W x i=some e:=by
 unfold row at h
 cases hW:W[x]? with
 | none=>rw[hW] at h;simp at h
 | some es=>
  rw[hW] at h
  obtain⟨i,hi⟩:=lJ8 (show e∈es from h)
  exact⟨i,jYw hW hi⟩
theorem Bfs.step {W:Web} (f:Fine W) {k r:Nat} {F:List Nat} (h:Bfs W k F) (hr:F[k]? =some r):Bfs W (k+1) (vis F (row W r)):=by
 obtain⟨⟨E,e1⟩,e2,e3,e4⟩:=vis_sub (F:=F) (es:=row W r)
 refine⟨e4 h.nd,fun x hx=> ?_,fun i x e hi hx he=> ?_⟩
 ·rcases e3 x hx with hx | ⟨e,he,rfl⟩
  ·exact h.lt x hx
  ·obtain⟨i,hi⟩:=qY5 he
   exact f.rng _ _ e.1 e.2 hi
 ·have hkl:k<F.length:=(lJe.mp hr).1
  have hx':F[i]? =some x:=by rw[e1,lKg (by omega)] at hx;exact hx
  rcases Nat.lt_or_eq_of_le (Nat.le_of_lt_succ hi) with h1 | rfl
  ·rw[e1];exact lQe _ (h.near i x e h1 hx' he)
  ·rw[hr] at hx';cases hx';exact e2 e he
theorem Bfs.run {W:Web} (f:Fine W):∀(n k:Nat) (F:List Nat),Bfs W k F->W.length<=n+k->k<=F.length->(∃E,bfsN W n k F=F++E)/\Bfs W (bfsN W n k F).length (bfsN W n k F)
 | 0,k,F,h,hl,hk=>by
  have hF:=jJ5 h.nd h.lt
  have:k=F.length:=by omega
  subst this
  exact⟨⟨[],by simp[bfsN]⟩,h⟩
 | n+1,k,F,h,hl,hk=>by
  rcases lKe k F.length with hlt | hge
  ·have hr:F[k]? =some F[k]:=lJi hlt
   rw[kKd hr]
   obtain⟨⟨E,e1⟩,e2,e3,e4⟩:=vis_sub (F:=F) (es:=row W F[k])
   obtain⟨⟨E',h1⟩,h2⟩:=Bfs.run f n (k+1) _ (h.step f hr) (by omega) (by rw[e1,lJ7];omega)
   exact⟨⟨E++E',by rw[h1,e1,lXe]⟩,h2⟩
  ·have:k=F.length:=by omega
   subst this
   rw[kKe (lJf _)]
   exact⟨⟨[],by simp⟩,h⟩
theorem qUz {W:Web} (f:Fine W) {r:Nat} (hr:r<W.length):(∃E,bfs W r=r::E)/\Bfs W (bfs W r).length (bfs W r):=
 Bfs.run f W.length 0 [r] ⟨by simp,by simpa using hr,fun i x e hi=>absurd hi (lK5 _)⟩ (by omega) (by simp)
theorem md {x n:Nat} (h:x<2*n):x%n=if x<n then x else x-n:=by
 split
 ·rename_i h1;exact lK6 h1
 ·rename_i h1
  rw[Nat.mod_eq_sub_mod (by omega),lK6 (by omega)]
theorem vis_lt {W:Web} (f:Fine W) {F:List Nat} {x:Nat} {es:List (Nat×Nat)} (hx:W[x]? =some es) (hF:∀y,y∈F->y<W.length) (j:Nat):∀y,y∈vis F (es.take j)->y<W.length:=by
 intro y hy
 rcases (vis_sub (F:=F) (es:=es.take j)).2.2.1 y hy with h | ⟨e,he,rfl⟩
 ·exact hF y h
 ·obtain⟨i,hi⟩:=lJ8 (List.mem_of_mem_take he)
  exact f.rng x i e.1 e.2 (jYw hx hi)
def lx:List Nat->List Nat->Prop
 | [],_=>False
 | _::_,[]=>False
 | a::u,b::v=>a<b\/(a=b/\lx u v)
def slt (u v:List Nat):Prop:=u.length<v.length\/(u.length=v.length/\lx u v)
theorem kZf:∀ {u v w:List Nat},lx u v->lx v w->lx u w
 | [],_,_,h,_=>(show False from h).elim
 | _::_,[],_,h,_=>(show False from h).elim
 | _::_,_::_,[],_,h=>(show False from h).elim
 | a::u,b::v,c::w,h,k=>by
  rcases h with h | ⟨rfl,h⟩<;>rcases k with k | ⟨rfl,k⟩
  ·exact .inl (Nat.lt_trans h k)
  ·exact .inl h
  ·exact .inl k
  ·exact .inr ⟨rfl,kZf h k⟩
theorem qYn {x y:List Nat}:∀ {u v:List Nat},u.length=v.length->lx u v->lx (u++x) (v++y)
 | [],_,_,h=>(show False from h).elim
 | _::_,[],_,h=>(show False from h).elim
 | a::u,b::v,e,h=>by
  rcases h with h | ⟨rfl,h⟩
  ·exact .inl h
  ·exact .inr ⟨rfl,qYn (by simpa using e) h⟩
theorem qQn {a b:Nat} (h:a<b):∀u:List Nat,lx (u++[a]) (u++[b])
 | []=> .inl h
 | _::u=> .inr ⟨rfl,qQn h u⟩
theorem qKo {u v w:List Nat} (h:slt u v) (k:slt v w):slt u w:=by
 rcases h with h | ⟨h,h'⟩<;>rcases k with k | ⟨k,k'⟩
 ·exact .inl (Nat.lt_trans h k)
 ·exact .inl (by omega)
 ·exact .inl (by omega)
 ·exact .inr ⟨h.trans k,kZf h' k'⟩
theorem kY0 {u v:List Nat} {a b:Nat} (h:slt u v):slt (u++[a]) (v++[b]):=by
 rcases h with h | ⟨h,h'⟩
 ·exact .inl (by simp;exact h)
 ·exact .inr ⟨by simp;exact h,qYn h h'⟩
theorem qVe {u:List Nat} {a b:Nat} (h:a<b):slt (u++[a]) (u++[b]):= .inr ⟨by simp,qQn h u⟩
def sle (u v:List Nat):Prop:=u=v\/slt u v
theorem qKp {u v w:List Nat} (h:sle u v) (k:sle v w):sle u w:=by
 rcases h with rfl | h
 ·exact k
 ·rcases k with rfl | k
  ·exact .inr h
  ·exact .inr (qKo h k)
theorem qVf {u v:List Nat} {d:Nat} (h:sle u v):sle (u++[d]) (v++[d]):=by
 rcases h with rfl | h
 ·exact .inl rfl
 ·exact .inr (kY0 h)
def kUu (W:Web):Nat->List Nat->Nat->Prop
 | r,[],x=>r=x
 | r,d::u,x=>∃s j,en W r d=some (s,j)/\kUu W s u x
theorem kK8 {W:Web} {x d y j:Nat} (h:en W x d=some (y,j)):∀ {u:List Nat} {r:Nat},kUu W r u x->kUu W r (u++[d]) y
 | [],r,e=>by cases (show r=x from e);exact⟨y,j,h,rfl⟩
 | c::u,r,⟨s,k,e,l⟩=>⟨s,k,e,kK8 h l⟩
theorem kK9 {W:Web} {d y:Nat}:∀ {u:List Nat} {r:Nat},kUu W r (u++[d]) y->∃x j,kUu W r u x/\en W x d=some (y,j)
 | [],r,⟨s,j,e,l⟩=>by cases (show s=y from l);exact⟨r,j,rfl,e⟩
 | c::u,r,⟨s,k,e,l⟩=>by
  obtain⟨x,j,h1,h2⟩:=kK9 l
  exact⟨x,j,⟨s,k,e,h1⟩,h2⟩
structure Least (W:Web) (r x:Nat) (w:List Nat):Prop where
 to:kUu W r w x
 le:∀u,kUu W r u x->sle w u
abbrev PE:=Nat×Option (Nat×Nat)×List Nat
structure Tr (W:Web) (r0 a j:Nat) (P:List PE):Prop where
 nd:(P.map Prod.fst).Nodup
 zero:P[0]? =some (r0,none,[])
 to:∀p,p∈P->kUu W r0 p.2.2 p.1
 par:∀p,p∈P->p=(r0,none,[])\/∃(i:Nat) (q:PE) (d:Nat),(i<a\/(i=a/\d<j))/\P[i]? =some q/\p.2.1=some (q.1,d)/\p.2.2=q.2.2++[d]
 inc:∀(i k:Nat) (p q:PE),i<k->P[i]? =some p->P[k]? =some q->slt p.2.2 q.2.2
 cl:∀(i:Nat) (p:PE) (d y k:Nat),(i<a\/(i=a/\d<j))->P[i]? =some p->en W p.1 d=some (y,k)->∃q,q∈P/\q.1=y/\sle q.2.2 (p.2.2++[d])
theorem qU8 {W:Web} {r0:Nat}:Tr W r0 0 0 [(r0,none,[])] where
 nd:=by simp
 zero:=rfl
 to:=fun p hp=>by rw[lJ1.mp hp];rfl
 par:=fun p hp=> .inl (lJ1.mp hp)
 inc:=fun i k p q h h1 h2=>by
  have:=(lJe.mp h2).1
  simp at this;omega
 cl:=fun i p d y k h=>by omega
theorem Tr.old {W:Web} {r0 a j:Nat} {P:List PE} {x:PE} (h:Tr W r0 a j P) (hx:P[a]? =some x):∀p,p∈P->slt p.2.2 (x.2.2++[j]):=by
 intro p hp
 rcases h.par p hp with rfl | ⟨i,q,d,hi,hq,_,e⟩
 ·exact .inl (by simp)
 ·rw[e]
  rcases hi with hi | ⟨rfl,hd⟩
  ·exact kY0 (h.inc i a q x hi hq hx)
  ·rw[hx] at hq;cases hq
   exact qVe hd
theorem Tr.skip {W:Web} {r0 a j y k:Nat} {P:List PE} {x:PE} (h:Tr W r0 a j P) (hx:P[a]? =some x) (he:en W x.1 j=some (y,k)) (hy:y∈P.map Prod.fst):Tr W r0 a (j+1) P where
 nd:=h.nd
 zero:=h.zero
 to:=h.to
 par:=fun p hp=>by
  rcases h.par p hp with e | ⟨i,q,d,hi,r⟩
  ·exact .inl e
  ·exact .inr ⟨i,q,d,by omega,r⟩
 inc:=h.inc
 cl:=fun i p d z k' hi hp hz=>by
  by_cases hh:i=a/\d=j
  ·obtain⟨rfl,rfl⟩:=hh
   rw[hx] at hp;cases hp
   rw[he] at hz;cases hz
   obtain⟨q,hq,rfl⟩:=lJw.mp hy
   exact⟨q,hq,rfl,.inr (h.old hx q hq)⟩
  ·exact h.cl i p d z k' (by omega) hp hz
theorem Tr.add {W:Web} {r0 a j y k:Nat} {P:List PE} {x:PE} (h:Tr W r0 a j P) (hx:P[a]? =some x) (he:en W x.1 j=some (y,k)) (hy:y∉P.map Prod.fst):Tr W r0 a (j+1) (P++[(y,some (x.1,j),x.2.2++[j])]):=by
 have hal:a<P.length:=(lJe.mp hx).1
 have lf:∀ {i:Nat} {q:PE},P[i]? =some q->(P++[(y,some (x.1,j),x.2.2++[j])])[i]? =some q:=fun {i q} hq=>by
  rw[lKg (lJe.mp hq).1];exact hq
 have rt:∀ {i:Nat} {q:PE},(P++[(y,some (x.1,j),x.2.2++[j])])[i]? =some q->P[i]? =some q\/(i=P.length/\q=(y,some (x.1,j),x.2.2++[j])):=fun {i q} hq=>by
  by_cases hi:i<P.length
  ·rw[lKg hi] at hq;exact .inl hq
  ·have:=(lJe.mp hq).1
   simp at this
   have e:i=P.length:=by omega
   subst e
   rw[lQf (lJf _)] at hq
   simp at hq
   exact .inr ⟨rfl,hq.symm⟩
 refine⟨?_,lf h.zero,fun p hp=> ?_,fun p hp=> ?_,fun i m p q him hp hq=> ?_,fun i p d z k' hi hp hz=> ?_⟩
 ·rw[lVq,lQk]
  refine⟨h.nd,by simp,fun u hu v hv=> ?_⟩
  have:v=y:=by simpa using hv
  subst this
  rintro rfl;exact hy hu
 ·rcases (lKt.mp hp) with hp | hp
  ·exact h.to p hp
  ·rw[lJ1.mp hp]
   exact kK8 he (h.to x (lJm hx))
 ·rcases (lKt.mp hp) with hp | hp
  ·rcases h.par p hp with e | ⟨i,q,d,hi,hq,r⟩
   ·exact .inl e
   ·exact .inr ⟨i,q,d,by omega,lf hq,r⟩
  ·rw[lJ1.mp hp]
   exact .inr ⟨a,x,j,by omega,lf hx,rfl,rfl⟩
 ·rcases rt hp with hp | ⟨rfl,rfl⟩<;>rcases rt hq with hq | ⟨rfl,rfl⟩
  ·exact h.inc i m p q him hp hq
  ·exact h.old hx p (lJm hp)
  ·have:=(lJe.mp hq).1
   omega
  ·omega
 ·rcases rt hp with hpo | ⟨rfl,rfl⟩
  ·by_cases hh:i=a/\d=j
   ·obtain⟨rfl,rfl⟩:=hh
    rw[hx] at hpo;cases hpo
    rw[he] at hz;cases hz
    exact⟨_,lKu _ (List.mem_singleton_self _),rfl,.inl rfl⟩
   ·obtain⟨q,h1,h2⟩:=h.cl i p d z k' (by omega) hpo hz
    exact⟨q,lQe _ h1,h2⟩
  ·omega
theorem Tr.next {W:Web} {r0 a n:Nat} {P:List PE} {x:PE} (h:Tr W r0 a n P) (hx:P[a]? =some x) (hn:∀d e,en W x.1 d=some e->d<n):Tr W r0 (a+1) 0 P where
 nd:=h.nd
 zero:=h.zero
 to:=h.to
 par:=fun p hp=>by
  rcases h.par p hp with e | ⟨i,q,d,hi,r⟩
  ·exact .inl e
  ·exact .inr ⟨i,q,d,by omega,r⟩
 inc:=h.inc
 cl:=fun i p d z k' hi hp hz=>by
  refine h.cl i p d z k' ?_ hp hz
  by_cases hh:i=a
  ·subst hh
   rw[hx] at hp;cases hp
   exact .inr ⟨rfl,hn d _ hz⟩
  ·exact .inl (by omega)
theorem Tr.all {W:Web} {r0:Nat} {P:List PE} (h:Tr W r0 P.length 0 P):∀(n:Nat) (u:List Nat) (y:Nat),u.length=n->kUu W r0 u y->∃q,q∈P/\q.1=y/\sle q.2.2 u
 | 0,u,y,hn,hl=>by
  have:u=[]:=lQh.mp hn
  subst this
  cases (show r0=y from hl)
  exact⟨_,lJm h.zero,rfl,.inl rfl⟩
 | n+1,u,y,hn,hl=>by
  rcases List.eq_nil_or_concat u with rfl | ⟨u',d,rfl⟩
  ·simp at hn
  ·rw[List.concat_eq_append] at hl hn ⊢
   obtain⟨x,j,h1,h2⟩:=kK9 hl
   obtain⟨q,hq,rfl,hs⟩:=h.all n u' x (by simpa using hn) h1
   obtain⟨i,hi⟩:=lJ8 hq
   obtain⟨q',a1,a2,a3⟩:=h.cl i q d y j (.inl (lJe.mp hi).1) hi h2
   exact⟨q',a1,a2,qKp a3 (qVf hs)⟩
theorem kZb {α β:Type} {f:α->β}:∀ {P:List α},(P.map f).Nodup->∀ {p q:α},p∈P->q∈P->f p=f q->p=q
 | [],_,_,_,h,_,_=>by simp at h
 | a::P,nd,p,q,hp,hq,e=>by
  rw[lJr,lKd] at nd
  rcases (lJj.mp hp) with ep | hp'<;>rcases lJj.mp hq with eq | hq'
  ·rw[ep,eq]
  ·exact absurd (lJw.mpr ⟨q,hq',by rw[<-e,ep]⟩) nd.1
  ·exact absurd (lJw.mpr ⟨p,hp',by rw[e,eq]⟩) nd.1
  ·exact kZb nd.2 hp' hq' e
theorem Tr.least {W:Web} {r0:Nat} {P:List PE} (h:Tr W r0 P.length 0 P) {p:PE} (hp:p∈P):Least W r0 p.1 p.2.2:=by
 refine⟨h.to p hp,fun u hu=> ?_⟩
 obtain⟨q,hq,e,hs⟩:=h.all _ u _ rfl hu
 rw[kZb h.nd hq hp e] at hs
 exact hs
def encO:Option (Nat×Nat)->T
 | none=> .non
 | some e=>encE e
def jU0 (P:List PE):List (L2.Key×T):=P.map fun p=>(keyN p.1,encO p.2.1)
theorem kZg {P:List PE}:(jU0 P).map Prod.fst=(P.map Prod.fst).map keyN:=by
 unfold jU0;rw[lK0,lK0];rfl
theorem qXd {x y:Nat} (h:keyN x=keyN y):x=y:=by
 have:((x:Nat):Int)=(y:Nat):=Sum.inl.inj h
 omega
theorem kYy {α:Type} {f:α->Nat} {g:α->T}:∀ {P:List α},(P.map f).Nodup->∀ {p:α},p∈P->valT (P.map fun p=>(keyN (f p),g p)) (keyN (f p))=some (g p)
 | [],_,_,h=>by simp at h
 | a::P,nd,p,hp=>by
  rw[lJr,lKd] at nd
  rw[lJr]
  unfold valT
  rw[lKh]
  by_cases hh:f a=f p
  ·rcases (lJj.mp hp) with rfl | hp
   ·simp
   ·exact absurd (lJw.mpr ⟨p,hp,hh.symm⟩) nd.1
  ·have hp':p∈P:=by
    rcases (lJj.mp hp) with rfl | hp
    ·exact absurd rfl hh
    ·exact hp
   have:decide (keyN (f a)=keyN (f p))=false:=lJo fun e=>hh (qXd e)
   simp only[this]
   exact kYy nd.2 hp'
theorem qQt {G:Gp} {d:Addr} {kvs:List (L2.Key×T)} {x:Nat} (h:G d=some (.dck kvs)):ixR G (.ref d) (.int (x:Nat))=valT kvs (keyN x):=by
 have h1:seqT G (.ref d)=none:=by simp only[seqT,h,asL]
 have h2:dAt G (.ref d) (.int (x:Nat))=some (valT kvs (keyN x)):=by simp only[dAt,h,jU1];rfl
 unfold ixR;rw[h1,h2]
noncomputable def jKu:Sp3:=fun xs G Q=>∃(W:Web) (r0:Nat),xs=[encW W,.int r0]/\Fine W/\r0<W.length/\∀d G' P,G d=none->G' d=some (.dck (jU0 P))->P.map Prod.fst=bfs W r0->Tr W r0 P.length 0 P->Sub G G'->Q (.ref d) G'
def kKi:List Str:=["web","room","comings","level","further","here","door","end"]
noncomputable def jQ4:TS3:=
 (tSeq (tAsg (kU1 (tVar 1) (tC .non)) (jJi 2))
 (tSeq (tAsg (tLst (jJc (tVar 1) tNil)) (jJi 3))
 (tSeq (kJb (tTru rTru (tVar 3)) (tSeq (tAsg (tLst tNil) (jJi 4))
 (tSeq (tFor (iSeq (tVar 3)) (jJi 5) (tFor (iEnT (jJc (tOp rIxF (tVar 0) (tVar 5)) tNil)) (gTup 2 (jKt (jJi 6) (jKt (jJi 7) gNil))) (tIfS (jJs (tOp jQm (tOp rIxF (tVar 7) (tC (.int 0))) (tVar 2))) (tSeq (tAsg (tTup (jJc (tVar 5) (jJc (tVar 6) tNil))) (gSub (tVar 2) (tOp rIxF (tVar 7) (tC (.int 0))) jUy))
 (jQf (tBM "list" jK6 (tVar 4) (jJc (tOp rIxF (tVar 7) (tC (.int 0))) tNil)))) jKw)))
 (tAsg (tVar 4) (jJi 3)))))
 (tRet (tVar 2)))))
theorem jYo:RdOk jKu jQ4 kKi:=by
 intro xs G Q h_;apply xe2 h_;clear h_;intro W r0 h_;apply ae3 h_;clear h_;intro fine hr0 kk
 show jQ4 _ [some (.tup (W.map encR)),some (.int r0),none,none,none,none,none,none] G
 have hs:=sz
 have hl:=fine.len
 wp_walk using 1,jQ4,kJb,jJ1,kU1,iSeq,iEnT
 intro d hd
 refine⟨keyN r0,rfl,by omega,fun l hl0=> ?_⟩
 have hdl:d≠l:=jJg (jJf (G:=G) (a:=d) (o:= .dck [(keyN r0,T.non)])) hl0
 refine⟨fun m τ G'=>∃(a:Nat) (l:Addr) (v4 v5 v6 v7:Option T) (F:List Nat) (P:List PE),τ=[some (.tup (W.map encR)),some (.int r0),some (.ref d),some (.ref l),v4,v5,v6,v7]/\d≠l/\G l=none/\G' d=some (.dck (jU0 P))/\P.map Prod.fst=F/\Tr W r0 a 0 P/\G' l=some (.lst (jJo (F.drop a)))/\a<=F.length/\Bfs W a F/\bfs W r0=bfsN W (W.length-a) a F/\Sub G G'/\m=W.length-a,?_,?_⟩
 ·refine⟨_,0,l,none,none,none,none,[r0],[(r0,none,[])],rfl,hdl,?_,?_,rfl,qU8,jJf,lJ2 _,⟨by simp,by simpa using hr0,fun i x e hi=>absurd hi (lK5 _)⟩,rfl,(Sub.new hd).trans (.new hl0),rfl⟩
  ·rw[jJh hdl.symm] at hl0;exact hl0
  ·rw[jJh hdl];exact jJf
 intro m τ G1 h_;apply xe8 h_;clear h_;intro a l v4 v5 v6 v7 F P h_;apply ae11 h_;clear h_;intro hdl hl0 h1 hk hT h2 haF hB hb hs1 e10_
 subst e10_
 have hFl:=jJ5 hB.nd hB.lt
 wp_walk using 1,h2
 split
 ·rename_i hne
  have haF':a<F.length:=by
   rcases lKe a F.length with z | z
   ·exact z
   ·rw[List.drop_of_length_le z] at hne;simp[jJo] at hne
  refine⟨fun τ' G'=>∃(l':Addr) (v4 v5 v6 v7:Option T) (F':List Nat) (P':List PE),τ'=[some (.tup (W.map encR)),some (.int r0),some (.ref d),some (.ref l'),v4,v5,v6,v7]/\d≠l'/\G l'=none/\G' d=some (.dck (jU0 P'))/\P'.map Prod.fst=F'/\Tr W r0 F.length 0 P'/\G' l'=some (.lst (jJo (F'.drop F.length)))/\F.length<=F'.length/\Bfs W F.length F'/\bfs W r0=bfsN W (W.length-F.length) F.length F'/\Sub G G',?_,by omega,fun p hp=> ?_⟩
  ·intro τ' G' h_;apply xe7 h_;clear h_;intro l' v4 v5 v6 v7 F' P' h_;apply ae10 h_;clear h_;intro i1 i2 i3 i4 iT i5 i6 i7 i8 i9
   exact⟨W.length-F.length,by omega,F.length,l',v4,v5,v6,v7,rfl,i1,i2,F',P',i3,i4,iT,i5,i6,i7,i8,i9,rfl⟩
  ·have hpd:d≠p:=jJg h1 hp
   have hpl:l≠p:=jJg h2 hp
   have hp0:=kYz hs1 hp
   refine⟨jJo (F.drop a),jJl (by rw[jJh hpl];exact h2),?_⟩
   refine⟨fun i τ G'=>∃(v5 v6 v7:Option T) (F':List Nat) (P':List PE),τ=[some (.tup (W.map encR)),some (.int r0),some (.ref d),some (.ref l),some (.ref p),v5,v6,v7]/\G' d=some (.dck (jU0 P'))/\P'.map Prod.fst=F'/\Tr W r0 (a+i) 0 P'/\G' l=some (.lst (jJo (F.drop a)))/\G' p=some (.lst (jJo (F'.drop F.length)))/\(∃E,F'=F++E)/\Bfs W (a+i) F'/\bfs W r0=bfsN W (W.length-(a+i)) (a+i) F'/\Sub G G',?_,?_,?_,?_⟩
   ·exact⟨v5,v6,v7,F,P,rfl,by rw[jJh hpd];exact h1,hk,hT,by rw[jJh hpl];exact h2,by rw[List.drop_length];exact jJf,⟨[],by simp⟩,hB,hb,hs1.trans (.new hp)⟩
   ·intro i τ G' hi h_;apply xe5 h_;clear h_;intro v5 v6 v7 F' P' h_;apply ae9 h_;clear h_;intro j1 jk jT j2 j3 jE jB jb js
    exact jJl j2
   ·intro i y τ G2 hy h_;apply xe5 h_;clear h_;intro v5 v6 v7 F' P' h_;apply ae9 h_;clear h_;intro j1 jk jT j2 j3 q5_ jB jb js
    obtain⟨E,jE⟩:=q5_
    obtain⟨x,hx,rfl⟩:=jKr hy
    rw[List.getElem?_drop] at hx
    have hai:a+i<F.length:=(lJe.mp hx).1
    have hx':F'[a+i]? =some x:=by rw[jE,lKg hai];exact hx
    have hxW:=jB.lt x (lJm hx')
    have hW:W[x]? =some W[x]:=lJi hxW
    generalize W[x]=es at hW
    wp_walk using 1,iEnT,jUi hW,encR,jJ1
    refine⟨fun j τ G'=>∃(v6 v7:Option T) (F2:List Nat) (P2:List PE),τ=[some (.tup (W.map encR)),some (.int r0),some (.ref d),some (.ref l),some (.ref p),some (.int x),v6,v7]/\G' d=some (.dck (jU0 P2))/\P2.map Prod.fst=F2/\Tr W r0 (a+i) j P2/\G' l=some (.lst (jJo (F.drop a)))/\G' p=some (.lst (jJo (F2.drop F.length)))/\F2=vis F' (es.take j)/\Sub G G',?_,?_,?_,?_⟩
    ·exact⟨v6,v7,F',P',rfl,j1,jk,jT,j2,j3,rfl,js⟩
    ·intros;trivial
    ·intro j y τ G3 hy h_;apply xe4 h_;clear h_;intro v6 v7 F2 P2 h_;apply ae7 h_;clear h_;intro q1 qk qT q2 q3 q4 q5
     obtain⟨z,hz,rfl⟩:=kUa hy
     obtain⟨e,he,rfl⟩:=jKr hz
     have hF2n:F2.Nodup:=by rw[q4];exact vis_sub.2.2.2 jB.nd
     have hF2l:∀y,y∈F2->y<W.length:=by rw[q4];exact vis_lt fine hW jB.lt j
     have hF2:=jJ5 hF2n hF2l
     have hkl:(jU0 P2).length=F2.length:=by rw[<-qk];simp[jU0]
     obtain⟨⟨E',e1⟩,_⟩:=vis_sub (F:=F') (es:=es.take j)
     have hFF:F.length<=F2.length:=by
      rw[q4,e1,jE];simp only[lJ7];omega
     have hx2:F2[a+i]? =some x:=by
      rw[q4,e1,lKg (lJe.mp hx').1];exact hx'
     rw[<-qk] at hx2
     obtain⟨px,hpx,hpx1⟩:=jKr hx2
     have hee:en W px.1 j=some (e.1,e.2):=by rw[<-hpx1];exact jYw hW he
     have qk':(jU0 P2).map Prod.fst=F2.map keyN:=by rw[kZg,qk]
     wp_walk using 1,encE,jQm,qQy q1 qk'
     by_cases hm:e.1∈F2
     ·rw[lJb (by simp[hm])]
      exact⟨F2,P2,q1,qk,qT.skip hpx hee (by rw[qk];exact hm),q2,q3,by rw[jZv he,<-q4,lJc (by simpa using hm)],q5⟩
     ·rw[lJc (by simp[hm])]
      wp_walk using 1,qVj q1 (show (jU0 P2).length<sizeLine by omega)
      have hgp:gup G3 d (.dck (putT (jU0 P2) (keyN e.1) (.tup [.int x,.int j]))) p=some (.lst (jJo (F2.drop F.length))):=by rw[jJh hpd.symm];exact q3
      refine⟨by omega,by rw[jKc hgp];trivial,_,hgp,by simp[jJo];omega,F2++[e.1],P2++[(e.1,some (px.1,j),px.2.2++[j])],?_,?_,?_,?_,?_,?_,?_⟩
      ·rw[jJh hpd,jJf,qVv (by rw[qk',kZi];exact hm),<-hpx1]
       simp only[jU0,lVq];rfl
      ·rw[lVq,qk];rfl
      ·exact qT.add hpx hee (by rw[qk];exact hm)
      ·rw[jJh hpl,jJh hdl.symm];exact q2
      ·rw[List.drop_append_of_le_length hFF];simp[jJo]
      ·rw[jZv he,<-q4,lJb (by simpa using hm)]
      ·exact (q5.over hd).over hp0
    ·intro τ G3 h_;apply xe4 h_;clear h_;intro v6 v7 F2 P2 h_;apply ae7 h_;clear h_;intro q1 qk qT q2 q3 q4 q5
     rw[jKl,lJg] at qT
     rw[jKl,lJg,lVk] at q4
     obtain⟨⟨E',e1⟩,_⟩:=vis_sub (F:=F') (es:=es)
     have hx2:F2[a+i]? =some x:=by
      rw[q4,e1,lKg (lJe.mp hx').1];exact hx'
     rw[<-qk] at hx2
     obtain⟨px,hpx,hpx1⟩:=jKr hx2
     refine⟨_,_,_,rfl,F2,P2,q1,qk,qT.next hpx (fun d' e he=> ?_),q2,q3,⟨E++E',by rw[q4,e1,jE,lXe]⟩,?_,?_,q5⟩
     ·rw[<-hpx1] at he
      obtain⟨es',z1,z2⟩:=jQu he
      rw[hW] at z1;cases z1
      exact (lJe.mp z2).1
     ·have:=jB.step fine hx'
      rw[qKs hW,<-q4] at this
      exact this
     ·rw[jb,show W.length-(a+i)=W.length-(a+(i+1))+1 by omega,kKd hx',qKs hW,<-q4];rfl
   ·intro τ G2 h_;apply xe5 h_;clear h_;intro v5 v6 v7 F' P' h_;apply ae9 h_;clear h_;intro j1 jk jT j2 j3 q5_ jB jb js
    obtain⟨E,jE⟩:=q5_
    have hlen:(jJo (F.drop a)).length=F.length-a:=by simp[jJo]
    rw[hlen,show a+(F.length-a)=F.length by omega] at jB jb jT
    wp_walk using 1,tSeq
    exact⟨hpd,hp0,F',P',j1,jk,jT,j3,by rw[jE,lJ7];omega,jB,jb,js⟩
 ·rename_i hne
  have he:F.length<=a:=by
   have:jJo (F.drop a)=[]:=by simpa using hne
   have:=lJx List.length this
   simp[jJo] at this;omega
  have hPl:P.length=a:=by have:=lJx List.length hk;simp at this;omega
  rw[kKe he] at hb
  exact kk d G1 P hd h1 (by rw[hk,hb]) (by rw[hPl];exact hT) hs1
theorem qUj {z d:Nat}:encO (some (z,d))= .tup [.int (z:Nat),.int (d:Nat)]:=rfl
theorem qUk:encO none= .non:=rfl
noncomputable def jYg:Sp3:=fun xs G Q=>∃(W:Web) (r x:Nat),xs=[encW W,.int r,.int x]/\Fine W/\W.length<=24/\r<W.length/\x∈bfs W r/\∀G' w,Least W r x w->w.length<W.length->Sub G G'->Q (.tup (jJo w)) G'
def qX5:List Str:=["web","one","other","comings","doors","end"]
noncomputable def kJl:TS3:=
 (tSeq (tAsg (jJr jKu (jJc (tVar 0) (jJc (tVar 1) tNil))) (jJi 3))
 (tSeq (tAsg (tLst tNil) (jJi 4))
 (tSeq (tAsg (tOp rIxF (tVar 3) (tVar 2)) (jJi 5))
 (tSeq (kJb (jJs (tOp qJf (tVar 5) (tC .non))) (tSeq (jQf (tBM "list" jK6 (tVar 4) (jJc (tOp rIxF (tVar 5) (tC (.int 1))) tNil)))
 (tAsg (tOp rIxF (tVar 3) (tOp rIxF (tVar 5) (tC (.int 0)))) (jJi 5))))
 (tRet (qYy (jJc (tVar 4) tNil)))))))
theorem tr_len {W:Web} {r0:Nat} {P:List PE} (h:Tr W r0 P.length 0 P):∀(i:Nat) (p:PE),P[i]? =some p->p.2.2.length<=i:=by
 intro i
 induction i using Nat.strongRecOn with
 | ind i ih=>
  intro p hp
  rcases h.par p (lJm hp) with rfl | ⟨k,q,d,_,hq,_,e⟩
  ·simp
  ·rw[e,lJ7]
   have hki:k<i:=by
    rcases Nat.lt_trichotomy k i with z | z | z
    ·exact z
    ·subst z
     rw[hp] at hq;cases hq
     have:=lJx List.length e
     simp at this
    ·have:=h.inc i k p q z hp hq
     rw[e] at this
     rcases this with this | ⟨this,_⟩<;>simp at this
     omega
   have:=ih k hki q hq
   simp;omega
theorem kXm:RdOk jYg kJl qX5:=by
 intro xs G Q h_;apply xe3 h_;clear h_;intro W r x h_;apply ae5 h_;clear h_;intro fine h24 hr hx kk
 show kJl _ [some (encW W),some (.int r),some (.int x),none,none,none] G
 have hs:=sz
 wp_walk using 1,kJl,kJb,qYy
 refine⟨W,r,rfl,fine,hr,fun d G1 P hd h1 hF hT s1=> ?_⟩
 have hxF:x∈P.map Prod.fst:=by rw[hF];exact hx
 obtain⟨px,hpx,hpx1⟩:=lJw.mp hxF
 have hPW:P.length<=W.length:=by
  have h1:=lJx List.length hF
  have h2:=jJ5 (qUz fine hr).2.nd (qUz fine hr).2.lt
  simp at h1;omega
 have hPl:P.length<=24:=by omega
 have wlW:∀p,p∈P->p.2.2.length<W.length:=fun p hp=>by
  obtain⟨i,hi⟩:=lJ8 hp
  have:=tr_len hT i p hi
  have:=(lJe.mp hi).1
  omega
 have wl:∀p,p∈P->p.2.2.length<=24:=fun p hp=>by have:=wlW p hp;omega
 refine⟨by omega,fun l hl=> ?_⟩
 have hdl:d≠l:=jJg h1 hl
 have h1':gup G1 l (.lst []) d=some (.dck (jU0 P)):=by rw[jJh hdl];exact h1
 have hv:∀p,p∈P->valT (jU0 P) (keyN p.1)=some (encO p.2.1):=fun p hp=>kYy hT.nd hp
 have hv0:=hv px hpx
 rw[hpx1] at hv0
 refine⟨encO px.2.1,(qQt h1').trans hv0,?_⟩
 refine⟨fun m τ G'=>∃(p:PE) (ds:List Nat),τ=[some (encW W),some (.int r),some (.int x),some (.ref d),some (.ref l),some (encO p.2.1)]/\p∈P/\p.2.2++ds.reverse=px.2.2/\G' d=some (.dck (jU0 P))/\G' l=some (.lst (jJo ds))/\Sub G G'/\m=p.2.2.length,?_,?_⟩
 ·exact⟨_,px,[],rfl,hpx,by simp,h1',jJf,s1.trans (.new hl),rfl⟩
 intro m τ G2 h_;apply xe2 h_;clear h_;intro p ds h_;apply ae6 h_;clear h_;intro hp hw h2 h3 s2 e5_
 subst e5_
 have hlG:G l=none:=kYz s1 hl
 wp_walk using 1,qJf
 rcases hT.par p hp with rfl | ⟨i,q,c,hi,hq,ho,hpw⟩
 ·wp_walk using 1,qUk,kKv
  refine⟨jJo ds,by simp only[jUz,h3,asL],?_⟩
  have e1:(jJo ds).reverse=jJo px.2.2:=by rw[<-hw];simp[jJo]
  rw[e1]
  exact kk G2 px.2.2 (by rw[<-hpx1];exact hT.least hpx) (wlW px hpx) s2
 ·have hqm:=lJm hq
  have hpl:=wl px hpx
  have hdl2:ds.length<=24:=by
   have:=lJx List.length hw
   simp at this;omega
  rw[ho]
  wp_walk using 1,qUj,kKv
  refine⟨fun τ' G'=>∃(p':PE) (ds:List Nat),τ'=[some (encW W),some (.int r),some (.int x),some (.ref d),some (.ref l),some (encO p'.2.1)]/\p'∈P/\p'.2.2.length<p.2.2.length/\p'.2.2++ds.reverse=px.2.2/\G' d=some (.dck (jU0 P))/\G' l=some (.lst (jJo ds))/\Sub G G',?_,?_⟩
  ·intro τ' G' h_;apply xe2 h_;clear h_;intro p' ds' h_;apply ae6 h_;clear h_;intro i1 i2 i3 i4 i5 i6
   exact⟨_,i2,p',rfl,i1,ds',i3,i4,i5,i6,rfl⟩
  ·wp_walk using 1,h3
   have h2':gup G2 l (.lst (jJo ds++[.int (c:Nat)])) d=some (.dck (jU0 P)):=by rw[jJh hdl];exact h2
   refine⟨by rw[jKc h3];trivial,by simp[jJo];omega,encO q.2.1,(qQt h2').trans (hv q hqm),q,rfl,hqm,by rw[hpw];simp,ds++[c],?_,h2',by simp[jJo],s2.over hlG⟩
   rw[<-hw,hpw];simp
def abcS:Str:=PySem.Str.ofString "abcdefghijklmnopqrstuvwxyz"
def letS (r:Nat):Str:=⟨#[(abcS.cps[(r*7+3)%26]?).getD 0]⟩
def mulS (r:Nat):Nat:=([1,3,1,8,2]:List Nat).getD (r%5) 0
def mkS (r:Nat):Str:=qKk (letS r) (mulS r)
theorem qQk:((List.range 24).map mkS).Nodup:=by decide +kernel
theorem kZa {r r':Nat} (h:r<24) (h':r'<24) (e:mkS r=mkS r'):r=r':=by
 have:=(List.getElem_inj (i:=r) (j:=r') (h₀:=by simpa using h) (h₁:=by simpa using h') qQk).mp (by simpa using e)
 exact this
def encM (e:Nat×Nat):T:= .tup [.str (mkS e.1),.int e.2]
def keyM (e:Nat×Nat):L2.TKey:=[.inl (.inr (mkS e.1)),.inl (.inl (e.2:Int))]
theorem qXc (r d:Nat):jU8 [.str (mkS r),.int (d:Nat)]=some (keyM (r,d)):=rfl
theorem jZ2 {p q:Nat×Nat} (hp:p.1<24) (hq:q.1<24) (h:keyM p=keyM q):p=q:=by
 unfold keyM at h
 simp only[List.cons.injEq,Sum.inl.injEq,Sum.inr.injEq,and_true] at h
 have h1:=kZa hp hq h.1
 have h2:p.2=q.2:=by exact_mod_cast h.2
 exact Prod.ext h1 h2
theorem kJ1 {p q:Nat×Nat} (h:keyE p=keyE q):p=q:=by
 unfold keyE at h
 simp only[List.cons.injEq,Sum.inl.injEq,and_true] at h
 exact Prod.ext (by exact_mod_cast h.1) (by exact_mod_cast h.2)
structure CS where
 ms:List Nat
 ct:List Nat
 E:Nat×Nat->Option (Nat×Nat)
 pl:Nat
 n:Nat
structure CS.Ok (s:CS):Prop where
 nd:s.ms.Nodup
 lt:∀r,r∈s.ms->r<24
 len:s.ct.length=s.ms.length
 dg:∀c,c∈s.ct->c<12
 pl:s.pl<s.ms.length
 e0:∀p q,s.E p=some q->p.1∈s.ms
 e1:∀p q,s.E p=some q->q.1∈s.ms
def CS.at_ (s:CS):Nat:=s.ms.getD s.pl 0
theorem CS.Ok.at_ {s:CS} (h:s.Ok):s.ms[s.pl]? =some s.at_:=by
 unfold CS.at_
 rw[lVr,lJi h.pl];rfl
theorem kKu {ms:List Nat} (nd:ms.Nodup) {i r:Nat} (h:ms[i]? =some r):ms.idxOf r=i:=by
 (obtain⟨hi,e⟩:=lJe.mp h)
 have hm:r∈ms:=lJm h
 have h1:ms.idxOf r<ms.length:=lXx hm
 have h2:ms[ms.idxOf r]=r:=List.getElem_idxOf h1
 exact (List.getElem_inj (h₀:=h1) (h₁:=hi) nd).mp (h2.trans e.symm)
theorem jXx {ms:List Nat} {r:Nat} (h:r∈ms):ms[ms.idxOf r]? =some r:=by
 have h1:=lXx h
 rw[lJi h1,List.getElem_idxOf h1]
theorem qQs {ms:List Nat} {r:Nat} (h:r∈ms):ms.idxOf r<ms.length:=lXx h
theorem kZj {ms:List Nat} {r:Nat} (h:r∉ms):ms.idxOf r=ms.length:=List.idxOf_eq_length h
def addR (ms:List Nat) (r:Nat):List Nat:=if r∈ms then ms else ms++[r]
def addC (ms ct:List Nat) (r k:Nat):List Nat:=if r∈ms then ct else ct++[k]
theorem kUp {ms:List Nat} {r i x:Nat} (h:ms[i]? =some x):(addR ms r)[i]? =some x:=by
 unfold addR
 split
 ·exact h
 ·rw[lKg (lJe.mp h).1];exact h
theorem addR_mem {ms:List Nat} {r x:Nat}:x∈addR ms r↔x∈ms\/x=r:=by
 unfold addR
 split
 ·exact⟨.inl,fun h=>h.elim id fun e=>e▸ ‹_›⟩
 ·simp
theorem kUo {ms:List Nat} {r:Nat} (h:ms.Nodup):(addR ms r).Nodup:=by
 unfold addR
 split
 ·exact h
 ·rename_i hr
  exact lQk.mpr ⟨h,by simp,fun a ha b hb e=>hr (by rw[lJ1] at hb;rw[<-hb,<-e];exact ha)⟩
theorem kYn {ms:List Nat} {r x:Nat} (nd:ms.Nodup) (h:x∈ms):(addR ms r).idxOf x=ms.idxOf x:=kKu (kUo nd) (kUp (jXx h))
theorem jYy {ms:List Nat} {r:Nat} (nd:ms.Nodup):(addR ms r).idxOf r=ms.idxOf r:=by
 by_cases h:r∈ms
 ·exact kYn nd h
 ·rw[kZj h]
  exact kKu (kUo nd) (by unfold addR;rw[lJb h];simp)
def tieE (E:Nat×Nat->Option (Nat×Nat)) (p q:Nat×Nat):Nat×Nat->Option (Nat×Nat):=fun x=>if x=q then some p else if x=p then some q else E x
def goC (s:CS) (d c r k:Nat):CS:=⟨addR s.ms r,addC s.ms s.ct r k,tieE s.E (s.at_,d) (r,c),s.ms.idxOf r,s.n+1⟩
theorem CS.Ok.mem {s:CS} (h:s.Ok):s.at_∈s.ms:=lJm h.at_
theorem CS.Ok.go {s:CS} (h:s.Ok) {d c r k:Nat} (hr:r<24) (hk:k<12):(goC s d c r k).Ok where
 nd:=kUo h.nd
 lt:=fun x hx=>(addR_mem.mp hx).elim (h.lt x) fun e=>e▸hr
 len:=by
  show (addC s.ms s.ct r k).length=(addR s.ms r).length
  unfold addC addR
  split
  ·exact h.len
  ·simp[h.len]
 dg:=fun x hx=>by
  unfold goC addC at hx
  dsimp only at hx
  split at hx
  ·exact h.dg x hx
  ·rcases (lKt.mp hx) with z | z
   ·exact h.dg x z
   ·rw[lJ1] at z;omega
 pl:=by
  show s.ms.idxOf r<(addR s.ms r).length
  rw[<-jYy h.nd]
  exact qQs (addR_mem.mpr (.inr rfl))
 e0:=fun p q e=>by
  refine addR_mem.mpr ?_
  unfold goC tieE at e
  dsimp only at e
  split at e
  ·rename_i z;exact .inr (by rw[z])
  ·split at e
   ·rename_i z;exact .inl (by rw[z];exact h.mem)
   ·exact .inl (h.e0 p q e)
 e1:=fun p q e=>by
  refine addR_mem.mpr ?_
  unfold goC tieE at e
  dsimp only at e
  split at e
  ·cases e;exact .inl h.mem
  ·split at e
   ·cases e;exact .inr rfl
   ·exact .inl (h.e1 p q e)
theorem qYp {s:CS} (h:s.Ok) {d c r k:Nat}:(goC s d c r k).at_=r:=by
 have h1:(addR s.ms r)[s.ms.idxOf r]? =some r:=by rw[<-jYy h.nd];exact jXx (addR_mem.mpr (.inr rfl))
 show (addR s.ms r).getD (s.ms.idxOf r) 0=r
 rw[lVr,h1];rfl
abbrev Kvs:=List (L2.TKey×T)
def kv1 (kvs:Kvs) (a b:Nat×Nat):Kvs:=putT (putT kvs (keyE a) (encE b)) (keyE b) (encE a)
def ev1 (kvs:Kvs) (a b:Nat×Nat):Kvs:=putT (putT kvs (keyM a) (encM b)) (keyM b) (encM a)
structure LdOk (s:CS) (kvs:Kvs):Prop where
 ks:∀x,x∈kvs->∃i d:Nat,i<s.ms.length/\d<12/\x.1=keyE (i,d)
 val:∀i r d:Nat,s.ms[i]? =some r->valT kvs (keyE (i,d))=(s.E (r,d)).map fun e=>encE (s.ms.idxOf e.1,e.2)
 len:kvs.length<=2*s.n
structure EnOk (s:CS) (kvs:Kvs):Prop where
 val:∀r d:Nat,r<24->valT kvs (keyM (r,d))=(s.E (r,d)).map encM
 len:kvs.length<=2*s.n
theorem kU7 {κ:Type} [DecidableEq κ] {P:κ->Prop} {kvs:List (κ×T)} {k:κ} {v:T} (h:∀x,x∈kvs->P x.1) (hk:P k):∀x,x∈putT kvs k v->P x.1:=by
 intro x hx
 unfold putT at hx
 split at hx
 ·obtain⟨y,hy,rfl⟩:=lJw.mp hx
  split
  ·exact h y hy
  ·exact h y hy
 ·rcases (lKt.mp hx) with z | z
  ·exact h x z
  ·rw[lJ1] at z;rw[z];exact hk
theorem kYw {κ:Type} [DecidableEq κ] {kvs:List (κ×T)} {k:κ} (h:∀x,x∈kvs->x.1≠k):valT kvs k=none:=by
 unfold valT
 rw[List.find?_eq_none.mpr fun x hx=>by simpa using h x hx];rfl
theorem LdOk.off {s:CS} {kvs:Kvs} (h:LdOk s kvs) {i d:Nat} (hi:s.ms.length<=i):valT kvs (keyE (i,d))=none:=kYw fun x hx e=>by
 obtain⟨i',d',h1,_,h3⟩:=h.ks x hx
 have:=lJx Prod.fst (kJ1 (h3.symm.trans e))
 simp at this;omega
theorem LdOk.go {s:CS} {kvs:Kvs} (o:s.Ok) (h:LdOk s kvs) {d c r k:Nat} (hr:r<24) (hd:d<12) (hc:c<12):LdOk (goC s d c r k) (kv1 kvs (s.pl,d) (s.ms.idxOf r,c)) where
 ks:=by
  have hl:s.ms.length<=(addR s.ms r).length:=by unfold addR;split<;>simp
  have h2:s.ms.idxOf r<(addR s.ms r).length:=by rw[<-jYy o.nd];exact qQs (addR_mem.mpr (.inr rfl))
  refine kU7 (P:=fun k=>∃i d:Nat,i<(addR s.ms r).length/\d<12/\k=keyE (i,d)) (kU7 (P:=fun k=>∃i d:Nat,i<(addR s.ms r).length/\d<12/\k=keyE (i,d)) (fun x hx=> ?_) ⟨_,_,lJ3 o.pl hl,hd,rfl⟩) ⟨_,_,h2,hc,rfl⟩
  obtain⟨i,d,a,b,e⟩:=h.ks x hx
  exact⟨i,d,lJ3 a hl,b,e⟩
 val:=fun i r' d' hi=>by
  have nd':=kUo (r:=r) o.nd
  have hi':(addR s.ms r).idxOf r'=i:=kKu nd' hi
  have hat:(addR s.ms r).idxOf s.at_=s.pl:=kKu nd' (kUp o.at_)
  have hrr:(addR s.ms r).idxOf r=s.ms.idxOf r:=jYy o.nd
  show valT (putT (putT kvs (keyE (s.pl,d)) (encE (s.ms.idxOf r,c))) (keyE (s.ms.idxOf r,c)) (encE (s.pl,d))) (keyE (i,d'))=(tieE s.E (s.at_,d) (r,c) (r',d')).map fun e=>encE ((addR s.ms r).idxOf e.1,e.2)
  rw[jYe,jYe]
  have mi:(addR s.ms r)[i]? =some r':=hi
  have inj:∀ {x:Nat},x∈addR s.ms r->(addR s.ms r).idxOf x=i->x=r':=fun {x} hx e=>by
   have:=jXx hx
   rw[e,mi] at this;exact (lJq this).symm
  unfold tieE
  by_cases q1:(r',d')=(r,c)
  ·rw[lJc q1]
   cases q1
   rw[lJc (by rw[<-hi',hrr])]
   simp[hat]
  ·rw[lJb q1,lJb (fun z=>q1 ?_)]
   ·by_cases q2:(r',d')=(s.at_,d)
    ·rw[lJc q2]
     cases q2
     rw[lJc (by rw[<-hi',hat])]
     simp[hrr]
    ·rw[lJb q2,lJb (fun z=>q2 ?_)]
     ·by_cases hm:r'∈s.ms
      ·have e1:s.ms.idxOf r'=i:=by rw[<-kYn o.nd hm];exact hi'
       rw[h.val i r' d' (by rw[<-e1];exact jXx hm)]
       cases e:s.E (r',d') with
       | none=>rfl
       | some q=>simp only[lQi];rw[kYn o.nd (o.e1 _ _ e)]
      ·have:s.E (r',d')=none:=by
        cases e:s.E (r',d') with
        | none=>rfl
        | some q=>exact absurd (o.e0 _ _ e) hm
       rw[this]
       refine h.off ?_
       rcases lKe i s.ms.length with z | z
       ·have:=kUp (r:=r) (lJi z)
        rw[mi] at this
        exact absurd (lJq this▸lVm z) hm
       ·exact z
     ·have z':=kJ1 z
      have z1:s.pl=i:=lJx Prod.fst z'
      have z2:d=d':=lJx Prod.snd z'
      rw[<-z2,inj (addR_mem.mpr (.inl o.mem)) (hat.trans z1)]
   ·have z':=kJ1 z
    have z1:s.ms.idxOf r=i:=lJx Prod.fst z'
    have z2:c=d':=lJx Prod.snd z'
    rw[<-z2,inj (addR_mem.mpr (.inr rfl)) (hrr.trans z1)]
 len:=by
  have h1:=jVn kvs (keyE (s.pl,d)) (encE (s.ms.idxOf r,c))
  have h2:=jVn (putT kvs (keyE (s.pl,d)) (encE (s.ms.idxOf r,c))) (keyE (s.ms.idxOf r,c)) (encE (s.pl,d))
  have h3:=h.len
  show (kv1 _ _ _).length<=2*(s.n+1)
  unfold kv1;omega
theorem EnOk.go {s:CS} {kvs:Kvs} (o:s.Ok) (h:EnOk s kvs) {d c r k:Nat} (hr:r<24):EnOk (goC s d c r k) (ev1 kvs (s.at_,d) (r,c)) where
 val:=fun r' d' hr'=>by
  have ha:=o.lt _ o.mem
  show valT (putT (putT kvs (keyM (s.at_,d)) (encM (r,c))) (keyM (r,c)) (encM (s.at_,d))) (keyM (r',d'))=(tieE s.E (s.at_,d) (r,c) (r',d')).map encM
  rw[jYe,jYe]
  unfold tieE
  by_cases q1:(r',d')=(r,c)
  ·rw[lJc q1,lJc (by rw[q1])];rfl
  ·rw[lJb q1,lJb fun z=>q1 (jZ2 hr hr' z).symm]
   by_cases q2:(r',d')=(s.at_,d)
   ·rw[lJc q2,lJc (by rw[q2])];rfl
   ·rw[lJb q2,lJb fun z=>q2 (jZ2 ha hr' z).symm]
    exact h.val r' d' hr'
 len:=by
  have h1:=jVn kvs (keyM (s.at_,d)) (encM (r,c))
  have h2:=jVn (putT kvs (keyM (s.at_,d)) (encM (r,c))) (keyM (r,c)) (encM (s.at_,d))
  have h3:=h.len
  show (ev1 _ _ _).length<=2*(s.n+1)
  unfold ev1;omega
def jQa:Sp3:=fun xs G Q=>∃r:Nat,xs=[.int (r:Nat)]/\r<24/\∀G',Sub G G'->Q (.str (mkS r)) G'
def qYa:List Str:=["_law_room","_law_letter"]
noncomputable def kJq:TS3:=
 (tSeq (tAsg (tOp rIxS (tC (.str (PySem.Str.ofString "abcdefghijklmnopqrstuvwxyz"))) (tOp rMod (tOp jKi (tOp jVm (tVar 0) (tC (.int 7))) (tC (.int 3))) (tC (.int 26)))) (jJi 1))
 (tRet (tOp qY8 (tVar 1) (tOp rIxF (tLst (jJc (tC (.int 1)) (jJc (tC (.int 3)) (jJc (tC (.int 1)) (jJc (tC (.int 8)) (jJc (tC (.int 2)) tNil)))))) (tOp rMod (tVar 0) (tC (.int 5)))))))
theorem kXr:RdOk jQa kJq qYa:=by
 intro xs G Q h_;apply xe1 h_;clear h_;intro r h_;apply ae2 h_;clear h_;intro hr kk
 show kJq _ [some (.int (r:Nat)),none] G
 have hs:=sz
 wp_walk using 1,kJq,rIxS,qY8
 have hx:(r*7+3)%26<abcS.cps.size:=lJ3 (lQ5 _ (by decide)) (by decide +kernel)
 have hm:L2.atI [T.int 1,T.int 3,T.int 1,T.int 8,T.int 2] ((r:Int)%5)=some (.int (mulS r:Nat)):=by
  have:(r:Int)%5=((r%5:Nat):Int):=by omega
  rw[this,atN]
  unfold mulS
  have h5:r%5<5:=lQ5 _ (by decide)
  generalize r%5=x at h5
  match x,h5 with
  | 0,_=>rfl
  | 1,_=>rfl
  | 2,_=>rfl
  | 3,_=>rfl
  | 4,_=>rfl
 have hm1:1<=mulS r/\mulS r<=100:=by
  unfold mulS
  have h5:r%5<5:=lQ5 _ (by decide)
  generalize r%5=x at h5
  match x,h5 with
  | 0,_=>exact⟨by decide,by decide⟩
  | 1,_=>exact⟨by decide,by decide⟩
  | 2,_=>exact⟨by decide,by decide⟩
  | 3,_=>exact⟨by decide,by decide⟩
  | 4,_=>exact⟨by decide,by decide⟩
 refine⟨.inl (by omega),by decide,abcS,rfl,(r*7+3)%26,by omega,by omega,abcS.cps[(r*7+3)%26],lXu hx,by omega,fun p hp=>⟨by decide,_,hm,_,rfl,mulS r,rfl,hm1.1,hm1.2,rfl,?_⟩⟩
 have e:(⟨#[abcS.cps[(r*7+3)%26]]⟩:Str)=letS r:=by unfold letS;rw[lXu hx];rfl
 rw[e]
 exact kk _ (.new hp)
def chF (b c d:Addr) (pl:Nat):List (Str×T):=[("marks",.ref b),("counts",.ref c),("leads",.ref d),("place",.int (pl:Nat))]
def chG (b c d:Addr) (pl:Nat):GO:= .ins "Chart" (chF b c d pl)
theorem kVo {m:Str}:∀ {fs:List (Str×T)},(∀g,g∈fs.map (·.1)->¬ g=m)->fldT m fs=none
 | [],_=>rfl
 | (g,x)::r,h=>by
  rw[fldT,lJb (h g (by simp))]
  exact kVo fun g' hg=>h g' (by rw[lJr];exact lKa _ hg)
theorem jVp {G:Gp} {a b c d:Addr} {pl:Nat} {m:Str} (h:G a=some (chG b c d pl)) (hm:∀g,g∈(["marks","counts","leads","place"]:List Str)->¬ g=m:=by decide +kernel):obR "Chart" m G (.ref a)=true:=by
 simp only[obR,h,chG,kVo (fs:=chF b c d pl) hm,Option.isNone_none,decide_true,Bool.and_true]
theorem q1:(("marks":Str)="counts")=False:=eq_false (by decide +kernel)
theorem q2:(("marks":Str)="leads")=False:=eq_false (by decide +kernel)
theorem q3:(("marks":Str)="place")=False:=eq_false (by decide +kernel)
theorem q4:(("counts":Str)="leads")=False:=eq_false (by decide +kernel)
theorem q5:(("counts":Str)="place")=False:=eq_false (by decide +kernel)
theorem q6:(("leads":Str)="place")=False:=eq_false (by decide +kernel)
section
variable {G:Gp} {a b c d:Addr} {pl:Nat}
theorem fl {f:Str} {v:T} (h:G a=some (chG b c d pl)) (hf:fldT f (chF b c d pl)=some v):fldR "Chart" f G (.ref a)=some v:=by
 simp only[fldR,h,chG,lJ4,hf]
theorem fMk (h:G a=some (chG b c d pl)):fldR "Chart" "marks" G (.ref a)=some (.ref b):=fl h (by simp only[chF,fldT,lJ4])
theorem fCt (h:G a=some (chG b c d pl)):fldR "Chart" "counts" G (.ref a)=some (.ref c):=fl h (by simp only[chF,fldT,lJ4,q1,lJt])
theorem fLd (h:G a=some (chG b c d pl)):fldR "Chart" "leads" G (.ref a)=some (.ref d):=fl h (by simp only[chF,fldT,lJ4,q2,q4,lJt])
theorem fPl (h:G a=some (chG b c d pl)):fldR "Chart" "place" G (.ref a)=some (.int (pl:Nat)):=fl h (by simp only[chF,fldT,lJ4,q3,q5,q6,lJt])
theorem sf {f:Str} {v:T} {fs:List (Str×T)} (h:G a=some (chG b c d pl)) (hf:jYp f v (chF b c d pl)=fs):kJg "Chart" f G (.ref a) v=some (gup G a (.ins "Chart" fs)):=by
 simp only[kJg,h,chG]
 rw[lJc ⟨trivial,by simp[chF]⟩,hf]
theorem pLd {e:Addr} (h:G a=some (chG b c d pl)):kJg "Chart" "leads" G (.ref a) (.ref e)=some (gup G a (chG b c e pl)):=sf h (by simp only[chF,jYp,lJ4,q2,q4,lJt])
theorem pPl {r:Nat} (h:G a=some (chG b c d pl)):kJg "Chart" "place" G (.ref a) (.int (r:Nat))=some (gup G a (chG b c d r)):=sf h (by simp only[chF,jYp,lJ4,q3,q5,q6,lJt])
theorem setN {f:Str} {v:T} {fs fs':List (Str×T)} (h:G a=some (.ins "Chart" fs)) (hl:fs.length<1000) (hp:jYp f v fs=fs'):kJg "Chart" f G (.ref a) v=some (gup G a (.ins "Chart" fs')):=by
 simp only[kJg,h]
 rw[lJc ⟨trivial,hl⟩,hp]
end
def mksT (ms:List Nat):List T:=ms.map fun r=>T.str (mkS r)
structure ChAt (G:Gp) (a b c d:Addr) (s:CS) (kvs:Kvs):Prop where
 obj:G a=some (chG b c d s.pl)
 mks:G b=some (.lst (mksT s.ms))
 ct:G c=some (.lst (jJo s.ct))
 ld:G d=some (.dct kvs)
 ok:LdOk s kvs
 ne:b≠c
theorem ChAt.sub {G G':Gp} {a b c d:Addr} {s:CS} {kvs:Kvs} (h:ChAt G a b c d s kvs) (k:∀x o,G x=some o->x=a\/x=b\/x=c\/x=d->G' x=some o):ChAt G' a b c d s kvs:=
 ⟨k _ _ h.obj (.inl rfl),k _ _ h.mks (.inr (.inl rfl)),k _ _ h.ct (.inr (.inr (.inl rfl))),k _ _ h.ld (.inr (.inr (.inr rfl))),h.ok,h.ne⟩
def beg (r k:Nat):CS:=⟨[r],[k],fun _=>none,0,0⟩
noncomputable def jUa:Sp3:=fun xs G Q=>∃(a:Addr) (r k:Nat),xs=[.ref a,.str (mkS r),.int (k:Nat)]/\G a=some (.ins "Chart" [])/\∀b c d G',ChAt G' a b c d (beg r k) []->G b=none->G c=none->G d=none->(∀x,x≠a->x≠b->x≠c->x≠d->G' x=G x)->Q .non G'
def kV9:List Str:=["self","mark","doors"]
noncomputable def jVk:TS3:=
 (tSeq (kQq "Chart" "marks" (tVar 0) (tLst (jJc (tVar 1) tNil)))
 (tSeq (kQq "Chart" "counts" (tVar 0) (tLst (jJc (tVar 2) tNil)))
 (tSeq (kQq "Chart" "leads" (tVar 0) jX2)
 (kQq "Chart" "place" (tVar 0) (tC (.int 0))))))
theorem kJj:RdOk jUa jVk kV9:=by
 intro xs G Q h_;apply xe3 h_;clear h_;intro a r k h_;apply ae2 h_;clear h_;intro h0 kk
 show jVk _ [some (.ref a),some (.str (mkS r)),some (.int (k:Nat))] G
 wp_walk using 1,jVk,kQq,jX2
 have hs:=sz
 refine⟨by omega,fun b hb=> ?_⟩
 have hab:=jJg h0 hb
 refine⟨_,setN (fs:=[]) (fs':=[("marks",.ref b)]) (by rw[jJh hab];exact h0) (by decide) rfl,by omega,fun c hc=> ?_⟩
 obtain⟨hca,hc1⟩:=jJt hc
 obtain⟨hcb,hc0⟩:=jJt hc1
 refine⟨_,setN (fs:=[("marks",.ref b)]) (fs':=[("marks",.ref b),("counts",.ref c)]) (by rw[jJh hca.symm,jJf]) (show 1<1000 by decide) (by simp only[jYp,q1,lJt]),.inl fun d hd=> ?_⟩
 obtain⟨hda,hd1⟩:=jJt hd
 obtain⟨hdc,hd2⟩:=jJt hd1
 obtain⟨_,hd3⟩:=jJt hd2
 obtain⟨hdb,hd0⟩:=jJt hd3
 refine⟨_,setN (fs:=[("marks",.ref b),("counts",.ref c)]) (fs':=[("marks",.ref b),("counts",.ref c),("leads",.ref d)]) (by rw[jJh hda.symm,jJf]) (show 2<1000 by decide) (by simp only[jYp,q2,q4,lJt]),_,setN jJf (fs':=chF b c d 0) (show 3<1000 by decide) (by simp only[jYp,q3,q5,q6,lJt,chF];rfl),?_⟩
 have hba:=hab.symm
 refine kk b c d _ ⟨jJf,?_,?_,?_,⟨fun x hx=>absurd hx lJv,fun i r' d' hi=>rfl,lJ2 _⟩,hcb.symm⟩ hb hc0 hd0 fun x h1 h2 h3 h4=> ?_
 ·rw[jJh hba,jJh hba,jJh hdb.symm,jJh hba,jJh hcb.symm,jJh hba,jJf];rfl
 ·rw[jJh hca,jJh hca,jJh hdc.symm,jJh hca,jJf];rfl
 ·rw[jJh hda,jJh hda,jJf]
 ·rw[jJh h1,jJh h1,jJh h4,jJh h1,jJh h3,jJh h1,jJh h2]
theorem kUc:∀ms:List Nat,(mksT ms).all jU2=true
 | []=>rfl
 | _::l=>kUc l
theorem qZ2 {r r':Nat} (h:r<24) (h':r'<24):eqT (.str (mkS r)) (.str (mkS r'))=decide (r=r'):=by
 rw[show eqT (.str (mkS r)) (.str (mkS r'))=(mkS r == mkS r') from rfl]
 by_cases e:r=r'
 ·subst e;simp
 ·rw[lJo e]
  exact beq_eq_false_iff_ne.mpr fun z=>e (kZa h h' z)
theorem kZl {G:Gp} {b:Addr} {ms:List Nat} {r:Nat} (h:G b=some (.lst (mksT ms))) (hm:∀x,x∈ms->x<24) (hr:r<24):inR G (.str (mkS r)) (.ref b)=some (decide (r∈ms)):=by
 have e:inR G (.str (mkS r)) (.ref b)=some (inT (.str (mkS r)) (mksT ms)):=by
  simp only[inR,seqT,h,asL,kUc,jU2,and_self,lJ4]
 rw[e]
 congr 1
 clear e h
 induction ms with
 | nil=>rfl
 | cons x ms ih=>
  have h1:=ih fun y hy=>hm y (lKa _ hy)
  have h3:=qZ2 (hm x (lKm ..)) hr
  unfold inT mksT at h1 ⊢
  rw[lJr,lKl,h1]
  rw[h3]
  by_cases q:x=r
  ·simp[q]
  ·have q':¬ r=x:=fun z=>q z.symm
   simp[q,q']
theorem kYa {G:Gp} {b:Addr} {ms:List Nat} {r:Nat} {Q:VK3} (h:G b=some (.lst (mksT ms))) (nd:ms.Nodup) (lt:∀x,x∈ms->x<24) (hm:r∈ms) (kk:Q (.int (ms.idxOf r:Nat)) G):jZi (.ref b) [.str (mkS r)] G Q:=by
 have hr:=lt r hm
 refine⟨b,_,_,.str (mkS r),ms.idxOf r,rfl,rfl,h,rfl,kUc _,by rw[mksT,lJs,jXx hm];rfl,by rw[qZ2 hr hr];simp,fun m t hl ht=> ?_,kk⟩
 rw[mksT,lJs] at ht
 obtain⟨x,hx,rfl⟩:=lVi.mp ht
 rw[qZ2 (lt x (lJm hx)) hr]
 refine lJo fun z=> ?_
 subst z
 have:=kKu nd hx
 omega
def jQi:Sp3:=fun xs G Q=>∃(a b c d:Addr) (s:CS) (kvs:Kvs) (r:Nat),xs=[.ref a,.str (mkS r)]/\ChAt G a b c d s kvs/\s.Ok/\r<24/\Q (.int (s.ms.idxOf r:Nat)) G
def jZg:List Str:=["self","mark"]
noncomputable def jQl:TS3:=
 (tRet (tIf (jJs (tOp kKp (tVar 1) (tFld "Chart" "marks" (tVar 0)))) (tBM "list" jZi (tFld "Chart" "marks" (tVar 0)) (jJc (tVar 1) tNil)) (tCB rLen (jJc (tFld "Chart" "marks" (tVar 0)) tNil))))
theorem jXs:RdOk jQi jQl jZg:=by
 intro xs G Q h_;apply xe7 h_;clear h_;intro a b c d s kvs r h_;apply ae4 h_;clear h_;intro h o hr kk
 show jQl _ [some (.ref a),some (.str (mkS r))] G
 wp_walk using 1,jQl,tFld,fMk h.obj,kKp,kZl h.mks o.lt hr,jKc h.mks
 split
 ·rename_i hm
  exact kYa h.mks o.nd o.lt hm kk
 ·rename_i hm
  refine⟨_,jJl h.mks,?_⟩
  rw[mksT,lJg,<-kZj hm]
  exact kk
def jVe:Sp3:=fun xs G Q=>∃(a b c d:Addr) (s:CS) (kvs:Kvs),xs=[.ref a]/\ChAt G a b c d s kvs/\s.Ok/\Q (.str (mkS s.at_)) G
def kXa:List Str:=["self"]
noncomputable def jVl:TS3:=
 (tRet (tOp rIxF (tFld "Chart" "marks" (tVar 0)) (tFld "Chart" "place" (tVar 0))))
theorem mks_at {ms:List Nat} {i r:Nat} (h:ms[i]? =some r):L2.atI (mksT ms) (i:Int)=some (.str (mkS r)):=by
 rw[atN,mksT,lJs,h];rfl
theorem kJk:RdOk jVe jVl kXa:=by
 intro xs G Q h_;apply xe6 h_;clear h_;intro a b c d s kvs h_;apply ae3 h_;clear h_;intro h o kk
 show jVl _ [some (.ref a)] G
 wp_walk using 1,jVl,tFld,fMk h.obj,fPl h.obj,jKs h.mks,mks_at o.at_
 exact kk
theorem lsT {G:Gp} {p:Addr} {xs:List T} (h:G p=some (.lst xs)):jUz G (.ref p)=some xs:=by simp only[jUz,h];rfl
def rmT (s:CS):T:= .tup (zipT (mksT s.ms) (jJo s.ct))
def jUu:Sp3:=fun xs G Q=>∃(a b c d:Addr) (s:CS) (kvs:Kvs),xs=[.ref a]/\ChAt G a b c d s kvs/\s.Ok/\Q (rmT s) G
def kUt:List Str:=["self"]
noncomputable def jUx:TS3:=
 (tRet (qYx (jJc (tFld "Chart" "marks" (tVar 0)) (jJc (tFld "Chart" "counts" (tVar 0)) tNil))))
theorem jZn:RdOk jUu jUx kUt:=by
 intro xs G Q h_;apply xe6 h_;clear h_;intro a b c d s kvs h_;apply ae3 h_;clear h_;intro h o kk
 show jUx _ [some (.ref a)] G
 wp_walk using 1,jUx,qYx,tFld,fMk h.obj,fCt h.obj
 refine⟨_,lsT h.mks,_,lsT h.ct,?_,kk⟩
 rw[mksT,jJo,lJg,lJg,o.len]
noncomputable def jK2:Sp3:=fun xs G Q=>∃(a b c d:Addr) (s:CS) (kvs:Kvs) (p q:Nat×Nat) (k:Nat),xs=[.ref a,encE p,encE q,.int (k:Nat)]/\ChAt G a b c d s kvs/\(∀k',s.ct[q.1]? =some k'->k'=k)/\(∀t,valT kvs (keyE p)=some t->t=encE q)/\(∀t,valT kvs (keyE q)=some t->t=encE p)/\Q .non G
def jXu:List Str:=["self","start","end","doors"]
noncomputable def jK4:TS3:=
 (tSeq (tIfS (tAnd (jJs (tOp rLt (tOp rIxF (tVar 2) (tC (.int 0))) (tCB rLen (jJc (tFld "Chart" "counts" (tVar 0)) tNil)))) (jJs (tOp rNeA (tOp rIxF (tFld "Chart" "counts" (tVar 0)) (tOp rIxF (tVar 2) (tC (.int 0)))) (tVar 3)))) kJc jKw)
 (tSeq (tIfS (jJs (tOp rNeA (tBM "dict" qVt (tFld "Chart" "leads" (tVar 0)) (jJc (tVar 1) (jJc (tVar 2) tNil))) (tVar 2))) kJc jKw)
 (tIfS (jJs (tOp rNeA (tBM "dict" qVt (tFld "Chart" "leads" (tVar 0)) (jJc (tVar 2) (jJc (tVar 1) tNil))) (tVar 1))) kJc jKw)))
theorem kX8 {ct:List Nat} {i k:Nat} (h:ct[i]? =some k):L2.atI (jJo ct) (i:Int)=some (.int (k:Nat)):=by
 rw[atN,jJo,lJs,h];rfl
theorem dAt_E {G:Gp} {d:Addr} {kvs:Kvs} {p:Nat×Nat} (h:G d=some (.dct kvs)):dAt G (.ref d) (encE p)=some (valT kvs (keyE p)):=by
 simp only[dAt,h,encE];rfl
theorem jVh:RdOk jK2 jK4 jXu:=by
 intro xs G Q h_;apply xe9 h_;clear h_;intro a b c d s kvs p q k h_;apply ae5 h_;clear h_;intro h hk h1 h2 kk
 show jK4 _ [some (.ref a),some (encE p),some (encE q),some (.int (k:Nat))] G
 have e0:ixR G (encE q) (.int 0)=some (.int (q.1:Nat)):=rfl
 have g1:(valT kvs (keyE p)).getD (encE q)=encE q:=by
  cases e:valT kvs (keyE p) with
  | none=>rfl
  | some t=>exact h1 t e
 have g2:(valT kvs (keyE q)).getD (encE p)=encE p:=by
  cases e:valT kvs (keyE q) with
  | none=>rfl
  | some t=>exact h2 t e
 have td:tyT G "dict" (.ref d):=by simp[tyT,h.ld]
 have last:∃x,encE p=T.tup x/\∃x_1,dAt G (T.ref d) (T.tup x)=some x_1/\∃b,eqG G (x_1.getD (encE q)) (encE q)=some b/\if b=false then False else tyT G "dict" (T.ref d)/\∃x,encE q=T.tup x/\∃x_2,dAt G (T.ref d) (T.tup x)=some x_2/\∃b,eqG G (x_2.getD (encE p)) (encE p)=some b/\if b=false then False else Q T.non G:=by
  refine⟨_,rfl,_,dAt_E (p:=p) h.ld,true,by rw[g1,kYe];simp,?_⟩
  rw[lJb (by simp)]
  refine⟨td,_,rfl,_,dAt_E (p:=q) h.ld,true,by rw[g2,kYe];simp,?_⟩
  rw[lJb (by simp)]
  exact kk
 wp_walk using 1,jK4,tFld,kJc,fCt h.obj,fLd h.obj,qVt,rNeA,e0,jJl h.ct,jKs h.ct
 split
 ·rename_i hl
  have hl':q.1<s.ct.length:=by rw[jJo,lJg] at hl;exact_mod_cast hl
  have hg:=lJi hl'
  refine⟨_,kX8 hg,true,by rw[hk _ hg,kJ6];simp,?_⟩
  rw[lJb (by simp)]
  exact⟨td,last⟩
 ·exact⟨td,last⟩
noncomputable def kQr:Sp3:=fun xs G Q=>∃(p:Addr) (kvs:Kvs) (a b:Nat×Nat),xs=[.ref p,encE a,encE b]/\G p=some (.dct kvs)/\(∀x,x∈kvs->kV7 x.1)/\kvs.length<=1000/\∀q G',G q=none->G' q=some (.dct (kv1 kvs a b))->Sub G G'->Q (.ref q) G'
def N_tied:List Str:=["leads","start","end","further"]
noncomputable def kXt:TS3:=
 (tSeq (tAsg (tCB qK0 (jJc (tVar 0) tNil)) (jJi 3))
 (tSeq (tAsg (tVar 2) (gSub (tVar 3) (tVar 1) jUy))
 (tSeq (tAsg (tVar 1) (gSub (tVar 3) (tVar 2) jUy))
 (tRet (tVar 3)))))
theorem qKu:RdOk kQr kXt N_tied:=by
 intro xs G Q h_;apply xe4 h_;clear h_;intro p kvs a b h_;apply ae4 h_;clear h_;intro hp hk hl kk
 show kXt _ [some (.ref p),some (encE a),some (encE b),none] G
 have hs:=sz
 wp_walk using 1,kXt,qK0
 refine⟨kvs,hp,hk,fun q hq=> ?_⟩
 have h1:=jVn kvs (keyE a) (encE b)
 wp_walk using 1,tSeq
 refine⟨_,jYj jJf (ks:=keyE a) rfl (by omega),?_⟩
 wp_walk using 1,tSeq
 refine⟨_,jYj jJf (ks:=keyE b) rfl (by omega),?_⟩
 wp_walk using 1,tSeq
 exact kk q _ hq jJf (.new hq)
def Kp (S:List Addr) (G G':Gp):Prop:=∀x o,x∉S->G x=some o->G' x=some o
theorem Kp.refl (S:List Addr) (G:Gp):Kp S G G:=fun _ _ _ h=>h
theorem Kp.trans {S:List Addr} {G G1 G2:Gp} (h:Kp S G G1) (h':Kp S G1 G2):Kp S G G2:=fun x o hx e=>h' x o hx (h x o hx e)
theorem Kp.sub {S:List Addr} {G G':Gp} (h:Sub G G'):Kp S G G':=fun x o _ e=>h x o e
theorem Kp.gup {S:List Addr} {a:Addr} {G:Gp} {o:GO} (h:a∈S):Kp S G (gup G a o):=fun x u hx e=>by rw[jJh (by rintro rfl;exact hx h)];exact e
theorem ChAt.ab {G:Gp} {a b c d:Addr} {s:CS} {kvs:Kvs} (h:ChAt G a b c d s kvs):a≠b:=by rintro rfl;have:=h.obj.symm.trans h.mks;cases this
theorem ChAt.ac {G:Gp} {a b c d:Addr} {s:CS} {kvs:Kvs} (h:ChAt G a b c d s kvs):a≠c:=by rintro rfl;have:=h.obj.symm.trans h.ct;cases this
theorem ChAt.ad {G:Gp} {a b c d:Addr} {s:CS} {kvs:Kvs} (h:ChAt G a b c d s kvs):a≠d:=by rintro rfl;have:=h.obj.symm.trans h.ld;cases this
theorem ChAt.bd {G:Gp} {a b c d:Addr} {s:CS} {kvs:Kvs} (h:ChAt G a b c d s kvs):b≠d:=by rintro rfl;have:=h.mks.symm.trans h.ld;cases this
theorem ChAt.cd {G:Gp} {a b c d:Addr} {s:CS} {kvs:Kvs} (h:ChAt G a b c d s kvs):c≠d:=by rintro rfl;have:=h.ct.symm.trans h.ld;cases this
noncomputable def jQ9:Sp3:=fun xs G Q=>∃(a b c d:Addr) (s:CS) (kvs:Kvs) (dr cm r k k0:Nat),xs=[.ref a,.int (dr:Nat),.int (cm:Nat),.str (mkS r),.int (k:Nat)]/\ChAt G a b c d s kvs/\s.Ok/\s.n<=400/\r<24/\k<12/\cm<k/\s.ct[s.pl]? =some k0/\dr<k0/\
 (∀k',s.ct[s.ms.idxOf r]? =some k'->k'=k)/\(∀e,s.E (s.at_,dr)=some e->e=(r,cm))/\(∀e,s.E (r,cm)=some e->e=(s.at_,dr))/\∀d' kvs' G',G d'=none->ChAt G' a b c d' (goC s dr cm r k) kvs'->Kp [a,b,c] G G'->Q .non G'
def kV8:List Str:=["self","door","came","mark","doors","start","end"]
noncomputable def jVj:TS3:=
 (tSeq (tIfS (tOr (tNot (jJs (kK2 rLeF rLt (tC (.int 0)) (tVar 1) (tOp rIxF (tFld "Chart" "counts" (tVar 0)) (tFld "Chart" "place" (tVar 0)))))) (tNot (jJs (kK2 rLeF rLt (tC (.int 0)) (tVar 2) (tVar 4))))) kJc jKw)
 (tSeq (tAsg (tTup (jJc (tFld "Chart" "place" (tVar 0)) (jJc (tVar 1) tNil))) (jJi 5))
 (tSeq (tAsg (tTup (jJc (jQq "Chart" "number_of" jQi (tVar 0) (jJc (tVar 3) tNil)) (jJc (tVar 2) tNil))) (jJi 6))
 (tSeq (jQf (jQq "Chart" "refuse_clash" jK2 (tVar 0) (jJc (tVar 5) (jJc (tVar 6) (jJc (tVar 4) tNil)))))
 (tSeq (tIfS (jJs (tOp jQm (tVar 3) (tFld "Chart" "marks" (tVar 0)))) (tSeq (jQf (tBM "list" jK6 (tFld "Chart" "marks" (tVar 0)) (jJc (tVar 3) tNil)))
 (jQf (tBM "list" jK6 (tFld "Chart" "counts" (tVar 0)) (jJc (tVar 4) tNil)))) jKw)
 (tSeq (kQq "Chart" "leads" (tVar 0) (jJr kQr (jJc (tFld "Chart" "leads" (tVar 0)) (jJc (tVar 5) (jJc (tVar 6) tNil)))))
 (kQq "Chart" "place" (tVar 0) (tOp rIxF (tVar 6) (tC (.int 0))))))))))
theorem kJi:RdOk jQ9 jVj kV8:=by
 intro xs G Q h_;apply xe11 h_;clear h_;intro a b c d s kvs dr cm r k k0 h_;apply ae12 h_;clear h_;intro h o hn hr hk hcm hk0 hdr c1 c2 c3 kk
 show jVj _ [some (.ref a),some (.int (dr:Nat)),some (.int (cm:Nat)),some (.str (mkS r)),some (.int (k:Nat)),none,none] G
 have hs:=sz
 have tail:∀G1:Gp,G1 a=some (chG b c d s.pl)->G1 b=some (.lst (mksT (addR s.ms r)))->G1 c=some (.lst (jJo (addC s.ms s.ct r k)))->G1 d=some (.dct kvs)->Kp [a,b,c] G G1->∃t,fldR "Chart" "leads" G1 (.ref a)=some t/\
   kQr [t,T.tup [T.int (s.pl:Nat),T.int (dr:Nat)],T.tup [T.int (s.ms.idxOf r:Nat),T.int (cm:Nat)]] G1 fun y G2=>∃G3,kJg "Chart" "leads" G2 (T.ref a) y=some G3/\∃G4,kJg "Chart" "place" G3 (T.ref a) (.int (s.ms.idxOf r:Nat))=some G4/\Q T.non G4:=by
  intro G1 g1 g2 g3 g4 kp
  have hl:=h.ok.len
  have hlm:s.ms.length<=24:=jJ5 o.nd o.lt
  refine⟨_,fLd g1,d,kvs,(s.pl,dr),(s.ms.idxOf r,cm),rfl,g4,fun x hx=> ?_,by omega,fun q G2 hq e2 s2=>⟨_,pLd (s2 _ _ g1),_,pPl jJf,?_⟩⟩
  ·obtain⟨i,e,h1,h2,h3⟩:=h.ok.ks x hx
   exact⟨i,e,by omega,h2,h3⟩
  have qa:q≠a:=by rintro rfl;rw[g1] at hq;cases hq
  have qn:G q=none:=by
   cases e:G q with
   | none=>rfl
   | some u=>
    by_cases z:q∈[a,b,c]
    ·simp only[lJj,lJv,lKc] at z
     rcases z with z | z | z
     ·rw[z,g1] at hq;cases hq
     ·rw[z,g2] at hq;cases hq
     ·rw[z,g3] at hq;cases hq
    ·rw[kp _ _ z e] at hq;cases hq
  refine kk q (kv1 kvs (s.pl,dr) (s.ms.idxOf r,cm)) _ qn ⟨?_,?_,?_,?_,h.ok.go o hr (by have:=o.dg k0 (lJm hk0);omega) (by omega),h.ne⟩ ?_
  ·rw[jJf];rfl
  ·rw[jXf,jJh h.ab.symm];exact s2 _ _ g2
  ·rw[jXf,jJh h.ac.symm];exact s2 _ _ g3
  ·rw[jXf,jJh qa];exact e2
  ·rw[jXf];exact (kp.trans (.sub s2)).trans (.gup (by simp))
 have v1:∀t,valT kvs (keyE (s.pl,dr))=some t->t=encE (s.ms.idxOf r,cm):=fun t e=>by
  rw[h.ok.val _ _ _ o.at_] at e
  obtain⟨q,e1,e2⟩:=lVi.mp e
  rw[c2 q e1] at e2;exact e2.symm
 have v2:∀t,valT kvs (keyE (s.ms.idxOf r,cm))=some t->t=encE (s.pl,dr):=fun t e=>by
  by_cases hm:r∈s.ms
  ·rw[h.ok.val _ _ _ (jXx hm)] at e
   obtain⟨q,e1,e2⟩:=lVi.mp e
   rw[c3 q e1,kKu o.nd o.at_] at e2;exact e2.symm
  ·rw[h.ok.off (by rw[kZj hm];exact lJf _)] at e;cases e
 have hlm:s.ms.length<=24:=jJ5 o.nd o.lt
 wp_walk using 1,jVj,tFld,kK2,rLeF,kJc,kQq,jQq,fCt h.obj,fPl h.obj,jKs h.ct,kX8 hk0
 rw[lJc (by omega),lJb (by simp;omega),lJc (by omega),lJb (by simp;omega)]
 refine⟨by omega,jVp h.obj,a,b,c,d,s,kvs,r,rfl,h,o,hr,by omega,jVp h.obj,a,b,c,d,s,kvs,(s.pl,dr),(s.ms.idxOf r,cm),k,rfl,h,c1,v1,v2,_,fMk h.obj,_,kZl h.mks o.lt hr,_,rfl,?_⟩
 by_cases hm:r∈s.ms
 ·rw[lJb (by simp[hm])]
  exact tail G h.obj (by unfold addR;rw[lJc hm];exact h.mks) (by unfold addC;rw[lJc hm];exact h.ct) h.ld (.refl _ _)
 ·rw[lJc (by simp[hm])]
  have e1:mksT s.ms++[T.str (mkS r)]=mksT (addR s.ms r):=by unfold addR;rw[lJb hm];simp[mksT]
  have e2:jJo s.ct++[T.int (k:Nat)]=jJo (addC s.ms s.ct r k):=by unfold addC;rw[lJb hm];simp[jJo]
  have ga:gup G b (GO.lst (mksT (addR s.ms r))) a=some (chG b c d s.pl):=by rw[jJh h.ab];exact h.obj
  have gc:gup G b (GO.lst (mksT (addR s.ms r))) c=some (.lst (jJo s.ct)):=by rw[jJh h.ne.symm];exact h.ct
  refine⟨_,fMk h.obj,of_eq_true (jKc h.mks),_,rfl,_,h.mks,by rw[mksT,lJg];omega,?_⟩
  rw[e1]
  refine⟨_,fCt ga,of_eq_true (jKc gc),_,rfl,_,gc,by rw[jJo,lJg,o.len];omega,?_⟩
  rw[e2]
  refine tail _ ?_ ?_ jJf ?_ ((Kp.gup (by simp)).trans (.gup (by simp)))
  ·rw[jJh h.ac];exact ga
  ·rw[jJh h.ne,jJf]
  ·rw[jJh h.cd.symm,jJh h.bd.symm];exact h.ld
def endT (s:CS):Option (Nat×Nat)->T
 | none=> .non
 | some e=>encE (s.ms.idxOf e.1,e.2)
def rmI (s:CS) (i:Nat):Nat:=s.ms.getD i 0
def ctI (s:CS) (i:Nat):Nat:=s.ct.getD i 0
def rowT (s:CS) (i:Nat):List T:=(List.range (ctI s i)).map fun d=>endT s (s.E (rmI s i,d))
def skL (s:CS) (n:Nat):List T:=(List.range n).map fun i=> .tup (rowT s i)
def skT (s:CS):T:= .tup (skL s s.ms.length)
theorem qVn {s:CS} {i:Nat} (h:i<s.ms.length):s.ms[i]? =some (rmI s i):=by
 unfold rmI
 (rw[lVr,lJi h];rfl)
theorem kVu {s:CS} (o:s.Ok) {i:Nat} (h:i<s.ms.length):s.ct[i]? =some (ctI s i):=by
 unfold ctI
 rw[lVr,lJi (by rw[o.len];exact h)];rfl
theorem kVt {s:CS} (o:s.Ok) {i:Nat} (h:i<s.ms.length):ctI s i<12:=o.dg _ (lJm (kVu o h))
theorem LdOk.get {s:CS} {kvs:Kvs} (h:LdOk s kvs) {i d:Nat} (hi:i<s.ms.length):(valT kvs (keyE (i,d))).getD .non=endT s (s.E (rmI s i,d)):=by
 rw[h.val i _ d (qVn hi)]
 cases s.E (rmI s i,d)<;>rfl
theorem jQ1 {n i e:Nat} (h:(List.range n)[i]? =some e):i<n/\i=e:=by
 obtain⟨q1,q2⟩:=lJe.mp h;simp at q1 q2;exact⟨q1,q2⟩
noncomputable def jX3:Sp3:=fun xs G Q=>∃(c d:Addr) (s:CS) (kvs:Kvs),xs=[.ref c,.ref d]/\G c=some (.lst (jJo s.ct))/\G d=some (.dct kvs)/\s.Ok/\LdOk s kvs/\∀G',Sub G G'->Q (skT s) G'
def qJ2:List Str:=["counts","leads","rooms","room","doors","door"]
noncomputable def jX6:TS3:=
 (tSeq (tAsg (tLst tNil) (jJi 2))
 (tSeq (tFor (kUg (jJc (tVar 0) tNil)) (gTup 2 (jKt (jJi 3) (jKt (jJi 4) gNil))) (jQf (tBM "list" jK6 (tVar 2) (jJc (tCB jKp (jJc (jUs [false,false,false,false,false,true] (jKv (jJc (tVar 4) tNil)) (jJi 5) jXz (tBM "dict" kXw (tVar 1) (jJc (tTup (jJc (tVar 3) (jJc (tVar 5) tNil))) tNil))) tNil)) tNil))))
 (tRet (tCB jKp (jJc (tVar 2) tNil)))))
theorem kQz:RdOk jX3 jX6 qJ2:=by
 intro xs G Q h_;apply xe4 h_;clear h_;intro c d s kvs h_;apply ae5 h_;clear h_;intro hc hd o ld kk
 show jX6 _ [some (.ref c),some (.ref d),none,none,none,none] G
 have hs:=sz
 have hlm:s.ms.length<=24:=jJ5 o.nd o.lt
 wp_walk using 1,jX6,jJ1,kUg
 refine⟨lJ2 _,fun q hq=> ?_⟩
 have hcq:=jJg hc hq
 have hdq:=jJg hd hq
 refine⟨_,lsT (by rw[jJh hcq];exact hc),?_⟩
 let J1:Nat->St3->Gp->Prop:=fun i τ G'=>∃(v3 v4:Option T),τ=[some (.ref c),some (.ref d),some (.ref q),v3,v4,none]/\G' q=some (.lst (skL s i))/\Sub G G'
 refine⟨J1,?_,?_,?_,?_⟩
 ·exact xi2 _ _ rfl ⟨jJf,.new hq⟩
 ·intro i τ G1 _ h_;apply xe2 h_;clear h_;intro v3 v4 h_;apply ae2 h_;clear h_;intro h2 h3
  exact lsT (h3 _ _ hc)
 ·intro i y τ G1 hy h_;apply xe2 h_;clear h_;intro v3 v4 h_;apply ae2 h_;clear h_;intro h2 h3
  obtain⟨z,hz,rfl⟩:=kUa hy
  obtain⟨k,hk,rfl⟩:=jKr hz
  have hi:i<s.ms.length:=by have:=(lJe.mp hk).1;rw[o.len] at this;exact this
  have ek:k=ctI s i:=by rw[kVu o hi] at hk;exact (lJq hk).symm
  subst ek
  have hk1:=kVt o hi
  wp_walk using 1,jKv,jKc h2
  refine⟨by omega,by omega,?_⟩
  rw[show ((ctI s i:Nat):Int).toNat=ctI s i by omega,jQj]
  refine jQw (fun d=>endT s (s.E (rmI s i,d))) (by simp;omega) (fun _ _=>trivial) ?_ ?_
  ·intro j x hx G2 K K0 s2 hK
   obtain⟨hj,rfl⟩:=jQ1 hx
   have hd2:=s2 _ _ (h3 _ _ hd)
   wp_walk using 1,kXw
   refine⟨by simp[tyT,hd2],by omega,valT kvs (keyE (i,j)),?_,?_⟩
   ·simp only[dAt,hd2];rfl
   ·rw[ld.get hi];exact hK G2 (.refl _)
  ·intro D G2 hD hD2 s2
   refine⟨_,jJl hD2,?_⟩
   have hq2:=s2 _ _ h2
   wp_walk using 1,hq2
   refine⟨by simp[skL];omega,xi2 _ _ rfl ⟨?_,(h3.trans s2).over hq⟩⟩
   rw[jJf]
   simp[skL,lKi,rowT]
 ·intro τ G1 h_;apply xe2 h_;clear h_;intro v3 v4 h_;apply ae2 h_;clear h_;intro h2 h3
  wp_walk using 1,tSeq
  have e:(numT (jJo s.ct)).length=s.ms.length:=by simp[numT,jJo,o.len]
  rw[e] at h2
  exact⟨_,jJl h2,kk G1 h3⟩
def jKd:Sp3:=fun xs G Q=>∃(a b c d:Addr) (s:CS) (kvs:Kvs),xs=[.ref a]/\ChAt G a b c d s kvs/\s.Ok/\∀G',Sub G G'->Q (skT s) G'
def kKz:List Str:=["self"]
noncomputable def jUf:TS3:=
 (tRet (jJr jX3 (jJc (tFld "Chart" "counts" (tVar 0)) (jJc (tFld "Chart" "leads" (tVar 0)) tNil))))
theorem jY3:RdOk jKd jUf kKz:=by
 intro xs G Q h_;apply xe6 h_;clear h_;intro a b c d s kvs h_;apply ae3 h_;clear h_;intro h o kk
 show jUf _ [some (.ref a)] G
 wp_walk using 1,jUf,tFld,fCt h.obj,fLd h.obj
 exact⟨c,d,s,kvs,rfl,h.ct,h.ld,o,h.ok,kk⟩
def opR (s:CS) (i:Nat):List T:=(List.range (ctI s i)).filterMap fun d=>if (s.E (rmI s i,d)).isNone=true then some (encE (i,d)) else none
def opL (s:CS) (n:Nat):List T:=(List.range n).flatMap (opR s)
theorem jZ0 (s:CS) (n:Nat):opL s (n+1)=opL s n++opR s n:=by simp[opL,lKi]
theorem kQ4 {s:CS} (o:s.Ok):∀ {n:Nat},n<=s.ms.length->(opL s n).length<=12*n
 | 0,_=>by simp[opL]
 | n+1,h=>by
  rw[jZ0,lJ7]
  have h1:=kQ4 o (n:=n) (by omega)
  have h2:(opR s n).length<=ctI s n:=by have:=lV2 (fun d=>if (s.E (rmI s n,d)).isNone=true then some (encE (n,d)) else none) (List.range (ctI s n));rw[lKw] at this;exact this
  have h3:=kVt o (i:=n) (by omega)
  omega
theorem kXl {s:CS} {i d:Nat} (h:d<ctI s i):(rowT s i)[d]? =some (endT s (s.E (rmI s i,d))):=by
 unfold rowT
 rw[lJs,lQx h];rfl
noncomputable def jKe:Sp3:=fun xs G Q=>∃(a b c d:Addr) (s:CS) (kvs:Kvs),xs=[.ref a]/\ChAt G a b c d s kvs/\s.Ok/\∀p G',G p=none->G' p=some (.lst (opL s s.ms.length))->Sub G G'->Q (.ref p) G'
def jYz:List Str:=["self","told","room","ends","door","end"]
noncomputable def jQd:TS3:=
 (tSeq (tAsg (tLst tNil) (jJi 1))
 (tSeq (tFor (iEnT (jJc (jQq "Chart" "sketch" jKd (tVar 0) tNil) tNil)) (gTup 2 (jKt (jJi 2) (jKt (jJi 3) gNil))) (jQf (tBM "list" kXx (tVar 1) (jJc (jUs [false,false,false,false,true,true] (iEnT (jJc (tVar 3) tNil)) (gTup 2 (jKt (jJi 4) (jKt (jJi 5) gNil))) (jJs (tOp rIsN (tVar 5) (tC .non))) (tTup (jJc (tVar 2) (jJc (tVar 4) tNil)))) tNil))))
 (tRet (tVar 1))))
theorem jV3:RdOk jKe jQd jYz:=by
 intro xs G Q h_;apply xe6 h_;clear h_;intro a b c d s kvs h_;apply ae3 h_;clear h_;intro h o kk
 show jQd _ [some (.ref a),none,none,none,none,none] G
 have hs:=sz
 have hlm:s.ms.length<=24:=jJ5 o.nd o.lt
 wp_walk using 1,jQd,jJ1,iEnT,jQq
 refine⟨lJ2 _,fun q hq=> ?_⟩
 have h':ChAt (gup G q (.lst [])) a b c d s kvs:=h.sub fun x u e _=>by rw[jJh (jJg e hq)];exact e
 refine⟨jVp h'.obj,a,b,c,d,s,kvs,rfl,h',o,fun G0 s0=> ?_⟩
 have hq0:G0 q=some (.lst []):=s0 _ _ jJf
 have sg:Sub G G0:=(Sub.new hq).trans s0
 refine⟨_,rfl,?_⟩
 let J1:Nat->St3->Gp->Prop:=fun i τ G'=>∃(v2 v3:Option T),τ=[some (.ref a),some (.ref q),v2,v3,none,none]/\G' q=some (.lst (opL s i))/\Sub G G'
 refine⟨J1,?_,?_,?_,?_⟩
 ·exact xi2 _ _ rfl ⟨hq0,sg⟩
 ·intros;trivial
 ·intro i y τ G1 hy h_;apply xe2 h_;clear h_;intro v2 v3 h_;apply ae2 h_;clear h_;intro h2 h3
  obtain⟨z,hz,rfl⟩:=kUa hy
  obtain⟨i',hi',rfl⟩:=jKr hz
  obtain⟨hi,rfl⟩:=jQ1 hi'
  have hk1:=kVt o hi
  wp_walk using 1,iEnT,jKc h2
  rw[show numT (rowT s i)=(List.range (ctI s i)).map (fun j:Nat=>T.tup [.int j,(rowT s i).getD j .non]) by rw[numT,rowT,lJg,lKw]]
  refine jXp (fun d=>if (s.E (rmI s i,d)).isNone=true then some (encE (i,d)) else none) (by simp;omega) (fun _ _=>trivial) ?_ ?_
  ·intro j x hx G2 K K0 s2 hK hK0
   obtain⟨hj,rfl⟩:=jQ1 hx
   rw[lVr,kXl hj,Option.getD_some]
   cases e:s.E (rmI s i,j) with
   | none=>wp_walk using 1,endT;exact⟨by omega,hK _ _ (by rw[e];rfl) (.refl _)⟩
   | some q=>wp_walk using 1,endT,encE;exact hK0 (by rw[e];rfl) _ (.refl _)
  ·intro D G2 hD hD2 s2
   have hl:=kQ4 o (n:=i) (by omega)
   have hr:(opR s i).length<=ctI s i:=by have:=lV2 (fun d=>if (s.E (rmI s i,d)).isNone=true then some (encE (i,d)) else none) (List.range (ctI s i));rw[lKw] at this;exact this
   refine⟨q,D,_,_,rfl,rfl,s2 _ _ h2,hD2,by show (opL s i).length+(opR s i).length<=_;omega,xi2 _ _ rfl ⟨?_,(h3.trans s2).over hq⟩⟩
   rw[jJf,jZ0];rfl
 ·intro τ G1 h_;apply xe2 h_;clear h_;intro v2 v3 h_;apply ae2 h_;clear h_;intro h2 h3
  wp_walk using 1,tSeq
  have e:(numT (skL s s.ms.length)).length=s.ms.length:=by simp[numT,skL]
  rw[e] at h2
  exact kk q G1 hq h2 h3
def wcE (s:CS) (i d:Nat):Nat×Nat:=match s.E (rmI s i,d) with
 | none=>(i,d)
 | some e=>(s.ms.idxOf e.1,e.2)
def wcR (s:CS) (i:Nat):List (Nat×Nat):=(List.range (ctI s i)).map (wcE s i)
def Wc (s:CS):Web:=(List.range s.ms.length).map (wcR s)
theorem jU3 (s:CS):(Wc s).length=s.ms.length:=by simp[Wc]
theorem wc_at {s:CS} {i:Nat} (h:i<s.ms.length):(Wc s)[i]? =some (wcR s i):=by
 unfold Wc
 rw[lJs,lQx h];rfl
theorem wcR_at {s:CS} {i d:Nat} (h:d<ctI s i):(wcR s i)[d]? =some (wcE s i d):=by
 unfold wcR
 rw[lJs,lQx h];rfl
theorem qJ8 {s:CS} {i d:Nat} {e:Nat×Nat} (h:en (Wc s) i d=some e):i<s.ms.length/\d<ctI s i/\e=wcE s i d:=by
 have hi:i<s.ms.length:=by rw[<-jU3 s];exact kUj h
 unfold en at h
 rw[wc_at hi] at h
 have hd:d<ctI s i:=by have:=(lJe.mp (show (wcR s i)[d]? =some e from h)).1;simpa[wcR] using this
 have h':(wcR s i)[d]? =some e:=h
 rw[wcR_at hd] at h'
 exact⟨hi,hd,(lJq h').symm⟩
theorem jZ8 {s:CS} (o:s.Ok):Fine (Wc s):=by
 have hlm:s.ms.length<=24:=jJ5 o.nd o.lt
 refine⟨by rw[jU3];omega,fun r es h=> ?_,fun r i x j h=> ?_⟩
 ·have hi:r<s.ms.length:=by rw[<-jU3 s];exact (lJe.mp h).1
  rw[wc_at hi] at h
  cases h
  have:=kVt o hi
  simp[wcR];omega
 ·obtain⟨hi,hd,e⟩:=qJ8 h
  rw[jU3]
  unfold wcE at e
  split at e
  ·cases e;exact hi
  ·rename_i q hq
   cases e
   exact qQs (o.e1 _ _ hq)
def kQs:Sp3:=fun xs G Q=>∃s:CS,xs=[skT s]/\s.Ok/\∀G',Sub G G'->Q (encW (Wc s)) G'
def N_shut:List Str:=["sketch","rooms","room","ends","door","end"]
noncomputable def kXu:TS3:=
 (tSeq (tAsg (tLst tNil) (jJi 1))
 (tSeq (tFor (iEnT (jJc (tVar 0) tNil)) (gTup 2 (jKt (jJi 2) (jKt (jJi 3) gNil))) (jQf (tBM "list" jK6 (tVar 1) (jJc (tCB jKp (jJc (jUs [false,false,false,false,true,true] (iEnT (jJc (tVar 3) tNil)) (gTup 2 (jKt (jJi 4) (jKt (jJi 5) gNil))) jXz (tIf (jJs (tOp rIsN (tVar 5) (tC .non))) (tTup (jJc (tVar 2) (jJc (tVar 4) tNil))) (tVar 5))) tNil)) tNil))))
 (tRet (tCB jKp (jJc (tVar 1) tNil)))))
theorem qKv:RdOk kQs kXu N_shut:=by
 intro xs G Q h_;apply xe1 h_;clear h_;intro s h_;apply ae2 h_;clear h_;intro o kk
 show kXu _ [some (skT s),none,none,none,none,none] G
 have hs:=sz
 have hlm:s.ms.length<=24:=jJ5 o.nd o.lt
 wp_walk using 1,kXu,jJ1,iEnT
 refine⟨lJ2 _,fun q hq=>⟨_,rfl,?_⟩⟩
 let J1:Nat->St3->Gp->Prop:=fun i τ G'=>∃(v2 v3:Option T),τ=[some (skT s),some (.ref q),v2,v3,none,none]/\G' q=some (.lst ((List.range i).map fun i=>encR (wcR s i)))/\Sub G G'
 refine⟨J1,?_,?_,?_,?_⟩
 ·exact xi2 _ _ rfl ⟨jJf,.new hq⟩
 ·intros;trivial
 ·intro i y τ G1 hy h_;apply xe2 h_;clear h_;intro v2 v3 h_;apply ae2 h_;clear h_;intro h2 h3
  obtain⟨z,hz,rfl⟩:=kUa hy
  obtain⟨i',hi',rfl⟩:=jKr hz
  obtain⟨hi,rfl⟩:=jQ1 hi'
  have hk1:=kVt o hi
  wp_walk using 1,iEnT,jKc h2
  rw[show numT (rowT s i)=(List.range (ctI s i)).map (fun j:Nat=>T.tup [.int j,(rowT s i).getD j .non]) by rw[numT,rowT,lJg,lKw]]
  refine jQw (fun d=>encE (wcE s i d)) (by simp;omega) (fun _ _=>trivial) ?_ ?_
  ·intro j x hx G2 K K0 s2 hK
   obtain⟨hj,rfl⟩:=jQ1 hx
   rw[lVr,kXl hj,Option.getD_some]
   have hK':=hK G2 (.refl _)
   cases e:s.E (rmI s i,j) with
   | none=>
    have ew:wcE s i j=(i,j):=by unfold wcE;rw[e]
    rw[ew] at hK'
    wp_walk using 1,endT;exact⟨by omega,hK'⟩
   | some q=>
    have ew:wcE s i j=(s.ms.idxOf q.1,q.2):=by unfold wcE;rw[e]
    rw[ew] at hK'
    wp_walk using 1,endT,encE;exact hK'
  ·intro D G2 hD hD2 s2
   refine⟨_,jJl hD2,?_⟩
   have hq2:=s2 _ _ h2
   wp_walk using 1,hq2
   refine⟨by simp;omega,xi2 _ _ rfl ⟨?_,(h3.trans s2).over hq⟩⟩
   rw[jJf]
   simp[lKi,encR,wcR]
 ·intro τ G1 h_;apply xe2 h_;clear h_;intro v2 v3 h_;apply ae2 h_;clear h_;intro h2 h3
  wp_walk using 1,tSeq
  have e:(numT (skL s s.ms.length)).length=s.ms.length:=by simp[numT,skL]
  rw[e] at h2
  refine⟨_,jJl h2,?_⟩
  have e2:T.tup ((List.range s.ms.length).map fun i=>encR (wcR s i))=encW (Wc s):=by simp[encW,Wc]
  rw[e2]
  exact kk G1 h3
def optW:Option (List Nat)->T
 | none=> .non
 | some v=> .tup (jJo v)
theorem kYc {p:Nat->Bool} {g:Nat->T}:∀ {n:Nat},(List.range n).filterMap (fun d=>if p d=true then some (g d) else none)=[]->∀d,d<n->p d=false
 | 0,_,d,hd=>absurd hd (lK5 _)
 | n+1,h,d,hd=>by
  rw[lKi,lQj,List.append_eq_nil_iff] at h
  rcases lKe d n with z | z
  ·exact kYc h.1 d z
  ·have:d=n:=by omega
   subst this
   have:=h.2
   cases q:p d with
   | false=>rfl
   | true=>simp[q] at this
theorem qQ9 {p:Nat->Bool} {g:Nat->T} {t:T} {ts:List T}:∀ {n:Nat},(List.range n).filterMap (fun d=>if p d=true then some (g d) else none)=t::ts->∃d,d<n/\p d=true/\t=g d/\∀d',d'<d->p d'=false
 | 0,h=>by simp at h
 | n+1,h=>by
  rw[lKi,lQj] at h
  cases e:(List.range n).filterMap (fun d=>if p d=true then some (g d) else none) with
  | cons u us=>
   rw[e,List.cons_append] at h
   cases h
   obtain⟨d,h1,h2,h3,h4⟩:=qQ9 e
   exact⟨d,by omega,h2,h3,h4⟩
  | nil=>
   rw[e,List.nil_append] at h
   have q:=kYc e
   cases hp:p n with
   | false=>simp[hp] at h
   | true=>
    simp[hp] at h
    exact⟨n,by omega,hp,h.1.symm,q⟩
def opD (s:CS) (x:Nat):List T:=(List.range (ctI s x)).filterMap fun d=>if (s.E (rmI s x,d)).isNone=true then some (T.int (d:Nat)) else none
def opRp (s:CS) (i:Nat):List (Nat×Nat):=(List.range (ctI s i)).filterMap fun d=>if (s.E (rmI s i,d)).isNone=true then some (i,d) else none
def opP (s:CS) (n:Nat):List (Nat×Nat):=(List.range n).flatMap (opRp s)
theorem opR_is (s:CS) (i:Nat):opR s i=(opRp s i).map encE:=by
 unfold opR opRp
 rw[List.map_filterMap]
 congr 1
 funext d
 split<;>rfl
theorem qK5 (s:CS) (n:Nat):opL s n=(opP s n).map encE:=by
 unfold opL opP
 rw[List.map_flatMap]
 congr 1
 funext i
 exact opR_is s i
theorem qK4 (s:CS) (x:Nat):∀n:Nat,(opP s n).filterMap (fun e=>if e.1=x then some (T.int (e.2:Nat)) else none)=if x<n then opD s x else []
 | 0=>by simp[opP]
 | n+1=>by
  have e:opP s (n+1)=opP s n++opRp s n:=by simp[opP,lKi]
  rw[e,lQj,qK4 s x n]
  have e2:(opRp s n).filterMap (fun e=>if e.1=x then some (T.int (e.2:Nat)) else none)=if n=x then opD s x else []:=by
   unfold opRp
   rw[List.filterMap_filterMap]
   by_cases q:n=x
   ·subst q
    rw[lJc rfl]
    unfold opD
    congr 1
    funext d
    split<;>simp
   ·rw[lJb q]
    refine List.filterMap_eq_nil_iff.mpr fun d _=> ?_
    split<;>simp[q]
  rw[e2]
  by_cases q:n=x
  ·subst q;simp
  ·rw[lJb q,lQa]
   by_cases z:x<n
   ·rw[lJc z,lJc (by omega)]
   ·rw[lJb z,lJb (by omega)]
def clo (s:CS) (x:Nat):Prop:=∀d,d<ctI s x->(s.E (rmI s x,d)).isSome=true
noncomputable def NextW (s:CS):Option (List Nat)->Prop
 | none=>∀x,x∈bfs (Wc s) s.pl->clo s x
 | some v=>∃(k x:Nat) (w:List Nat) (d:Nat),v=w++[d]/\(bfs (Wc s) s.pl)[k]? =some x/\(∀(j y:Nat),j<k->(bfs (Wc s) s.pl)[j]? =some y->clo s y)/\Least (Wc s) s.pl x w/\w.length<s.ms.length/\d<ctI s x/\s.E (rmI s x,d)=none/\∀d',d'<d->(s.E (rmI s x,d')).isSome=true
theorem qX3 {G:Gp} {u:List Nat} {j:Nat} {Q:VK3} (h:u.length+1<=sizeLine) (q:Q (.tup (jJo (u++[j]))) G):qZa (.tup (jJo u)) (.tup [.int (j:Nat)]) G Q:=by
 cases u with
 | nil=>exact .inr ⟨[.int j],rfl,rfl,q⟩
 | cons c u=>
  refine .inl ⟨.val (.tup (jJo (c::u++[j]))),?_,q⟩
  have:u.length+1+1<=sizeLine:=h
  simp[L3.addR,jJo,this]
def jK8:Sp3:=fun xs G Q=>∃(a b c d:Addr) (s:CS) (kvs:Kvs),xs=[.ref a]/\ChAt G a b c d s kvs/\s.Ok/\∀w G',NextW s w->Sub G G'->Q (optW w) G'
def jZu:List Str:=["self","web","ends","room","doors","end"]
noncomputable def jQs:TS3:=
 (tSeq (tAsg (jJr kQs (jJc (jQq "Chart" "sketch" jKd (tVar 0) tNil) tNil)) (jJi 1))
 (tSeq (tAsg (jQq "Chart" "open_doors" jKe (tVar 0) tNil) (jJi 2))
 (tSeq (tFor (iSeq (tCB qKz (jJc (jJr jKu (jJc (tVar 1) (jJc (tFld "Chart" "place" (tVar 0)) tNil))) tNil))) (jJi 3) (tSeq (tAsg (jUs [false,false,false,false,false,true] (iSeq (tVar 2)) (jJi 5) (jJs (tOp rEqA (tOp rIxF (tVar 5) (tC (.int 0))) (tVar 3))) (tOp rIxF (tVar 5) (tC (.int 1)))) (jJi 4))
 (tIfS (tTru rTru (tVar 4)) (tRet (tOp qZa (jJr jYg (jJc (tVar 1) (jJc (tFld "Chart" "place" (tVar 0)) (jJc (tVar 3) tNil)))) (tTup (jJc (tOp rIxF (tVar 4) (tC (.int 0))) tNil)))) jKw)))
 (tRet (tC .non)))))
theorem jX5:RdOk jK8 jQs jZu:=by
 intro xs G Q h_;apply xe6 h_;clear h_;intro a b c d s kvs h_;apply ae3 h_;clear h_;intro h o kk
 show jQs _ [some (.ref a),none,none,none,none,none] G
 have hs:=sz
 have hlm:s.ms.length<=24:=jJ5 o.nd o.lt
 wp_walk using 1,jQs,jQq,tFld,jJ1,iSeq
 refine⟨jVp h.obj,a,b,c,d,s,kvs,rfl,h,o,fun G1 s1=>⟨s,rfl,o,fun G2 s2=> ?_⟩⟩
 have h2:ChAt G2 a b c d s kvs:=h.sub fun x u z _=>s2 _ _ (s1 x u z)
 refine⟨jVp h2.obj,a,b,c,d,s,kvs,rfl,h2,o,fun p G3 hp hp3 s3=> ?_⟩
 have h3:ChAt G3 a b c d s kvs:=h2.sub fun x u z _=>s3 x u z
 refine⟨_,fPl h3.obj,Wc s,s.pl,rfl,jZ8 o,by rw[jU3];exact o.pl,fun dd G4 P hd h4 hF hT s4=> ?_⟩
 dsimp only
 wp_walk using 1,qKz
 have hk:(jU0 P).map (fun kv=>kT kv.1)=jJo (bfs (Wc s) s.pl):=by
  rw[<-hF]
  unfold jU0 jJo
  rw[lK0,lK0];rfl
 have s5:=((s1.trans s2).trans s3).trans s4
 refine⟨_,h4,fun q hq=> ?_⟩
 rw[hk]
 let J1:Nat->St3->Gp->Prop:=fun i τ G'=>∃(v3 v4:Option T),τ=[some (.ref a),some (encW (Wc s)),some (.ref p),v3,v4,none]/\(∀(j y:Nat),j<i->(bfs (Wc s) s.pl)[j]? =some y->clo s y)/\Sub (gup G4 q (.lst (jJo (bfs (Wc s) s.pl)))) G'
 refine⟨J1,?_,?_,?_,?_⟩
 ·exact xi2 _ _ rfl ⟨fun j y hj=>absurd hj (lK5 _),.refl _⟩
 ·intro i τ G5 _ h_;apply xe2 h_;clear h_;intro v3 v4 h_;apply ae2 h_;clear h_;intro hc s6
  exact jJl (s6 _ _ jJf)
 ·intro i y τ G5 hy h_;apply xe2 h_;clear h_;intro v3 v4 h_;apply ae2 h_;clear h_;intro hc s6
  obtain⟨x,hx,rfl⟩:=jKr hy
  have hxl:x<s.ms.length:=by rw[<-jU3 s];exact (qUz (jZ8 o) (by rw[jU3];exact o.pl)).2.lt x (lJm hx)
  have s7:Sub G4 G5:=(Sub.new hq).trans s6
  have hp5:G5 p=some (.lst (opL s s.ms.length)):=s7 _ _ (s4 _ _ hp3)
  wp_walk using 1,iSeq,rEqA
  refine⟨_,jJl hp5,?_⟩
  rw[qK5]
  have hlo:=kQ4 o (lJf _)
  rw[qK5,lJg] at hlo
  refine jXp (fun e=>if e.1=x then some (T.int (e.2:Nat)) else none) (by omega) (fun G' s'=>jJl (s' _ _ (by rw[hp5,qK5]))) ?_ ?_
  ·intro j e he G6 K K0 s8 hK hK0
   wp_walk using 1,rEqA,encE,kJ6
   by_cases q:e.1=x
   ·rw[lJc q];exact hK _ _ (by rw[lJc q]) (.refl _)
   ·rw[lJb q];exact hK0 (by rw[lJb q]) _ (.refl _)
  ·intro D G6 hD hD6 s8
   rw[qK4,lJc hxl] at hD6
   have s9:=(s5.trans s7).trans s8
   have h6:ChAt G6 a b c d s kvs:=h.sub fun x u z _=>s9 x u z
   cases e:opD s x with
   | nil=>
    rw[e] at hD6
    wp_walk using 1,hD6,List.isEmpty_nil
    refine xi2 _ _ rfl ⟨fun j y hj hy'=> ?_,s6.trans s8⟩
    rcases lKe j i with z | z
    ·exact hc j y z hy'
    ·have:j=i:=by omega
     subst this
     rw[hx] at hy';cases hy'
     intro dd hdd
     have:=kYc e dd hdd
     cases z:s.E (rmI s x,dd) with
     | none=>rw[z] at this;cases this
     | some _=>rfl
   | cons t ts=>
    rw[e] at hD6
    obtain⟨dd,g1,g2,rfl,g4⟩:=qQ9 e
    have hat0:L2.atI (T.int (dd:Nat)::ts) 0=some (.int (dd:Nat)):=by
     show L2.atI (T.int (dd:Nat)::ts) ((0:Nat):Int)=_
     rw[atN];rfl
    wp_walk using 1,hD6,tFld,fPl h6.obj,List.isEmpty_cons
    refine⟨Wc s,s.pl,x,rfl,jZ8 o,by rw[jU3];exact hlm,by rw[jU3];exact o.pl,lJm hx,fun G7 w hw hl s10=> ?_⟩
    rw[jU3] at hl
    have hD7:=s10 _ _ hD6
    wp_walk using 1,jKs hD7,hat0
    refine⟨by omega,qX3 (by omega) ?_⟩
    have nn:s.E (rmI s x,dd)=none:=by
     cases z:s.E (rmI s x,dd) with
     | none=>rfl
     | some _=>rw[z] at g2;cases g2
    refine kk (some (w++[dd])) G7 ⟨i,x,w,dd,rfl,hx,hc,hw,hl,g1,nn,fun d' hd'=> ?_⟩ (s9.trans s10)
    have:=g4 d' hd'
    cases z:s.E (rmI s x,d') with
    | none=>rw[z] at this;cases this
    | some _=>rfl
 ·intro τ G5 h_;apply xe2 h_;clear h_;intro v3 v4 h_;apply ae2 h_;clear h_;intro hc s6
  wp_walk using 1,tSeq
  refine kk none G5 (fun x hx=> ?_) ((s5.trans (.new hq)).trans s6)
  (obtain⟨j,hj⟩:=lJ8 hx)
  have:=(lJe.mp hj).1
  exact hc j x (by simpa[jJo] using this) hj
abbrev noS:Str:=PySem.Str.ofString "nowhere"
theorem no_mks:((List.range 24).all fun r=> !(mkS r == noS))=true:=by decide +kernel
theorem qZl {r:Nat} (h:r<24):(mkS r == noS)=false:=by
 have:=lQv.mp no_mks r (lKy.mpr h)
 simpa using this
def mrk:Option Nat->Str
 | some r=>mkS r
 | none=>noS
def kXb (s:CS) (ρ:Option Nat):Prop:=∀r,ρ=some r->r∈s.ms
theorem in_mrk {G:Gp} {b:Addr} {ms:List Nat} {ρ:Option Nat} (h:G b=some (.lst (mksT ms))) (lt:∀x,x∈ms->x<24) (hr:∀r,ρ=some r->r∈ms):inR G (.str (mrk ρ)) (.ref b)=some ρ.isSome:=by
 cases ρ with
 | some r=>
  show inR G (.str (mkS r)) (.ref b)=_
  rw[kZl h lt (lt r (hr r rfl)),lK9 (hr r rfl)];rfl
 | none=>
  have e:inR G (.str noS) (.ref b)=some (inT (.str noS) (mksT ms)):=by
   simp only[inR,seqT,h,asL,kUc,jU2,and_self,lJ4]
  show inR G (.str noS) (.ref b)=_
  rw[e]
  congr 1
  refine List.any_eq_false.mpr fun x hx=> ?_
  obtain⟨r,hr',rfl⟩:=lJw.mp hx
  rw[show eqT (.str (mkS r)) (.str noS)=(mkS r == noS) from rfl,qZl (lt r hr')]
  simp
noncomputable def jJ6:SpX:=fun xs G Q R=>∃(a b c d:Addr) (s:CS) (kvs:Kvs) (ρ:Option Nat),xs=[.ref a,.str (mrk ρ)]/\ChAt G a b c d s kvs/\s.Ok/\kXb s ρ/\(∀r,ρ=some r->Q (.int (s.ms.idxOf r:Nat)) G)/\(ρ=none->R "NoMark" G)
theorem jVq:kYt jJ6:=by
 rintro xs G Q Q' R R' hq hr ⟨a,b,c,d,s,kvs,ρ,e,h1,h2,h3,h4,h5⟩
 exact⟨a,b,c,d,s,kvs,ρ,e,h1,h2,h3,fun z y=>hq _ _ (h4 z y),fun z=>hr _ _ (h5 z)⟩
def jXv:List Str:=["self","mark"]
noncomputable def jK5 (R:XK3):TS3:=
 (tSeq (tIfS (jJs (tOp jQm (tVar 1) (tFld "Chart" "marks" (tVar 0)))) (jX0 R "NoMark") jKw)
 (tRet (tBM "list" jZi (tFld "Chart" "marks" (tVar 0)) (jJc (tVar 1) tNil))))
theorem jVi:∀xs G Q R,jJ6 xs G Q R->jK5 R {nx:=fun _ G'=>Q .non G',rt:=Q} (jQ6 jXv xs) G:=by
 intro xs G Q R h_;apply xe7 h_;clear h_;intro a b c d s kvs ρ h_;apply ae5 h_;clear h_;intro h o hm kk k0
 show jK5 _ _ [some (.ref a),some (.str (mrk ρ))] G
 wp_walk using 1,jK5,tFld,jX0,fMk h.obj,jQm,in_mrk h.mks o.lt hm,jKc h.mks
 cases ρ with
 | none=>rw[lJc (by rfl)];exact k0 rfl
 | some r=>rw[lJb (by simp)];exact kYa h.mks o.nd o.lt (hm r rfl) (kk r rfl)
noncomputable def jK1:SpX:=fun xs G Q R=>∃(a b c d:Addr) (s:CS) (kvs:Kvs) (ρ:Option Nat),xs=[.ref a,.str (mrk ρ)]/\ChAt G a b c d s kvs/\s.Ok/\kXb s ρ/\(∀r,ρ=some r->∀t G',Sub G G'->Q t G')/\(ρ=none->R "NoMark" G)
theorem jZb:kYt jK1:=by
 rintro xs G Q Q' R R' hq hr ⟨a,b,c,d,s,kvs,ρ,e,h1,h2,h3,h4,h5⟩
 exact⟨a,b,c,d,s,kvs,ρ,e,h1,h2,h3,fun z y t G' s'=>hq _ _ (h4 z y t G' s'),fun z=>hr _ _ (h5 z)⟩
def kKy:List Str:=["self","mark","room","web"]
noncomputable def jUe (R:XK3):TS3:=
 (tSeq (tAsg (kU0 "Chart" "known_number" jJ6 R (tVar 0) (jJc (tVar 1) tNil)) (jJi 2))
 (tSeq (tAsg (jJr kQs (jJc (jQq "Chart" "sketch" jKd (tVar 0) tNil) tNil)) (jJi 3))
 (tRet (tIf (jJs (tOp kKp (tVar 2) (jJr jKu (jJc (tVar 3) (jJc (tFld "Chart" "place" (tVar 0)) tNil))))) (jJr jYg (jJc (tVar 3) (jJc (tFld "Chart" "place" (tVar 0)) (jJc (tVar 2) tNil)))) (tC .non)))))
theorem jY2:∀xs G Q R,jK1 xs G Q R->jUe R {nx:=fun _ G'=>Q .non G',rt:=Q} (jQ6 kKy xs) G:=by
 intro xs G Q R h_;apply xe7 h_;clear h_;intro a b c d s kvs ρ h_;apply ae5 h_;clear h_;intro h o hm kk k0
 show jUe _ _ [some (.ref a),some (.str (mrk ρ)),none,none] G
 have hlm:s.ms.length<=24:=jJ5 o.nd o.lt
 wp_walk using 1,jUe,jQq,kU0,tFld
 refine⟨jVp h.obj,a,b,c,d,s,kvs,ρ,rfl,h,o,hm,fun r hρ=> ?_,k0⟩
 refine⟨jVp h.obj,a,b,c,d,s,kvs,rfl,h,o,fun G1 s1=>⟨s,rfl,o,fun G2 s2=> ?_⟩⟩
 have h2:ChAt G2 a b c d s kvs:=h.sub fun x u z _=>s2 _ _ (s1 x u z)
 refine⟨_,fPl h2.obj,Wc s,s.pl,rfl,jZ8 o,by rw[jU3];exact o.pl,fun dd G3 P hd h3 hF hT s3=> ?_⟩
 have hk:(jU0 P).map Prod.fst=(bfs (Wc s) s.pl).map keyN:=by rw[kZg,hF]
 have s4:=(s1.trans s2).trans s3
 have h4:ChAt G3 a b c d s kvs:=h.sub fun x u z _=>s4 x u z
 wp_walk using 1,kKp,qQy h3 hk
 by_cases hx:s.ms.idxOf r∈bfs (Wc s) s.pl
 ·rw[lJc hx]
  exact⟨_,fPl h4.obj,Wc s,s.pl,s.ms.idxOf r,rfl,jZ8 o,by rw[jU3];exact hlm,by rw[jU3];exact o.pl,hx,fun G5 w hw hl s5=>kk r hρ _ G5 (s4.trans s5)⟩
 ·rw[lJb hx]
  exact kk r hρ _ G3 s4
noncomputable def jQb:SpX:=fun xs G Q R=>∃(a b c d:Addr) (s:CS) (kvs:Kvs),xs=[.ref a]/\ChAt G a b c d s kvs/\s.Ok/\(opL s s.ms.length=[]->∀G',Sub G G'->Q (skT s) G')/\(opL s s.ms.length≠[]->∀G',Sub G G'->R "NotWhole" G')
theorem jZq:kYt jQb:=by
 rintro xs G Q Q' R R' hq hr ⟨a,b,c,d,s,kvs,e,h1,h2,h4,h5⟩
 exact⟨a,b,c,d,s,kvs,e,h1,h2,fun z G' s'=>hq _ _ (h4 z G' s'),fun z G' s'=>hr _ _ (h5 z G' s')⟩
def kUs:List Str:=["self"]
noncomputable def jUw (R:XK3):TS3:=
 (tSeq (tIfS (tTru rTru (jQq "Chart" "open_doors" jKe (tVar 0) tNil)) (jX0 R "NotWhole") jKw)
 (tRet (jQq "Chart" "sketch" jKd (tVar 0) tNil)))
theorem jZm:∀xs G Q R,jQb xs G Q R->jUw R {nx:=fun _ G'=>Q .non G',rt:=Q} (jQ6 kUs xs) G:=by
 intro xs G Q R h_;apply xe6 h_;clear h_;intro a b c d s kvs h_;apply ae4 h_;clear h_;intro h o kk k0
 show jUw _ _ [some (.ref a)] G
 wp_walk using 1,jUw,jQq,jX0
 refine⟨jVp h.obj,a,b,c,d,s,kvs,rfl,h,o,fun p G1 hp hp1 s1=> ?_⟩
 have h1:ChAt G1 a b c d s kvs:=h.sub fun x u z _=>s1 x u z
 wp_walk using 1,hp1
 cases e:opL s s.ms.length with
 | nil=>
  wp_walk using 1,List.isEmpty_nil
  exact⟨jVp h1.obj,a,b,c,d,s,kvs,rfl,h1,o,fun G2 s2=>kk e G2 (s1.trans s2)⟩
 | cons x xs=>
  wp_walk using 1,List.isEmpty_cons
  exact k0 (by rw[e];simp) G1 s1
def fgE (E:Nat×Nat->Option (Nat×Nat)) (p:Nat×Nat):Nat×Nat->Option (Nat×Nat):=match E p with
 | none=>E
 | some q=>fun x=>if x=q then none else if x=p then none else E x
def fgC (s:CS) (p:Nat×Nat):CS:={s with E:=fgE s.E p}
theorem qUb {E:Nat×Nat->Option (Nat×Nat)} {p x y:Nat×Nat} (h:fgE E p x=some y):E x=some y:=by
 unfold fgE at h
 cases e:E p with
 | none=>rw[e] at h;exact h
 | some q=>
  rw[e] at h
  have h:(if x=q then none else if x=p then none else E x)=some y:=h
  by_cases a:x=q
  ·rw[lJc a] at h;cases h
  ·rw[lJb a] at h
   by_cases b:x=p
   ·rw[lJc b] at h;cases h
   ·rw[lJb b] at h;exact h
theorem CS.Ok.fg {s:CS} (h:s.Ok) (p:Nat×Nat):(fgC s p).Ok:=
 ⟨h.nd,h.lt,h.len,h.dg,h.pl,fun x y e=>h.e0 x y (qUb e),fun x y e=>h.e1 x y (qUb e)⟩
theorem jU4 {κ:Type} [DecidableEq κ] {kvs:List (κ×T)} {k k':κ}:valT (jZs kvs k) k'=if k'=k then none else valT kvs k':=by
 unfold valT jZs
 induction kvs with
 | nil=>simp
 | cons x xs ih=>
  rw[lK8]
  by_cases e:x.1=k
  ·rw[lJb (by simpa using e),ih]
   by_cases z:k'=k
   ·rw[lJc z,lJc z]
   ·rw[lJb z,lJb z,lKh,lJo (fun q=>z (q.symm.trans e))]
  ·rw[lJc (by simpa using e)]
   by_cases q:x.1=k'
   ·rw[lKh,lK9 q,lJb (fun z=>e (q.trans z)),lKh,lK9 q]
   ·rw[lKh,lJo q,ih,lKh,lJo q]
theorem jXo {κ:Type} [DecidableEq κ] (kvs:List (κ×T)) (k:κ):(jZs kvs k).length<=kvs.length:=lVo _ _
theorem kUk {κ:Type} [DecidableEq κ] {kvs:List (κ×T)} {k:κ} {x:κ×T} (h:x∈jZs kvs k):x∈kvs:=(lQq.mp h).1
theorem LdOk.fg {s:CS} {kvs kvs':Kvs} (o:s.Ok) (h:LdOk s kvs) {i r d:Nat} {q:Nat×Nat} (hi:s.ms[i]? =some r) (he:s.E (r,d)=some q) (hs:∀x,x∈kvs'->x∈kvs) (hl:kvs'.length<=kvs.length)
  (hv:∀k,valT kvs' k=if k=keyE (s.ms.idxOf q.1,q.2) then none else if k=keyE (i,d) then none else valT kvs k):LdOk (fgC s (r,d)) kvs' where
 ks:=fun x hx=>h.ks x (hs x hx)
 len:=lJ9 hl h.len
 val:=fun i' r' d' hi'=>by
  have hi':s.ms[i']? =some r':=hi'
  show valT kvs' _=(fgE s.E (r,d) (r',d')).map fun e=>encE (s.ms.idxOf e.1,e.2)
  have e1:=kKu o.nd hi
  have e2:=kKu o.nd hi'
  rw[hv]
  unfold fgE
  rw[he]
  dsimp only
  by_cases z:(r',d')=q
  ·rw[lJc z,lJc (by rw[<-z,e2])];rfl
  ·rw[lJb z,lJb (fun y=>z ?_)]
   ·by_cases z2:(r',d')=(r,d)
    ·rw[lJc z2]
     cases z2
     rw[e1] at e2
     rw[lJc (by rw[e2])];rfl
    ·rw[lJb z2,lJb (fun y=>z2 ?_)]
     ·exact h.val i' r' d' hi'
     ·have y':=kUe y
      have y1:i'=i:=lJx Prod.fst y'
      have y2:d'=d:=lJx Prod.snd y'
      rw[y1,hi] at hi';cases hi';rw[y2]
   ·have y':=kUe y
    have y1:i'=s.ms.idxOf q.1:=lJx Prod.fst y'
    have y2:d'=q.2:=lJx Prod.snd y'
    have:=jXx (o.e1 _ _ he)
    rw[<-y1,hi'] at this
    rw[lJq this,y2]
theorem qQx {G:Gp} {d:Addr} {kvs:Kvs} {ys:List T} {k:L2.TKey} (h:G d=some (.dct kvs)) (hk:jU8 ys=some k):inR G (.tup ys) (.ref d)=some (valT kvs k).isSome:=by
 simp only[inR,seqT,h,asL,dAt,hk]
noncomputable def jK3:SpX:=fun xs G Q R=>∃(a b c d:Addr) (s:CS) (kvs:Kvs) (ρ:Option Nat) (di:Int),xs=[.ref a,.str (mrk ρ),.int di]/\ChAt G a b c d s kvs/\s.Ok/\kXb s ρ/\(ρ=none->R "NoMark" G)/\(∀r,ρ=some r->¬ (0<=di/\di<ctI s (s.ms.idxOf r))->R "NoDoor" G)/\
 ∀(r n:Nat),ρ=some r->di=n->n<ctI s (s.ms.idxOf r)->∀kvs' G',ChAt G' a b c d (fgC s (r,n)) kvs'->Kp [d] G G'->Q .non G'
theorem jZc:kYt jK3:=by
 rintro xs G Q Q' R R' hq hr ⟨a,b,c,d,s,kvs,ρ,di,e,h1,h2,h3,h4,h5,h6⟩
 exact⟨a,b,c,d,s,kvs,ρ,di,e,h1,h2,h3,fun z=>hr _ _ (h4 z),fun r z y=>hr _ _ (h5 r z y),fun r n z y x kvs' G' w v=>hq _ _ (h6 r n z y x kvs' G' w v)⟩
def kK0:List Str:=["self","mark","door","start","end"]
noncomputable def jUg (R:XK3):TS3:=
 (tSeq (tAsg (tTup (jJc (kU0 "Chart" "known_number" jJ6 R (tVar 0) (jJc (tVar 1) tNil)) (jJc (tVar 2) tNil))) (jJi 3))
 (tSeq (tIfS (tNot (jJs (kK2 rLeF rLt (tC (.int 0)) (tVar 2) (tOp rIxF (tFld "Chart" "counts" (tVar 0)) (tOp rIxF (tVar 3) (tC (.int 0))))))) (jX0 R "NoDoor") jKw)
 (tIfS (jJs (tOp kKp (tVar 3) (tFld "Chart" "leads" (tVar 0)))) (tSeq (tAsg (tBM "dict" kXv (tFld "Chart" "leads" (tVar 0)) (jJc (tVar 3) tNil)) (jJi 4))
 (jQf (tBM "dict" kXv (tFld "Chart" "leads" (tVar 0)) (jJc (tVar 4) (jJc (tC .non) tNil))))) jKw)))
theorem jY4:∀xs G Q R,jK3 xs G Q R->jUg R {nx:=fun _ G'=>Q .non G',rt:=Q} (jQ6 kK0 xs) G:=by
 intro xs G Q R h_;apply xe8 h_;clear h_;intro a b c d s kvs ρ di h_;apply ae6 h_;clear h_;intro h o hm k0 k1 kk
 show jUg _ _ [some (.ref a),some (.str (mrk ρ)),some (.int di),none,none] G
 have hs:=sz
 wp_walk using 1,jUg,kU0,tFld
 refine⟨jVp h.obj,a,b,c,d,s,kvs,ρ,rfl,h,o,hm,fun r hρ=> ?_,k0⟩
 have hix:=qQs (hm r hρ)
 have hct:=kVu o hix
 wp_walk using 1,tFld,kK2,rLeF,jX0,fCt h.obj,fLd h.obj,jKs h.ct,kX8 hct
 refine⟨by omega,?_⟩
 by_cases d0:0<=di
 ·rw[lJc d0]
  obtain⟨n,rfl⟩:=lKv d0
  by_cases hdl:n<ctI s (s.ms.idxOf r)
  ·rw[lJb (by simp;omega)]
   have rm:=jXx (hm r hρ)
   have kv:=h.ok.val _ r n rm
   have er:rmI s (s.ms.idxOf r)=r:=by have:=qVn hix;rw[rm] at this;exact (lJq this).symm
   have k1:jU8 [T.int (s.ms.idxOf r:Nat),T.int (n:Nat)]=some (keyE (s.ms.idxOf r,n)):=rfl
   have at1:∀kvs':Kvs,LdOk (fgC s (r,n)) kvs'->ChAt (gup G d (.dct kvs')) a b c d (fgC s (r,n)) kvs':=fun kvs' z=>
    ⟨by rw[jJh h.ad];exact h.obj,by rw[jJh h.bd];exact h.mks,by rw[jJh h.cd];exact h.ct,jJf,z,h.ne⟩
   have td:∀kvs':Kvs,tyT (gup G d (.dct kvs')) "dict" (.ref d):=fun kvs'=> .inr ⟨rfl,.inr ⟨_,jJf⟩⟩
   wp_walk using 1,kKp,qQx h.ld k1,kXv,tFld,fLd h.obj
   cases he:s.E (r,n) with
   | none=>
    rw[kv,he]
    wp_walk using 1,Option.map_none,Option.isSome_none
    refine kk r n hρ rfl hdl kvs G ?_ (.refl _ _)
    have:fgC s (r,n)=s:=by unfold fgC fgE;rw[he]
    rw[this];exact h
   | some q=>
    rw[he] at kv
    rw[kv]
    wp_walk using 1,Option.map_some,Option.isSome_some
    refine⟨.inr ⟨rfl,.inr ⟨_,h.ld⟩⟩,kvs,h.ld,_,_,k1,.inl ⟨rfl,_,kv,_,fLd (by rw[jJh h.ad];exact h.obj),td _,d,rfl,_,jJf,_,keyE (s.ms.idxOf q.1,q.2),rfl,.inr ⟨rfl,fun v hv=> ?_,fun hn=> ?_⟩⟩⟩
    ·rw[jXf]
     exact kk r n hρ rfl hdl _ _ (at1 _ (h.ok.fg o rm he (fun x hx=>kUk (kUk hx)) (lJ9 (jXo _ _) (jXo _ _)) (fun k=>by rw[jU4,jU4]))) (.gup (by simp))
    ·refine kk r n hρ rfl hdl _ _ (at1 _ (h.ok.fg o rm he (fun x hx=>kUk hx) (jXo _ _) (fun k=> ?_))) (.gup (by simp))
     by_cases z:k=keyE (s.ms.idxOf q.1,q.2)
     ·rw[lJc z,z];exact hn
     ·rw[lJb z,jU4]
  ·rw[lJc (by simp;omega)]
   exact k1 r hρ (by omega)
 ·rw[lJb d0]
  exact k1 r hρ (by omega)
theorem kne {x y:Str} (h:¬ x=y):¬ (Sum.inr x:L2.Key)=Sum.inr y:=fun z=>h (Sum.inr.inj z)
theorem w12:¬ ("order":Str)="many":=by decide +kernel
theorem w13:¬ ("order":Str)="ends":=by decide +kernel
theorem w14:¬ ("order":Str)="at":=by decide +kernel
theorem w23:¬ ("many":Str)="ends":=by decide +kernel
theorem w24:¬ ("many":Str)="at":=by decide +kernel
theorem w34:¬ ("ends":Str)="at":=by decide +kernel
def mdL (o n e:Addr) (r:Nat):List (L2.Key×T):=[(.inr "order",.ref o),(.inr "many",.ref n),(.inr "ends",.ref e),(.inr "at",.str (mkS r))]
def manL (ms ct:List Nat):List (L2.Key×T):=(ms.zip ct).map fun x=>(Sum.inr (mkS x.1),T.int (x.2:Nat))
structure MdAt (G:Gp) (m o n e:Addr) (s:CS) (evs:Kvs):Prop where
 obj:G m=some (.dck (mdL o n e s.at_))
 ord:G o=some (.lst (mksT s.ms))
 man:G n=some (.dck (manL s.ms s.ct))
 ens:G e=some (.dct evs)
 ok:EnOk s evs
 ne:m≠n
theorem MdAt.sub {G G':Gp} {m o n e:Addr} {s:CS} {evs:Kvs} (h:MdAt G m o n e s evs) (k:∀x u,G x=some u->x=m\/x=o\/x=n\/x=e->G' x=some u):MdAt G' m o n e s evs:=
 ⟨k _ _ h.obj (.inl rfl),k _ _ h.ord (.inr (.inl rfl)),k _ _ h.man (.inr (.inr (.inl rfl))),k _ _ h.ens (.inr (.inr (.inr rfl))),h.ok,h.ne⟩
section
variable {G:Gp} {m o n e:Addr} {s:CS} {evs:Kvs}
theorem MdAt.mo (h:MdAt G m o n e s evs):m≠o:=by rintro rfl;have:=h.obj.symm.trans h.ord;cases this
theorem MdAt.me (h:MdAt G m o n e s evs):m≠e:=by rintro rfl;have:=h.obj.symm.trans h.ens;cases this
theorem MdAt.no (h:MdAt G m o n e s evs):n≠o:=by rintro rfl;have:=h.man.symm.trans h.ord;cases this
theorem MdAt.ne' (h:MdAt G m o n e s evs):n≠e:=by rintro rfl;have:=h.man.symm.trans h.ens;cases this
theorem MdAt.oe (h:MdAt G m o n e s evs):o≠e:=by rintro rfl;have:=h.ord.symm.trans h.ens;cases this
end
section
variable {G:Gp} {m o n e:Addr} {r:Nat}
theorem ixM {x:Str} {t:T} (h:G m=some (.dck (mdL o n e r))) (hv:valT (mdL o n e r) (Sum.inr x)=some t):ixR G (.ref m) (.str x)=some t:=by
 simp only[ixR,seqT,h,asL,dAt,jU1,hv]
theorem mOrd (h:G m=some (.dck (mdL o n e r))):ixR G (.ref m) (.str (PySem.Str.ofString "order"))=some (.ref o):=ixM h (by simp only[mdL,valT,List.find?,decide_true,lQi])
theorem mMan (h:G m=some (.dck (mdL o n e r))):ixR G (.ref m) (.str (PySem.Str.ofString "many"))=some (.ref n):=ixM h (by simp only[mdL,valT,List.find?,decide_true,lJo (kne w12),lQi])
theorem mEnd (h:G m=some (.dck (mdL o n e r))):ixR G (.ref m) (.str (PySem.Str.ofString "ends"))=some (.ref e):=ixM h (by simp only[mdL,valT,List.find?,decide_true,lJo (kne w13),lJo (kne w23),lQi])
theorem mAt (h:G m=some (.dck (mdL o n e r))):ixR G (.ref m) (.str (PySem.Str.ofString "at"))=some (.str (mkS r)):=ixM h (by simp only[mdL,valT,List.find?,decide_true,lJo (kne w14),lJo (kne w24),lJo (kne w34),lQi])
theorem sAt {r':Nat} (h:G m=some (.dck (mdL o n e r))):setR G (.ref m) (.str (PySem.Str.ofString "at")) (.str (mkS r'))=some (gup G m (.dck (mdL o n e r'))):=by
 simp only[setR,h,jU1]
 rw[lJc (by rw[PySem.sizeLine_eq];show 4<16777216;decide)]
 have:putT (mdL o n e r) (Sum.inr (PySem.Str.ofString "at")) (.str (mkS r'))=mdL o n e r':=by
  show putT (mdL o n e r) (Sum.inr ("at":Str)) (.str (mkS r'))=_
  simp[putT,mdL,w14,w24,w34]
 rw[this]
end
theorem kX6:∀ {ms ct:List Nat} {i r k:Nat},ms.Nodup->(∀x,x∈ms->x<24)->ms[i]? =some r->ct[i]? =some k->valT (manL ms ct) (Sum.inr (mkS r))=some (.int (k:Nat))
 | [],_,_,_,_,_,_,h,_=>by simp at h
 | _::_,[],_,_,_,_,_,_,h=>by simp at h
 | x::ms,y::ct,0,r,k,nd,lt,h1,h2=>by
  simp at h1 h2;subst h1;subst h2
  simp[manL,valT]
 | x::ms,y::ct,i+1,r,k,nd,lt,h1,h2=>by
  have hr:r∈ms:=lJm (show ms[i]? =some r by simpa using h1)
  have ne:¬ mkS x=mkS r:=fun z=>by
   have:=kZa (lt x (lKm ..)) (lt r (lKa _ hr)) z
   subst this
   exact (lKd.mp nd).1 hr
  have ih:=kX6 (ms:=ms) (ct:=ct) (i:=i) (r:=r) (k:=k) (lKd.mp nd).2 (fun z hz=>lt z (lKa _ hz)) (by simpa using h1) (by simpa using h2)
  unfold valT manL at ih ⊢
  rw[List.zip_cons_cons,lJr,lKh,lJo (kne ne)]
  exact ih
theorem qZn {ms ct:List Nat} {r k:Nat} (hl:ct.length=ms.length) (lt:∀x,x∈ms->x<24) (hr:r<24) (hm:r∉ms):putT (manL ms ct) (Sum.inr (mkS r)) (.int (k:Nat))=manL (ms++[r]) (ct++[k]):=by
 unfold putT
 rw[lJb]
 ·unfold manL
  rw[List.zip_append hl.symm];simp
 ·intro z
  obtain⟨x,hx,e⟩:=List.any_eq_true.mp z
  (obtain⟨y,hy,rfl⟩:=lJw.mp hx)
  have e:=of_decide_eq_true e
  have hy1:y.1∈ms:=(lVe hy).1
  exact hm (kZa (lt _ hy1) hr (Sum.inr.inj e)▸hy1)
theorem qYo {G:Gp} {n:Addr} {ms ct:List Nat} {i r k:Nat} (h:G n=some (.dck (manL ms ct))) (nd:ms.Nodup) (lt:∀x,x∈ms->x<24) (h1:ms[i]? =some r) (h2:ct[i]? =some k):ixR G (.ref n) (.str (mkS r))=some (.int (k:Nat)):=by
 simp only[ixR,seqT,h,asL,dAt,jU1,kX6 nd lt h1 h2]
noncomputable def jXj:Sp3:=fun xs G Q=>∃r k:Nat,xs=[.str (mkS r),.int (k:Nat)]/\∀m o n e G',MdAt G' m o n e (beg r k) []->G m=none->G o=none->G n=none->G e=none->Sub G G'->Q (.ref m) G'
def qU3:List Str:=["_law_mark_here","_law_doors"]
noncomputable def jY5:TS3:=
 (tRet (qKi (tC (.str (PySem.Str.ofString "order"))) (tLst (jJc (tVar 0) tNil)) (tC (.str (PySem.Str.ofString "many"))) (kU1 (tVar 0) (tVar 1)) (tC (.str (PySem.Str.ofString "ends"))) jX2 (tC (.str (PySem.Str.ofString "at"))) (tVar 0)))
theorem kU4:RdOk jXj jY5 qU3:=by
 intro xs G Q h_;apply xe2 h_;clear h_;intro r k kk
 show jY5 _ [some (.str (mkS r)),some (.int (k:Nat))] G
 have hs:=sz
 wp_walk using 1,jY5,qKi,kU1,jX2
 intro m hm
 refine⟨by omega,fun o ho n hn=>⟨_,rfl,.inl fun e he=> ?_⟩⟩
 obtain⟨hom,ho0⟩:=jJt ho
 obtain⟨hno,hn1⟩:=jJt hn
 obtain⟨hnm,hn0⟩:=jJt hn1
 obtain⟨hen,he1⟩:=jJt he
 obtain⟨heo,he2⟩:=jJt he1
 obtain⟨hem,he0⟩:=jJt he2
 refine⟨_,rfl,_,rfl,_,rfl,_,rfl,by rw[jJh hem.symm,jJh hnm.symm,jJh hom.symm,jJf],?_⟩
 have ep:putT (putT (putT (putT [] (Sum.inr ("order":Str):L2.Key) (T.ref o)) (Sum.inr ("many":Str)) (T.ref n)) (Sum.inr ("ends":Str)) (T.ref e)) (Sum.inr ("at":Str)) (T.str (mkS r))=mdL o n e r:=by
  simp[putT,mdL,w12,w13,w14,w23,w24,w34]
 refine kk m o n e _ ⟨?_,?_,?_,?_,⟨fun r' d' _=>rfl,lJ2 _⟩,hnm.symm⟩ hm ho0 hn0 he0 ?_
 ·rw[jJf];exact lJx (fun z=>some (GO.dck z)) ep
 ·rw[jJh hom,jJh heo.symm,jJh hno.symm,jJf];rfl
 ·rw[jJh hnm,jJh hen.symm,jJf];rfl
 ·rw[jJh hem,jJf]
 ·exact ((((Sub.new hm).over ho0).over hn0).over he0).over hm
noncomputable def jUn:Sp3:=fun xs G Q=>∃(m o n e:Addr) (s:CS) (evs:Kvs) (dr cm r k:Nat),xs=[.ref m,.int (dr:Nat),.int (cm:Nat),.str (mkS r),.int (k:Nat)]/\MdAt G m o n e s evs/\s.Ok/\s.n<=400/\r<24/\∀evs' G',MdAt G' m o n e (goC s dr cm r k) evs'->Kp [m,o,n,e] G G'->Q .non G'
def kYo:List Str:=["_law_model","_law_door","_law_came","_law_mark_here","_law_doors"]
noncomputable def jV4:TS3:=
 (tSeq (tIfS (jJs (tOp jQm (tVar 3) (tOp rIxF (tVar 0) (tC (.str (PySem.Str.ofString "order")))))) (tSeq (jQf (tBM "list" jK6 (tOp rIxF (tVar 0) (tC (.str (PySem.Str.ofString "order")))) (jJc (tVar 3) tNil)))
 (tAsg (tVar 4) (gSub (tOp rIxF (tVar 0) (tC (.str (PySem.Str.ofString "many")))) (tVar 3) jUy))) jKw)
 (tSeq (tAsg (tTup (jJc (tVar 3) (jJc (tVar 2) tNil))) (gSub (tOp rIxF (tVar 0) (tC (.str (PySem.Str.ofString "ends")))) (tTup (jJc (tOp rIxF (tVar 0) (tC (.str (PySem.Str.ofString "at")))) (jJc (tVar 1) tNil))) jUy))
 (tSeq (tAsg (tTup (jJc (tOp rIxF (tVar 0) (tC (.str (PySem.Str.ofString "at")))) (jJc (tVar 1) tNil))) (gSub (tOp rIxF (tVar 0) (tC (.str (PySem.Str.ofString "ends")))) (tTup (jJc (tVar 3) (jJc (tVar 2) tNil))) jUy))
 (tAsg (tVar 3) (gSub (tVar 0) (tC (.str (PySem.Str.ofString "at"))) jUy)))))
theorem kKk:RdOk jUn jV4 kYo:=by
 intro xs G Q h_;apply xe10 h_;clear h_;intro m o n e s evs dr cm r k h_;apply ae5 h_;clear h_;intro h ok hn hr kk
 show jV4 _ [some (.ref m),some (.int (dr:Nat)),some (.int (cm:Nat)),some (.str (mkS r)),some (.int (k:Nat))] G
 have hs:=sz
 have hlm:s.ms.length<=24:=jJ5 ok.nd ok.lt
 have tail:∀G1:Gp,G1 m=some (.dck (mdL o n e s.at_))->G1 o=some (.lst (mksT (addR s.ms r)))->G1 n=some (.dck (manL (addR s.ms r) (addC s.ms s.ct r k)))->G1 e=some (.dct evs)->Kp [m,o,n,e] G G1->
   ∃G',setR G1 (T.ref e) (T.tup [T.str (mkS s.at_),T.int (dr:Nat)]) (T.tup [T.str (mkS r),T.int (cm:Nat)])=some G'/\∃t,ixR G' (T.ref m) (T.str (Str.ofString "at"))=some t/\2<=sizeLine/\∃t_1,ixR G' (T.ref m) (T.str (Str.ofString "ends"))=some t_1/\2<=sizeLine/\
    ∃G'_1,setR G' t_1 (T.tup [T.str (mkS r),T.int (cm:Nat)]) (T.tup [t,T.int (dr:Nat)])=some G'_1/\∃G',setR G'_1 (T.ref m) (T.str (Str.ofString "at")) (T.str (mkS r))=some G'/\Q T.non G':=by
  intro G1 g1 g2 g3 g4 kp
  have hl:=h.ok.len
  have h1:=jVn evs (keyM (s.at_,dr)) (encM (r,cm))
  have ga:∀x,gup G1 e (GO.dct x) m=some (.dck (mdL o n e s.at_)):=fun x=>by rw[jJh h.me];exact g1
  refine⟨_,jYj g4 (qXc s.at_ dr) (by omega),_,mAt (ga _),by omega,_,mEnd (ga _),by omega,_,jYj jJf (qXc r cm) (by show (putT evs (keyM (s.at_,dr)) (encM (r,cm))).length<_;omega),?_⟩
  rw[jXf]
  refine⟨_,sAt (r':=r) (ga _),kk (ev1 evs (s.at_,dr) (r,cm)) _ ⟨?_,?_,?_,?_,h.ok.go ok hr,h.ne⟩ ?_⟩
  ·rw[jJf,qYp ok]
  ·rw[jJh h.mo.symm,jJh h.oe];exact g2
  ·rw[jJh h.ne.symm,jJh h.ne'];exact g3
  ·rw[jJh h.me.symm,jJf];rfl
  ·exact (kp.trans (.gup (by simp))).trans (.gup (by simp))
 wp_walk using 1,jV4,mOrd h.obj,mMan h.obj,mEnd h.obj,mAt h.obj,jQm,kZl h.ord ok.lt hr,jKc h.ord,h.ord
 by_cases hm:r∈s.ms
 ·rw[lJb (by simp[hm])]
  exact⟨by omega,by omega,tail G h.obj (by unfold addR;rw[lJc hm];exact h.ord) (by unfold addR addC;rw[lJc hm,lJc hm];exact h.man) h.ens (.refl _ _)⟩
 ·rw[lJc (by simp[hm])]
  have e1:mksT s.ms++[T.str (mkS r)]=mksT (addR s.ms r):=by unfold addR;rw[lJb hm];simp[mksT]
  rw[e1]
  have ga:gup G o (GO.lst (mksT (addR s.ms r))) m=some (.dck (mdL o n e s.at_)):=by rw[jJh h.mo];exact h.obj
  have gn:gup G o (GO.lst (mksT (addR s.ms r))) n=some (.dck (manL s.ms s.ct)):=by rw[jJh h.no];exact h.man
  have em:manL (s.ms++[r]) (s.ct++[k])=manL (addR s.ms r) (addC s.ms s.ct r k):=by unfold addR addC;rw[lJb hm,lJb hm]
  have es:setR (gup G o (GO.lst (mksT (addR s.ms r)))) (.ref n) (.str (mkS r)) (.int (k:Nat))=some (gup (gup G o (GO.lst (mksT (addR s.ms r)))) n (.dck (manL (addR s.ms r) (addC s.ms s.ct r k)))):=by
   simp only[setR,gn,jU1]
   rw[lJc (by simp[manL];omega),qZn ok.len ok.lt hr hm,em]
  have ga2:gup (gup G o (GO.lst (mksT (addR s.ms r)))) n (.dck (manL (addR s.ms r) (addC s.ms s.ct r k))) m=some (.dck (mdL o n e s.at_)):=by rw[jJh h.ne];exact ga
  refine⟨by rw[mksT,lJg];omega,_,mMan ga,_,es,by omega,_,mEnd ga2,_,mAt ga2,by omega,?_⟩
  refine tail _ ga2 ?_ jJf ?_ ((Kp.gup (by simp)).trans (.gup (by simp)))
  ·rw[jJh h.no.symm,jJf]
  ·rw[jJh h.ne'.symm,jJh h.oe.symm];exact h.ens
def optM:Option (Nat×Nat)->T
 | none=> .non
 | some e=>encM e
theorem EnOk.get {s:CS} {evs:Kvs} (h:EnOk s evs) {r d:Nat} (hr:r<24):(valT evs (keyM (r,d))).getD .non=optM (s.E (r,d)):=by
 rw[h.val r d hr]
 cases s.E (r,d)<;>rfl
theorem dAt_M {G:Gp} {d:Addr} {kvs:Kvs} {r i:Nat} (h:G d=some (.dct kvs)):dAt G (.ref d) (.tup [.str (mkS r),.int (i:Nat)])=some (valT kvs (keyM (r,i))):=by
 simp only[dAt,h,qXc]
def jQh:Sp3:=fun xs G Q=>∃(m o n e:Addr) (s:CS) (evs:Kvs),xs=[.ref m]/\MdAt G m o n e s evs/\s.Ok/\∀G',Sub G G'->Q (skT s) G'
def kKx:List Str:=["_law_model","_law_found","_law_mark_here","_law_ends_here","_law_door","_law_end"]
noncomputable def jUd:TS3:=
 (tSeq (tAsg (tLst tNil) (jJi 1))
 (tSeq (tFor (iSeq (tOp rIxF (tVar 0) (tC (.str (PySem.Str.ofString "order"))))) (jJi 2) (tSeq (tAsg (jUs [false,false,false,false,true,false] (jKv (jJc (tOp rIxF (tOp rIxF (tVar 0) (tC (.str (PySem.Str.ofString "many")))) (tVar 2)) tNil)) (jJi 4) jXz (tBM "dict" kXw (tOp rIxF (tVar 0) (tC (.str (PySem.Str.ofString "ends")))) (jJc (tTup (jJc (tVar 2) (jJc (tVar 4) tNil))) tNil))) (jJi 3))
 (jQf (tBM "list" jK6 (tVar 1) (jJc (tCB jKp (jJc (jUs [false,false,false,false,false,true] (iSeq (tVar 3)) (jJi 5) jXz (tIf (jJs (tOp rIsN (tVar 5) (tC .non))) (tC .non) (tTup (jJc (tBM "list" jZi (tOp rIxF (tVar 0) (tC (.str (PySem.Str.ofString "order")))) (jJc (tOp rIxF (tVar 5) (tC (.int 0))) tNil)) (jJc (tOp rIxF (tVar 5) (tC (.int 1))) tNil))))) tNil)) tNil)))))
 (tRet (tCB jKp (jJc (tVar 1) tNil)))))
theorem jY1:RdOk jQh jUd kKx:=by
 intro xs G Q h_;apply xe6 h_;clear h_;intro m o n e s evs h_;apply ae3 h_;clear h_;intro h ok kk
 show jUd _ [some (.ref m),none,none,none,none,none] G
 have hs:=sz
 have hlm:s.ms.length<=24:=jJ5 ok.nd ok.lt
 wp_walk using 1,jUd,jJ1,iSeq
 refine⟨lJ2 _,fun q hq=> ?_⟩
 have hmq:=jJg h.obj hq
 have hoq:=jJg h.ord hq
 refine⟨_,mOrd (by rw[jJh hmq];exact h.obj),_,jJl (by rw[jJh hoq];exact h.ord),?_⟩
 let J1:Nat->St3->Gp->Prop:=fun i τ G'=>∃(v2 v3:Option T),τ=[some (.ref m),some (.ref q),v2,v3,none,none]/\G' q=some (.lst (skL s i))/\Sub G G'
 refine⟨J1,?_,?_,?_,?_⟩
 ·exact xi2 _ _ rfl ⟨jJf,.new hq⟩
 ·intro i τ G1 _ h_;apply xe2 h_;clear h_;intro v2 v3 h_;apply ae2 h_;clear h_;intro h2 h3
  exact jJl (h3 _ _ h.ord)
 ·intro i y τ G1 hy h_;apply xe2 h_;clear h_;intro v2 v3 h_;apply ae2 h_;clear h_;intro h2 h3
  obtain⟨r,hr,rfl⟩:=jKr hy
  have hi:i<s.ms.length:=(lJe.mp hr).1
  have er:r=rmI s i:=by rw[qVn hi] at hr;exact (lJq hr).symm
  subst er
  have hk1:=kVt ok hi
  have hrl:=ok.lt _ (lJm hr)
  have h1:MdAt G1 m o n e s evs:=h.sub fun x u z _=>h3 x u z
  wp_walk using 1,jKv,iSeq,mMan h1.obj,qYo h1.man ok.nd ok.lt hr (kVu ok hi)
  refine⟨by omega,by omega,?_⟩
  rw[show ((ctI s i:Nat):Int).toNat=ctI s i by omega,jQj]
  refine jQw (fun d=>optM (s.E (rmI s i,d))) (by simp;omega) (fun _ _=>trivial) ?_ ?_
  ·intro j x hx G2 K K0 s2 hK
   obtain⟨hj,rfl⟩:=jQ1 hx
   have h4:MdAt G2 m o n e s evs:=h1.sub fun x u z _=>s2 x u z
   wp_walk using 1,kXw,mEnd h4.obj
   refine⟨by simp[tyT,h4.ens],by omega,valT evs (keyM (rmI s i,j)),dAt_M h4.ens,?_⟩
   rw[h.ok.get hrl];exact hK G2 (.refl _)
  ·intro D G2 hD hD2 s2
   have hq2:=s2 _ _ h2
   have s3:=h3.trans s2
   have h4:MdAt G2 m o n e s evs:=h.sub fun x u z _=>s3 x u z
   wp_walk using 1,jKc hq2
   refine⟨_,jJl hD2,?_⟩
   refine jQw (es:=List.range (ctI s i)) (enc:=fun d=>optM (s.E (rmI s i,d))) (fun d=>endT s (s.E (rmI s i,d))) (by simp;omega) (fun G' s'=>jJl (s' _ _ hD2)) ?_ ?_
   ·intro j x hx G3 K K0 s5 hK
    obtain⟨hj,rfl⟩:=jQ1 hx
    have h6:MdAt G3 m o n e s evs:=h4.sub fun x u z _=>s5 x u z
    cases he:s.E (rmI s i,j) with
    | none=>
     have hK':=hK G3 (.refl _)
     rw[he] at hK'
     wp_walk using 1,optM
     exact hK'
    | some p=>
     have hK':=hK G3 (.refl _)
     rw[he] at hK'
     wp_walk using 1,optM,encM,mOrd h6.obj,jKc h6.ord
     exact kYa h6.ord ok.nd ok.lt (ok.e1 _ _ he) ⟨by omega,hK'⟩
   ·intro D3 G3 hD3 hD4 s5
    have hq3:=s5 _ _ hq2
    refine⟨_,jJl hD4,?_⟩
    wp_walk using 1,hq3
    refine⟨by simp[skL];omega,xi2 _ _ rfl ⟨?_,(s3.trans s5).over hq⟩⟩
    rw[jJf]
    simp[skL,lKi,rowT]
 ·intro τ G1 h_;apply xe2 h_;clear h_;intro v2 v3 h_;apply ae2 h_;clear h_;intro h2 h3
  wp_walk using 1,tSeq
  have el:(mksT s.ms).length=s.ms.length:=by simp[mksT]
  rw[el] at h2
  exact⟨_,jJl h2,kk G1 h3⟩
structure OkD (d:Nat) (x:T):Prop where
 tr:tree x=true
 lay:(td x).canLay0=true
 dep:(td x).depth<=d
 eq:eqT x x=true
theorem qQb {d:Nat} {i:Int}:OkD d (.int i):=⟨rfl,rfl,by simp[td,PyData.depth],by simp[eqT]⟩
theorem qQa {d:Nat}:OkD d .non:=⟨rfl,rfl,by simp[td,PyData.depth],by simp[eqT]⟩
theorem qZm:((List.range 24).all fun r=>(td (.str (mkS r))).canLay0)=true:=by decide +kernel
theorem kX2 {d r:Nat} (h:r<24):OkD d (.str (mkS r)):=⟨rfl,lQv.mp qZm r (lKy.mpr h),by simp[td,PyData.depth],by simp[eqT]⟩
theorem kQ9 {d:Nat}:∀xs:List T,(∀x,x∈xs->OkD d x)->jQ0 xs=true/\PyData.canLayAll0 (tds xs)=true/\PyData.depthAll (tds xs)<=d/\eqTs xs xs=true
 | [],_=>⟨rfl,by simp[tds,PyData.canLayAll0],by simp[tds,PyData.depthAll],rfl⟩
 | x::xs,h=>by
  obtain⟨a1,a2,a3,a4⟩:=kQ9 xs fun y hy=>h y (lKa _ hy)
  obtain⟨b1,b2,b3,b4⟩:=h x (lKm ..)
  refine⟨?_,?_,?_,?_⟩
  ·show (tree x&&jQ0 xs)=true;rw[a1,b1];rfl
  ·rw[tds,PyData.canLayAll0,a2,b2];rfl
  ·rw[tds,PyData.depthAll];omega
  ·show (eqT x x&&eqTs xs xs)=true;rw[a4,b4];rfl
theorem jYa {d:Nat} {xs:List T} (h:∀x,x∈xs->OkD d x):OkD (d+1) (.tup xs):=by
 obtain⟨a1,a2,a3,a4⟩:=kQ9 xs h
 exact⟨a1,by rw[td,PyData.canLay0];exact a2,by rw[td,PyData.depth];omega,a4⟩
theorem jXn {G:Gp} {x:T} {d:Nat} (h:OkD d x) (hd:d<=50) (hr:∀p,x≠ .ref p):eqG G x x=some true:=by
 have e:eqOk x=true:=by
  unfold eqOk
  rw[h.tr,h.lay,lK9 (show (td x).depth<=50 by have:=h.dep;omega)];rfl
 have:eqG G x x=if eqOk x=true/\eqOk x=true then some (eqT x x) else none:=by
  cases x with
  | ref p=>exact absurd rfl (hr p)
  | _=>rfl
 rw[this,lJc ⟨e,e⟩,h.eq]
theorem qUf {G:Gp} {p q:Addr} {xs:List T} {d:Nat} (hp:G p=some (.lst xs)) (hq:G q=some (.lst xs)) (h:∀x,x∈xs->OkD d x) (hd:d<50):eqG G (.ref p) (.ref q)=some true:=by
 obtain⟨a1,a2,a3,a4⟩:=kQ9 xs h
 have e:kJ5 xs=true:=by
  unfold kJ5
  rw[a1,a2,lK9 (show (PyData.list (tds xs)).depth<=50 by rw[PyData.depth];omega)];rfl
 simp only[eqG,hp,hq]
 rw[lJc ⟨e,e⟩,a4]
theorem okD_E {e:Nat×Nat}:OkD 1 (encE e):=jYa fun x hx=>by
 simp only[lJv,lJj,lKc] at hx
 rcases hx with rfl | rfl<;>exact qQb
theorem qQc (s:CS) (x:Option (Nat×Nat)):OkD 1 (endT s x):=by
 cases x with
 | none=>exact qQa
 | some e=>exact okD_E
theorem qYl (s:CS):OkD 3 (skT s):=jYa fun x hx=>by
 obtain⟨i,_,rfl⟩:=lJw.mp hx
 refine jYa fun x hx=> ?_
 obtain⟨d,_,rfl⟩:=lJw.mp hx
 exact qQc s _
theorem okD_rm {s:CS} (ok:s.Ok):OkD 2 (rmT s):=jYa fun x hx=>by
 unfold zipT at hx
 obtain⟨p,hp,rfl⟩:=lJw.mp hx
 obtain⟨h1,h2⟩:=lVe hp
 refine jYa fun x hx=> ?_
 simp only[lJv,lJj,lKc] at hx
 rcases hx with rfl | rfl
 ·obtain⟨r,hr,e⟩:=lJw.mp h1;rw[<-e];exact kX2 (ok.lt r hr)
 ·obtain⟨r,_,e⟩:=lJw.mp h2;rw[<-e];exact qQb
theorem okD_op {s:CS} {n:Nat}:∀x,x∈opL s n->OkD 1 x:=fun x hx=>by
 obtain⟨i,_,h⟩:=lQ4.mp hx
 obtain⟨d,_,e⟩:=lQ2.mp h
 split at e
 ·cases e;exact okD_E
 ·cases e
theorem qYw {s:CS} (ok:s.Ok):(s.ms.map fun r=>T.tup [.str (mkS r),.int (ctI s (s.ms.idxOf r):Nat)])=zipT (mksT s.ms) (jJo s.ct):=by
 apply lQp
 intro i
 unfold zipT
 rw[lJs,lJs]
 by_cases hi:i<s.ms.length
 ·have h1:=qVn hi
  have h2:=kVu ok hi
  have h3:((mksT s.ms).zip (jJo s.ct))[i]? =some (.str (mkS (rmI s i)),.int (ctI s i:Nat)):=List.getElem?_zip_eq_some.mpr ⟨by rw[mksT,lJs,h1];rfl,by rw[jJo,lJs,h2];rfl⟩
  rw[h1,h3]
  simp only[lQi]
  rw[kKu ok.nd h1]
 ·rw[lJ6 (by omega),lJ6 (by simp[mksT,jJo,ok.len];omega)];rfl
noncomputable def jQc:Sp3:=fun xs G Q=>∃(a b c d m o n e:Addr) (s:CS) (kvs evs:Kvs),xs=[.ref a,.ref m]/\ChAt G a b c d s kvs/\MdAt G m o n e s evs/\s.Ok/\∀G',Sub G G'->Q (.bl true) G'
def kKh:List Str:=["_law_chart","_law_model","_law_told","_law_due","_law_found","_law_room","_law_mark_here","_law_door"]
noncomputable def jQ3:TS3:=
 (tSeq (tAsg (tCB jKp (jJc (jUs [false,false,false,false,false,false,true,false] (iSeq (tOp rIxF (tVar 1) (tC (.str (PySem.Str.ofString "order"))))) (jJi 6) jXz (tTup (jJc (tVar 6) (jJc (tOp rIxF (tOp rIxF (tVar 1) (tC (.str (PySem.Str.ofString "many")))) (tVar 6)) tNil)))) tNil)) (jJi 2))
 (tSeq (tIfS (tOr (jJs (tOp rNeA (jQq "Chart" "here" jVe (tVar 0) tNil) (tOp rIxF (tVar 1) (tC (.str (PySem.Str.ofString "at")))))) (jJs (tOp rNeA (jQq "Chart" "rooms" jUu (tVar 0) tNil) (tVar 2)))) (tRet (tC (.bl false))) jKw)
 (tSeq (tAsg (jJr jQh (jJc (tVar 1) tNil)) (jJi 3))
 (tSeq (tAsg (tLst tNil) (jJi 4))
 (tSeq (tFor (jKv (jJc (tCB rLen (jJc (tVar 3) tNil)) tNil)) (jJi 5) (jQf (tBM "list" kXx (tVar 4) (jJc (jUs [false,false,false,false,false,false,false,true] (jKv (jJc (tCB rLen (jJc (tOp rIxF (tVar 3) (tVar 5)) tNil)) tNil)) (jJi 7) (jJs (tOp rIsN (tOp rIxF (tOp rIxF (tVar 3) (tVar 5)) (tVar 7)) (tC .non))) (tTup (jJc (tVar 5) (jJc (tVar 7) tNil)))) tNil))))
 (tRet (qYz (tOp rEqA (jQq "Chart" "sketch" jKd (tVar 0) tNil) (tVar 3)) (tOp rEqA (jQq "Chart" "open_doors" jKe (tVar 0) tNil) (tVar 4)))))))))
theorem jYn:RdOk jQc jQ3 kKh:=by
 intro xs G Q h_;apply xe11 h_;clear h_;intro a b c d m o n e s kvs evs h_;apply ae4 h_;clear h_;intro hc h ok kk
 show jQ3 _ [some (.ref a),some (.ref m),none,none,none,none,none,none] G
 have hs:=sz
 have hlm:s.ms.length<=24:=jJ5 ok.nd ok.lt
 wp_walk using 1,jQ3,iSeq,mOrd h.obj
 refine⟨_,jJl h.ord,?_⟩
 refine jQw (es:=s.ms) (enc:=fun r=>T.str (mkS r)) (fun r=>T.tup [.str (mkS r),.int (ctI s (s.ms.idxOf r):Nat)]) (by omega) (fun G' s'=>jJl (s' _ _ h.ord)) ?_ ?_
 ·intro j r hr G2 K K0 s2 hK
  have h4:MdAt G2 m o n e s evs:=h.sub fun x u z _=>s2 x u z
  have hj:j<s.ms.length:=(lJe.mp hr).1
  have hx:=kKu ok.nd hr
  wp_walk using 1,mMan h4.obj,qYo h4.man ok.nd ok.lt hr (kVu ok hj)
  refine⟨by omega,?_⟩
  have:=hK G2 (.refl _)
  rw[hx] at this;exact this
 ·intro D G2 hD hD2 s2
  have h4:MdAt G2 m o n e s evs:=h.sub fun x u z _=>s2 x u z
  have hc4:ChAt G2 a b c d s kvs:=hc.sub fun x u z _=>s2 x u z
  rw[qYw ok] at hD2
  refine⟨_,jJl hD2,?_⟩
  wp_walk using 1,jQq,rNeA,rEqA,jJ1,jKv
  have hat:=ok.lt _ ok.mem
  refine⟨jVp hc4.obj,a,b,c,d,s,kvs,rfl,hc4,ok,_,mAt h4.obj,true,jXn (d:=0) (kX2 hat) (by decide) (fun p z=>by cases z),?_⟩
  rw[lJb (by simp)]
  refine⟨jVp hc4.obj,a,b,c,d,s,kvs,rfl,hc4,ok,true,jXn (okD_rm ok) (by decide) (fun p z=>by cases z),?_⟩
  rw[lJb (by simp)]
  refine⟨m,o,n,e,s,evs,rfl,h4,ok,fun G3 s3=>⟨by omega,fun q hq=>⟨skL s s.ms.length,rfl,?_⟩⟩⟩
  have el:(skL s s.ms.length).length=s.ms.length:=by simp[skL]
  rw[el]
  have s4:=s2.trans s3
  refine⟨by omega,by omega,?_⟩
  rw[show ((s.ms.length:Nat):Int).toNat=s.ms.length by omega,jQj]
  let J1:Nat->St3->Gp->Prop:=fun i τ G'=>∃v5:Option T,τ=[some (.ref a),some (.ref m),some (.tup (zipT (mksT s.ms) (jJo s.ct))),some (skT s),some (.ref q),v5,none,none]/\G' q=some (.lst (opL s i))/\Sub G3 G'
  refine⟨J1,?_,?_,?_,?_⟩
  ·exact⟨_,rfl,jJf,.new hq⟩
  ·intros;trivial
  ·intro i y τ G4 hy h_;apply xe1 h_;clear h_;intro v5 h_;apply ae2 h_;clear h_;intro g2 g3
   obtain⟨i',hi',rfl⟩:=jKr hy
   obtain⟨hi,rfl⟩:=jQ1 hi'
   have hk1:=kVt ok hi
   have hrow:L2.atI (skL s s.ms.length) (i:Int)=some (.tup (rowT s i)):=by
    rw[atN,skL,lJs,lQx hi];rfl
   have hrl:(rowT s i).length=ctI s i:=by simp[rowT]
   have hrw:∀G':Gp,ixR G' (skT s) (.int (i:Nat))=some (.tup (rowT s i)):=fun _=>hrow
   wp_walk using 1,jKv,jKc g2,hrw,hrl
   refine⟨by omega,by omega,?_⟩
   rw[show ((ctI s i:Nat):Int).toNat=ctI s i by omega,jQj]
   refine jXp (fun d=>if (s.E (rmI s i,d)).isNone=true then some (encE (i,d)) else none) (by simp;omega) (fun _ _=>trivial) ?_ ?_
   ·intro j x hx G5 K K0 s5 hK hK0
    obtain⟨hj,rfl⟩:=jQ1 hx
    have hat2:L2.atI (rowT s i) (j:Int)=some (endT s (s.E (rmI s i,j))):=by rw[atN];exact kXl hj
    wp_walk using 1,hrw,hat2
    cases he:s.E (rmI s i,j) with
    | none=>wp_walk using 1,endT;exact⟨by omega,hK _ _ (by rw[he];rfl) (.refl _)⟩
    | some p=>wp_walk using 1,endT,encE;exact hK0 (by rw[he];rfl) _ (.refl _)
   ·intro D5 G5 hD5 hD6 s5
    have hl:=kQ4 ok (n:=i) (by omega)
    have hr:(opR s i).length<=ctI s i:=by have:=lV2 (fun d=>if (s.E (rmI s i,d)).isNone=true then some (encE (i,d)) else none) (List.range (ctI s i));rw[lKw] at this;exact this
    refine⟨q,D5,_,_,rfl,rfl,s5 _ _ g2,hD6,by show (opL s i).length+(opR s i).length<=_;omega,⟨_,rfl,?_,(g3.trans s5).over hq⟩⟩
    rw[jJf,jZ0];rfl
  ·intro τ G4 h_;apply xe1 h_;clear h_;intro v5 h_;apply ae2 h_;clear h_;intro g2 g3
   rw[lJg,lKw] at g2
   have s5:=s4.trans g3
   have hc5:ChAt G4 a b c d s kvs:=hc.sub fun x u z _=>s5 x u z
   wp_walk using 1,jQq,rEqA
   refine⟨jVp hc5.obj,a,b,c,d,s,kvs,rfl,hc5,ok,fun G5 s6=>⟨true,jXn (qYl s) (by decide) (fun p z=>by cases z),?_⟩⟩
   rw[lJc rfl]
   have s7:=s5.trans s6
   have hc6:ChAt G5 a b c d s kvs:=hc.sub fun x u z _=>s7 x u z
   exact⟨jVp hc6.obj,a,b,c,d,s,kvs,rfl,hc6,ok,fun p G6 hp hp6 s8=>⟨true,qUf hp6 (s8 _ _ (s6 _ _ g2)) okD_op (by decide),kk G6 (s7.trans s8)⟩⟩
structure CMx (W:Web) (G:Gp) (a m:Addr) (r N:Nat) (bx:Addr) (b c d o n e:Addr) (s:CS) (kvs evs:Kvs):Prop where
 ch:ChAt G a b c d s kvs
 md:MdAt G m o n e s evs
 ok:s.Ok
 at_:s.at_=r
 n:s.n<=N
 bo:b≠o
 co:c≠o
 de:d≠e
 bb:b≠bx
 cb:c≠bx
 ob:o≠bx
 ws:∀(i x:Nat),s.ms[i]? =some x->∃es,W[x]? =some es/\s.ct[i]? =some es.length
 wE:∀p q,s.E p=some q->en W p.1 p.2=some q
def CM (W:Web) (G:Gp) (a m:Addr) (r N:Nat) (bx:Addr):Prop:=∃b c d o n e s kvs evs,CMx W G a m r N bx b c d o n e s kvs evs
section
variable {W:Web} {G G':Gp} {a m:Addr} {r N:Nat} {bx:Addr} {b c d o n e:Addr} {s:CS} {kvs evs:Kvs}
theorem CMx.sub (h:CMx W G a m r N bx b c d o n e s kvs evs) (k:Sub G G'):CMx W G' a m r N bx b c d o n e s kvs evs:=
 {h with ch:=h.ch.sub fun x u z _=>k x u z,md:=h.md.sub fun x u z _=>k x u z}
theorem CM.sub (h:CM W G a m r N bx) (k:Sub G G'):CM W G' a m r N bx:=
 let ⟨b,c,d,o,n,e,s,kvs,evs,h⟩:=h;⟨b,c,d,o,n,e,s,kvs,evs,h.sub k⟩
theorem CM.box {p:Addr} (h:CM W G a m r N bx) (k:Sub G G') (hp:G p=none):CM W G' a m r N p:=by
 obtain⟨b,c,d,o,n,e,s,kvs,evs,h⟩:=h
 exact⟨b,c,d,o,n,e,s,kvs,evs,{h.sub k with bb:=(fun z=>by rw[<-z,h.ch.mks] at hp;cases hp),cb:=(fun z=>by rw[<-z,h.ch.ct] at hp;cases hp),ob:=(fun z=>by rw[<-z,h.md.ord] at hp;cases hp)}⟩
theorem CM.mono {N':Nat} (h:CM W G a m r N bx) (hn:N<=N'):CM W G a m r N' bx:=by
 obtain⟨b,c,d,o,n,e,s,kvs,evs,h⟩:=h
 exact⟨b,c,d,o,n,e,s,kvs,evs,{h with n:=lJ9 h.n hn}⟩
theorem kQi {j:Nat} {x:Addr} {u:GO} (hb:BoxAt G bx j) (hx:G x=some u) (hu:∀t,u≠ .lst t):x≠bx:=by
 rintro rfl
 obtain⟨p,q,t,e,_⟩:=hb
 rw[hx] at e
 exact hu _ (lJq e)
theorem CMx.keep {j:Nat} (h:CMx W G a m r N bx b c d o n e s kvs evs) (hb:BoxAt G bx j) (k:Keep bx G G'):CMx W G' a m r N bx b c d o n e s kvs evs:=
 {h with
  ch:=h.ch.sub fun x u z q=>k x u (by
   rcases q with rfl | rfl | rfl | rfl
   ·exact kQi hb h.ch.obj fun t q=>by cases q
   ·exact h.bb
   ·exact h.cb
   ·exact kQi hb h.ch.ld fun t q=>by cases q) z
  md:=h.md.sub fun x u z q=>k x u (by
   rcases q with rfl | rfl | rfl | rfl
   ·exact kQi hb h.md.obj fun t q=>by cases q
   ·exact h.ob
   ·exact kQi hb h.md.man fun t q=>by cases q
   ·exact kQi hb h.md.ens fun t q=>by cases q) z}
theorem CM.keep {j:Nat} (h:CM W G a m r N bx) (hb:BoxAt G bx j) (k:Keep bx G G'):CM W G' a m r N bx:=
 let ⟨b,c,d,o,n,e,s,kvs,evs,h⟩:=h;⟨b,c,d,o,n,e,s,kvs,evs,h.keep hb k⟩
end
theorem cm_beg {W:Web} {G:Gp} {a m bx b c d o n e:Addr} {r:Nat} {es:List (Nat×Nat)} (hr:W[r]? =some es) (hr24:r<24) (hes:es.length<12) (h1:ChAt G a b c d (beg r es.length) []) (h2:MdAt G m o n e (beg r es.length) []) (bo:b≠o) (co:c≠o) (de:d≠e) (bb:b≠bx) (cb:c≠bx) (ob:o≠bx):CM W G a m r 0 bx:=by
 have hok:(beg r es.length).Ok:=⟨by simp[beg],by simpa[beg] using hr24,rfl,by simpa[beg] using hes,by simp[beg],(fun p q z=>by cases z),(fun p q z=>by cases z)⟩
 refine⟨b,c,d,o,n,e,beg r es.length,[],[],⟨h1,h2,hok,rfl,lJf _,bo,co,de,bb,cb,ob,fun i x hx=> ?_,(fun p q z=>by cases z)⟩⟩
 cases i with
 | zero=>simp[beg] at hx;subst hx;exact⟨es,hr,rfl⟩
 | succ i=>simp[beg] at hx
theorem CMx.goes {W:Web} {G G3:Gp} {a m:Addr} {r N:Nat} {bx:Addr} {b c d o n e d':Addr} {s:CS} {kvs evs kvs' evs':Kvs} {dr cm r':Nat} {es':List (Nat×Nat)} (w:AnyWeb W) (h:CMx W G a m r N bx b c d o n e s kvs evs) (he:en W r dr=some (r',cm)) (hes:W[r']? =some es')
  (hd':G d'=none) (h1:ChAt G3 a b c d' (goC s dr cm r' es'.length) kvs') (h2:MdAt G3 m o n e (goC s dr cm r' es'.length) evs'):CMx W G3 a m r' (N+1) bx b c d' o n e (goC s dr cm r' es'.length) kvs' evs' where
 ch:=h1
 md:=h2
 ok:=h.ok.go (by have:=(lJe.mp hes).1;have:=w.len;omega) (by have:=w.deg _ _ hes;omega)
 at_:=qYp h.ok
 n:=Nat.succ_le_succ h.n
 bo:=h.bo
 co:=h.co
 de:=fun z=>by rw[z,h.md.ens] at hd';cases hd'
 bb:=h.bb
 cb:=h.cb
 ob:=h.ob
 ws:=fun i x hx=>by
  have hx:(addR s.ms r')[i]? =some x:=hx
  show ∃es,W[x]? =some es/\(addC s.ms s.ct r' es'.length)[i]? =some es.length
  by_cases hm:r'∈s.ms
  ·unfold addR at hx
   rw[lJc hm] at hx
   unfold addC
   rw[lJc hm]
   exact h.ws i x hx
  ·unfold addR at hx
   rw[lJb hm] at hx
   unfold addC
   rw[lJb hm]
   have hl:=h.ok.len
   rcases lKe i s.ms.length with z | z
   ·rw[lKg z] at hx
    rw[lKg (by omega)]
    exact h.ws i x hx
   ·rw[lQf z] at hx
    rw[lQf (by omega),hl]
    have:i-s.ms.length=0:=by have:=(lJe.mp hx).1;simp at this;omega
    rw[this] at hx ⊢
    simp at hx;subst hx
    exact⟨es',hes,rfl⟩
 wE:=fun p q z=>by
  have z:tieE s.E (s.at_,dr) (r',cm) p=some q:=z
  unfold tieE at z
  split at z
  ·rename_i e1;cases z;subst e1;rw[h.at_];exact w.sym _ _ _ _ he
  ·split at z
   ·rename_i e1;cases z;subst e1;rw[h.at_];exact he
   ·exact h.wE p q z
theorem CMx.may {W:Web} {G:Gp} {a m:Addr} {r N:Nat} {bx:Addr} {b c d o n e:Addr} {s:CS} {kvs evs:Kvs} {dr cm r':Nat} {es es':List (Nat×Nat)} (w:AnyWeb W) (h:CMx W G a m r N bx b c d o n e s kvs evs) (hr:W[r]? =some es) (he:en W r dr=some (r',cm)) (hes:W[r']? =some es'):
  s.ct[s.pl]? =some es.length/\(∀k',s.ct[s.ms.idxOf r']? =some k'->k'=es'.length)/\(∀e,s.E (s.at_,dr)=some e->e=(r',cm))/\(∀e,s.E (r',cm)=some e->e=(s.at_,dr)):=by
 refine⟨?_,fun k' hk=> ?_,fun e z=> ?_,fun e z=> ?_⟩
 ·obtain⟨es1,h1,h2⟩:=h.ws _ _ h.ok.at_
  rw[h.at_,hr] at h1;cases h1;exact h2
 ·by_cases hm:r'∈s.ms
  ·obtain⟨es1,h1,h2⟩:=h.ws _ _ (jXx hm)
   rw[hes] at h1;cases h1
   rw[hk] at h2;exact lJq h2
  ·rw[kZj hm,<-h.ok.len,lJ6 (lJf _)] at hk;cases hk
 ·have:=h.wE _ _ z
  rw[h.at_] at this
  exact lJq (this.symm.trans he)
 ·have:=h.wE _ _ z
  rw[h.at_]
  exact lJq (this.symm.trans (w.sym _ _ _ _ he))
theorem CMx.fg {W:Web} {G G':Gp} {a m:Addr} {r N:Nat} {bx:Addr} {b c d o n e:Addr} {s:CS} {kvs evs kvs' evs':Kvs} {p:Nat×Nat} (h:CMx W G a m r N bx b c d o n e s kvs evs) (h1:ChAt G' a b c d (fgC s p) kvs') (h2:MdAt G' m o n e (fgC s p) evs'):CMx W G' a m r N bx b c d o n e (fgC s p) kvs' evs':=
 {h with ch:=h1,md:=h2,ok:=h.ok.fg p,at_:=h.at_,n:=h.n,ws:=h.ws,wE:=fun x y z=>h.wE x y (qUb z)}
theorem EnOk.fg {s:CS} {evs evs':Kvs} (o:s.Ok) (h:EnOk s evs) {r d:Nat} {q:Nat×Nat} (hr:r<24) (he:s.E (r,d)=some q) (hl:evs'.length<=evs.length)
  (hv:∀k,valT evs' k=if k=keyM q then none else if k=keyM (r,d) then none else valT evs k):EnOk (fgC s (r,d)) evs' where
 len:=lJ9 hl h.len
 val:=fun r' d' hr'=>by
  show valT evs' _=(fgE s.E (r,d) (r',d')).map encM
  have hq:=o.lt _ (o.e1 _ _ he)
  rw[hv]
  unfold fgE
  rw[he]
  dsimp only
  by_cases z:(r',d')=q
  ·rw[lJc z,lJc (by rw[z])];rfl
  ·rw[lJb z,lJb (fun y=>z (jZ2 hr' hq y))]
   by_cases z2:(r',d')=(r,d)
   ·rw[lJc z2,lJc (by rw[z2])];rfl
   ·rw[lJb z2,lJb (fun y=>z2 (jZ2 hr' hr y))]
    exact h.val r' d' hr'
noncomputable def jVd:Sp3:=fun xs G Q=>∃(m o n e:Addr) (s:CS) (evs:Kvs) (r k:Nat),xs=[.ref m,.str (mkS r),.int (k:Nat)]/\MdAt G m o n e s evs/\s.Ok/\r<24/\∀evs' G',MdAt G' m o n e (fgC s (r,k)) evs'->Kp [e] G G'->Q .non G'
def qJ4:List Str:=["_law_model","_law_mark_here","_law_door","_law_end"]
noncomputable def jX8:TS3:=
 (tSeq (tAsg (tBM "dict" kXw (tOp rIxF (tVar 0) (tC (.str (PySem.Str.ofString "ends")))) (jJc (tTup (jJc (tVar 1) (jJc (tVar 2) tNil))) tNil)) (jJi 3))
 (tIfS (jJs (tOp qJf (tVar 3) (tC .non))) (tSeq (jQf (tBM "dict" kXv (tOp rIxF (tVar 0) (tC (.str (PySem.Str.ofString "ends")))) (jJc (tTup (jJc (tVar 1) (jJc (tVar 2) tNil))) tNil)))
 (tIfS (jJs (tOp kKp (tVar 3) (tOp rIxF (tVar 0) (tC (.str (PySem.Str.ofString "ends")))))) (jQf (tBM "dict" kXv (tOp rIxF (tVar 0) (tC (.str (PySem.Str.ofString "ends")))) (jJc (tVar 3) tNil))) jKw)) jKw))
theorem kQ1:RdOk jVd jX8 qJ4:=by
 intro xs G Q h_;apply xe8 h_;clear h_;intro m o n e s evs r k h_;apply ae4 h_;clear h_;intro h ok hr kk
 show jX8 _ [some (.ref m),some (.str (mkS r)),some (.int (k:Nat)),none] G
 have hs:=sz
 have at1:∀evs':Kvs,EnOk (fgC s (r,k)) evs'->MdAt (gup G e (.dct evs')) m o n e (fgC s (r,k)) evs':=fun evs' z=>
  ⟨by rw[jJh h.me];exact h.obj,by rw[jJh h.oe];exact h.ord,by rw[jJh h.ne'];exact h.man,jJf,z,h.ne⟩
 wp_walk using 1,jX8,kXw,mEnd h.obj
 refine⟨by simp[tyT,h.ens],by omega,valT evs (keyM (r,k)),dAt_M h.ens,?_⟩
 rw[h.ok.get hr]
 cases he:s.E (r,k) with
 | none=>
  wp_walk using 1,optM
  refine kk evs G ?_ (.refl _ _)
  have:fgC s (r,k)=s:=by unfold fgC fgE;rw[he]
  rw[this];exact h
 | some q=>
  have hv:=h.ok.val r k hr
  rw[he] at hv
  wp_walk using 1,optM,encM,kXv
  refine⟨by simp[tyT,h.ens],by omega,evs,h.ens,_,keyM (r,k),rfl,.inl ⟨rfl,_,hv,?_⟩⟩
  have go:=mEnd (G:=gup G e (.dct (jZs evs (keyM (r,k))))) (by rw[jJh h.me];exact h.obj)
  wp_walk using 1,kKp,go,qQx (jJf (G:=G) (a:=e) (o:= .dct (jZs evs (keyM (r,k))))) (qXc q.1 q.2)
  have en:∀evs':Kvs,evs'.length<=evs.length->(∀k',valT evs' k'=if k'=keyM q then none else if k'=keyM (r,k) then none else valT evs k')->EnOk (fgC s (r,k)) evs':=fun evs' z1 z2=>h.ok.fg ok hr he z1 z2
  cases hq:valT (jZs evs (keyM (r,k))) (keyM (q.1,q.2)) with
  | none=>
   wp_walk using 1,Option.isSome_none
   refine kk _ _ (at1 _ (en _ (jXo _ _) fun k'=> ?_)) (.gup (by simp))
   by_cases z:k'=keyM q
   ·rw[lJc z,z];exact hq
   ·rw[lJb z,jU4]
  | some v=>
   wp_walk using 1,Option.isSome_some
   refine⟨.inr ⟨rfl,.inr ⟨_,jJf⟩⟩,_,rfl,_,keyM (q.1,q.2),rfl,.inl ⟨rfl,_,hq,?_⟩⟩
   exact kk _ _ (at1 _ (en _ (lJ9 (jXo _ _) (jXo _ _)) fun k'=>by rw[jU4,jU4])) (.gup (by simp))
def wd (x:Str):T:= .tup [.str x,.non]
def wrdS:Nat->Str
 | 0=>PySem.Str.ofString "forget"
 | 1=>PySem.Str.ofString "way"
 | _=>PySem.Str.ofString "whole"
noncomputable def qYs (s:CS) (ρ:Option Nat) (di:Int):Nat->T->CS->Prop
 | 0,t,s'=>match ρ with
  | none=>t=wd "mark"/\s'=s
  | some r=>(¬ (0<=di/\di<ctI s (s.ms.idxOf r))/\t=wd "door"/\s'=s)\/∃n:Nat,di=n/\n<ctI s (s.ms.idxOf r)/\t=wd "told"/\s'=fgC s (r,n)
 | 1,t,s'=>s'=s/\match ρ with
  | none=>t=wd "mark"
  | some _=>t=wd "told"
 | _,t,s'=>s'=s/\(opL s s.ms.length=[]/\t= .tup [.str "told",skT s]\/opL s s.ms.length≠[]/\t=wd "whole")
theorem eqS {G:Gp} {x y:Str} (hx:eqOk (.str x)=true) (hy:eqOk (.str y)=true):eqG G (.str x) (.str y)=some (x == y):=by
 show (if eqOk (.str x)=true/\eqOk (.str y)=true then some (eqT (.str x) (.str y)) else none)=_
 rw[lJc ⟨hx,hy⟩];rfl
def qX6:List Str:=["_law_chart","_law_word_here","_law_mark_here","_law_door","_law_found","_law_caught","error","_law_some"]
noncomputable def kJm:TS3:=
 (tSeq (tAsg (tC .non) (jJi 4))
 (tSeq (tAsg (tC .non) (jJi 5))
 (tSeq (tTry 6 ["NoMark","NoDoor","NotWhole"] (tIfX (jJs (tOp rEqA (tVar 1) (tC (.str (PySem.Str.ofString "forget"))))) (kK1 (jYf "Chart" "forget" jK3 (tVar 0) (jJc (tVar 2) (jJc (tVar 3) tNil)))) (tIfX (jJs (tOp rEqA (tVar 1) (tC (.str (PySem.Str.ofString "way"))))) (kK1 (jYf "Chart" "way_by" jK1 (tVar 0) (jJc (tVar 2) tNil))) (qVb (jYf "Chart" "whole" jQb (tVar 0) tNil) 4))) (tAsg (tVar 6) (jJi 5)))
 (tSeq (tIfS (jJs (tOp rIsN (tVar 5) (tC .non))) (tRet (tTup (jJc (tC (.str (PySem.Str.ofString "told"))) (jJc (tVar 4) tNil)))) jKw)
 (tSeq (tIfS (tOr (jJs (jX1 [("NoMark",false),("NoDoor",false),("NotWhole",false)] (tVar 5))) (tNot (jJs (jX1 [("NoMark",true),("NoDoor",true),("NotWhole",true)] (tVar 5))))) (tRet (tTup (jJc (tC (.str (PySem.Str.ofString "other"))) (jJc (tC .non) tNil)))) jKw)
 (tSeq (tAsg (tLst (jJc (jX1 [("NoMark",true),("NoDoor",false),("NotWhole",false)] (tVar 5)) (jJc (jX1 [("NoMark",false),("NoDoor",true),("NotWhole",false)] (tVar 5)) (jJc (jX1 [("NoMark",false),("NoDoor",false),("NotWhole",true)] (tVar 5)) tNil)))) (jJi 7))
 (tRet (tTup (jJc (tIf (jJs (tOp rEqA (tBM "list" kK5 (tVar 7) (jJc (tC (.bl true)) tNil)) (tC (.int 1)))) (tOp rIxF (tLst (jJc (tC (.str (PySem.Str.ofString "mark"))) (jJc (tC (.str (PySem.Str.ofString "door"))) (jJc (tC (.str (PySem.Str.ofString "whole"))) tNil)))) (tBM "list" jZi (tVar 7) (jJc (tC (.bl true)) tNil))) (tC (.str (PySem.Str.ofString "other")))) (jJc (tC .non) tNil))))))))))
noncomputable def jUq:TS3:=(tSeq (tIfS (jJs (tOp rIsN (tVar 5) (tC .non))) (tRet (tTup (jJc (tC (.str (PySem.Str.ofString "told"))) (jJc (tVar 4) tNil)))) jKw)
 (tSeq (tIfS (tOr (jJs (jX1 [("NoMark",false),("NoDoor",false),("NotWhole",false)] (tVar 5))) (tNot (jJs (jX1 [("NoMark",true),("NoDoor",true),("NotWhole",true)] (tVar 5))))) (tRet (tTup (jJc (tC (.str (PySem.Str.ofString "other"))) (jJc (tC .non) tNil)))) jKw)
 (tSeq (tAsg (tLst (jJc (jX1 [("NoMark",true),("NoDoor",false),("NotWhole",false)] (tVar 5)) (jJc (jX1 [("NoMark",false),("NoDoor",true),("NotWhole",false)] (tVar 5)) (jJc (jX1 [("NoMark",false),("NoDoor",false),("NotWhole",true)] (tVar 5)) tNil)))) (jJi 7))
 (tRet (tTup (jJc (tIf (jJs (tOp rEqA (tBM "list" kK5 (tVar 7) (jJc (tC (.bl true)) tNil)) (tC (.int 1)))) (tOp rIxF (tLst (jJc (tC (.str (PySem.Str.ofString "mark"))) (jJc (tC (.str (PySem.Str.ofString "door"))) (jJc (tC (.str (PySem.Str.ofString "whole"))) tNil)))) (tBM "list" jZi (tVar 7) (jJc (tC (.bl true)) tNil))) (tC (.str (PySem.Str.ofString "other")))) (jJc (tC .non) tNil)))))))
theorem kU5:kJm=(tSeq (tAsg (tC .non) (jJi 4)) (tSeq (tAsg (tC .non) (jJi 5)) (tSeq (tTry 6 ["NoMark","NoDoor","NotWhole"] (tIfX (jJs (tOp rEqA (tVar 1) (tC (.str (PySem.Str.ofString "forget"))))) (kK1 (jYf "Chart" "forget" jK3 (tVar 0) (jJc (tVar 2) (jJc (tVar 3) tNil)))) (tIfX (jJs (tOp rEqA (tVar 1) (tC (.str (PySem.Str.ofString "way"))))) (kK1 (jYf "Chart" "way_by" jK1 (tVar 0) (jJc (tVar 2) tNil))) (qVb (jYf "Chart" "whole" jQb (tVar 0) tNil) 4))) (tAsg (tVar 6) (jJi 5))) jUq))):=rfl
theorem jY0 {G:Gp} {Q:VK3} {v0 v1 v2 v3 v6 v7:Option T} {t:T} (kk:Q (.tup [.str "told",t]) G):jUq {nx:=fun _ G'=>Q .non G',rt:=Q} [v0,v1,v2,v3,some t,some .non,v6,v7] G:=by
 have hs:=sz
 wp_walk using 1,jUq
 exact⟨by omega,kk⟩
theorem qJ7 {G:Gp} {Q:VK3} {v0 v1 v2 v3 v4 v6:Option T} {p:Addr} {cn w:Str} (hp:G p=some (.exc cn)) (hw:cn="NoMark"/\w="mark"\/cn="NoDoor"/\w="door"\/cn="NotWhole"/\w="whole") (kk:∀G',Sub G G'->Q (wd w) G'):jUq {nx:=fun _ G'=>Q .non G',rt:=Q} [v0,v1,v2,v3,v4,some (.ref p),v6,none] G:=by
 have hs:=sz
 have tail:∀(x1 x2 x3:Bool) (j:Nat) (w:Str),[T.bl x1,T.bl x2,T.bl x3][j]? =some (.bl true)->(∀(m:Nat) (t:T),m<j->[T.bl x1,T.bl x2,T.bl x3][m]? =some t->eqT t (.bl true)=false)->[T.bl x1,T.bl x2,T.bl x3].countP (fun z=>eqT z (.bl true))=1->[T.str "mark",T.str "door",T.str "whole"][j]? =some (.str w)->(∀G',Sub G G'->Q (wd w) G')->
   ∀(p:Addr),G p=none->kK5 (T.ref p) [T.bl true] (gup G p (GO.lst [T.bl x1,T.bl x2,T.bl x3])) fun x G1=>rEqA x (T.int 1) G1 fun x G1=>∃c,x=T.bl c/\if c=true then 3<=sizeLine/\∀(p_1:Addr),G1 p_1=none->
    tyT (gup G1 p_1 (GO.lst [T.str (Str.ofString "mark"),T.str (Str.ofString "door"),T.str (Str.ofString "whole")])) "list" (T.ref p)/\
     jZi (T.ref p) [T.bl true] (gup G1 p_1 (GO.lst [T.str (Str.ofString "mark"),T.str (Str.ofString "door"),T.str (Str.ofString "whole")])) fun y G2=>∃t,ixR G2 (T.ref p_1) y=some t/\2<=sizeLine/\Q (T.tup [t,T.non]) G2
    else 2<=sizeLine/\Q (T.tup [T.str (Str.ofString "other"),T.non]) G1:=by
  intro x1 x2 x3 j w hj hm hc hw kk u hu
  refine⟨u,_,_,rfl,rfl,jJf,rfl,rfl,?_⟩
  rw[hc]
  refine⟨true,rfl,true,rfl,?_⟩
  rw[lJc rfl]
  refine⟨by omega,fun v hv=> ?_⟩
  obtain⟨hvu,hv0⟩:=jJt hv
  have hu2:gup (gup G u (GO.lst [T.bl x1,T.bl x2,T.bl x3])) v (GO.lst [T.str (Str.ofString "mark"),T.str (Str.ofString "door"),T.str (Str.ofString "whole")]) u=some (.lst [T.bl x1,T.bl x2,T.bl x3]):=by rw[jJh hvu.symm,jJf]
  refine⟨of_eq_true (jKc hu2),u,_,_,_,j,rfl,rfl,hu2,rfl,rfl,hj,rfl,hm,_,(jKs jJf).trans ((atN ..).trans hw),by omega,kk _ ((Sub.new hu).over hv0)⟩
 have m0:∀ {xs:List T} (m:Nat) (t:T),m<0->xs[m]? =some t->eqT t (.bl true)=false:=fun m t h=>absurd h (lK5 _)
 have m1:∀ {x y:T} (m:Nat) (t:T),m<1->[T.bl false,x,y][m]? =some t->eqT t (.bl true)=false:=fun m t h e=>by
  obtain rfl:m=0:=by omega
  cases e;rfl
 have m2:∀ {y:T} (m:Nat) (t:T),m<2->[T.bl false,.bl false,y][m]? =some t->eqT t (.bl true)=false:=fun m t h e=>by
  rcases (show m=0\/m=1 by omega) with rfl | rfl
  ·cases e;rfl
  ·cases e;rfl
 rcases hw with ⟨rfl,rfl⟩ | ⟨rfl,rfl⟩ | ⟨rfl,rfl⟩
 ·wp_walk using 1,jUq,jX1
  refine⟨_,hp,false,by simp,?_⟩
  rw[lJb (by simp)]
  refine⟨_,hp,true,by simp,?_⟩
  rw[lJb (by simp)]
  exact⟨_,hp,true,by simp,_,hp,false,by simp,_,hp,false,by simp,by omega,tail true false false 0 _ rfl m0 rfl rfl kk⟩
 ·wp_walk using 1,jUq,jX1
  refine⟨_,hp,false,by simp,?_⟩
  rw[lJb (by simp)]
  refine⟨_,hp,true,by simp,?_⟩
  rw[lJb (by simp)]
  exact⟨_,hp,false,by simp,_,hp,true,by simp,_,hp,false,by simp,by omega,tail false true false 1 _ rfl m1 rfl rfl kk⟩
 ·wp_walk using 1,jUq,jX1
  refine⟨_,hp,false,by simp,?_⟩
  rw[lJb (by simp)]
  refine⟨_,hp,true,by simp,?_⟩
  rw[lJb (by simp)]
  exact⟨_,hp,false,by simp,_,hp,false,by simp,_,hp,true,by simp,by omega,tail false false true 2 _ rfl m2 rfl rfl kk⟩
noncomputable def jQx:Sp3:=fun xs G Q=>∃(a b c d:Addr) (s:CS) (kvs:Kvs) (k:Nat) (ρ:Option Nat) (mt:Str) (di:Int),xs=[.ref a,.str (wrdS k),.str mt,.int di]/\(k<2->mt=mrk ρ)/\ChAt G a b c d s kvs/\s.Ok/\kXb s ρ/\∀t s' kvs' G',qYs s ρ di k t s'->ChAt G' a b c d s' kvs'->Kp [d] G G'->(¬ k=0->Sub G G')->Q t G'
theorem kXn:RdOk jQx kJm qX6:=by
 intro xs G Q h_;apply xe10 h_;clear h_;intro a b c d s kvs k ρ mt di h_;apply ae5 h_;clear h_;intro hmt h o hm kk
 show kJm _ [some (.ref a),some (.str (wrdS k)),some (.str mt),some (.int di),none,none,none,none] G
 have f1:eqOk (.str (wrdS 0))=true:=by decide +kernel
 have f2:eqOk (.str (wrdS 1))=true:=by decide +kernel
 have f3:eqOk (.str (wrdS 2))=true:=by decide +kernel
 have n1:(wrdS 1 == wrdS 0)=false:=by decide +kernel
 have n2:(wrdS 2 == wrdS 0)=false:=by decide +kernel
 have n3:(wrdS 2 == wrdS 1)=false:=by decide +kernel
 have exc:∀ {G1:Gp} {cn w:Str} {v4:Option T},(cn="NoMark"/\w="mark"\/cn="NoDoor"/\w="door"\/cn="NotWhole"/\w="whole")->(∀G',Sub G1 G'->Q (wd w) G')->cn∈(["NoMark","NoDoor","NotWhole"]:List Str)/\∀p,G1 p=none->jUq {nx:=fun _ G'=>Q .non G',rt:=Q} [some (.ref a),some (.str (wrdS k)),some (.str mt),some (.int di),v4,some (.ref p),none,none] (gup G1 p (.exc cn)):=fun hw hk=>
  ⟨by rcases hw with ⟨rfl,_⟩ | ⟨rfl,_⟩ | ⟨rfl,_⟩<;>simp,fun p hp=>qJ7 jJf hw fun G' s'=>hk G' ((Sub.new hp).trans s')⟩
 wp_walk using 1,kU5,tTry,tIfX,kK1,qVb,jYf,rEqA
 have e0:∀x y,(wrdS x == wrdS y)=true->eqOk (.str (wrdS x))=true->eqOk (.str (wrdS y))=true->eqG G (.str (wrdS x)) (.str (wrdS y))=some true:=fun x y h1 h2 h3=>by rw[eqS h2 h3,h1]
 rcases (show k=0\/k=1\/2<=k by omega) with rfl | rfl | hk
 ·refine⟨true,e0 0 0 (by simp) f1 f1,?_⟩
  rw[lJc rfl]
  obtain rfl:=hmt (by omega)
  refine⟨jVp h.obj,a,b,c,d,s,kvs,ρ,di,rfl,h,o,hm,fun hρ=> ?_,fun r hρ hd=> ?_,fun r n hρ hd hn kvs' G' h' k'=> ?_⟩
  ·subst hρ
   exact exc (.inl ⟨rfl,rfl⟩) fun G' s'=>kk _ s kvs G' ⟨rfl,rfl⟩ (h.sub fun x u z _=>s' x u z) (.sub s') fun z=>absurd rfl z
  ·subst hρ
   exact exc (.inr (.inl ⟨rfl,rfl⟩)) fun G' s'=>kk _ s kvs G' (.inl ⟨hd,rfl,rfl⟩) (h.sub fun x u z _=>s' x u z) (.sub s') fun z=>absurd rfl z
  ·subst hρ
   exact jY0 (kk _ _ kvs' G' (.inr ⟨n,hd,hn,rfl,rfl⟩) h' k' fun z=>absurd rfl z)
 ·refine⟨false,by rw[<-n1];exact eqS f2 f1,?_⟩
  rw[lJb (by simp)]
  refine⟨true,e0 1 1 (by simp) f2 f2,?_⟩
  rw[lJc rfl]
  obtain rfl:=hmt (by omega)
  refine⟨jVp h.obj,a,b,c,d,s,kvs,ρ,rfl,h,o,hm,fun r hρ t G' s'=> ?_,fun hρ=> ?_⟩
  ·subst hρ
   exact jY0 (kk _ s kvs G' ⟨rfl,rfl⟩ (h.sub fun x u z _=>s' x u z) (.sub s') fun _=>s')
  ·subst hρ
   exact exc (.inl ⟨rfl,rfl⟩) fun G' s'=>kk _ s kvs G' ⟨rfl,rfl⟩ (h.sub fun x u z _=>s' x u z) (.sub s') fun _=>s'
 ·obtain⟨k,rfl⟩:∃j,k=j+2:=⟨k-2,by omega⟩
  refine⟨false,by rw[<-n2];exact eqS f3 f1,?_⟩
  rw[lJb (by simp)]
  refine⟨false,by rw[<-n3];exact eqS f3 f2,?_⟩
  rw[lJb (by simp)]
  refine⟨jVp h.obj,a,b,c,d,s,kvs,rfl,h,o,fun hop G' s'=> ?_,fun hop G' s'=> ?_⟩
  ·exact jY0 (kk _ s kvs G' ⟨rfl,.inl ⟨hop,rfl⟩⟩ (h.sub fun x u z _=>s' x u z) (.sub s') fun _=>s')
  ·exact exc (.inr (.inr ⟨rfl,rfl⟩)) fun G2 s2=>kk _ s kvs G2 ⟨rfl,.inr ⟨hop,rfl⟩⟩ (h.sub fun x u z _=>s2 x u (s' x u z)) (.sub (s'.trans s2)) fun _=>s'.trans s2
theorem qYk (s:CS):∀n:Nat,((List.range n).any fun i=>(List.range (ctI s i)).any fun d=>(s.E (rmI s i,d)).isNone)= !(opL s n).isEmpty
 | 0=>rfl
 | n+1=>by
  rw[lKi,List.any_append,qYk s n,jZ0]
  have:(opR s n).isEmpty= !((List.range (ctI s n)).any fun d=>(s.E (rmI s n,d)).isNone):=by
   unfold opR
   induction List.range (ctI s n) with
   | nil=>rfl
   | cons d l ih=>
    rw[lQ1,lKl]
    cases (s.E (rmI s n,d)).isNone with
    | true=>rfl
    | false=>simp only[lKj,lJt,Bool.false_or];exact ih
  cases h1:opL s n with
  | nil=>rw[List.nil_append,this];simp
  | cons x xs=>simp
theorem wd_ok {x:Str} (h:PyData.strOk x=true):OkD 1 (wd x):=jYa fun y hy=>by
 simp only[lJv,lJj,lKc] at hy
 rcases hy with rfl | rfl
 ·exact⟨rfl,by rw[td,PyData.canLay0];exact h,by simp[td,PyData.depth],by simp[eqT]⟩
 ·exact qQa
theorem qXu {xs:List T} {d:Nat} (h:∀x,x∈xs->OkD d x) (hd:d<50):kJ5 xs=true:=by
 obtain⟨a1,a2,a3,a4⟩:=kQ9 xs h
 unfold kJ5
 rw[a1,a2,lK9 (show (PyData.list (tds xs)).depth<=50 by rw[PyData.depth];omega)];rfl
noncomputable def jKj:Sp3:=fun xs G Q=>∃(a b c d m o n e:Addr) (s:CS) (kvs evs:Kvs),xs=[.ref a,.ref m]/\ChAt G a b c d s kvs/\MdAt G m o n e s evs/\s.Ok/\∀G',Sub G G'->Q (.bl true) G'
def kKg:List Str:=["_law_chart","_law_model","_law_due","_law_doors"]
noncomputable def jQ2:TS3:=
 (tSeq (tAsg (jJr jQh (jJc (tVar 1) tNil)) (jJi 2))
 (tSeq (tIfS (jJs (tCB rAny (jJc (jUs [false,false,false,true] (iSeq (tVar 2)) (jJi 3) jXz (tOp rInU (tC .non) (tVar 3))) tNil))) (tRet (tOp rEqA (jJr jQx (jJc (tVar 0) (jJc (tC (.str (PySem.Str.ofString "whole"))) (jJc (tC (.str (PySem.Str.ofString ""))) (jJc (tC (.int 0)) tNil))))) (tTup (jJc (tC (.str (PySem.Str.ofString "whole"))) (jJc (tC .non) tNil))))) jKw)
 (tRet (tOp rEqA (jJr jQx (jJc (tVar 0) (jJc (tC (.str (PySem.Str.ofString "whole"))) (jJc (tC (.str (PySem.Str.ofString ""))) (jJc (tC (.int 0)) tNil))))) (tTup (jJc (tC (.str (PySem.Str.ofString "told"))) (jJc (tVar 2) tNil)))))))
theorem jYm:RdOk jKj jQ2 kKg:=by
 intro xs G Q h_;apply xe11 h_;clear h_;intro a b c d m o n e s kvs evs h_;apply ae4 h_;clear h_;intro hc h ok kk
 show jQ2 _ [some (.ref a),some (.ref m),none,none] G
 have hs:=sz
 have hlm:s.ms.length<=24:=jJ5 ok.nd ok.lt
 wp_walk using 1,jQ2,iSeq
 refine⟨m,o,n,e,s,evs,rfl,h,ok,fun G1 s1=>⟨_,rfl,?_⟩⟩
 refine jQw (es:=List.range s.ms.length) (enc:=fun i=>T.tup (rowT s i)) (fun i=>T.bl ((List.range (ctI s i)).any fun d=>(s.E (rmI s i,d)).isNone)) (by simp;omega) (fun _ _=>rfl) ?_ ?_
 ·intro i x hx G2 K K0 s2 hK
  obtain⟨hi,rfl⟩:=jQ1 hx
  wp_walk using 1,rInU
  have e1:∀l:List Nat,((tds (l.map fun d=>endT s (s.E (rmI s i,d)))).any fun z=>z.eqv (td T.non))=l.any fun d=>(s.E (rmI s i,d)).isNone:=by
   intro l
   induction l with
   | nil=>rfl
   | cons d l ih=>
    rw[lJr,tds,lKl,lKl,ih]
    congr 1
    cases s.E (rmI s i,d)<;>rfl
  have e2:=e1 (List.range (ctI s i))
  have ro:∀x,x∈rowT s i->OkD 1 x:=fun x hx=>by
   obtain⟨d,_,rfl⟩:=lJw.mp hx
   exact qQc s _
  refine⟨rfl,qXu ro (by decide),?_⟩
  show K (T.bl ((tds ((List.range (ctI s i)).map fun d=>endT s (s.E (rmI s i,d)))).any fun z=>z.eqv (td T.non))) G2
  rw[e2]
  exact hK G2 (.refl _)
 ·intro D G2 hD hD2 s2
  wp_walk using 1,rAny,rEqA
  have hc2:ChAt G2 a b c d s kvs:=hc.sub fun x u z _=>s2 _ _ (s1 x u z)
  have wok:OkD 1 (wd "whole"):=wd_ok (by decide +kernel)
  have tok:OkD 4 (.tup [.str "told",skT s]):=jYa fun y hy=>by
   simp only[lJv,lJj,lKc] at hy
   rcases hy with rfl | rfl
   ·exact⟨rfl,by decide +kernel,by simp[td,PyData.depth],by simp[eqT]⟩
   ·exact qYl s
  refine⟨(List.range s.ms.length).map fun i=>(List.range (ctI s i)).any fun d=>(s.E (rmI s i,d)).isNone,by rw[hD2,lK0];rfl,?_⟩
  rw[List.any_map]
  have ea:=qYk s s.ms.length
  have ea:((List.range s.ms.length).any ((fun x=>x)∘fun i=>(List.range (ctI s i)).any fun d=>(s.E (rmI s i,d)).isNone))= !(opL s s.ms.length).isEmpty:=ea
  rw[ea]
  cases hop:opL s s.ms.length with
  | cons x xs=>
   rw[lJc (by rfl)]
   refine⟨a,b,c,d,s,kvs,2,none,"",0,rfl,fun z=>by omega,hc2,ok,(fun r z=>by cases z),fun t s' kvs' G' w h' k' k2=> ?_⟩
   obtain⟨rfl,⟨z,_⟩ | ⟨_,rfl⟩⟩:=w
   ·rw[hop] at z;cases z
   ·exact⟨by omega,true,jXn wok (by decide) (fun p z=>by cases z),kk G' ((s1.trans s2).trans (k2 (by decide)))⟩
  | nil=>
   rw[lJb (by simp)]
   refine⟨a,b,c,d,s,kvs,2,none,"",0,rfl,fun z=>by omega,hc2,ok,(fun r z=>by cases z),fun t s' kvs' G' w h' k' k2=> ?_⟩
   obtain⟨rfl,⟨_,rfl⟩ | ⟨z,_⟩⟩:=w
   ·exact⟨by omega,true,jXn tok (by decide) (fun p z=>by cases z),kk G' ((s1.trans s2).trans (k2 (by decide)))⟩
   ·exact absurd hop z
noncomputable def jKy:Sp3:=fun xs G Q=>∃(W:Web) (bx a m:Addr) (r N j:Nat),xs=[.ref bx,.ref a,.ref m]/\CM W G a m r N bx/\BoxAt G bx j/\j<1000/\∀G',CM W G' a m r N bx->BoxAt G' bx (j+2)->Q (.bl true) G'
def jZf:List Str:=["_law_box_here","_law_chart","_law_model","_law_mark_here","_law_many","_law_door","_law_due"]
noncomputable def jQk:TS3:=
 (tSeq (tAsg (tOp rIxF (tOp jKi (tOp rIxF (tVar 2) (tC (.str (PySem.Str.ofString "order")))) (tLst (jJc (tC (.str (PySem.Str.ofString "nowhere"))) tNil))) (jJr jJq (jJc (tVar 0) (jJc (tOp jKi (tCB rLen (jJc (tOp rIxF (tVar 2) (tC (.str (PySem.Str.ofString "order")))) tNil)) (tC (.int 1))) tNil)))) (jJi 3))
 (tSeq (tAsg (tBM "dict" qY9 (tOp rIxF (tVar 2) (tC (.str (PySem.Str.ofString "many")))) (jJc (tVar 3) (jJc (tC (.int 2)) tNil))) (jJi 4))
 (tSeq (tAsg (tOp rSub (jJr jJq (jJc (tVar 0) (jJc (tOp jKi (tVar 4) (tC (.int 2))) tNil))) (tC (.int 1))) (jJi 5))
 (tSeq (tAsg (tTup (jJc (tC (.str (PySem.Str.ofString "told"))) (jJc (tC .non) tNil))) (jJi 6))
 (tSeq (tIfS (jJs (tOp rEqA (tVar 3) (tC (.str (PySem.Str.ofString "nowhere"))))) (tAsg (tTup (jJc (tC (.str (PySem.Str.ofString "mark"))) (jJc (tC .non) tNil))) (jJi 6)) (tIfS (tOr (jJs (tOp rLt (tVar 5) (tC (.int 0)))) (jJs (tOp rGe (tVar 5) (tVar 4)))) (tAsg (tTup (jJc (tC (.str (PySem.Str.ofString "door"))) (jJc (tC .non) tNil))) (jJi 6)) (jQf (jJr jVd (jJc (tVar 2) (jJc (tVar 3) (jJc (tVar 5) tNil)))))))
 (tSeq (tIfS (tOr (jJs (tOp rNeA (jJr jQx (jJc (tVar 1) (jJc (tC (.str (PySem.Str.ofString "forget"))) (jJc (tVar 3) (jJc (tVar 5) tNil))))) (tVar 6))) (tNot (jJs (jJr jQc (jJc (tVar 1) (jJc (tVar 2) tNil)))))) (tRet (tC (.bl false))) jKw)
 (tRet (tOp rEqA (tOp rEqA (tOp rIxF (jJr jQx (jJc (tVar 1) (jJc (tC (.str (PySem.Str.ofString "way"))) (jJc (tVar 3) (jJc (tC (.int 0)) tNil))))) (tC (.int 0))) (tC (.str (PySem.Str.ofString "mark")))) (tOp rEqA (tVar 3) (tC (.str (PySem.Str.ofString "nowhere"))))))))))))
noncomputable def kY4:TS3:=(tSeq (tIfS (tOr (jJs (tOp rNeA (jJr jQx (jJc (tVar 1) (jJc (tC (.str (PySem.Str.ofString "forget"))) (jJc (tVar 3) (jJc (tVar 5) tNil))))) (tVar 6))) (tNot (jJs (jJr jQc (jJc (tVar 1) (jJc (tVar 2) tNil)))))) (tRet (tC (.bl false))) jKw)
 (tRet (tOp rEqA (tOp rEqA (tOp rIxF (jJr jQx (jJc (tVar 1) (jJc (tC (.str (PySem.Str.ofString "way"))) (jJc (tVar 3) (jJc (tC (.int 0)) tNil))))) (tC (.int 0))) (tC (.str (PySem.Str.ofString "mark")))) (tOp rEqA (tVar 3) (tC (.str (PySem.Str.ofString "nowhere")))))))
theorem jV7:jQk=(tSeq (tAsg (tOp rIxF (tOp jKi (tOp rIxF (tVar 2) (tC (.str (PySem.Str.ofString "order")))) (tLst (jJc (tC (.str (PySem.Str.ofString "nowhere"))) tNil))) (jJr jJq (jJc (tVar 0) (jJc (tOp jKi (tCB rLen (jJc (tOp rIxF (tVar 2) (tC (.str (PySem.Str.ofString "order")))) tNil)) (tC (.int 1))) tNil)))) (jJi 3)) (tSeq (tAsg (tBM "dict" qY9 (tOp rIxF (tVar 2) (tC (.str (PySem.Str.ofString "many")))) (jJc (tVar 3) (jJc (tC (.int 2)) tNil))) (jJi 4)) (tSeq (tAsg (tOp rSub (jJr jJq (jJc (tVar 0) (jJc (tOp jKi (tVar 4) (tC (.int 2))) tNil))) (tC (.int 1))) (jJi 5)) (tSeq (tAsg (tTup (jJc (tC (.str (PySem.Str.ofString "told"))) (jJc (tC .non) tNil))) (jJi 6)) (tSeq (tIfS (jJs (tOp rEqA (tVar 3) (tC (.str (PySem.Str.ofString "nowhere"))))) (tAsg (tTup (jJc (tC (.str (PySem.Str.ofString "mark"))) (jJc (tC .non) tNil))) (jJi 6)) (tIfS (tOr (jJs (tOp rLt (tVar 5) (tC (.int 0)))) (jJs (tOp rGe (tVar 5) (tVar 4)))) (tAsg (tTup (jJc (tC (.str (PySem.Str.ofString "door"))) (jJc (tC .non) tNil))) (jJi 6)) (jQf (jJr jVd (jJc (tVar 2) (jJc (tVar 3) (jJc (tVar 5) tNil))))))) kY4))))):=rfl
theorem qZk:eqOk (.str noS)=true:=by decide +kernel
theorem mk_ok {r:Nat} (h:r<24):eqOk (.str (mkS r))=true:=by
 have k:=kX2 (d:=0) h
 unfold eqOk
 rw[k.tr,k.lay,lK9 (show (td (.str (mkS r))).depth<=50 by have:=k.dep;omega)];rfl
theorem qZ1 {G:Gp} {s:CS} (ok:s.Ok) {ρ:Option Nat} (hm:kXb s ρ):eqG G (.str (mrk ρ)) (.str noS)=some ρ.isNone:=by
 cases ρ with
 | none=>exact (eqS qZk qZk).trans (by simp)
 | some r=>
  have hr:=ok.lt _ (hm r rfl)
  exact (eqS (mk_ok hr) qZk).trans (by rw[qZl hr];rfl)
theorem frR {G:Gp} {Q:VK3} {a b c d m o n e:Addr} {s s':CS} {kvs evs:Kvs} {ρ:Option Nat} {di:Int} {v0 v4:Option T} {w:Str} (ch:ChAt G a b c d s kvs) (md:MdAt G m o n e s' evs) (ok:s.Ok) (ok':s'.Ok) (hms:s'.ms=s.ms) (hm:kXb s ρ) (hw:∀t s'',qYs s ρ di 0 t s''->t=wd w/\s''=s') (hk:PyData.strOk w=true) (de:d≠e)
  (kk:∀kvs' G',ChAt G' a b c d s' kvs'->MdAt G' m o n e s' evs->Kp [d] G G'->Q (.bl true) G'):kY4 {nx:=fun _ G'=>Q .non G',rt:=Q} [v0,some (.ref a),some (.ref m),some (.str (mrk ρ)),v4,some (.int di),some (wd w)] G:=by
 have hs:=sz
 wp_walk using 1,kY4,rNeA,rEqA
 refine⟨a,b,c,d,s,kvs,0,ρ,_,di,rfl,fun _=>rfl,ch,ok,hm,fun t s'' kvs' G' hwi h' k' _=> ?_⟩
 obtain⟨rfl,rfl⟩:=hw t s'' hwi
 refine⟨true,jXn (wd_ok hk) (by decide) (fun p z=>by cases z),?_⟩
 rw[lJb (by simp)]
 have md':MdAt G' m o n e s'' evs:=md.sub fun x u hx q=>k' x u (by
  intro z
  rw[lJ1] at z
  subst z
  rcases q with rfl | rfl | rfl | rfl
  ·have:=ch.ld.symm.trans md.obj;cases this
  ·have:=ch.ld.symm.trans md.ord;cases this
  ·have:=ch.ld.symm.trans md.man;cases this
  ·exact de rfl) hx
 refine⟨a,b,c,d,m,o,n,e,s'',kvs',evs,rfl,h',md',ok',fun G2 s2=>⟨true,rfl,?_⟩⟩
 rw[lJb (by simp)]
 have h2:ChAt G2 a b c d s'' kvs':=h'.sub fun x u z _=>s2 x u z
 have md2:MdAt G2 m o n e s'' evs:=md'.sub fun x u z _=>s2 x u z
 have hm':kXb s'' ρ:=fun r hr=>by rw[hms];exact hm r hr
 refine⟨a,b,c,d,s'',kvs',1,ρ,_,0,rfl,fun _=>rfl,h2,ok',hm',fun t s3 kvs3 G3 hwi3 h3 _ k3=> ?_⟩
 have k3:=k3 (by decide)
 obtain⟨rfl,ht⟩:=hwi3
 have md3:MdAt G3 m o n e s3 evs:=md2.sub fun x u z _=>k3 x u z
 have f1:eqOk (.str (PySem.Str.ofString "mark"))=true:=by decide +kernel
 have f2:eqOk (.str (PySem.Str.ofString "told"))=true:=by decide +kernel
 have n1:((PySem.Str.ofString "told") == (PySem.Str.ofString "mark"))=false:=by decide +kernel
 have fin:=kk kvs3 G3 h3 md3 ((k'.trans (.sub s2)).trans (.sub k3))
 cases ρ with
 | none=>
  dsimp only at ht
  subst ht
  have e1:eqG G3 (.str (PySem.Str.ofString "mark")) (.str (PySem.Str.ofString "mark"))=some true:=(eqS f1 f1).trans (by simp)
  exact⟨_,rfl,_,e1,_,qZ1 ok' hm',_,rfl,fin⟩
 | some r=>
  dsimp only at ht
  subst ht
  have e1:eqG G3 (.str (PySem.Str.ofString "told")) (.str (PySem.Str.ofString "mark"))=some false:=(eqS f2 f1).trans (by rw[n1])
  exact⟨_,rfl,_,e1,_,qZ1 ok' hm',_,rfl,fin⟩
theorem jXr:RdOk jKy jQk jZf:=by
 intro xs G Q h_;apply xe7 h_;clear h_;intro W bx a m r N j h_;apply ae4 h_;clear h_;intro cm hb hj kk
 show jQk _ [some (.ref bx),some (.ref a),some (.ref m),none,none,none,none] G
 have hs:=sz
 obtain⟨b,c,d,o,n,e,s,kvs,evs,h⟩:=cm
 have hlm:s.ms.length<=24:=jJ5 h.ok.nd h.ok.lt
 wp_walk using 1,jV7,mOrd h.md.obj
 refine⟨by omega,fun p hp=> ?_⟩
 have op:o≠p:=jJg h.md.ord hp
 have e2:=qX4 (G:=gup G p (.lst [.str noS])) (p:=o) (q:=p) (by rw[jJh op];exact h.md.ord) jJf (by simp[mksT];omega)
 refine⟨_,e2,?_⟩
 wp_walk using 1,tSeq
 intro p2 hp2
 obtain⟨_,hp20⟩:=jJt hp2
 have s1:Sub G (gup (gup G p (.lst [.str noS])) p2 (.lst (mksT s.ms++[.str noS]))):=(Sub.new hp).over hp20
 have hq1:gup (gup G p (.lst [.str noS])) p2 (.lst (mksT s.ms++[.str noS])) p2=some (.lst (mksT s.ms++[.str noS])):=jJf
 generalize gup (gup G p (.lst [.str noS])) p2 (.lst (mksT s.ms++[.str noS]))=G1 at s1 hq1 ⊢
 have h1:=h.sub s1
 have hb1:BoxAt G1 bx j:=let ⟨x,y,z,e,q⟩:=hb;⟨x,y,z,s1 _ _ e,q⟩
 have pb:p2≠bx:=fun z=>by
  obtain⟨x,y,z',e,q⟩:=id hb
  rw[<-z,hp20] at e;cases e
 refine⟨_,mOrd h1.md.obj,_,jJl h1.md.ord,bx,_,j,rfl,hb1,by omega,by simp[mksT];omega,by simp[mksT];omega,fun ii G2 i0 i1 hb2 k2=> ?_⟩
 obtain⟨i,rfl⟩:=lKv i0
 have i1:i<s.ms.length+1:=by simp[mksT] at i1;omega
 have h2:=h1.keep hb1 k2
 obtain⟨ρ,hρ,hix⟩:∃ ρ,kXb s ρ/\(mksT s.ms++[.str noS])[i]? =some (.str (mrk ρ)):=by
  rcases lKe i s.ms.length with z | z
  ·refine⟨some s.ms[i],fun r hr=> ?_,?_⟩
   ·cases hr;exact lVm z
   ·rw[lKg (by simpa[mksT] using z),mksT,lJs,lJi z];rfl
  ·obtain rfl:i=s.ms.length:=by omega
   refine⟨none,fun r hr=>(by cases hr),?_⟩
   rw[lQf (by simp[mksT])]
   simp[mksT,mrk]
 have hp2':G2 p2=some (.lst (mksT s.ms++[.str noS])):=k2 _ _ pb hq1
 refine⟨_,(jKs hp2').trans ((atN ..).trans hix),_,mMan h2.md.obj,.inr ⟨rfl,.inl ⟨_,h2.md.man⟩⟩,n,_,_,Sum.inr (mrk ρ),_,rfl,rfl,h2.md.man,rfl,?_⟩
 obtain⟨mn,hmn,hmn2,hmn3⟩:∃mn:Nat,(valT (manL s.ms s.ct) (Sum.inr (mrk ρ))).getD (T.int 2)= .int (mn:Nat)/\mn<12/\∀r,ρ=some r->mn=ctI s (s.ms.idxOf r):=by
  cases ρ with
  | none=>
   refine⟨2,?_,by omega,fun r z=>by cases z⟩
   rw[kYw]
   ·rfl
   ·intro x hx e
    (obtain⟨y,hy,rfl⟩:=lJw.mp hx)
    have:=qZl (h.ok.lt _ (lVe hy).1)
    rw[show mkS y.1=noS from Sum.inr.inj e] at this
    simp at this
  | some r=>
   have hi:=qQs (hρ r rfl)
   refine⟨_,by rw[show mrk (some r)=mkS r from rfl,kX6 h.ok.nd h.ok.lt (jXx (hρ r rfl)) (kVu h.ok hi)];rfl,kVt h.ok hi,fun r' z=>by cases z;rfl⟩
 rw[hmn]
 refine⟨_,kZ1 ..,?_⟩
 wp_walk using 1,tSeq
 refine⟨bx,_,_,rfl,hb2,by omega,by omega,by omega,fun i2 G3 i20 i21 hb3 k3=>⟨_,rfl,by omega,?_⟩⟩
 have h3:=h2.keep hb2 k3
 have fin:∀ {s':CS} {evs' kvs':Kvs} {G4 G5:Gp},(∀ {G'},CMx W G a m r N bx b c d o n e s kvs evs->ChAt G' a b c d s' kvs'->MdAt G' m o n e s' evs'->CMx W G' a m r N bx b c d o n e s' kvs' evs')->(BoxAt G4 bx (j+2))->ChAt G5 a b c d s' kvs'->MdAt G5 m o n e s' evs'->Kp [d] G4 G5->Q (.bl true) G5:=by
  intro s' evs' kvs' G4 G5 f hb4 ch md kp
  refine kk G5 ⟨b,c,d,o,n,e,s',kvs',evs',f h ch md⟩ ?_
  obtain⟨x,y,z,e1,q⟩:=hb4
  refine⟨x,y,z,kp _ _ (fun z=> ?_) e1,q⟩
  rw[lJ1] at z
  subst z
  obtain⟨x,y,z,e1,_⟩:=hb3
  have:=h3.ch.ld.symm.trans e1;cases this
 refine⟨_,qZ1 h3.ok hρ,?_⟩
 wp_walk using 1,tSeq
 cases ρ with
 | none=>
  rw[lJc (by rfl)]
  refine⟨by omega,frR (w:="mark") h3.ch h3.md h3.ok h3.ok rfl hρ (fun t s'' w=>w) (by decide +kernel) h3.de fun kvs' G' ch md kp=>fin (fun h ch md=>{h with ch:=ch,md:=md}) hb3 ch md kp⟩
 | some r'=>
  rw[lJb (by simp)]
  have hc:=hmn3 r' rfl
  have hr24:=h3.ok.lt _ (hρ r' rfl)
  have door:(i2-1<0\/(mn:Int)<=i2-1)->kY4 {nx:=fun x G'=>Q T.non G',rt:=Q} [some (T.ref bx),some (T.ref a),some (T.ref m),some (T.str (mrk (some r'))),some (T.int (mn:Nat)),some (T.int (i2-1)),some (T.tup [T.str (Str.ofString "door"),T.non])] G3:=fun hd=>by
   refine frR (w:="door") h3.ch h3.md h3.ok h3.ok rfl hρ (fun t s'' w=> ?_) (by decide +kernel) h3.de fun kvs' G' ch md kp=>fin (fun h ch md=>{h with ch:=ch,md:=md}) hb3 ch md kp
   rcases w with ⟨_,h1,h2⟩ | ⟨n,h1,h2,_⟩
   ·exact⟨h1,h2⟩
   ·omega
  by_cases d0:i2-1<0
  ·rw[lJc d0];exact⟨by omega,door (.inl d0)⟩
  rw[lJb d0]
  by_cases d1:(mn:Int)<=i2-1
  ·rw[lJc d1];exact⟨by omega,door (.inr d1)⟩
  rw[lJb d1]
  obtain⟨k,hk⟩:∃k:Nat,i2-1=k:=⟨(i2-1).toNat,by omega⟩
  rw[hk]
  refine⟨m,o,n,e,s,evs,r',k,rfl,h3.md,h3.ok,hr24,fun evs' G4 md4 k4=> ?_⟩
  have ch4:ChAt G4 a b c d s kvs:=h3.ch.sub fun x u hx q=>k4 x u (by
   intro z
   rw[lJ1] at z
   subst z
   rcases q with rfl | rfl | rfl | rfl
   ·have:=h3.md.ens.symm.trans h3.ch.obj;cases this
   ·have:=h3.md.ens.symm.trans h3.ch.mks;cases this
   ·have:=h3.md.ens.symm.trans h3.ch.ct;cases this
   ·exact h3.de rfl) hx
  have hb4:BoxAt G4 bx (j+2):=by
   obtain⟨x,y,z,e1,q⟩:=id hb3
   refine⟨x,y,z,k4 _ _ (fun z=> ?_) e1,q⟩
   rw[lJ1] at z
   subst z
   have:=h3.md.ens.symm.trans e1;cases this
  refine frR (w:="told") (s':=fgC s (r',k)) ch4 md4 h3.ok (h3.ok.fg _) rfl hρ (fun t s'' w=> ?_) (by decide +kernel) h3.de fun kvs' G' ch md kp=>fin (fun h ch md=>h.fg ch md) hb4 ch md kp
  rcases w with ⟨h0,_⟩ | ⟨n,h1,h2,h4,h5⟩
  ·exact absurd ⟨by omega,by omega⟩ h0
  ·have:n=k:=by omega
   subst this
   exact⟨h4,h5⟩
theorem qJj {s:CS} {v:List Nat} (h:NextW s (some v)):∃d u,v=d::u/\d<ctI s s.pl:=by
 obtain⟨k,x,w,d,rfl,_,_,hl,_,hd,_⟩:=h
 cases w with
 | nil=>exact⟨d,[],rfl,by rw[show s.pl=x from hl.to];exact hd⟩
 | cons y u=>
  obtain⟨z,j,e,_⟩:=hl.to
  exact⟨y,u++[d],rfl,(qJ8 e).2.1⟩
theorem eqG_ii {G:Gp} {a c:Int}:eqG G (.int a) (.int c)=some (decide (a=c)):=by
 rw[show eqG G (.int a) (.int c)=some (eqT (.int a) (.int c)) from rfl]
 congr 1
noncomputable def jZz:TS3:=(tSeq (tAsg (tOp rIxF (tOp rIxF (tVar 2) (tVar 3)) (tVar 9)) (gTup 2 (jKt (jJi 3) (jKt (jJi 10) gNil))))
 (tSeq (jQf (jQq "Chart" "went" jQ9 (tVar 4) (jJc (tVar 9) (jJc (tVar 10) (jJc (jJr jQa (jJc (tVar 3) tNil)) (jJc (tCB rLen (jJc (tOp rIxF (tVar 2) (tVar 3)) tNil)) tNil))))))
 (tSeq (jQf (jJr jUn (jJc (tVar 5) (jJc (tVar 9) (jJc (tVar 10) (jJc (jJr jQa (jJc (tVar 3) tNil)) (jJc (tCB rLen (jJc (tOp rIxF (tVar 2) (tVar 3)) tNil)) tNil)))))))
 (tIfS (tNot (jJs (jJr jKj (jJc (tVar 4) (jJc (tVar 5) tNil))))) (tRet (tC (.bl false))) jKw))))
theorem stepT {D:Ends3} {W:Web} {G:Gp} {a m bx:Addr} {r N j dr:Nat} {es:List (Nat×Nat)} {v0 v6 v7 v8 v10:Option T} (w:AnyWeb W) (cm:CM W G a m r N bx) (hN:N<=300) (hb:BoxAt G bx j) (hes:W[r]? =some es) (hdl:dr<es.length)
  (kk:∀(r':Nat) (es':List (Nat×Nat)) (y:Nat) G',CM W G' a m r' (N+1) bx->BoxAt G' bx j->W[r']? =some es'->0<es'.length->D.nx [v0,some (.ref bx),some (.tup (W.map encR)),some (.int (r':Nat)),some (.ref a),some (.ref m),v6,v7,v8,some (.int (dr:Nat)),some (.int (y:Nat))] G'):
  jZz D [v0,some (.ref bx),some (.tup (W.map encR)),some (.int (r:Nat)),some (.ref a),some (.ref m),v6,v7,v8,some (.int (dr:Nat)),v10] G:=by
 have hs:=sz
 have hlen:=w.len
 obtain⟨⟨r',cc⟩,hde⟩:∃e,es[dr]? =some e:=⟨_,lJi hdl⟩
 have hen:en W r dr=some (r',cc):=by unfold en;rw[hes];exact hde
 have hen':=w.sym _ _ _ _ hen
 obtain⟨es',hes',hcc⟩:∃es',W[r']? =some es'/\es'[cc]? =some (r,dr):=by
  unfold en at hen'
  cases q:W[r']? with
  | none=>rw[q] at hen';cases hen'
  | some es'=>rw[q] at hen';exact⟨es',rfl,hen'⟩
 have hcl:cc<es'.length:=(lJe.mp hcc).1
 have hel:=w.deg _ _ hes
 have hel':=w.deg _ _ hes'
 have hr'l:r'<W.length:=(lJe.mp hes').1
 obtain⟨b,c,d,o,n,e,s,kvs,evs,h⟩:=cm
 wp_walk using 1,jZz,jUi hes,encR,qUi hde,encE,jQq
 refine⟨jVp h.ch.obj,r',rfl,by omega,fun G14 s14=> ?_⟩
 wp_walk using 1,jUi hes',encR,List.length_map
 have h14:=h.sub s14
 obtain⟨m1,m2,m3,m4⟩:=h14.may w hes hen hes'
 have hb14:BoxAt G14 bx j:=let ⟨x,y,z,e,q⟩:=hb;⟨x,y,z,s14 _ _ e,q⟩
 refine⟨a,b,c,d,s,kvs,dr,cc,r',es'.length,es.length,rfl,h14.ch,h14.ok,by have:=h14.n;omega,by omega,by omega,hcl,m1,hdl,m2,m3,m4,fun d' kvs' G15 hd' ch15 k15=> ?_⟩
 have ne1:∀x u,G14 x=some u->(∀t,u≠ .lst t)->(∀t,u≠ .ins "Chart" t)->x∉[a,b,c]:=fun x u hx h1 h2 z=>by
  simp only[lJj,lJv,lKc] at z
  rcases z with rfl | rfl | rfl
  ·rw[h14.ch.obj] at hx;exact h2 _ (lJq hx).symm
  ·rw[h14.ch.mks] at hx;exact h1 _ (lJq hx).symm
  ·rw[h14.ch.ct] at hx;exact h1 _ (lJq hx).symm
 have md15:MdAt G15 m o n e s evs:=h14.md.sub fun x u hx q=>k15 x u (by
  rcases q with rfl | rfl | rfl | rfl
  ·exact ne1 _ _ h14.md.obj (fun t q=>by cases q) fun t q=>by cases q
  ·intro z
   simp only[lJj,lJv,lKc] at z
   rcases z with rfl | rfl | rfl
   ·have:=h14.ch.obj.symm.trans h14.md.ord;cases this
   ·exact h14.bo rfl
   ·exact h14.co rfl
  ·exact ne1 _ _ h14.md.man (fun t q=>by cases q) fun t q=>by cases q
  ·exact ne1 _ _ h14.md.ens (fun t q=>by cases q) fun t q=>by cases q) hx
 have hb15:BoxAt G15 bx j:=by
  obtain⟨x,y,z,e1,q⟩:=id hb14
  refine⟨x,y,z,k15 _ _ (fun z=> ?_) e1,q⟩
  simp only[lJj,lJv,lKc] at z
  rcases z with rfl | rfl | rfl
  ·exact kQi hb14 h14.ch.obj (fun t q=>by cases q) rfl
  ·exact h14.bb rfl
  ·exact h14.cb rfl
 wp_walk using 1,tSeq
 refine⟨r',rfl,by omega,fun G16 s16=> ?_⟩
 wp_walk using 1,jUi hes',encR,List.length_map
 have md16:MdAt G16 m o n e s evs:=md15.sub fun x u hx _=>s16 x u hx
 have ch16:ChAt G16 a b c d' (goC s dr cc r' es'.length) kvs':=ch15.sub fun x u hx _=>s16 x u hx
 have hb16:BoxAt G16 bx j:=let ⟨x,y,z,e,q⟩:=hb15;⟨x,y,z,s16 _ _ e,q⟩
 refine⟨m,o,n,e,s,evs,dr,cc,r',es'.length,rfl,md16,h14.ok,by have:=h14.n;omega,by omega,fun evs' G17 md17 k17=> ?_⟩
 have de':d'≠e:=fun z=>by rw[z,h14.md.ens] at hd';cases hd'
 have ne2:∀x,(∀t,G16 x≠some (.dck t))->(∀t,G16 x≠some (.dct t)\/x≠e)->x≠o->x∉[m,o,n,e]:=fun x h1 h2 h3 z=>by
  simp only[lJj,lJv,lKc] at z
  rcases z with rfl | rfl | rfl | rfl
  ·exact h1 _ md16.obj
  ·exact h3 rfl
  ·exact h1 _ md16.man
  ·exact (h2 _).elim (fun q=>q md16.ens) fun q=>q rfl
 have ch17:ChAt G17 a b c d' (goC s dr cc r' es'.length) kvs':=ch16.sub fun x u hx q=>k17 x u (by
  rcases q with rfl | rfl | rfl | rfl
  ·exact ne2 _ (fun t q=>by rw[ch16.obj] at q;cases q) (fun t=> .inl fun q=>by rw[ch16.obj] at q;cases q) fun q=>by have:=ch16.obj.symm.trans (q▸md16.ord);cases this
  ·exact ne2 _ (fun t q=>by rw[ch16.mks] at q;cases q) (fun t=> .inl fun q=>by rw[ch16.mks] at q;cases q) h14.bo
  ·exact ne2 _ (fun t q=>by rw[ch16.ct] at q;cases q) (fun t=> .inl fun q=>by rw[ch16.ct] at q;cases q) h14.co
  ·exact ne2 _ (fun t q=>by rw[ch16.ld] at q;cases q) (fun t=> .inr de') fun q=>by have:=ch16.ld.symm.trans (q▸md16.ord);cases this) hx
 have hb17:BoxAt G17 bx j:=by
  obtain⟨x,y,z,e1,q⟩:=id hb16
  exact⟨x,y,z,k17 _ _ (ne2 _ (fun t q=>by rw[e1] at q;cases q) (fun t=> .inl fun q=>by rw[e1] at q;cases q) h14.ob.symm) e1,q⟩
 have hx17:=h14.goes w hen hes' hd' ch17 md17
 wp_walk using 1,tSeq
 refine⟨a,b,c,d',m,o,n,e,_,kvs',evs',rfl,hx17.ch,hx17.md,hx17.ok,fun G18 s18=>⟨true,rfl,?_⟩⟩
 rw[lJb (by simp)]
 exact kk r' es' cc G18 ⟨b,c,d',o,n,e,_,kvs',evs',hx17.sub s18⟩ (let ⟨x,y,z,e,q⟩:=hb17;⟨x,y,z,s18 _ _ e,q⟩) hes' (by omega)
def N_law:List Str:=["_law_script","_law_box_here","_law_web_here","_law_room","_law_chart","_law_model","_law_k","_law_turn_here","_law_way","_law_door","_law_came"]
noncomputable def kY3:TS3:=
 (tSeq (tAsg (jJr jXi (jJc (tVar 0) (jJc (tC (.int 0)) tNil))) (jJi 1))
 (tSeq (tAsg (jJr jUo (jJc (tVar 1) tNil)) (jJi 2))
 (tSeq (tAsg (jJr jJq (jJc (tVar 1) (jJc (tCB rLen (jJc (tVar 2) tNil)) tNil))) (jJi 3))
 (tSeq (tAsg (qVc "Chart" jUa (jJc (jJr jQa (jJc (tVar 3) tNil)) (jJc (tCB rLen (jJc (tOp rIxF (tVar 2) (tVar 3)) tNil)) tNil))) (jJi 4))
 (tSeq (tAsg (jJr jXj (jJc (jJr jQa (jJc (tVar 3) tNil)) (jJc (tCB rLen (jJc (tOp rIxF (tVar 2) (tVar 3)) tNil)) tNil))) (jJi 5))
 (tSeq (tFor (jKv (jJc (tCB rMax (jJc (tC (.int 8)) (jJc (tCB rLen (jJc (tSl rSlF (tVar 0) (kZ9 (tC (.int 1))) (kZ9 (tC (.int 63)))) tNil)) tNil))) tNil)) (jJi 6) (tSeq (tAsg (jJr jXi (jJc (tVar 0) (jJc (tOp jKi (tVar 6) (tC (.int 1))) tNil))) (jJi 1))
 (tSeq (tFor (jKv (jJc (tOp jVm (tC (.int 4)) (tCB kU6 (jJc (tOp rGt (tCB rLen (jJc (tOp rIxF (tVar 2) (tVar 3)) tNil)) (tC (.int 0))) tNil))) tNil)) (jJi 7) (tSeq (tAsg (jQq "Chart" "next_way" jK8 (tVar 4) tNil) (jJi 8))
 (tSeq (tAsg (tIf (jJs (tOp qJf (tVar 8) (tC .non))) (tOp rIxF (tVar 8) (tC (.int 0))) (jJr jJq (jJc (tVar 1) (jJc (tCB rLen (jJc (tOp rIxF (tVar 2) (tVar 3)) tNil)) tNil)))) (jJi 9))
 (tSeq (tAsg (tOp rIxF (tOp rIxF (tVar 2) (tVar 3)) (tVar 9)) (gTup 2 (jKt (jJi 3) (jKt (jJi 10) gNil))))
 (tSeq (jQf (jQq "Chart" "went" jQ9 (tVar 4) (jJc (tVar 9) (jJc (tVar 10) (jJc (jJr jQa (jJc (tVar 3) tNil)) (jJc (tCB rLen (jJc (tOp rIxF (tVar 2) (tVar 3)) tNil)) tNil))))))
 (tSeq (jQf (jJr jUn (jJc (tVar 5) (jJc (tVar 9) (jJc (tVar 10) (jJc (jJr jQa (jJc (tVar 3) tNil)) (jJc (tCB rLen (jJc (tOp rIxF (tVar 2) (tVar 3)) tNil)) tNil)))))))
 (tIfS (tNot (jJs (jJr jKj (jJc (tVar 4) (jJc (tVar 5) tNil))))) (tRet (tC (.bl false))) jKw)))))))
 (tIfS (tAnd (jJs (tOp rEqA (jJr jJq (jJc (tVar 1) (jJc (tC (.int 2)) tNil))) (tC (.int 0)))) (tNot (jJs (jJr jKy (jJc (tVar 1) (jJc (tVar 4) (jJc (tVar 5) tNil))))))) (tRet (tC (.bl false))) jKw))))
 (tRet (jJr jKj (jJc (tVar 4) (jJc (tVar 5) tNil))))))))))
theorem qKw:kY3=(tSeq (tAsg (jJr jXi (jJc (tVar 0) (jJc (tC (.int 0)) tNil))) (jJi 1))
 (tSeq (tAsg (jJr jUo (jJc (tVar 1) tNil)) (jJi 2))
 (tSeq (tAsg (jJr jJq (jJc (tVar 1) (jJc (tCB rLen (jJc (tVar 2) tNil)) tNil))) (jJi 3))
 (tSeq (tAsg (qVc "Chart" jUa (jJc (jJr jQa (jJc (tVar 3) tNil)) (jJc (tCB rLen (jJc (tOp rIxF (tVar 2) (tVar 3)) tNil)) tNil))) (jJi 4))
 (tSeq (tAsg (jJr jXj (jJc (jJr jQa (jJc (tVar 3) tNil)) (jJc (tCB rLen (jJc (tOp rIxF (tVar 2) (tVar 3)) tNil)) tNil))) (jJi 5))
 (tSeq (tFor (jKv (jJc (tCB rMax (jJc (tC (.int 8)) (jJc (tCB rLen (jJc (tSl rSlF (tVar 0) (kZ9 (tC (.int 1))) (kZ9 (tC (.int 63)))) tNil)) tNil))) tNil)) (jJi 6) (tSeq (tAsg (jJr jXi (jJc (tVar 0) (jJc (tOp jKi (tVar 6) (tC (.int 1))) tNil))) (jJi 1))
 (tSeq (tFor (jKv (jJc (tOp jVm (tC (.int 4)) (tCB kU6 (jJc (tOp rGt (tCB rLen (jJc (tOp rIxF (tVar 2) (tVar 3)) tNil)) (tC (.int 0))) tNil))) tNil)) (jJi 7) (tSeq (tAsg (jQq "Chart" "next_way" jK8 (tVar 4) tNil) (jJi 8))
 (tSeq (tAsg (tIf (jJs (tOp qJf (tVar 8) (tC .non))) (tOp rIxF (tVar 8) (tC (.int 0))) (jJr jJq (jJc (tVar 1) (jJc (tCB rLen (jJc (tOp rIxF (tVar 2) (tVar 3)) tNil)) tNil)))) (jJi 9))
 jZz)))
 (tIfS (tAnd (jJs (tOp rEqA (jJr jJq (jJc (tVar 1) (jJc (tC (.int 2)) tNil))) (tC (.int 0)))) (tNot (jJs (jJr jKy (jJc (tVar 1) (jJc (tVar 4) (jJc (tVar 5) tNil))))))) (tRet (tC (.bl false))) jKw))))
 (tRet (jJr jKj (jJc (tVar 4) (jJc (tVar 5) tNil)))))))))):=rfl
def qKm:Sp3:=fun xs G Q=>∃ns:List Int,xs=[.scr (jYc ns)]/\ns.length<=63/\∀G',Q (.bl true) G'
theorem qVq:RdOk qKm kY3 N_law:=by
 intro xs G Q h_;apply xe1 h_;clear h_;intro ns h_;apply ae2 h_;clear h_;intro hns kk
 show kY3 _ [some (.scr (jYc ns)),none,none,none,none,none,none,none,none,none,none] G
 have hs:=sz
 wp_walk using 1,qKw
 refine⟨ns,0,rfl,hns,by omega,by omega,fun bx G1 hp1 hb1 s1=>⟨bx,0,rfl,hb1,by omega,fun W G2 w hb2 k2=> ?_⟩⟩
 have hpos:=w.pos
 have hlen:=w.len
 wp_walk using 1,encW,List.length_map
 refine⟨bx,_,1000,rfl,hb2,by omega,by omega,by omega,fun ri G3 hr0 hr1 hb3 k3=> ?_⟩
 obtain⟨r,rfl⟩:∃r:Nat,ri=r:=⟨ri.toNat,by omega⟩
 have hrl:r<W.length:=by omega
 obtain⟨es,hes⟩:∃es,W[r]? =some es:=⟨_,lJi hrl⟩
 have hel:=w.deg _ _ hes
 have hr24:r<24:=by omega
 wp_walk using 1,qVc,jUi hes,encR,List.length_map
 refine⟨r,rfl,hr24,fun G4 s4 a ha=> ?_⟩
 refine⟨a,r,es.length,rfl,jJf,fun b c d G5 ch5 hb hc hd eq5=>⟨rfl,?_⟩⟩
 obtain⟨hba,hb4⟩:=jJt hb
 obtain⟨hca,hc4⟩:=jJt hc
 obtain⟨hda,hd4⟩:=jJt hd
 have s5:Sub G4 G5:=fun x u e=>by
  rw[eq5 x (jJg e ha) (jJg e hb4) (jJg e hc4) (jJg e hd4),jJh (jJg e ha)];exact e
 refine⟨r,rfl,hr24,fun G6 s6=>⟨r,es.length,rfl,fun m o n e G7 md7 hm ho hn he s7=> ?_⟩⟩
 have ch6:ChAt G6 a b c d (beg r es.length) []:=ch5.sub fun x u z _=>s6 x u z
 have ch7:ChAt G7 a b c d (beg r es.length) []:=ch6.sub fun x u z _=>s7 x u z
 have b6:BoxAt G6 bx (1000+1):=let ⟨x,y,z,e,q⟩:=hb3;⟨x,y,z,s6 _ _ (s5 _ _ (s4 _ _ e)),q⟩
 have bx6:∃u,G6 bx=some u:=let ⟨_,_,_,e,_⟩:=b6;⟨_,e⟩
 have bx4:∃u,G4 bx=some u:=let ⟨_,_,_,e,_⟩:=hb3;⟨_,s4 _ _ e⟩
 have cm7:CM W G7 a m r 0 bx:=by
  obtain⟨u6,e6⟩:=bx6
  obtain⟨u4,e4⟩:=bx4
  exact cm_beg hes hr24 (by omega) ch7 md7 (jJg ch6.mks ho) (jJg ch6.ct ho) (jJg ch6.ld he) (fun z=>by rw[z,e4] at hb4;cases hb4) (fun z=>by rw[z,e4] at hc4;cases hc4) (fun z=>by rw[z,e6] at ho;cases ho)
 wp_walk using 1,jJ1,jKv,tSl,rSlF,slR,kZ9
 intro q9 hq9
 have cm9:CM W (gup G7 q9 (.lst (cutT (jYc ns) (some 1) (some 63)))) a m r 0 bx:=cm7.sub (.new hq9)
 have hcut:(cutT (jYc ns) (some 1) (some 63)).length<=63:=by
  unfold cutT
  rw[lVf,List.length_drop,lJg];omega
 generalize hG9:gup G7 q9 (.lst (cutT (jYc ns) (some 1) (some 63)))=G9 at cm9 ⊢
 obtain⟨cN,hcN,hcN2⟩:∃cN:Nat,(if ((cutT (jYc ns) (some 1) (some 63)).length:Int)>8 then ((cutT (jYc ns) (some 1) (some 63)).length:Int) else 8)=(cN:Int)/\cN<=63:=by
  split
  ·exact⟨_,rfl,hcut⟩
  ·exact⟨8,rfl,by omega⟩
 rw[hcN]
 refine⟨by omega,by omega,?_⟩
 rw[show ((cN:Nat):Int).toNat=cN by omega,jQj]
 let J1:Nat->St3->Gp->Prop:=fun i τ G'=>∃(r:Nat) (bx:Addr) (v6 v7 v8 v9 v10:Option T),τ=[some (.scr (jYc ns)),some (.ref bx),some (.tup (W.map encR)),some (.int (r:Nat)),some (.ref a),some (.ref m),v6,v7,v8,v9,v10]/\CM W G' a m r (4*i) bx/\r<W.length
 refine⟨J1,?_,?_,?_,?_⟩
 ·exact⟨r,bx,_,_,_,_,_,rfl,cm9,hrl⟩
 ·intros;trivial
 ·intro i y τ G10 hy h_;apply xe7 h_;clear h_;intro r bx v6 v7 v8 v9 v10 h_;apply ae2 h_;clear h_;intro cm hrl
  obtain⟨i',hi',rfl⟩:=jKr hy
  obtain⟨hi,rfl⟩:=jQ1 hi'
  obtain⟨es,hes⟩:∃es,W[r]? =some es:=⟨_,lJi hrl⟩
  have hel:=w.deg _ _ hes
  wp_walk using 1,jJ1,jKv,jQq
  refine⟨ns,(i:Int)+1,rfl,hns,by omega,by omega,fun bx G11 hbx hb11 s11=> ?_⟩
  have cm11:=cm.box s11 hbx
  wp_walk using 1,jUi hes,encR,List.length_map
  obtain⟨t,ht,ht2,ht3⟩:∃t:Nat,(4*if 0<((es.length:Nat):Int) then (1:Int) else 0)=(t:Int)/\t<=4/\(0<t->0<es.length):=by
   split
   ·exact⟨4,rfl,by omega,fun _=>by omega⟩
   ·exact⟨0,rfl,by omega,fun z=>by omega⟩
  rw[ht]
  refine⟨.inl ⟨by decide,by decide⟩,by omega,by omega,?_⟩
  rw[show ((t:Nat):Int).toNat=t by omega,jQj]
  let J2:Nat->St3->Gp->Prop:=fun j τ G'=>∃(r:Nat) (v7 v8 v9 v10:Option T),τ=[some (.scr (jYc ns)),some (.ref bx),some (.tup (W.map encR)),some (.int (r:Nat)),some (.ref a),some (.ref m),some (.int (i:Nat)),v7,v8,v9,v10]/\CM W G' a m r (4*i+j) bx/\(∃es,W[r]? =some es/\(0<t->0<es.length))/\BoxAt G' bx j
  refine⟨J2,?_,?_,?_,?_⟩
  ·exact⟨r,_,_,_,_,rfl,cm11,⟨es,hes,ht3⟩,hb11⟩
  ·intros;trivial
  ·intro j y τ G12 hy h_;apply xe5 h_;clear h_;intro r v7 v8 v9 v10 h_;apply ae3 h_;clear h_;intro cm q1_ hb12
   obtain⟨es,hes,hpos⟩:=q1_
   obtain⟨j',hj',rfl⟩:=jKr hy
   obtain⟨hj,rfl⟩:=jQ1 hj'
   have hep:=hpos (by omega)
   have hel:=w.deg _ _ hes
   obtain⟨b,c,d,o,n,e,s,kvs,evs,h⟩:=id cm
   wp_walk using 1,jQq
   refine⟨jVp h.ch.obj,a,b,c,d,s,kvs,rfl,h.ch,h.ok,fun nw G13 hnw s13=> ?_⟩
   have cm13:=cm.sub s13
   have hb13:BoxAt G13 bx j:=let ⟨x,y,z,e,q⟩:=hb12;⟨x,y,z,s13 _ _ e,q⟩
   have fin:∀(dr:Nat) (v8 v10:Option T) (G14:Gp),dr<es.length->CM W G14 a m r (4*i+j) bx->BoxAt G14 bx (j+1)->jZz {nx:=J2 (j+1),rt:=Q} [some (.scr (jYc ns)),some (.ref bx),some (.tup (W.map encR)),some (.int (r:Nat)),some (.ref a),some (.ref m),some (.int (i:Nat)),some (.int (j:Nat)),v8,some (.int (dr:Nat)),v10] G14:=fun dr v8 v10 G14 hdr cm14 hb14=>
    stepT w cm14 (by omega) hb14 hes hdr fun r' es' y G' cm' hb' hes' hp'=>⟨r',_,_,_,_,rfl,cm',⟨es',hes',fun _=>hp'⟩,hb'⟩
   dsimp only
   cases nw with
   | none=>
    wp_walk using 1,optW,jUi hes,encR,List.length_map
    refine⟨bx,_,j,rfl,hb13,by omega,by omega,by omega,fun di G14 hd0 hd1 hb14 k14=> ?_⟩
    obtain⟨dr,rfl⟩:∃dr:Nat,di=dr:=⟨di.toNat,by omega⟩
    exact fin dr _ _ G14 (by omega) (cm13.keep hb13 k14) hb14
   | some v=>
    obtain⟨dr,u,rfl,hdr⟩:=qJj hnw
    have hct:=kVu h.ok h.ok.pl
    obtain⟨es1,h1,h2⟩:=h.ws _ _ h.ok.at_
    rw[h.at_,hes] at h1;cases h1
    rw[h2] at hct
    have e0:L2.atI (jJo (dr::u)) 0=some (.int (dr:Nat)):=by
     show L2.atI (jJo (dr::u)) ((0:Nat):Int)=_
     rw[atN];rfl
    wp_walk using 1,optW,e0
    exact fin dr _ _ G13 (by have:=lJq hct;omega) cm13 (let ⟨x,y,z,e,q1,q2,q3,q4,q5⟩:=hb13;⟨x,y,z,e,q1,q2,q3,q4,by omega⟩)
  ·intro τ G12 h_;apply xe5 h_;clear h_;intro r v7 v8 v9 v10 h_;apply ae3 h_;clear h_;intro cm q1_ hb12
   obtain⟨es,hes,hpos⟩:=q1_
   have hcm:∀G',CM W G' a m r (4*i+((List.range t).map fun k:Nat=>T.int (k:Nat)).length) bx->CM W G' a m r (4*(i+1)) bx:=fun G' c=>c.mono (by rw[lJg,lKw];omega)
   have hrl:=(lJe.mp hes).1
   have hlt:((List.range t).map fun k:Nat=>T.int (k:Nat)).length=t:=by rw[lJg,lKw]
   wp_walk using 1,rEqA
   refine⟨bx,2,_,rfl,hb12,by omega,by omega,by omega,fun di G13 hd0 hd1 hb13 k13=>⟨_,eqG_ii,?_⟩⟩
   have cm13:=cm.keep hb12 k13
   by_cases q:di=0
   ·rw[lJc (by simpa using q)]
    refine⟨W,bx,a,m,r,_,_,rfl,cm13,hb13,by omega,fun G14 cm14 hb14=>⟨true,rfl,?_⟩⟩
    rw[lJb (by simp)]
    exact⟨r,bx,_,_,_,_,_,rfl,hcm _ cm14,hrl⟩
   ·rw[lJb (by simpa using q)]
    exact⟨r,bx,_,_,_,_,_,rfl,hcm _ cm13,hrl⟩
 ·intro τ G10 h_;apply xe7 h_;clear h_;intro r bx v6 v7 v8 v9 v10 h_;apply ae2 h_;clear h_;intro cm hrl
  wp_walk using 1,tSeq
  obtain⟨b,c,d,o,n,e,s,kvs,evs,h⟩:=cm
  exact⟨a,b,c,d,m,o,n,e,s,kvs,evs,rfl,h.ch,h.md,h.ok,fun G11 s11=>kk G11⟩
end W
namespace W
open PySem PySem.Spec PyProof.Rows L2 L3
theorem ln1 {α:Type} {us:List α} {C:List α->Prop} (h:us.length=1) (k:∀a0,C [a0]):C us:=by
 obtain⟨a0,us,rfl⟩:=lKp h
 replace h:=lKq h
 cases lQh.mp h
 exact k a0
theorem ln2 {α:Type} {us:List α} {C:List α->Prop} (h:us.length=2) (k:∀a0 a1,C [a0,a1]):C us:=by
 obtain⟨a0,us,rfl⟩:=lKp h
 replace h:=lKq h
 obtain⟨a1,us,rfl⟩:=lKp h
 replace h:=lKq h
 cases lQh.mp h
 exact k a0 a1
theorem ln3 {α:Type} {us:List α} {C:List α->Prop} (h:us.length=3) (k:∀a0 a1 a2,C [a0,a1,a2]):C us:=by
 obtain⟨a0,us,rfl⟩:=lKp h
 replace h:=lKq h
 obtain⟨a1,us,rfl⟩:=lKp h
 replace h:=lKq h
 obtain⟨a2,us,rfl⟩:=lKp h
 replace h:=lKq h
 cases lQh.mp h
 exact k a0 a1 a2
theorem ln4 {α:Type} {us:List α} {C:List α->Prop} (h:us.length=4) (k:∀a0 a1 a2 a3,C [a0,a1,a2,a3]):C us:=by
 obtain⟨a0,us,rfl⟩:=lKp h
 replace h:=lKq h
 obtain⟨a1,us,rfl⟩:=lKp h
 replace h:=lKq h
 obtain⟨a2,us,rfl⟩:=lKp h
 replace h:=lKq h
 obtain⟨a3,us,rfl⟩:=lKp h
 replace h:=lKq h
 cases lQh.mp h
 exact k a0 a1 a2 a3
theorem ln5 {α:Type} {us:List α} {C:List α->Prop} (h:us.length=5) (k:∀a0 a1 a2 a3 a4,C [a0,a1,a2,a3,a4]):C us:=by
 obtain⟨a0,us,rfl⟩:=lKp h
 replace h:=lKq h
 obtain⟨a1,us,rfl⟩:=lKp h
 replace h:=lKq h
 obtain⟨a2,us,rfl⟩:=lKp h
 replace h:=lKq h
 obtain⟨a3,us,rfl⟩:=lKp h
 replace h:=lKq h
 obtain⟨a4,us,rfl⟩:=lKp h
 replace h:=lKq h
 cases lQh.mp h
 exact k a0 a1 a2 a3 a4
def top (i:Nat):Stmt:=PySem.Challenge.pw_stonewalker_k59_ties_forgotten.main.body.getD i (.Pass ⟨0,0,0,0⟩)
def FnAt (K:PySem.W.Frag) (mg:Str->Option Value) (x:Str) (i:Nat):Prop:=∃f fd,mg x=some (.ref f)/\Fun K x x (top i) f fd
def MeF (K:PySem.W.Frag) (C:Addr) (m q:Str) (st:Stmt):Prop:=∃f fd,Meth K C m f/\Fun K m q st f fd
def MkF (K:PySem.W.Frag) (C:Addr) (q:Str) (st:Stmt):Prop:=∃f fd,Mk K C f/\Fun K "__init__" q st f fd
structure ClT_Chart (K:PySem.W.Frag) (mg:Str->Option Value) (C:Addr):Prop where
 cn:CN K "Chart" C
 cl:Cls K C
 mg:mg "Chart"=some (.ref C)
 a_counts:NoAttr K C "counts"
 a_leads:NoAttr K C "leads"
 a_marks:NoAttr K C "marks"
 a_place:NoAttr K C "place"
 i_:MkF K C "Chart.__init__" (jQt (top 18) 0)
 m_number_of:MeF K C "number_of" "Chart.number_of" (jQt (top 18) 1)
 m_known_number:MeF K C "known_number" "Chart.known_number" (jQt (top 18) 2)
 m_refuse_clash:MeF K C "refuse_clash" "Chart.refuse_clash" (jQt (top 18) 3)
 m_went:MeF K C "went" "Chart.went" (jQt (top 18) 4)
 m_here:MeF K C "here" "Chart.here" (jQt (top 18) 5)
 m_rooms:MeF K C "rooms" "Chart.rooms" (jQt (top 18) 6)
 m_sketch:MeF K C "sketch" "Chart.sketch" (jQt (top 18) 7)
 m_open_doors:MeF K C "open_doors" "Chart.open_doors" (jQt (top 18) 8)
 m_next_way:MeF K C "next_way" "Chart.next_way" (jQt (top 18) 9)
 m_way_by:MeF K C "way_by" "Chart.way_by" (jQt (top 18) 10)
 m_forget:MeF K C "forget" "Chart.forget" (jQt (top 18) 11)
 m_whole:MeF K C "whole" "Chart.whole" (jQt (top 18) 12)
structure Txt (K:PySem.W.Frag) (mg:Str->Option Value):Prop where
 n_abs:mg "abs"=none
 n_all:mg "all"=none
 n_any:mg "any"=none
 n_dict:mg "dict"=none
 n_divmod:mg "divmod"=none
 n_enumerate:mg "enumerate"=none
 n_int:mg "int"=none
 n_isinstance:mg "isinstance"=none
 n_len:mg "len"=none
 n_list:mg "list"=none
 n_max:mg "max"=none
 n_range:mg "range"=none
 n_reversed:mg "reversed"=none
 n_tuple:mg "tuple"=none
 n_zip:mg "zip"=none
 t_WebError:∀cn,cn∈(["NoMark","NoDoor","NotWhole"]:List Str)->ExSub K mg cn "WebError" true
 i_BadRow_Clash_NoStone_NoWeb_TooMany:∀cn b,(cn,b)∈([("NoMark",false),("NoDoor",false),("NotWhole",false)]:List (Str×Bool))->IsX K mg ["BadRow","Clash","NoStone","NoWeb","TooMany"] cn b
 v_TooMany:∃v,ClsV mg "TooMany" v/\Cl1 v
 v_NoWeb:∃v,ClsV mg "NoWeb" v/\Cl1 v
 v_NoStone:∃v,ClsV mg "NoStone" v/\Cl1 v
 v_Clash:∃v,ClsV mg "Clash" v/\Cl1 v
 v_BadRow:∃v,ClsV mg "BadRow" v/\Cl1 v
 i_ValueError:∀cn b,(cn,b)∈([("NoMark",true),("NoDoor",true),("NotWhole",true)]:List (Str×Bool))->IsX K mg ["ValueError"] cn b
 v_ValueError:∃v,ClsV mg "ValueError" v/\Cl1 v
 i_NotWhole:∀cn b,(cn,b)∈([("NoMark",false),("NoDoor",false),("NotWhole",true)]:List (Str×Bool))->IsX K mg ["NotWhole"] cn b
 v_NotWhole:∃v,ClsV mg "NotWhole" v/\Cl1 v
 i_NoDoor:∀cn b,(cn,b)∈([("NoMark",false),("NoDoor",true),("NotWhole",false)]:List (Str×Bool))->IsX K mg ["NoDoor"] cn b
 v_NoDoor:∃v,ClsV mg "NoDoor" v/\Cl1 v
 i_NoMark:∀cn b,(cn,b)∈([("NoMark",true),("NoDoor",false),("NotWhole",false)]:List (Str×Bool))->IsX K mg ["NoMark"] cn b
 v_NoMark:∃v,ClsV mg "NoMark" v/\Cl1 v
 x_NoMark:ExC K mg "NoMark"
 x_NoDoor:ExC K mg "NoDoor"
 x_NotWhole:ExC K mg "NotWhole"
 k_Chart:∃C,ClT_Chart K mg C
 f_tied:FnAt K mg "tied" 11
 f_sketched:FnAt K mg "sketched" 12
 f_shut:FnAt K mg "shut" 17
 f_first_comings:FnAt K mg "first_comings" 14
 f_way_to:FnAt K mg "way_to" 15
 f_l_box:FnAt K mg "_law_box" 20
 f_l_take:FnAt K mg "_law_take" 21
 f_l_joined:FnAt K mg "_law_joined" 22
 f_l_doors_put:FnAt K mg "_law_doors_put" 23
 f_l_web:FnAt K mg "_law_web" 24
 f_l_ring:FnAt K mg "_law_ring" 25
 f_l_ends:FnAt K mg "_law_ends" 26
 f_l_reached:FnAt K mg "_law_reached" 27
 f_l_sheeted:FnAt K mg "_law_sheeted" 28
 f_l_turn:FnAt K mg "_law_turn" 29
 f_l_covered:FnAt K mg "_law_covered" 30
 f_l_any_web:FnAt K mg "_law_any_web" 31
 f_l_mark:FnAt K mg "_law_mark" 32
 f_l_begun:FnAt K mg "_law_begun" 33
 f_l_stepped:FnAt K mg "_law_stepped" 34
 f_l_sketch_due:FnAt K mg "_law_sketch_due" 35
 f_l_chart_right:FnAt K mg "_law_chart_right" 36
 f_l_forgot:FnAt K mg "_law_forgot" 37
 f_l_word:FnAt K mg "_law_word" 38
 f_l_forgets_right:FnAt K mg "_law_forgets_right" 39
 f_l_whole_right:FnAt K mg "_law_whole_right" 40
 f_law:FnAt K mg "law" 41
variable {P:Program} {w:World} {K:PySem.W.Frag} {mg:Str->Option Value} {base:Heap}
theorem cal3 {x:Str} {i k:Nat} {N ps:List Str} {sp:Sp3} {t:TS3} (F:FnAt K mg x i) (h:∀xs G Q,sp xs G Q->t {nx:=fun _ G'=>Q .non G',rt:=Q} (jQ6 N xs) G)
  (d:∀(f:Addr) (cdv:Value) (A:Around) (outer:List Env) (s:Shared) (H:Hp) (E:XK),Room k (A.deeper (envOfC x (jJn (top i)) s.heap.objs.size f cdv))->(A.deeper (envOfC x (jJn (top i)) s.heap.objs.size f cdv)).units+20<cLine->N.Nodup->PSs3 (cxOf CX0 P w K mg base N x (jJn (top i)) f cdv A outer s H E).nox (jKx (top i)) t)
  (S:FnScope N ps (jJn (top i)):=by exact⟨rfl,rfl,rfl,by decide +kernel,rfl,by decide +kernel,by decide +kernel⟩)
  (b:∀(kV doc pm:Value) (an:Option Addr) (cdv ct:Value) (us:List Value),us.length=ps.length->bindArgs (PySem.W.fnOf x x (jUl (top i)) (jKx (top i)) (jJn (top i)) .none kV doc pm an cdv ct) ⟨us,[]⟩=pure (ps.zip us):=by (intro _ _ _ _ _ _ us hl;first | (apply ln1 hl;intros;rfl) | (apply ln2 hl;intros;rfl) | (apply ln3 hl;intros;rfl) | (apply ln4 hl;intros;rfl) | (apply ln5 hl;intros;rfl)))
  (m:Mono sp:=by (intro xs G Q Q' hq;(repeat' (first | (refine Exists.imp fun _=> ?_) | (refine And.imp_right ?_)));intro k;intros;apply hq;apply k<;>assumption))
  (n:∀xs G Q,sp xs G Q->xs.length=ps.length:=by (intro xs G Q h;repeat (first | exact (lJx List.length h.1).trans rfl | obtain⟨_,h⟩:=h))):Cal P w K mg base (k+1) x ps sp:=by
 obtain⟨f,fd,a,F⟩:=F
 exact⟨⟨f,fd,fn3 F S fun cdv A outer s H E hr=>⟨t,d f cdv A outer s H E hr (qQ1 hr) S.nd,h⟩,a,F.kp,F.binds b⟩,m,n⟩
theorem jKa (T:Txt K mg):ObF K "Chart" "counts":=let ⟨C,h⟩:=T.k_Chart;⟨C,h.cn,h.cl,h.a_counts⟩
theorem jJ9 (T:Txt K mg):ObF K "Chart" "leads":=let ⟨C,h⟩:=T.k_Chart;⟨C,h.cn,h.cl,h.a_leads⟩
theorem jJ4 (T:Txt K mg):ObF K "Chart" "marks":=let ⟨C,h⟩:=T.k_Chart;⟨C,h.cn,h.cl,h.a_marks⟩
theorem jJ8 (T:Txt K mg):ObF K "Chart" "place":=let ⟨C,h⟩:=T.k_Chart;⟨C,h.cn,h.cl,h.a_place⟩
theorem kVy {cn m q:Str} {st:Stmt} {k:Nat} {N ps:List Str} {sp:Sp3} {t:TS3} (F:∃C,CN K cn C/\Cls K C/\MeF K C m q st) (h:∀xs G Q,sp xs G Q->t {nx:=fun _ G'=>Q .non G',rt:=Q} (jQ6 N xs) G)
  (d:∀(f:Addr) (cdv:Value) (A:Around) (outer:List Env) (s:Shared) (H:Hp) (E:XK),Room k (A.deeper (envOfC q (jJn st) s.heap.objs.size f cdv))->(A.deeper (envOfC q (jJn st) s.heap.objs.size f cdv)).units+20<cLine->N.Nodup->PSs3 (cxOf CX0 P w K mg base N q (jJn st) f cdv A outer s H E).nox (jKx st) t)
  (S:FnScope N ps (jJn st):=by exact⟨rfl,rfl,rfl,by decide +kernel,rfl,by decide +kernel,by decide +kernel⟩)
  (b:∀(kV doc pm:Value) (an:Option Addr) (cdv ct:Value) (us:List Value),us.length=ps.length->bindArgs (PySem.W.fnOf m q (jUl st) (jKx st) (jJn st) .none kV doc pm an cdv ct) ⟨us,[]⟩=pure (ps.zip us):=by (intro _ _ _ _ _ _ us hl;first | (apply ln1 hl;intros;rfl) | (apply ln2 hl;intros;rfl) | (apply ln3 hl;intros;rfl) | (apply ln4 hl;intros;rfl) | (apply ln5 hl;intros;rfl)))
  (mo:Mono sp:=by (intro xs G Q Q' hq;(repeat' (first | (refine Exists.imp fun _=> ?_) | (refine And.imp_right ?_)));intro k;intros;apply hq;apply k<;>assumption))
  (n:∀xs G Q,sp xs G Q->xs.length=ps.length:=by (intro xs G Q h;repeat (first | exact (lJx List.length h.1).trans rfl | obtain⟨_,h⟩:=h))):CalM P w K mg base (k+1) cn m ps sp:=by
 obtain⟨C,hC,hc,f,fd,hm,F⟩:=F
 exact⟨⟨C,f,fd,hC,hc,hm,fn3 F S fun cdv A outer s H E hr=>⟨t,d f cdv A outer s H E hr (qQ1 hr) S.nd,h⟩,F.binds b⟩,mo,n⟩
theorem calC3 {cn q:Str} {st:Stmt} {k:Nat} {N ps:List Str} {sp:Sp3} {t:TS3} (F:∃C,CN K cn C/\mg cn=some (.ref C)/\MkF K C q st) (h:∀xs G Q,sp xs G Q->t {nx:=fun _ G'=>Q .non G',rt:=Q} (jQ6 N xs) G)
  (d:∀(f:Addr) (cdv:Value) (A:Around) (outer:List Env) (s:Shared) (H:Hp) (E:XK),Room k (A.deeper (envOfC q (jJn st) s.heap.objs.size f cdv))->(A.deeper (envOfC q (jJn st) s.heap.objs.size f cdv)).units+20<cLine->N.Nodup->PSs3 (cxOf CX0 P w K mg base N q (jJn st) f cdv A outer s H E).nox (jKx st) t)
  (S:FnScope N ps (jJn st):=by exact⟨rfl,rfl,rfl,by decide +kernel,rfl,by decide +kernel,by decide +kernel⟩)
  (b:∀(kV doc pm:Value) (an:Option Addr) (cdv ct:Value) (us:List Value),us.length=ps.length->bindArgs (PySem.W.fnOf "__init__" q (jUl st) (jKx st) (jJn st) .none kV doc pm an cdv ct) ⟨us,[]⟩=pure (ps.zip us):=by (intro _ _ _ _ _ _ us hl;first | (apply ln1 hl;intros;rfl) | (apply ln2 hl;intros;rfl) | (apply ln3 hl;intros;rfl) | (apply ln4 hl;intros;rfl) | (apply ln5 hl;intros;rfl)))
  (mo:Mono sp:=by (intro xs G Q Q' hq;(repeat' (first | (refine Exists.imp fun _=> ?_) | (refine And.imp_right ?_)));intro k;intros;apply hq;apply k<;>assumption))
  (n:∀xs G Q,sp xs G Q->xs.length=ps.length:=by (intro xs G Q h;repeat (first | exact (lJx List.length h.1).trans rfl | obtain⟨_,h⟩:=h))):CalC P w K mg base (k+1) cn ps sp:=by
 obtain⟨C,hC,hc,f,fd,hm,F⟩:=F
 exact⟨⟨C,f,fd,hC,hc,hm,fn3 F S fun cdv A outer s H E hr=>⟨t,d f cdv A outer s H E hr (qQ1 hr) S.nd,h⟩,F.binds b⟩,mo,n⟩
theorem kZy {cn m q:Str} {st:Stmt} {k:Nat} {N ps:List Str} {sp:SpX} {t:XK3->TS3} (F:∃C,CN K cn C/\Cls K C/\MeF K C m q st) (h:∀xs G Q R,sp xs G Q R->t R {nx:=fun _ G'=>Q .non G',rt:=Q} (jQ6 N xs) G)
  (d:∀(f:Addr) (cdv:Value) (A:Around) (outer:List Env) (s:Shared) (H:Hp) (E:XK) (R:XK3),Room k (A.deeper (envOfC q (jJn st) s.heap.objs.size f cdv))->(A.deeper (envOfC q (jJn st) s.heap.objs.size f cdv)).units+20<cLine->N.Nodup->XR (cxOf (CXX P w) P w K mg base N q (jJn st) f cdv A outer s H E) R->PSs3 (cxOf (CXX P w) P w K mg base N q (jJn st) f cdv A outer s H E) (jKx st) (t R))
  (mo:kYt sp) (S:FnScope N ps (jJn st):=by exact⟨rfl,rfl,rfl,by decide +kernel,rfl,by decide +kernel,by decide +kernel⟩)
  (b:∀(kV doc pm:Value) (an:Option Addr) (cdv ct:Value) (us:List Value),us.length=ps.length->bindArgs (PySem.W.fnOf m q (jUl st) (jKx st) (jJn st) .none kV doc pm an cdv ct) ⟨us,[]⟩=pure (ps.zip us):=by (intro _ _ _ _ _ _ us hl;first | (apply ln1 hl;intros;rfl) | (apply ln2 hl;intros;rfl) | (apply ln3 hl;intros;rfl) | (apply ln4 hl;intros;rfl) | (apply ln5 hl;intros;rfl)))
  (n:∀xs G Q R,sp xs G Q R->xs.length=ps.length:=by (intro xs G Q R h;repeat (first | exact (lJx List.length h.1).trans rfl | obtain⟨_,h⟩:=h))):CalMX P w K mg base (k+1) cn m ps sp:=by
 obtain⟨C,hC,hc,f,fd,hm,F⟩:=F
 exact⟨⟨C,f,fd,hC,hc,hm,fnX F S fun cdv A outer s H E R hr hx=>⟨t R,d f cdv A outer s H E R hr (qQ1 hr) S.nd hx,fun xs G Q=>h xs G Q R⟩,F.binds b⟩,mo,n⟩
theorem kQ7 (T:Txt K mg):CalC P w K mg base 1 "Chart" ["self","mark","doors"] jUa:=
 calC3 (let ⟨C,h⟩:=T.k_Chart;⟨C,h.cn,h.mg,h.i_⟩) kJj fun _ _ _ _ _ _ _ hr hu nd=>
  (jJd (qJc (jJ4 T) (jJb 0) (jQo (jJa (jJb 1) jJe)))
   (jJd (qJc (jKa T) (jJb 0) (jQo (jJa (jJb 2) jJe)))
   (jJd (qJc (jJ9 T) (jJb 0) qZ5)
   (jJj (qJc (jJ8 T) (jJb 0) jJk)))))
theorem jYt (T:Txt K mg):CalM P w K mg base 1 "Chart" "number_of" ["self","mark"] jQi:=
 kVy (let ⟨C,h⟩:=T.k_Chart;⟨C,h.cn,h.cl,h.m_number_of⟩) jXs fun _ _ _ _ _ _ _ hr hu nd=>
  (jJj (jKb (jYd (jKo (kY9 hu) (jJb 1) (jQg (jJ4 T) (jJb 0)) (jJm _)) (e_bm lJ5 lXl lXm kUd (jQg (jJ4 T) (jJb 0)) (jJa (jJb 1) jJe)) (jJu jQv (by rfl) T.n_len lJy (jJa (jQg (jJ4 T) (jJb 0)) jJe)))))
theorem jQy (T:Txt K mg):CalMX P w K mg base 1 "Chart" "known_number" ["self","mark"] jJ6:=
 kZy (let ⟨C,h⟩:=T.k_Chart;⟨C,h.cn,h.cl,h.m_known_number⟩) jVi (mo:=jVq) fun _ _ _ _ _ _ _ R hr hu nd hx=>
  (jJd (s_if (jKo (jXd hu) (jJb 1) (jQg (jJ4 T) (jJb 0)) (jJm _)) (jJj (kQu hx T.x_NoMark rfl (jJa jJ7 jJe))) jKh)
   (jJj (jKb (e_bm lJ5 lXl lXm kUd (jQg (jJ4 T) (jJb 0)) (jJa (jJb 1) jJe)))))
theorem jXb (T:Txt K mg):CalM P w K mg base 1 "Chart" "refuse_clash" ["self","start","end","doors"] jK2:=
 kVy (let ⟨C,h⟩:=T.k_Chart;⟨C,h.cn,h.cl,h.m_refuse_clash⟩) jVh fun _ _ _ _ _ _ _ hr hu nd=>
  (jJd (s_if (PW3.pt (w_and (jKo o_lt (e_ix (ix_F hu) (jJb 2) jJk (fun _ _=>rfl)) (jJu jQv (by rfl) T.n_len lJy (jJa (jQg (jKa T) (jJb 0)) jJe)) (jJm _)) (qYd (jKo (qJi hr.units) (e_ix (ix_F hu) (jQg (jKa T) (jJb 0)) (e_ix (ix_F hu) (jJb 2) jJk (fun _ _=>rfl)) (fun _ _=>rfl)) (jJb 3) (jJm _))))) (jJj kQv) jKh)
   (jJd (s_if (jKo (qJi hr.units) (e_bm lQc lQl lVs (qYm hu) (jQg (jJ9 T) (jJb 0)) (jJa (jJb 1) (jJa (jJb 2) jJe))) (jJb 2) (jJm _)) (jJj kQv) jKh)
   (jJj (s_if (jKo (qJi hr.units) (e_bm lQc lQl lVs (qYm hu) (jQg (jJ9 T) (jJb 0)) (jJa (jJb 2) (jJa (jJb 1) jJe))) (jJb 1) (jJm _)) (jJj kQv) jKh))))
theorem qZg (T:Txt K mg):Cal P w K mg base 1 "tied" ["leads","start","end"] kQr:=
 cal3 T.f_tied qKu fun _ _ _ _ _ _ _ hr hu nd=>
  (jJd (jJv (i:=3) nd (jKg uJd (by rfl) T.n_dict rfl (jJa (jJb 0) jJe)))
   (jJd (jVx (jJb 2) (jXg (jJb 3) (jJb 1) (s_F hu)))
   (jJd (jVx (jJb 1) (jXg (jJb 3) (jJb 2) (s_F hu)))
   (jJj (jKb (jJb 3))))))
theorem kQ6 (T:Txt K mg):CalM P w K mg base 2 "Chart" "went" ["self","door","came","mark","doors"] jQ9:=
 kVy (let ⟨C,h⟩:=T.k_Chart;⟨C,h.cn,h.cl,h.m_went⟩) kJi fun _ _ _ _ _ _ _ hr hu nd=>
  (jJd (s_if (PW3.pt (w_or (kUz (kXg (qQf hu) o_lt jJk (jJb 1) (e_ix (ix_F hu) (jQg (jKa T) (jJb 0)) (jQg (jJ8 T) (jJb 0)) (fun _ _=>rfl)))) (qJ9 (kUz (kXg (qQf hu) o_lt jJk (jJb 2) (jJb 4)))))) (jJj kQv) jKh)
   (jJd (jJv (i:=5) nd (jKn (jJa (jQg (jJ8 T) (jJb 0)) (jJa (jJb 1) jJe))))
   (jJd (jJv (i:=6) nd (jKn (jJa (qUm (jYt T) (hr.mono (by decide)) (jJb 0) (jJa (jJb 3) jJe)) (jJa (jJb 2) jJe))))
   (jJd (jKz (qUm (jXb T) (hr.mono (by decide)) (jJb 0) (jJa (jJb 5) (jJa (jJb 6) (jJa (jJb 4) jJe)))))
   (jJd (s_if (jKo (jXd hu) (jJb 3) (jQg (jJ4 T) (jJb 0)) (jJm _)) (jJd (jKz (e_bm lJ5 lK1 lK2 jK0 (jQg (jJ4 T) (jJb 0)) (jJa (jJb 3) jJe)))
   (jJj (jKz (e_bm lJ5 lK1 lK2 jK0 (jQg (jKa T) (jJb 0)) (jJa (jJb 4) jJe))))) jKh)
   (jJd (qJc (jJ9 T) (jJb 0) (jJ0 (qZg T) (hr.mono (by decide)) (jJa (jQg (jJ9 T) (jJb 0)) (jJa (jJb 5) (jJa (jJb 6) jJe)))))
   (jJj (qJc (jJ8 T) (jJb 0) (e_ix (ix_F hu) (jJb 6) jJk (fun _ _=>rfl))))))))))
theorem kQ8 (T:Txt K mg):CalM P w K mg base 1 "Chart" "here" ["self"] jVe:=
 kVy (let ⟨C,h⟩:=T.k_Chart;⟨C,h.cn,h.cl,h.m_here⟩) kJk fun _ _ _ _ _ _ _ hr hu nd=>
  (jJj (jKb (e_ix (ix_F hu) (jQg (jJ4 T) (jJb 0)) (jQg (jJ8 T) (jJb 0)) (fun _ _=>rfl))))
theorem kKs (T:Txt K mg):CalM P w K mg base 1 "Chart" "rooms" ["self"] jUu:=
 kVy (let ⟨C,h⟩:=T.k_Chart;⟨C,h.cn,h.cl,h.m_rooms⟩) jZn fun _ _ _ _ _ _ _ hr hu nd=>
  (jJj (jKb (e_tzip rfl rfl T.n_tuple rfl T.n_zip rfl (jJa (jQg (jJ4 T) (jJb 0)) (jJa (jQg (jKa T) (jJb 0)) jJe)))))
theorem kXz (T:Txt K mg):Cal P w K mg base 1 "sketched" ["counts","leads"] jX3:=
 cal3 T.f_sketched kQz fun _ _ _ _ _ _ _ hr hu nd=>
  (jJd (jJv (i:=2) nd (jQo jJe))
   (jJd (jQr lJu rfl (kZm rfl T.n_enumerate rfl (jJa (jJb 0) jJe)) (jXt rfl (jJw (jJp (i:=3) nd) (jJw (jJp (i:=4) nd) jQ8))) (jJj (jKz (e_bm lJ5 lK1 lK2 jK0 (jJb 2) (jJa (jKg jQp (by rfl) T.n_tuple rfl (jJa (jVw (mask:=[false,false,false,false,false,true]) rfl ⟨rfl,rfl,rfl,rfl,rfl,rfl,rfl⟩ (jKk rfl T.n_range (jJa (jJb 4) jJe)) jKm (fun C fp s H=>(jJp (i:=5) nd)) (fun C fp s H=>jU9) (fun C fp s H=>(e_bm lQc lQl lVs (qQl hu) (jJb 1) (jJa (jKn (jJa (jJb 3) (jJa (jJb 5) jJe))) jJe)))) jJe)) jJe)))))
   (jJj (jKb (jKg jQp (by rfl) T.n_tuple rfl (jJa (jJb 2) jJe))))))
theorem jK7 (T:Txt K mg):CalM P w K mg base 2 "Chart" "sketch" ["self"] jKd:=
 kVy (let ⟨C,h⟩:=T.k_Chart;⟨C,h.cn,h.cl,h.m_sketch⟩) jY3 fun _ _ _ _ _ _ _ hr hu nd=>
  (jJj (jKb (jJ0 (kXz T) (hr.mono (by decide)) (jJa (jQg (jKa T) (jJb 0)) (jJa (jQg (jJ9 T) (jJb 0)) jJe)))))
theorem jQe (T:Txt K mg):CalM P w K mg base 3 "Chart" "open_doors" ["self"] jKe:=
 kVy (let ⟨C,h⟩:=T.k_Chart;⟨C,h.cn,h.cl,h.m_open_doors⟩) jV3 fun _ _ _ _ _ _ _ hr hu nd=>
  (jJd (jJv (i:=1) nd (jQo jJe))
   (jJd (jQr lJu rfl (qQz rfl T.n_enumerate rfl (jJa (jUk (jK7 T) (hr.mono (by decide)) (jJb 0)) jJe)) (jXt rfl (jJw (jJp (i:=2) nd) (jJw (jJp (i:=3) nd) jQ8))) (jJj (jKz (e_bm lJ5 PySem.F.slot_list_extend PySem.F.type_list_extend kZe (jJb 1) (jJa (jVw (mask:=[false,false,false,false,true,true]) rfl ⟨rfl,rfl,rfl,rfl,rfl,rfl,rfl⟩ (qQz rfl T.n_enumerate rfl (jJa (jJb 3) jJe)) (qQ5 (jZd jKm jVt (jZd jKm jVt qQ6 kQe) (kYb jVt kQe))) (fun C fp s H=>(jXt rfl (jJw (jJp (i:=4) nd) (jJw (jJp (i:=5) nd) jQ8)))) (fun C fp s H=>(kVl (jKo qQg (jJb 5) jUj (jJm _)))) (fun C fp s H=>(jKn (jJa (jJb 2) (jJa (jJb 4) jJe))))) jJe)))))
   (jJj (jKb (jJb 1)))))
theorem qK7 (T:Txt K mg):Cal P w K mg base 1 "shut" ["sketch"] kQs:=
 cal3 T.f_shut qKv fun _ _ _ _ _ _ _ hr hu nd=>
  (jJd (jJv (i:=1) nd (jQo jJe))
   (jJd (jQr lJu rfl (qQz rfl T.n_enumerate rfl (jJa (jJb 0) jJe)) (jXt rfl (jJw (jJp (i:=2) nd) (jJw (jJp (i:=3) nd) jQ8))) (jJj (jKz (e_bm lJ5 lK1 lK2 jK0 (jJb 1) (jJa (jKg jQp (by rfl) T.n_tuple rfl (jJa (jVw (mask:=[false,false,false,false,true,true]) rfl ⟨rfl,rfl,rfl,rfl,rfl,rfl,rfl⟩ (qQz rfl T.n_enumerate rfl (jJa (jJb 3) jJe)) (qQ5 (jZd jKm jVt (jZd jKm jVt qQ6 kQe) (kYb jVt kQe))) (fun C fp s H=>(jXt rfl (jJw (jJp (i:=4) nd) (jJw (jJp (i:=5) nd) jQ8)))) (fun C fp s H=>jU9) (fun C fp s H=>(jYd (jKo qQg (jJb 5) jUj (jJm _)) (jKn (jJa (jJb 2) (jJa (jJb 4) jJe))) (jJb 5)))) jJe)) jJe)))))
   (jJj (jKb (jKg jQp (by rfl) T.n_tuple rfl (jJa (jJb 1) jJe))))))
theorem jQ5 (T:Txt K mg):Cal P w K mg base 1 "first_comings" ["web","room"] jKu:=
 cal3 T.f_first_comings jYo fun _ _ _ _ _ _ _ hr hu nd=>
  (jJd (jJv (i:=2) nd (qUn (jJb 1) jUj))
   (jJd (jJv (i:=3) nd (jQo (jJa (jJb 1) jJe)))
   (jJd (kXj lJu (qVa kQn (jJb 3)) (jJd (jJv (i:=4) nd (jQo jJe))
   (jJd (jQr lJu rfl (jXe (jJb 3)) (jJp (i:=5) nd) (jJj (jQr lJu rfl (qQz rfl T.n_enumerate rfl (jJa (e_ix (ix_F hu) (jJb 0) (jJb 5) (fun _ _=>rfl)) jJe)) (jXt rfl (jJw (jJp (i:=6) nd) (jJw (jJp (i:=7) nd) jQ8))) (jJj (s_if (jKo (jXd hu) (e_ix (ix_F hu) (jJb 7) jJk (fun _ _=>rfl)) (jJb 2) (jJm _)) (jJd (jVx (jKn (jJa (jJb 5) (jJa (jJb 6) jJe))) (jXg (jJb 2) (e_ix (ix_F hu) (jJb 7) jJk (fun _ _=>rfl)) (s_F hu)))
   (jJj (jKz (e_bm lJ5 lK1 lK2 jK0 (jJb 4) (jJa (e_ix (ix_F hu) (jJb 7) jJk (fun _ _=>rfl)) jJe))))) jKh)))))
   (jJj (jJv (i:=3) nd (jJb 4))))))
   (jJj (jKb (jJb 2))))))
theorem kU9 (T:Txt K mg):Cal P w K mg base 2 "way_to" ["web","one","other"] jYg:=
 cal3 T.f_way_to kXm fun _ _ _ _ _ _ _ hr hu nd=>
  (jJd (jJv (i:=3) nd (jJ0 (jQ5 T) (hr.mono (by decide)) (jJa (jJb 0) (jJa (jJb 1) jJe))))
   (jJd (jJv (i:=4) nd (jQo jJe))
   (jJd (jJv (i:=5) nd (e_ix (ix_F hu) (jJb 3) (jJb 2) (fun _ _=>rfl)))
   (jJd (kXj lJu (jKo qQe (jJb 5) jUj (jJm _)) (jJd (jKz (e_bm lJ5 lK1 lK2 jK0 (jJb 4) (jJa (e_ix (ix_F hu) (jJb 5) jJk (fun _ _=>rfl)) jJe)))
   (jJj (jJv (i:=5) nd (e_ix (ix_F hu) (jJb 3) (e_ix (ix_F hu) (jJb 5) jJk (fun _ _=>rfl)) (fun _ _=>rfl))))))
   (jJj (jKb (e_trev rfl rfl T.n_tuple rfl T.n_reversed rfl (jJa (jJb 4) jJe))))))))
theorem jY8 (T:Txt K mg):CalM P w K mg base 4 "Chart" "next_way" ["self"] jK8:=
 kVy (let ⟨C,h⟩:=T.k_Chart;⟨C,h.cn,h.cl,h.m_next_way⟩) jX5 fun _ _ _ _ _ _ _ hr hu nd=>
  (jJd (jJv (i:=1) nd (jJ0 (qK7 T) (hr.mono (by decide)) (jJa (jUk (jK7 T) (hr.mono (by decide)) (jJb 0)) jJe)))
   (jJd (jJv (i:=2) nd (jUk (jQe T) (hr.mono (by decide)) (jJb 0)))
   (jJd (jQr lJu rfl (jXe (jKg (uJc rfl) (by rfl) T.n_list rfl (jJa (jJ0 (jQ5 T) (hr.mono (by decide)) (jJa (jJb 1) (jJa (jQg (jJ8 T) (jJb 0)) jJe))) jJe))) (jJp (i:=3) nd) (jJd (kK4 (i:=4) (mask:=[false,false,false,false,false,true]) rfl nd ⟨rfl,rfl,rfl,rfl,rfl,rfl,rfl⟩ (jXe (jJb 2)) jKm (fun C fp s H=>(jJp (i:=5) nd)) (fun C fp s H=>(kVl (jKo (jVy hr.units) (e_ix (ix_F hu) (jJb 5) jJk (fun _ _=>rfl)) (jJb 3) (jJm _)))) (fun C fp s H=>(e_ix (ix_F hu) (jJb 5) jJk (fun _ _=>rfl))))
   (jJj (s_if (qVa kQn (jJb 4)) (jJj (jKb (e_op o_addG (jJ0 (kU9 T) (hr.mono (by decide)) (jJa (jJb 1) (jJa (jQg (jJ8 T) (jJb 0)) (jJa (jJb 3) jJe)))) (jKn (jJa (e_ix (ix_F hu) (jJb 4) jJk (fun _ _=>rfl)) jJe))))) jKh))))
   (jJj (jKb jUj)))))
theorem kJu (T:Txt K mg):CalMX P w K mg base 3 "Chart" "way_by" ["self","mark"] jK1:=
 kZy (let ⟨C,h⟩:=T.k_Chart;⟨C,h.cn,h.cl,h.m_way_by⟩) jY2 (mo:=jZb) fun _ _ _ _ _ _ _ R hr hu nd hx=>
  (jJd (jJv (i:=2) nd (qUl hx (jQy T) (hr.mono (by decide)) (jJb 0) (jJa (jJb 1) jJe)))
   (jJd (jJv (i:=3) nd (jJ0 (qK7 T) (hr.mono (by decide)) (jJa (jUk (jK7 T) (hr.mono (by decide)) (jJb 0)) jJe)))
   (jJj (jKb (jYd (jKo (kY9 hu) (jJb 2) (jJ0 (jQ5 T) (hr.mono (by decide)) (jJa (jJb 3) (jJa (jQg (jJ8 T) (jJb 0)) jJe))) (jJm _)) (jJ0 (kU9 T) (hr.mono (by decide)) (jJa (jJb 3) (jJa (jQg (jJ8 T) (jJb 0)) (jJa (jJb 2) jJe)))) jUj)))))
theorem kJv (T:Txt K mg):CalMX P w K mg base 2 "Chart" "forget" ["self","mark","door"] jK3:=
 kZy (let ⟨C,h⟩:=T.k_Chart;⟨C,h.cn,h.cl,h.m_forget⟩) jY4 (mo:=jZc) fun _ _ _ _ _ _ _ R hr hu nd hx=>
  (jJd (jJv (i:=3) nd (jKn (jJa (qUl hx (jQy T) (hr.mono (by decide)) (jJb 0) (jJa (jJb 1) jJe)) (jJa (jJb 2) jJe))))
   (jJd (s_if (kUz (kXg (qQf hu) o_lt jJk (jJb 2) (e_ix (ix_F hu) (jQg (jKa T) (jJb 0)) (e_ix (ix_F hu) (jJb 3) jJk (fun _ _=>rfl)) (fun _ _=>rfl)))) (jJj (kQu hx T.x_NoDoor rfl (jJa jJ7 jJe))) jKh)
   (jJj (s_if (jKo (kY9 hu) (jJb 3) (jQg (jJ9 T) (jJb 0)) (jJm _)) (jJd (jJv (i:=4) nd (e_bm lQc lVp lXn (kZc hu) (jQg (jJ9 T) (jJb 0)) (jJa (jJb 3) jJe)))
   (jJj (jKz (e_bm lQc lVp lXn (kZc hu) (jQg (jJ9 T) (jJb 0)) (jJa (jJb 4) (jJa jUj jJe)))))) jKh))))
theorem kKr (T:Txt K mg):CalMX P w K mg base 4 "Chart" "whole" ["self"] jQb:=
 kZy (let ⟨C,h⟩:=T.k_Chart;⟨C,h.cn,h.cl,h.m_whole⟩) jZm (mo:=jZq) fun _ _ _ _ _ _ _ R hr hu nd hx=>
  (jJd (s_if (qVa kQn (jUk (jQe T) (hr.mono (by decide)) (jJb 0))) (jJj (kQu hx T.x_NotWhole rfl (jJa jJ7 jJe))) jKh)
   (jJj (jKb (jUk (jK7 T) (hr.mono (by decide)) (jJb 0)))))
theorem kY8 (T:Txt K mg):Cal P w K mg base 1 "_law_box" ["_law_script","_law_k"] jXi:=
 cal3 T.f_l_box qJe fun _ _ _ _ _ _ _ hr hu nd=>
  (jJd (jJv (i:=2) nd (e_ix (ix_F hu) (e_op o_addS (jJb 0) (e_op jUh (jQo (jJa jJk jJe)) (e_op o_addF (jJb 1) jJk))) (jJb 1) (fun _ _=>rfl)))
   (jJj (jKb (jQo (jJa (e_op jUh (jJu c_abs (by rfl) T.n_abs rfl (jJa (jJb 2) jJe)) (jKg c_int (by rfl) T.n_int rfl (jJa (jZr o_ge (jJu c_abs (by rfl) T.n_abs rfl (jJa (jJb 2) jJe)) (e_op o_pow jJk jJk) (jJm _)) jJe))) (jJa (e_op jY9 (e_op jUh (e_op o_addF (e_op o_addF (e_op jY9 (jJb 2) jJk) (e_op jUh jJk (jJb 1))) jJk) jJk) jJk) (jJa jJk jJe)))))))
theorem jJz (T:Txt K mg):Cal P w K mg base 1 "_law_take" ["_law_box_here","_law_many"] jJq:=
 cal3 T.f_l_take kXp fun _ _ _ _ _ _ _ hr hu nd=>
  (jJd (s_if (jKo o_gt (e_ix (ix_F hu) (jJb 0) jJk (fun _ _=>rfl)) jJk (jJm _)) (jJd (jVx (jJu qX2 (by rfl) T.n_divmod rfl (jJa (e_ix (ix_F hu) (jJb 0) jJk (fun _ _=>rfl)) (jJa (jJb 1) jJe))) (jXt rfl (jJw (jXg (jJb 0) jJk (s_F hu)) (jJw (jJp (i:=2) nd) jQ8))))
   (jJj (jKb (jJb 2)))) jKh)
   (jJd (jVx (e_op o_addF (e_ix (ix_F hu) (jJb 0) jJk (fun _ _=>rfl)) jJk) (jXg (jJb 0) jJk (s_F hu)))
   (jJd (jJv (i:=3) nd (e_op jY9 (e_op jUh (e_op o_addF (e_ix (ix_F hu) (jJb 0) jJk (fun _ _=>rfl)) (e_op jUh jJk (e_ix (ix_F hu) (jJb 0) jJk (fun _ _=>rfl)))) (e_op o_addF jJk (e_ix (ix_F hu) (jJb 0) jJk (fun _ _=>rfl)))) jJk))
   (jJd (jVx (e_op jY9 (e_op o_addF (e_op jUh (jJb 3) (e_op o_addF (e_op jY9 (jJb 3) jJk) jJk)) (e_ix (ix_F hu) (jJb 0) jJk (fun _ _=>rfl))) jJk) (jXg (jJb 0) jJk (s_F hu)))
   (jJj (jKb (e_op jY9 (e_op o_fdiv (e_op jY9 (e_op jUh (e_ix (ix_F hu) (jJb 0) jJk (fun _ _=>rfl)) (e_op o_addF (e_op jY9 (e_ix (ix_F hu) (jJb 0) jJk (fun _ _=>rfl)) jJk) jJk)) jJk) jJk) (jJb 1))))))))
theorem kX0 (T:Txt K mg):Cal P w K mg base 1 "_law_joined" ["_law_halves"] jX4:=
 cal3 T.f_l_joined kQ0 fun _ _ _ _ _ _ _ hr hu nd=>
  (jJd (jJv (i:=1) nd qZ5)
   (jJd (jQr lJu rfl (jKk rfl T.n_range (jJa (jJu jQv (by rfl) T.n_len lJy (jJa (jJb 0) jJe)) jJe)) (jJp (i:=2) nd) (jJj (jQr lJu rfl (kZm rfl T.n_enumerate rfl (jJa (e_ix (ix_F hu) (jJb 0) (jJb 2) (fun _ _=>rfl)) jJe)) (jXt rfl (jJw (jJp (i:=3) nd) (jJw (jJp (i:=4) nd) jQ8))) (jJj (jVx (jKn (jJa (jJb 2) (jJa (jJb 3) jJe))) (jXg (jJb 1) (jJb 4) (s_F hu)))))))
   (jJd (jJv (i:=5) nd (jQo jJe))
   (jJd (jQr lJu rfl (jXe (jJb 0)) (jJp (i:=6) nd) (jJj (jKz (e_bm lJ5 lK1 lK2 jK0 (jJb 5) (jJa (jKg jQp (by rfl) T.n_tuple rfl (jJa (jVw (mask:=[false,false,false,false,false,false,false,true,true]) rfl ⟨rfl,rfl,rfl,rfl,rfl,rfl,rfl⟩ (jXe (jJb 6)) (qQ5 (jZd jKm jVt (jZd jKm jVt qQ6 kQe) (kYb jVt kQe))) (fun C fp s H=>(jXt rfl (jJw (jJp (i:=7) nd) (jJw (jJp (i:=8) nd) jQ8)))) (fun C fp s H=>jU9) (fun C fp s H=>(e_ix (ix_F hu) (jJb 1) (jKn (jJa (jJb 7) (jJa (e_ix (ix_F hu) (jQo (jJa jJk (jJa jJk (jJa jJk jJe)))) (jJb 8) (fun _ _=>rfl)) jJe))) (fun _ _=>rfl)))) jJe)) jJe)))))
   (jJj (jKb (jKg jQp (by rfl) T.n_tuple rfl (jJa (jJb 5) jJe))))))))
theorem kKq (T:Txt K mg):Cal P w K mg base 2 "_law_doors_put" ["_law_box_here","_law_pairs","_law_many"] jUt:=
 cal3 T.f_l_doors_put jZl fun _ _ _ _ _ _ _ hr hu nd=>
  (jJd (kK4 (i:=3) (mask:=[false,false,false,false,false,false,false,false,true,false]) rfl nd ⟨rfl,rfl,rfl,rfl,rfl,rfl,rfl⟩ (jKk rfl T.n_range (jJa (jJb 2) jJe)) jKm (fun C fp s H=>(jJp (i:=8) nd)) (fun C fp s H=>jU9) (fun C fp s H=>(jQo jJe)))
   (jJd (jQr lJu rfl (kZm rfl T.n_enumerate rfl (jJa (jJb 1) jJe)) (jXt rfl (jJw (jJp (i:=4) nd) (jJw (jXt rfl (jJw (jJp (i:=5) nd) (jJw (jJp (i:=6) nd) jQ8))) jQ8))) (jJd (jJv (i:=7) nd (jYd (jKo (jVy hr.units) (jJb 6) (jJb 2) (jJm _)) (jQo (jJa (jKn (jJa (jJb 5) (jJa jJk jJe))) jJe)) (jQo (jJa (jKn (jJa (jJb 5) (jJa jJk jJe))) (jJa (jKn (jJa (jJb 6) (jJa jJk jJe))) jJe)))))
   (jJj (jQr lJu rfl (jXe (jJb 7)) (jXt rfl (jJw (jJp (i:=8) nd) (jJw (jJp (i:=9) nd) jQ8))) (jJj (jKz (e_bm lJ5 PySem.F.slot_list_insert PySem.F.type_list_insert kZd (e_ix (ix_F hu) (jJb 3) (jJb 8) (fun _ _=>rfl)) (jJa (jJ0 (jJz T) (hr.mono (by decide)) (jJa (jJb 0) (jJa (e_op o_addF (jJu jQv (by rfl) T.n_len lJy (jJa (e_ix (ix_F hu) (jJb 3) (jJb 8) (fun _ _=>rfl)) jJe)) jJk) jJe))) (jJa (jKn (jJa (jJb 4) (jJa (jJb 9) jJe))) jJe)))))))))
   (jJj (jKb (jJ0 (kX0 T) (hr.mono (by decide)) (jJa (jJb 3) jJe))))))
theorem kQ5 (T:Txt K mg):Cal P w K mg base 3 "_law_web" ["_law_box_here","_law_many","_law_most"] jYh:=
 cal3 T.f_l_web qJd fun _ _ _ _ _ _ _ hr hu nd=>
  (jJd (jJv (i:=3) nd (e_op jUh (jQo (jJa jJk jJe)) (jJb 1)))
   (jJd (jJv (i:=4) nd (jQo jJe))
   (jJd (jQr lJu rfl (qXk rfl T.n_range (jJa jJk (jJa (jJb 1) jJe))) (jJp (i:=5) nd) (jJd (kK4 (i:=6) (mask:=[false,false,false,false,false,false,false,false,false,false,false,true]) rfl nd ⟨rfl,rfl,rfl,rfl,rfl,rfl,rfl⟩ (jKk rfl T.n_range (jJa (jJb 5) jJe)) jKm (fun C fp s H=>(jJp (i:=11) nd)) (fun C fp s H=>(kVl (jKo o_lt (e_ix (ix_F hu) (jJb 3) (jJb 11) (fun _ _=>rfl)) (jJb 2) (jJm _)))) (fun C fp s H=>(jJb 11)))
   (jJd (jKz (e_bm lJ5 lK1 lK2 jK0 (jJb 4) (jJa (jKn (jJa (e_ix (ix_F hu) (jJb 6) (jJ0 (jJz T) (hr.mono (by decide)) (jJa (jJb 0) (jJa (jJu jQv (by rfl) T.n_len lJy (jJa (jJb 6) jJe)) jJe))) (fun _ _=>rfl)) (jJa (jJb 5) jJe))) jJe)))
   (jJj (jQr lJu rfl (jXe (e_ix (ix_F hu) (jJb 4) (e_un u_neg jJk) (fun _ _=>rfl))) (jJp (i:=7) nd) (jJj (jVx (e_op o_addF (e_ix (ix_F hu) (jJb 3) (jJb 7) (fun _ _=>rfl)) jJk) (jXg (jJb 3) (jJb 7) (s_F hu)))))))))
   (jJd (jQr lJu rfl (jKk rfl T.n_range (jJa (jJ0 (jJz T) (hr.mono (by decide)) (jJa (jJb 0) (jJa (e_op o_addF (jJb 1) jJk) jJe))) jJe)) (jJp (i:=8) nd) (jJd (jJv (i:=9) nd (jKn (jJa (jJ0 (jJz T) (hr.mono (by decide)) (jJa (jJb 0) (jJa (jJb 1) jJe))) (jJa (jJ0 (jJz T) (hr.mono (by decide)) (jJa (jJb 0) (jJa (e_op o_addF (jJb 1) jJk) jJe))) jJe))))
   (jJd (jJv (i:=10) nd (jVw (mask:=[false,false,false,false,false,false,false,true,false,false,false,false]) rfl ⟨rfl,rfl,rfl,rfl,rfl,rfl,rfl⟩ (jXe (jJb 9)) jKm (fun C fp s H=>(jJp (i:=7) nd)) (fun C fp s H=>(kVl (jKo o_lt (jJb 7) (jJb 1) (jJm _)))) (fun C fp s H=>(jJb 7))))
   (jJj (s_if (kXf (jJu (c_all rfl) (by rfl) T.n_all rfl (jJa (jVw (mask:=[false,false,false,false,false,false,false,true,false,false,false,false]) rfl ⟨rfl,rfl,rfl,rfl,rfl,rfl,rfl⟩ (jXe (jJb 10)) jKm (fun C fp s H=>(jJp (i:=7) nd)) (fun C fp s H=>jU9) (fun C fp s H=>(jZr (qQf hu) (e_op o_addF (e_ix (ix_F hu) (jJb 3) (jJb 7) (fun _ _=>rfl)) (e_bm lJ5 PySem.F.slot_list_count PySem.F.type_list_count qQm (jJb 10) (jJa (jJb 7) jJe))) (jJb 2) (jJm _)))) jJe))) (jJd (jKz (e_bm lJ5 lK1 lK2 jK0 (jJb 4) (jJa (jJb 9) jJe)))
   (jJj (jQr lJu rfl (jXe (jJb 10)) (jJp (i:=7) nd) (jJj (jVx (e_op o_addF (e_ix (ix_F hu) (jJb 3) (jJb 7) (fun _ _=>rfl)) jJk) (jXg (jJb 3) (jJb 7) (s_F hu))))))) jKh)))))
   (jJj (jKb (jJ0 (kKq T) (hr.mono (by decide)) (jJa (jJb 0) (jJa (jJb 4) (jJa (jJb 1) jJe))))))))))
theorem qK9 (T:Txt K mg):Cal P w K mg base 1 "_law_ring" ["_law_many"] kJf:=
 cal3 T.f_l_ring kXq fun _ _ _ _ _ _ _ hr hu nd=>
  (jJj (jKb (jKg jQp (by rfl) T.n_tuple rfl (jJa (jVw (mask:=[false,true]) rfl ⟨rfl,rfl,rfl,rfl,rfl,rfl,rfl⟩ (jKk rfl T.n_range (jJa (jJb 0) jJe)) jKm (fun C fp s H=>(jJp (i:=1) nd)) (fun C fp s H=>jU9) (fun C fp s H=>(jKn (jJa (jKn (jJa (e_op jY9 (e_op o_addF (jJb 1) jJk) (jJb 0)) (jJa jJk jJe))) (jJa (jKn (jJa (e_op jY9 (e_op qV0 (jJb 1) jJk) (jJb 0)) (jJa jJk jJe))) jJe))))) jJe))))
theorem kVd (T:Txt K mg):Cal P w K mg base 1 "_law_ends" ["_law_web_here"] jYi:=
 cal3 T.f_l_ends kXs fun _ _ _ _ _ _ _ hr hu nd=>
  (jJd (jJv (i:=1) nd (jQo jJe))
   (jJd (jQr lJu rfl (jKk rfl T.n_range (jJa (jJu jQv (by rfl) T.n_len lJy (jJa (jJb 0) jJe)) jJe)) (jJp (i:=2) nd) (jJj (jQr lJu rfl (jKk rfl T.n_range (jJa (jJu jQv (by rfl) T.n_len lJy (jJa (e_ix (ix_F hu) (jJb 0) (jJb 2) (fun _ _=>rfl)) jJe)) jJe)) (jJp (i:=3) nd) (jJj (s_if (jKo (qQf hu) (jKn (jJa (jJb 2) (jJa (jJb 3) jJe))) (e_ix (ix_F hu) (e_ix (ix_F hu) (jJb 0) (jJb 2) (fun _ _=>rfl)) (jJb 3) (fun _ _=>rfl)) (jJm _)) (jJj (jKz (e_bm lJ5 lK1 lK2 jK0 (jJb 1) (jJa (jKn (jJa (jKn (jJa (jJb 2) (jJa (jJb 3) jJe))) (jJa (e_ix (ix_F hu) (e_ix (ix_F hu) (jJb 0) (jJb 2) (fun _ _=>rfl)) (jJb 3) (fun _ _=>rfl)) jJe))) jJe)))) jKh)))))
   (jJj (jKb (jJb 1)))))
theorem kVc (T:Txt K mg):Cal P w K mg base 1 "_law_reached" ["_law_web_here","_law_room"] jV0:=
 cal3 T.f_l_reached kKm fun _ _ _ _ _ _ _ hr hu nd=>
  (jJd (jJv (i:=2) nd (jQo (jJa (jJb 1) jJe)))
   (jJd (jJv (i:=3) nd jJk)
   (jJd (kXj lJu (jKo o_lt (jJb 3) (jJu jQv (by rfl) T.n_len lJy (jJa (jJb 2) jJe)) (jJm _)) (jJd (jQr lJu rfl (jXe (e_ix (ix_F hu) (jJb 0) (e_ix (ix_F hu) (jJb 2) (jJb 3) (fun _ _=>rfl)) (fun _ _=>rfl))) (jXt rfl (jJw (jJp (i:=4) nd) (jJw (jJp (i:=5) nd) jQ8))) (jJj (s_if (jKo (jXd hu) (jJb 4) (jJb 2) (jJm _)) (jJj (jKz (e_bm lJ5 lK1 lK2 jK0 (jJb 2) (jJa (jJb 4) jJe)))) jKh)))
   (jJj (jJv (i:=3) nd (e_op o_addF (jJb 3) jJk)))))
   (jJj (jKb (jJb 2))))))
theorem kVb (T:Txt K mg):Cal P w K mg base 2 "_law_sheeted" ["_law_web_here","_law_turns","_law_many"] jVz:=
 cal3 T.f_l_sheeted kKl fun _ _ _ _ _ _ _ hr hu nd=>
  (jJd (kK4 (i:=3) (mask:=[false,false,false,false,false,false,false,false,false,false,true,false]) rfl nd ⟨rfl,rfl,rfl,rfl,rfl,rfl,rfl⟩ (jKk rfl T.n_range (jJa (e_op jUh (jJb 2) (jJu jQv (by rfl) T.n_len lJy (jJa (jJb 0) jJe))) jJe)) jKm (fun C fp s H=>(jJp (i:=10) nd)) (fun C fp s H=>jU9) (fun C fp s H=>(e_op jUh (jQo (jJa jUj jJe)) (jJu jQv (by rfl) T.n_len lJy (jJa (e_ix (ix_F hu) (jJb 0) (e_op jY9 (jJb 10) (jJu jQv (by rfl) T.n_len lJy (jJa (jJb 0) jJe))) (fun _ _=>rfl)) jJe)))))
   (jJd (jQr lJu rfl (kZm rfl T.n_enumerate rfl (jJa (jJ0 (kVd T) (hr.mono (by decide)) (jJa (jJb 0) jJe)) jJe)) (jXt rfl (jJw (jJp (i:=4) nd) (jJw (jXt rfl (jJw (jJp (i:=5) nd) (jJw (jJp (i:=6) nd) jQ8))) jQ8))) (jJj (jQr lJu rfl (jKk rfl T.n_range (jJa (jJb 2) jJe)) (jJp (i:=7) nd) (jJd (jJv (i:=8) nd (e_op o_addF (e_ix (ix_F hu) (jJb 5) jJk (fun _ _=>rfl)) (e_op jUh (jJb 7) (jJu jQv (by rfl) T.n_len lJy (jJa (jJb 0) jJe)))))
   (jJd (jJv (i:=9) nd (e_op o_addF (e_ix (ix_F hu) (jJb 6) jJk (fun _ _=>rfl)) (e_op jUh (e_ix (ix_F hu) (e_ix (ix_F hu) (jJb 1) (jJb 4) (fun _ _=>rfl)) (jJb 7) (fun _ _=>rfl)) (jJu jQv (by rfl) T.n_len lJy (jJa (jJb 0) jJe)))))
   (jJd (jVx (jKn (jJa (jJb 9) (jJa (e_ix (ix_F hu) (jJb 6) jJk (fun _ _=>rfl)) jJe))) (jXg (e_ix (ix_F hu) (jJb 3) (jJb 8) (fun _ _=>rfl)) (e_ix (ix_F hu) (jJb 5) jJk (fun _ _=>rfl)) (s_F hu)))
   (jJj (jVx (jKn (jJa (jJb 8) (jJa (e_ix (ix_F hu) (jJb 5) jJk (fun _ _=>rfl)) jJe))) (jXg (e_ix (ix_F hu) (jJb 3) (jJb 9) (fun _ _=>rfl)) (e_ix (ix_F hu) (jJb 6) jJk (fun _ _=>rfl)) (s_F hu))))))))))
   (jJj (jKb (jKg jQp (by rfl) T.n_tuple rfl (jJa (jVw (mask:=[false,false,false,false,false,false,false,false,false,false,false,true]) rfl ⟨rfl,rfl,rfl,rfl,rfl,rfl,rfl⟩ (jXe (jJb 3)) jKm (fun C fp s H=>(jJp (i:=11) nd)) (fun C fp s H=>jU9) (fun C fp s H=>(jKg jQp (by rfl) T.n_tuple rfl (jJa (jJb 11) jJe)))) jJe))))))
theorem qK8 (T:Txt K mg):Cal P w K mg base 2 "_law_turn" ["_law_box_here","_law_many","_law_own"] kJe:=
 cal3 T.f_l_turn kXo fun _ _ _ _ _ _ _ hr hu nd=>
  (jJd (jJv (i:=3) nd (jQo jJe))
   (jJd (jQr lJu rfl (jKk rfl T.n_range (jJa (jJb 1) jJe)) (jJp (i:=4) nd) (jJj (jKz (e_bm lJ5 PySem.F.slot_list_insert PySem.F.type_list_insert kZd (jJb 3) (jJa (jJ0 (jJz T) (hr.mono (by decide)) (jJa (jJb 0) (jJa (e_op o_addF (jJb 4) jJk) jJe))) (jJa (jJb 4) jJe))))))
   (jJd (s_if (kUz (qVa kQn (jJb 2))) (jJj (jKb (jKg jQp (by rfl) T.n_tuple rfl (jJa (jJb 3) jJe)))) jKh)
   (jJd (jJv (i:=5) nd (kYg rfl T.n_list rfl T.n_range rfl (jJa (jJb 1) jJe)))
   (jJd (jQr lJu rfl (qXj rfl T.n_range (jJa jJk (jJa (e_op qV0 (jJb 1) jJk) (jJa jJk jJe)))) (jJp (i:=4) nd) (jJd (s_par (i:=6) (j:=7) rfl nd (by decide) (jJa (e_ix (ix_F hu) (jJb 3) (jJb 4) (fun _ _=>rfl)) (jJa (e_ix (ix_F hu) (jJb 3) (e_op o_addF (jJb 4) jJk) (fun _ _=>rfl)) jJe)))
   (jJd (jVx (jJb 7) (jXg (jJb 5) (jJb 6) (s_F hu)))
   (jJj (jVx (jJb 6) (jXg (jJb 5) (jJb 7) (s_F hu)))))))
   (jJj (jKb (jKg jQp (by rfl) T.n_tuple rfl (jJa (jJb 5) jJe)))))))))
theorem kVe (T:Txt K mg):Cal P w K mg base 3 "_law_covered" ["_law_box_here","_law_web_here","_law_many"] jV1:=
 cal3 T.f_l_covered kKn fun _ _ _ _ _ _ _ hr hu nd=>
  (jJd (jQr lJu rfl (jKk rfl T.n_range (jJa jJk jJe)) (jJp (i:=3) nd) (jJd (kK4 (i:=4) (mask:=[false,false,false,false,false,false,true]) rfl nd ⟨rfl,rfl,rfl,rfl,rfl,rfl,rfl⟩ (jXe (jJ0 (kVd T) (hr.mono (by decide)) (jJa (jJb 1) jJe))) jKm (fun C fp s H=>(jJp (i:=6) nd)) (fun C fp s H=>jU9) (fun C fp s H=>(jJ0 (qK8 T) (hr.mono (by decide)) (jJa (jJb 0) (jJa (jJb 2) (jJa (jZr (jVy hr.units) (e_ix (ix_F hu) (jJb 6) jJk (fun _ _=>rfl)) (e_ix (ix_F hu) (jJb 6) jJk (fun _ _=>rfl)) (jJm _)) jJe))))))
   (jJd (jJv (i:=5) nd (jJ0 (kVb T) (hr.mono (by decide)) (jJa (jJb 1) (jJa (jJb 4) (jJa (jJb 2) jJe)))))
   (jJj (s_if (jKo (jVy hr.units) (jJu jQv (by rfl) T.n_len lJy (jJa (jJ0 (kVc T) (hr.mono (by decide)) (jJa (jJb 5) (jJa jJk jJe))) jJe)) (jJu jQv (by rfl) T.n_len lJy (jJa (jJb 5) jJe)) (jJm _)) (jJj (jKb (jJb 5))) jKh)))))
   (jJj (jKb (jJb 1))))
theorem kVf (T:Txt K mg):Cal P w K mg base 4 "_law_any_web" ["_law_box_here"] jUo:=
 cal3 T.f_l_any_web kKo fun _ _ _ _ _ _ _ hr hu nd=>
  (jJd (jJv (i:=1) nd (jJ0 (jJz T) (hr.mono (by decide)) (jJa (jJb 0) (jJa jJk jJe))))
   (jJd (s_if (jKo (jVy hr.units) (jJb 1) jJk (jJm _)) (jJj (jKb (jJ0 (kQ5 T) (hr.mono (by decide)) (jJa (jJb 0) (jJa (e_op o_addF jJk (jJ0 (jJz T) (hr.mono (by decide)) (jJa (jJb 0) (jJa jJk jJe)))) (jJa (e_op o_addF jJk (jJ0 (jJz T) (hr.mono (by decide)) (jJa (jJb 0) (jJa jJk jJe)))) jJe)))))) jKh)
   (jJd (s_if (jKo o_lt (jJb 1) jJk (jJm _)) (jJj (jKb (jJ0 (kQ5 T) (hr.mono (by decide)) (jJa (jJb 0) (jJa (e_op o_addF jJk (jJ0 (jJz T) (hr.mono (by decide)) (jJa (jJb 0) (jJa jJk jJe)))) (jJa (e_op o_addF jJk (jJ0 (jJz T) (hr.mono (by decide)) (jJa (jJb 0) (jJa jJk jJe)))) jJe)))))) jKh)
   (jJd (s_if (jKo (jVy hr.units) (jJb 1) jJk (jJm _)) (jJj (jKb (jJ0 (qK9 T) (hr.mono (by decide)) (jJa (e_op o_addF jJk (jJ0 (jJz T) (hr.mono (by decide)) (jJa (jJb 0) (jJa jJk jJe)))) jJe)))) jKh)
   (jJd (jJv (i:=2) nd (jJ0 (kQ5 T) (hr.mono (by decide)) (jJa (jJb 0) (jJa (e_op o_addF jJk (jJ0 (jJz T) (hr.mono (by decide)) (jJa (jJb 0) (jJa jJk jJe)))) (jJa (e_op o_addF jJk (jJ0 (jJz T) (hr.mono (by decide)) (jJa (jJb 0) (jJa jJk jJe)))) jJe)))))
   (jJd (jJv (i:=3) nd (e_op o_addF jJk (jJ0 (jJz T) (hr.mono (by decide)) (jJa (jJb 0) (jJa (e_ix (ix_F hu) (jQo (jJa jJk (jJa jJk (jJa jJk (jJa jJk jJe))))) (e_op qV0 (jJu jQv (by rfl) T.n_len lJy (jJa (jJb 2) jJe)) jJk) (fun _ _=>rfl)) jJe)))))
   (jJj (jKb (jJ0 (kVe T) (hr.mono (by decide)) (jJa (jJb 0) (jJa (jJb 2) (jJa (jJb 3) jJe))))))))))))
theorem jYr (T:Txt K mg):Cal P w K mg base 1 "_law_mark" ["_law_room"] jQa:=
 cal3 T.f_l_mark kXr fun _ _ _ _ _ _ _ hr hu nd=>
  (jJd (jJv (i:=1) nd (e_ix ix_S jJ7 (e_op jY9 (e_op o_addF (e_op jUh (jJb 0) jJk) jJk) jJk) (fun _ _=>rfl)))
   (jJj (jKb (e_op o_mulS (jJb 1) (e_ix (ix_F hu) (jQo (jJa jJk (jJa jJk (jJa jJk (jJa jJk (jJa jJk jJe)))))) (e_op jY9 (jJb 0) jJk) (fun _ _=>rfl))))))
theorem qJh (T:Txt K mg):Cal P w K mg base 1 "_law_begun" ["_law_mark_here","_law_doors"] jXj:=
 cal3 T.f_l_begun kU4 fun _ _ _ _ _ _ _ hr hu nd=>
  (jJj (jKb (qZ4 jJ7 (jQo (jJa (jJb 0) jJe)) jJ7 (qUn (jJb 0) (jJb 1)) jJ7 qZ5 jJ7 (jJb 0))))
theorem kVa (T:Txt K mg):Cal P w K mg base 1 "_law_stepped" ["_law_model","_law_door","_law_came","_law_mark_here","_law_doors"] jUn:=
 cal3 T.f_l_stepped kKk fun _ _ _ _ _ _ _ hr hu nd=>
  (jJd (s_if (jKo (jXd hu) (jJb 3) (e_ix (ix_F hu) (jJb 0) jJ7 (fun _ _=>rfl)) (jJm _)) (jJd (jKz (e_bm lJ5 lK1 lK2 jK0 (e_ix (ix_F hu) (jJb 0) jJ7 (fun _ _=>rfl)) (jJa (jJb 3) jJe)))
   (jJj (jVx (jJb 4) (jXg (e_ix (ix_F hu) (jJb 0) jJ7 (fun _ _=>rfl)) (jJb 3) (s_F hu))))) jKh)
   (jJd (jVx (jKn (jJa (jJb 3) (jJa (jJb 2) jJe))) (jXg (e_ix (ix_F hu) (jJb 0) jJ7 (fun _ _=>rfl)) (jKn (jJa (e_ix (ix_F hu) (jJb 0) jJ7 (fun _ _=>rfl)) (jJa (jJb 1) jJe))) (s_F hu)))
   (jJd (jVx (jKn (jJa (e_ix (ix_F hu) (jJb 0) jJ7 (fun _ _=>rfl)) (jJa (jJb 1) jJe))) (jXg (e_ix (ix_F hu) (jJb 0) jJ7 (fun _ _=>rfl)) (jKn (jJa (jJb 3) (jJa (jJb 2) jJe))) (s_F hu)))
   (jJj (jVx (jJb 3) (jXg (jJb 0) jJ7 (s_F hu)))))))
theorem jXa (T:Txt K mg):Cal P w K mg base 1 "_law_sketch_due" ["_law_model"] jQh:=
 cal3 T.f_l_sketch_due jY1 fun _ _ _ _ _ _ _ hr hu nd=>
  (jJd (jJv (i:=1) nd (jQo jJe))
   (jJd (jQr lJu rfl (jXe (e_ix (ix_F hu) (jJb 0) jJ7 (fun _ _=>rfl))) (jJp (i:=2) nd) (jJd (kK4 (i:=3) (mask:=[false,false,false,false,true,false]) rfl nd ⟨rfl,rfl,rfl,rfl,rfl,rfl,rfl⟩ (jKk rfl T.n_range (jJa (e_ix (ix_F hu) (e_ix (ix_F hu) (jJb 0) jJ7 (fun _ _=>rfl)) (jJb 2) (fun _ _=>rfl)) jJe)) jKm (fun C fp s H=>(jJp (i:=4) nd)) (fun C fp s H=>jU9) (fun C fp s H=>(e_bm lQc lQl lVs (qQl hu) (e_ix (ix_F hu) (jJb 0) jJ7 (fun _ _=>rfl)) (jJa (jKn (jJa (jJb 2) (jJa (jJb 4) jJe))) jJe))))
   (jJj (jKz (e_bm lJ5 lK1 lK2 jK0 (jJb 1) (jJa (jKg jQp (by rfl) T.n_tuple rfl (jJa (jVw (mask:=[false,false,false,false,false,true]) rfl ⟨rfl,rfl,rfl,rfl,rfl,rfl,rfl⟩ (jXe (jJb 3)) jKm (fun C fp s H=>(jJp (i:=5) nd)) (fun C fp s H=>jU9) (fun C fp s H=>(jYd (jKo qQg (jJb 5) jUj (jJm _)) jUj (jKn (jJa (e_bm lJ5 lXl lXm kUd (e_ix (ix_F hu) (jJb 0) jJ7 (fun _ _=>rfl)) (jJa (e_ix (ix_F hu) (jJb 5) jJk (fun _ _=>rfl)) jJe)) (jJa (e_ix (ix_F hu) (jJb 5) jJk (fun _ _=>rfl)) jJe)))))) jJe)) jJe))))))
   (jJj (jKb (jKg jQp (by rfl) T.n_tuple rfl (jJa (jJb 1) jJe))))))
theorem jZp (T:Txt K mg):Cal P w K mg base 4 "_law_chart_right" ["_law_chart","_law_model"] jQc:=
 cal3 T.f_l_chart_right jYn fun _ _ _ _ _ _ _ hr hu nd=>
  (jJd (jJv (i:=2) nd (jKg jQp (by rfl) T.n_tuple rfl (jJa (jVw (mask:=[false,false,false,false,false,false,true,false]) rfl ⟨rfl,rfl,rfl,rfl,rfl,rfl,rfl⟩ (jXe (e_ix (ix_F hu) (jJb 1) jJ7 (fun _ _=>rfl))) jKm (fun C fp s H=>(jJp (i:=6) nd)) (fun C fp s H=>jU9) (fun C fp s H=>(jKn (jJa (jJb 6) (jJa (e_ix (ix_F hu) (e_ix (ix_F hu) (jJb 1) jJ7 (fun _ _=>rfl)) (jJb 6) (fun _ _=>rfl)) jJe))))) jJe)))
   (jJd (s_if (PW3.pt (w_or (jKo (qJi hr.units) (jUk (kQ8 T) (hr.mono (by decide)) (jJb 0)) (e_ix (ix_F hu) (jJb 1) jJ7 (fun _ _=>rfl)) (jJm _)) (qJ9 (jKo (qJi hr.units) (jUk (kKs T) (hr.mono (by decide)) (jJb 0)) (jJb 2) (jJm _))))) (jJj (jKb e_bl)) jKh)
   (jJd (jJv (i:=3) nd (jJ0 (jXa T) (hr.mono (by decide)) (jJa (jJb 1) jJe)))
   (jJd (jJv (i:=4) nd (jQo jJe))
   (jJd (jQr lJu rfl (jKk rfl T.n_range (jJa (jJu jQv (by rfl) T.n_len lJy (jJa (jJb 3) jJe)) jJe)) (jJp (i:=5) nd) (jJj (jKz (e_bm lJ5 PySem.F.slot_list_extend PySem.F.type_list_extend kZe (jJb 4) (jJa (jVw (mask:=[false,false,false,false,false,false,false,true]) rfl ⟨rfl,rfl,rfl,rfl,rfl,rfl,rfl⟩ (jKk rfl T.n_range (jJa (jJu jQv (by rfl) T.n_len lJy (jJa (e_ix (ix_F hu) (jJb 3) (jJb 5) (fun _ _=>rfl)) jJe)) jJe)) jKm (fun C fp s H=>(jJp (i:=7) nd)) (fun C fp s H=>(kVl (jKo qQg (e_ix (ix_F hu) (e_ix (ix_F hu) (jJb 3) (jJb 5) (fun _ _=>rfl)) (jJb 7) (fun _ _=>rfl)) jUj (jJm _)))) (fun C fp s H=>(jKn (jJa (jJb 5) (jJa (jJb 7) jJe))))) jJe)))))
   (jJj (jKb (e_and (jZr (jVy hr.units) (jUk (jK7 T) (hr.mono (by decide)) (jJb 0)) (jJb 3) (jJm _)) (e_one (jZr (jVy hr.units) (jUk (jQe T) (hr.mono (by decide)) (jJb 0)) (jJb 4) (jJm _)))))))))))
theorem kX1 (T:Txt K mg):Cal P w K mg base 1 "_law_forgot" ["_law_model","_law_mark_here","_law_door"] jVd:=
 cal3 T.f_l_forgot kQ1 fun _ _ _ _ _ _ _ hr hu nd=>
  (jJd (jJv (i:=3) nd (e_bm lQc lQl lVs (qQl hu) (e_ix (ix_F hu) (jJb 0) jJ7 (fun _ _=>rfl)) (jJa (jKn (jJa (jJb 1) (jJa (jJb 2) jJe))) jJe)))
   (jJj (s_if (jKo qQe (jJb 3) jUj (jJm _)) (jJd (jKz (e_bm lQc lVp lXn (kZc hu) (e_ix (ix_F hu) (jJb 0) jJ7 (fun _ _=>rfl)) (jJa (jKn (jJa (jJb 1) (jJa (jJb 2) jJe))) jJe)))
   (jJj (s_if (jKo (kY9 hu) (jJb 3) (e_ix (ix_F hu) (jJb 0) jJ7 (fun _ _=>rfl)) (jJm _)) (jJj (jKz (e_bm lQc lVp lXn (kZc hu) (e_ix (ix_F hu) (jJb 0) jJ7 (fun _ _=>rfl)) (jJa (jJb 3) jJe)))) jKh))) jKh)))
theorem jYq (T:Txt K mg):Cal P w K mg base 5 "_law_word" ["_law_chart","_law_word_here","_law_mark_here","_law_door"] jQx:=
 cal3 T.f_l_word kXn fun _ _ _ _ _ _ _ hr hu nd=>
  (jJd (jJv (i:=4) nd jUj)
   (jJd (jJv (i:=5) nd jUj)
   (jJd (s_try (i:=6) (cs:=["NoMark","NoDoor","NotWhole"]) (fun _ _ h=>h) nd (kJd (sx_if (fun _ _ h=>h) (jKo (jVy hr.units) (jJb 1) jJ7 (jJm _)) (kJd (qKj (qUd (fun _ _ h=>h) (kJv T) (hr.mono (by decide)) (jJb 0) (jJa (jJb 2) (jJa (jJb 3) jJe))))) (kJd (sx_if (fun _ _ h=>h) (jKo (jVy hr.units) (jJb 1) jJ7 (jJm _)) (kJd (qKj (qUd (fun _ _ h=>h) (kJu T) (hr.mono (by decide)) (jJb 0) (jJa (jJb 2) jJe)))) (kJd (sx_set (i:=4) nd (qXs (fun _ _ h=>h) (kKr T) (hr.mono (by decide)) (jJb 0)))))))) (fun a=>(jJj (jJv (i:=5) nd (jJb 6)))) T.t_WebError)
   (jJd (s_if (jKo qQg (jJb 5) jUj (jJm _)) (jJj (jKb (jKn (jJa jJ7 (jJa (jJb 4) jJe))))) jKh)
   (jJd (s_if (PW3.pt (w_or (kXf (e_isiT (rel:=[("NoMark",false),("NoDoor",false),("NotWhole",false)]) T.i_BadRow_Clash_NoStone_NoWeb_TooMany (NmL.cons T.v_BadRow (NmL.cons T.v_Clash (NmL.cons T.v_NoStone (NmL.cons T.v_NoWeb (NmL.cons T.v_TooMany NmL.nil))))) (by decide) (jJb 5) T.n_isinstance)) (qJ9 (kUz (kXf (kZv (rel:=[("NoMark",true),("NoDoor",true),("NotWhole",true)]) T.i_ValueError T.v_ValueError (jJb 5) T.n_isinstance)))))) (jJj (jKb (jKn (jJa jJ7 (jJa jUj jJe))))) jKh)
   (jJd (jJv (i:=7) nd (jQo (jJa (kZv (rel:=[("NoMark",true),("NoDoor",false),("NotWhole",false)]) T.i_NoMark T.v_NoMark (jJb 5) T.n_isinstance) (jJa (kZv (rel:=[("NoMark",false),("NoDoor",true),("NotWhole",false)]) T.i_NoDoor T.v_NoDoor (jJb 5) T.n_isinstance) (jJa (kZv (rel:=[("NoMark",false),("NoDoor",false),("NotWhole",true)]) T.i_NotWhole T.v_NotWhole (jJb 5) T.n_isinstance) jJe)))))
   (jJj (jKb (jKn (jJa (jYd (jKo (jVy hr.units) (e_bm lJ5 PySem.F.slot_list_count PySem.F.type_list_count qQm (jJb 7) (jJa e_bl jJe)) jJk (jJm _)) (e_ix (ix_F hu) (jQo (jJa jJ7 (jJa jJ7 (jJa jJ7 jJe)))) (e_bm lJ5 lXl lXm kUd (jJb 7) (jJa e_bl jJe)) (fun _ _=>rfl)) jJ7) (jJa jUj jJe)))))))))))
theorem jYs (T:Txt K mg):Cal P w K mg base 6 "_law_forgets_right" ["_law_box_here","_law_chart","_law_model"] jKy:=
 cal3 T.f_l_forgets_right jXr fun _ _ _ _ _ _ _ hr hu nd=>
  (jJd (jJv (i:=3) nd (e_ix (ix_F hu) (e_op o_addF (e_ix (ix_F hu) (jJb 2) jJ7 (fun _ _=>rfl)) (jQo (jJa jJ7 jJe))) (jJ0 (jJz T) (hr.mono (by decide)) (jJa (jJb 0) (jJa (e_op o_addF (jJu jQv (by rfl) T.n_len lJy (jJa (e_ix (ix_F hu) (jJb 2) jJ7 (fun _ _=>rfl)) jJe)) jJk) jJe))) (fun _ _=>rfl)))
   (jJd (jJv (i:=4) nd (e_bm lQc lQl lVs m_getK (e_ix (ix_F hu) (jJb 2) jJ7 (fun _ _=>rfl)) (jJa (jJb 3) (jJa jJk jJe))))
   (jJd (jJv (i:=5) nd (e_op qV0 (jJ0 (jJz T) (hr.mono (by decide)) (jJa (jJb 0) (jJa (e_op o_addF (jJb 4) jJk) jJe))) jJk))
   (jJd (jJv (i:=6) nd (jKn (jJa jJ7 (jJa jUj jJe))))
   (jJd (s_if (jKo (jVy hr.units) (jJb 3) jJ7 (jJm _)) (jJj (jJv (i:=6) nd (jKn (jJa jJ7 (jJa jUj jJe))))) (jJj (s_if (PW3.pt (w_or (jKo o_lt (jJb 5) jJk (jJm _)) (qJ9 (jKo o_ge (jJb 5) (jJb 4) (jJm _))))) (jJj (jJv (i:=6) nd (jKn (jJa jJ7 (jJa jUj jJe))))) (jJj (jKz (jJ0 (kX1 T) (hr.mono (by decide)) (jJa (jJb 2) (jJa (jJb 3) (jJa (jJb 5) jJe)))))))))
   (jJd (s_if (PW3.pt (w_or (jKo (qJi hr.units) (jJ0 (jYq T) (hr.mono (by decide)) (jJa (jJb 1) (jJa jJ7 (jJa (jJb 3) (jJa (jJb 5) jJe))))) (jJb 6) (jJm _)) (qJ9 (kUz (kXf (jJ0 (jZp T) (hr.mono (by decide)) (jJa (jJb 1) (jJa (jJb 2) jJe)))))))) (jJj (jKb e_bl)) jKh)
   (jJj (jKb (jZr (jVy hr.units) (jZr (jVy hr.units) (e_ix (ix_F hu) (jJ0 (jYq T) (hr.mono (by decide)) (jJa (jJb 1) (jJa jJ7 (jJa (jJb 3) (jJa jJk jJe))))) jJk (fun _ _=>rfl)) jJ7 (jJm _)) (jZr (jVy hr.units) (jJb 3) jJ7 (jJm _)) (jJm _))))))))))
theorem jVv (T:Txt K mg):Cal P w K mg base 6 "_law_whole_right" ["_law_chart","_law_model"] jKj:=
 cal3 T.f_l_whole_right jYm fun _ _ _ _ _ _ _ hr hu nd=>
  (jJd (jJv (i:=2) nd (jJ0 (jXa T) (hr.mono (by decide)) (jJa (jJb 1) jJe)))
   (jJd (s_if (kXf (jJu (c_any rfl) (by rfl) T.n_any rfl (jJa (jVw (mask:=[false,false,false,true]) rfl ⟨rfl,rfl,rfl,rfl,rfl,rfl,rfl⟩ (jXe (jJb 2)) jKm (fun C fp s H=>(jJp (i:=3) nd)) (fun C fp s H=>jU9) (fun C fp s H=>(jZr (o_inU hr.units) jUj (jJb 3) (jJm _)))) jJe))) (jJj (jKb (jZr (jVy hr.units) (jJ0 (jYq T) (hr.mono (by decide)) (jJa (jJb 0) (jJa jJ7 (jJa jJ7 (jJa jJk jJe))))) (jKn (jJa jJ7 (jJa jUj jJe))) (jJm _)))) jKh)
   (jJj (jKb (jZr (jVy hr.units) (jJ0 (jYq T) (hr.mono (by decide)) (jJa (jJb 0) (jJa jJ7 (jJa jJ7 (jJa jJk jJe))))) (jKn (jJa jJ7 (jJa (jJb 2) jJe))) (jJm _))))))
theorem ok_law (T:Txt K mg) {f:Addr} {fd:FuncData} (F:Fun K "law" "law" (top 41) f fd):Fn3 P w K mg base 7 f fd ["_law_script"] qKm:=by
 have S:FnScope N_law ["_law_script"] (jJn (top 41)):=⟨rfl,rfl,rfl,by decide +kernel,rfl,by decide +kernel,by decide +kernel⟩
 refine fn3 F S fun cdv A outer s H E hr=>⟨kY3,?_,qVq⟩
 have hu:=qQ1 hr
 have nd:=S.nd
 exact (jJd (jJv (i:=1) nd (jJ0 (kY8 T) (hr.mono (by decide)) (jJa (jJb 0) (jJa jJk jJe))))
   (jJd (jJv (i:=2) nd (jJ0 (kVf T) (hr.mono (by decide)) (jJa (jJb 1) jJe)))
   (jJd (jJv (i:=3) nd (jJ0 (jJz T) (hr.mono (by decide)) (jJa (jJb 1) (jJa (jJu jQv (by rfl) T.n_len lJy (jJa (jJb 2) jJe)) jJe))))
   (jJd (jJv (i:=4) nd (e_make (kQ7 T) (hr.mono (by decide)) (jJa (jJ0 (jYr T) (hr.mono (by decide)) (jJa (jJb 3) jJe)) (jJa (jJu jQv (by rfl) T.n_len lJy (jJa (e_ix (ix_F hu) (jJb 2) (jJb 3) (fun _ _=>rfl)) jJe)) jJe))))
   (jJd (jJv (i:=5) nd (jJ0 (qJh T) (hr.mono (by decide)) (jJa (jJ0 (jYr T) (hr.mono (by decide)) (jJa (jJb 3) jJe)) (jJa (jJu jQv (by rfl) T.n_len lJy (jJa (e_ix (ix_F hu) (jJb 2) (jJb 3) (fun _ _=>rfl)) jJe)) jJe))))
   (jJd (jQr lJu rfl (jKk rfl T.n_range (jJa (jJu (c_max rfl) (by rfl) T.n_max rfl (jJa jJk (jJa (jJu jQv (by rfl) T.n_len lJy (jJa (qZ3 sl_F (jJb 0) (qYi jJk) (qYi jJk)) jJe)) jJe))) jJe)) (jJp (i:=6) nd) (jJd (jJv (i:=1) nd (jJ0 (kY8 T) (hr.mono (by decide)) (jJa (jJb 0) (jJa (e_op o_addF (jJb 6) jJk) jJe))))
   (jJd (jQr lJu rfl (jKk rfl T.n_range (jJa (e_op jUh jJk (jKg c_int (by rfl) T.n_int rfl (jJa (jZr o_gt (jJu jQv (by rfl) T.n_len lJy (jJa (e_ix (ix_F hu) (jJb 2) (jJb 3) (fun _ _=>rfl)) jJe)) jJk (jJm _)) jJe))) jJe)) (jJp (i:=7) nd) (jJd (jJv (i:=8) nd (jUk (jY8 T) (hr.mono (by decide)) (jJb 4)))
   (jJd (jJv (i:=9) nd (jYd (jKo qQe (jJb 8) jUj (jJm _)) (e_ix (ix_F hu) (jJb 8) jJk (fun _ _=>rfl)) (jJ0 (jJz T) (hr.mono (by decide)) (jJa (jJb 1) (jJa (jJu jQv (by rfl) T.n_len lJy (jJa (e_ix (ix_F hu) (jJb 2) (jJb 3) (fun _ _=>rfl)) jJe)) jJe)))))
   (jJd (jVx (e_ix (ix_F hu) (e_ix (ix_F hu) (jJb 2) (jJb 3) (fun _ _=>rfl)) (jJb 9) (fun _ _=>rfl)) (jXt rfl (jJw (jJp (i:=3) nd) (jJw (jJp (i:=10) nd) jQ8))))
   (jJd (jKz (qUm (kQ6 T) (hr.mono (by decide)) (jJb 4) (jJa (jJb 9) (jJa (jJb 10) (jJa (jJ0 (jYr T) (hr.mono (by decide)) (jJa (jJb 3) jJe)) (jJa (jJu jQv (by rfl) T.n_len lJy (jJa (e_ix (ix_F hu) (jJb 2) (jJb 3) (fun _ _=>rfl)) jJe)) jJe))))))
   (jJd (jKz (jJ0 (kVa T) (hr.mono (by decide)) (jJa (jJb 5) (jJa (jJb 9) (jJa (jJb 10) (jJa (jJ0 (jYr T) (hr.mono (by decide)) (jJa (jJb 3) jJe)) (jJa (jJu jQv (by rfl) T.n_len lJy (jJa (e_ix (ix_F hu) (jJb 2) (jJb 3) (fun _ _=>rfl)) jJe)) jJe)))))))
   (jJj (s_if (kUz (kXf (jJ0 (jVv T) (hr.mono (by decide)) (jJa (jJb 4) (jJa (jJb 5) jJe))))) (jJj (jKb e_bl)) jKh))))))))
   (jJj (s_if (PW3.pt (w_and (jKo (jVy hr.units) (jJ0 (jJz T) (hr.mono (by decide)) (jJa (jJb 1) (jJa jJk jJe))) jJk (jJm _)) (qYd (kUz (kXf (jJ0 (jYs T) (hr.mono (by decide)) (jJa (jJb 1) (jJa (jJb 4) (jJa (jJb 5) jJe))))))))) (jJj (jKb e_bl)) jKh)))))
   (jJj (jKb (jJ0 (jVv T) (hr.mono (by decide)) (jJa (jJb 4) (jJa (jJb 5) jJe)))))))))))
def qY0 (K:PySem.W.Frag):Sp:=dn K 1 qKm
theorem fn_at {K:PySem.W.Frag} {h:Heap} {mg:Str->Option Value} {x:Str} {i:Nat} {f:Addr} {oc:Value} {od an:Option Addr} {osl:Array (Option Value)} {kV doc pm cdv ct:Value} (X:K.In h) (G:h.Ns mainGlobals mg) (a:PySem.W.nsIn K mainGlobals x=some (some (.ref f)))
  (l:K.lookup f=some ⟨oc,od,.func (PySem.W.fnOf x x (jUl (top i)) (jKx (top i)) (jJn (top i)) .none kV doc pm an cdv ct),osl⟩) (c:PySem.W.codeIn K cdv x=true) (k:PySem.W.keepIn K (.ref f)=true):FnAt K mg x i:=⟨f,_,lJ0 X G a,qQ7 l c k⟩
theorem all_mk {l:PySem.W.OpenLaw} {w:World} {K:PySem.W.Frag} {mg:Str->Option Value} {fa:Addr} (hfa:mg "law"=some (.ref fa)) (T:Txt K mg):
  ∃fd:FuncData,(∀(s:Shared) (v:Value),BindsTo s fd ⟨[v],[]⟩ [("_law_script",v)])/\∀base:Heap,K.In base->base.Ns mainGlobals mg->FnOk l.prog w K mg base CX0 7 fa fd ["_law_script"] (qY0 K):=by
 obtain⟨f,fd,a,F⟩:=T.f_law
 cases hfa.symm.trans a
 refine⟨fd,fun s v=> ?_,fun base _ _=>ok_law T F⟩
 obtain⟨_,_,kV,doc,pm,an,cdv,ct,_,e,_⟩:=F.ex
 subst e
 exact .of_eq rfl
theorem me_at {K:PySem.W.Frag} {C:Addr} {m q:Str} {st:Stmt} {f:Addr} {oc:Value} {od an:Option Addr} {osl:Array (Option Value)} {kV doc pm cdv ct:Value} (a:PySem.W.findIn K (.ref C) m=some (some (.ref f))) (i:PySem.W.isFn K (.ref f)=true) (l:K.lookup f=some ⟨oc,od,.func (PySem.W.fnOf m q (jUl st) (jKx st) (jJn st) .none kV doc pm an cdv ct),osl⟩) (c:PySem.W.codeIn K cdv q=true) (k:PySem.W.keepIn K (.ref f)=true):MeF K C m q st:=⟨f,_,⟨a,i,k⟩,qQ7 l c k⟩
theorem mk_at {K:PySem.W.Frag} {C:Addr} {q:Str} {st:Stmt} {f:Addr} {oc:Value} {od an:Option Addr} {osl:Array (Option Value)} {kV doc pm cdv ct:Value} (a:PySem.W.findIn K (.ref C) "__init__"=some (some (.ref f))) (i:PySem.W.isFn K (.ref f)=true) (mk:PySem.W.makesIn K C=true) (kc:PySem.W.keepIn K (.ref C)=true) (l:K.lookup f=some ⟨oc,od,.func (PySem.W.fnOf "__init__" q (jUl st) (jKx st) (jJn st) .none kV doc pm an cdv ct),osl⟩) (c:PySem.W.codeIn K cdv q=true) (k:PySem.W.keepIn K (.ref f)=true):MkF K C q st:=⟨f,_,⟨mk,a,i,kc⟩,qQ7 l c k⟩
theorem fr_of {K:PySem.W.Frag} {H:Hp} {a:Addr} {xs:List V} (hO:Only H) (hS:SqL K H a xs):FrL K H a xs:=by
 rcases hS with h | h
 ·rcases h with h | ⟨ob,h⟩
  ·rcases hO a with z | ⟨o,ys,z⟩
   ·rw[z] at h;cases h
   ·rw[z] at h;cases h
  ·exact .inl ⟨ob,h⟩
 ·exact .inr h
theorem jU5 {K:PySem.W.Frag} {H:Hp}:∀ns:List Int,Reps K H (jYc ns) (ns.map V.int)
 | []=>rfl
 | n::ns=>⟨_,_,rfl,rfl,jU5 ns⟩
theorem walk {l:PySem.W.OpenLaw} {q:Program} {loose:List Str} {XP:(Str->Option Value)->Heap->Prop} {YP:World->Heap->Prop} {d:DefRec} {K:Params->PySem.W.Frag} (hn:l.most=some 63) (hdf:d.params.defaults=[])
  (hY:∀(w:World) (h:Heap),YP w h->(K w.params).In h)
  (F:∀(w:World) (mg:Str->Option Value) (fa:Addr) (h:Heap),(K w.params).In h->h.Ns mainGlobals mg->mg d.name=some (.ref fa)->
   ∃fd:FuncData,(∀(s:Shared) (u:Value),BindsTo s fd ⟨[u],[]⟩ [("_law_script",u)])/\∀base:Heap,(K w.params).In base->base.Ns mainGlobals mg->FnOk l.prog w (K w.params) mg base CX0 7 fa fd ["_law_script"] (qY0 (K w.params))):
  PySem.W.WalkO q loose XP YP l.row.toRowW d [] (fun f vs=>PySem.call f vs):=
 L2.walk_of (n:=63) (k:=7) (x:="_law_script") (CX:=fun _=>CX0) (sp:=fun w=>qY0 (K w.params)) hn (by decide) hdf ⟨rfl,rfl,by decide,by decide⟩ hY F
  (fun _ _ a ns hl hO hS=>⟨rfl,[.scr (jYc ns)],fun _=>none,⟨_,_,rfl,⟨a,_,rfl,fr_of hO hS,jU5 ns⟩,rfl⟩,(fun _ _ h=>nomatch h),ns,rfl,hl,fun G' v H' _ _ r=>r⟩) fun _ _ _ _ _ z=>z
end W
def PySem.W.Fast.tw17803261229514896574 : Unit := ()
def PySem.W.Fast.tw8260364725737606112 : Unit := ()
def PySem.W.Fast.tw6579266457361834389 : Unit := ()
def PySem.W.Fast.tw17614943778223944043 : Unit := ()
def PySem.W.Fast.tw12006105235497134431 : Unit := ()
def PySem.W.Fast.tw16895404243714051986 : Unit := ()
def PySem.W.Fast.tw7003282635067970902 : Unit := ()
def PySem.W.Fast.tw13033266362118411767 : Unit := ()
def PySem.W.Fast.tw11751546625344301165 : Unit := ()
def PySem.W.Fast.tw547306757919121710 : Unit := ()
def PySem.W.Fast.tw13116043274767420049 : Unit := ()
def PySem.W.Fast.tw16965854156331666098 : Unit := ()
def PySem.W.Fast.tw6655688879251123986 : Unit := ()
def PySem.W.Fast.tw11938870290532203978 : Unit := ()
def PySem.W.Fast.tw5238662975627139364 : Unit := ()
def PySem.W.Fast.tw5046895977893680541 : Unit := ()
def PySem.W.Fast.tw720839361744579768 : Unit := ()
def PySem.W.Fast.tw18147115805260370541 : Unit := ()
def PySem.W.Fast.tw15375836365148967097 : Unit := ()
def PySem.W.Fast.tw16502399487341228981 : Unit := ()
def PySem.W.Fast.tw13827492712127565629 : Unit := ()
def PySem.W.Fast.tw1978106621483130776 : Unit := ()
def PySem.W.Fast.tw7278644771708360780 : Unit := ()
def PySem.W.Fast.tw12981058306897661198 : Unit := ()
def PySem.W.Fast.tw5744783873686894512 : Unit := ()
def PySem.W.Fast.tw12117549322464320783 : Unit := ()
def PySem.W.Fast.tw3372750967466396232 : Unit := ()
def PySem.W.Fast.tw3787215805300590505 : Unit := ()
def PySem.W.Fast.tw4393084496372125953 : Unit := ()
def PySem.W.Fast.tw8560301464457935691 : Unit := ()
def PySem.W.Fast.tw13504754742005862671 : Unit := ()
def PySem.W.Fast.tw6464277107052705457 : Unit := ()
def PySem.W.Fast.tw1856240179067696295 : Unit := ()
def PySem.W.Fast.tw5235057551885165727 : Unit := ()
def PySem.W.Fast.tw10433906091015499376 : Unit := ()
def PySem.W.Fast.tw4210508786257942173 : Unit := ()
def PySem.W.Fast.tw1923173444049039387 : Unit := ()
def PySem.W.Fast.tw10866454305303789222 : Unit := ()
def PySem.W.Fast.tw15125550147903765473 : Unit := ()
def PySem.W.Fast.tw3217468942583133978 : Unit := ()
def PySem.W.Fast.tw6761835838819810311 : Unit := ()
def PySem.W.Fast.tw18247047897066230717 : Unit := ()
def PySem.W.Fast.tw11221945199172223120 : Unit := ()
def PySem.W.Fast.tw17810356941057884658 : Unit := ()
def PySem.W.Fast.tw8857329145695822829 : Unit := ()
def PySem.W.Fast.tw7025856732391638414 : Unit := ()
def PySem.W.Fast.tw9044237511744346544 : Unit := ()
def PySem.W.Fast.tw1060843688776172845 : Unit := ()
def PySem.W.Fast.tw6800918301630291471 : Unit := ()
def PySem.W.Fast.tw1879233190385477462 : Unit := ()
def PySem.W.Fast.tw10405354888702766108 : Unit := ()
def PySem.W.Fast.tw16719031402688831903 : Unit := ()
def PySem.W.Fast.tw10438976471494899010 : Unit := ()
def PySem.W.Fast.tw16005033098086604383 : Unit := ()
def PySem.W.Fast.tw12660255397678650306 : Unit := ()
def PySem.W.Fast.tw11659007934135067789 : Unit := ()
def PySem.W.Fast.tw4165316716362055841 : Unit := ()
def PySem.W.Fast.tw12122077275637218583 : Unit := ()
def PySem.W.Fast.tw3675103065487000017 : Unit := ()
def PySem.W.Fast.tw16748522692152729716 : Unit := ()
def PySem.W.Fast.tw11090661286909138714 : Unit := ()
def PySem.W.Fast.tw12095013522796983724 : Unit := ()
def PySem.W.Fast.tw4963029410204878440 : Unit := ()
def PySem.W.Fast.tw13629313615279447366 : Unit := ()
def PySem.W.Fast.tw14154682938415602855 : Unit := ()
def PySem.W.Fast.tw4151911830860062707 : Unit := ()
def PySem.W.Fast.tw5558389502318969827 : Unit := ()
def PySem.W.Fast.tw1775187427304535238 : Unit := ()
def PySem.W.Fast.tw5959745933553771271 : Unit := ()
def PySem.W.Fast.tw6812422612091591115 : Unit := ()
def PySem.W.Fast.tw1035084637577759218 : Unit := ()
def PySem.W.Fast.tw6609829210168856817 : Unit := ()
def PySem.W.Fast.tw16475034552312423865 : Unit := ()
def PySem.W.Fast.tw11158052242707168600 : Unit := ()
def PySem.W.Fast.tw15382872826307184426 : Unit := ()
def PySem.W.Fast.tw367522183105734296 : Unit := ()
def PySem.W.Fast.tw5995545697229403613 : Unit := ()
def PySem.W.Fast.tw140844080917354312 : Unit := ()
def PySem.W.Fast.tw7098335934783151704 : Unit := ()
def PySem.W.Fast.tw1406997655396292894 : Unit := ()
def PySem.W.Fast.tw878215382061295785 : Unit := ()
def PySem.W.Fast.tw2363423370311744069 : Unit := ()
def PySem.W.Fast.tw11819394000337383643 : Unit := ()
def PySem.W.Fast.tw1295671942944258294 : Unit := ()
def PySem.W.Fast.tw960672564096970757 : Unit := ()
def PySem.W.Fast.tw4429192981102574796 : Unit := ()
def PySem.W.Fast.tw14685452835839431820 : Unit := ()
def PySem.W.Fast.tw4619776543652347 : Unit := ()
def PySem.W.Fast.tw18006814110766482374 : Unit := ()
def PySem.W.Fast.tw12194335096350698844 : Unit := ()
def PySem.W.Fast.tw13505420201292617790 : Unit := ()
def PySem.W.Fast.tw7705215542030491447 : Unit := ()
def PySem.W.Fast.tw497846017109631009 : Unit := ()
def PySem.W.Fast.tw17647796487398170120 : Unit := ()
def PySem.W.Fast.tw5646253700599871050 : Unit := ()
def PySem.W.Fast.tw2264973674809452969 : Unit := ()
def PySem.W.Fast.tw18130391212238277499 : Unit := ()
def PySem.W.Fast.tw11013475704439330718 : Unit := ()
def PySem.W.Fast.tw16412966496412479604 : Unit := ()
def PySem.W.Fast.tw478526832770412727 : Unit := ()
def PySem.W.Fast.tw15758190654655988803 : Unit := ()
def PySem.W.Fast.tw11767506542325857676 : Unit := ()
def PySem.W.Fast.tw2127053866709950635 : Unit := ()
def PySem.W.Fast.tw1788570239822101750 : Unit := ()
def PySem.W.Fast.tw2465109588711611453 : Unit := ()
def PySem.W.Fast.tw5132189517066729961 : Unit := ()
def PySem.W.Fast.tw10227911739281584187 : Unit := ()
def PySem.W.Fast.tw7520221307771290956 : Unit := ()
def PySem.W.Fast.tw17703588905059088522 : Unit := ()
def PySem.W.Fast.tw15299433728744577399 : Unit := ()
def PySem.W.Fast.tw2622951594887362390 : Unit := ()
def PySem.W.Fast.tw9275324302579106122 : Unit := ()
def PySem.W.Fast.tw18173214854374424101 : Unit := ()
def PySem.W.Fast.tw4654878386732714948 : Unit := ()
def PySem.W.Fast.tw10230974799694314621 : Unit := ()
def PySem.W.Fast.tw2637372565491858790 : Unit := ()
def PySem.W.Fast.tw15415788764388145864 : Unit := ()
def PySem.W.Fast.tw9020573663014609306 : Unit := ()
def PySem.W.Fast.tw3984575911003499023 : Unit := ()
def PySem.W.Fast.tw5997360601966191942 : Unit := ()
def PySem.W.Fast.tw16031170000397202482 : Unit := ()
def PySem.W.Fast.tw1135059937188391583 : Unit := ()
def PySem.W.Fast.tw4151599086948499214 : Unit := ()
def PySem.W.Fast.tw10407481266454447131 : Unit := ()
def PySem.W.Fast.tw2847872967841095875 : Unit := ()
def PySem.W.Fast.tw15527417272180663611 : Unit := ()
def PySem.W.Fast.tw15862633728170982577 : Unit := ()
def PySem.W.Fast.tw13720266495520127666 : Unit := ()
def PySem.W.Fast.tw7170359840304717565 : Unit := ()
def PySem.W.Fast.tw1539098431771560489 : Unit := ()
def PySem.W.Fast.tw4650664540056095659 : Unit := ()
def PySem.W.Fast.tw6569526825587839855 : Unit := ()
def PySem.W.Fast.tw15187678766353420346 : Unit := ()
def PySem.W.Fast.tw10767346517390809414 : Unit := ()
def PySem.W.Fast.tw3427223950996731392 : Unit := ()
def PySem.W.Fast.tw4631495007402810355 : Unit := ()
def PySem.W.Fast.tw4383633742821128221 : Unit := ()
def PySem.W.Fast.tw8851101531859412133 : Unit := ()
def PySem.W.Fast.tw431828088358910800 : Unit := ()
def PySem.W.Fast.tw11733182968435512164 : Unit := ()
def PySem.W.Fast.tw17105707362872629614 : Unit := ()
def PySem.W.Fast.tw5306901199793405981 : Unit := ()
def PySem.W.Fast.tw13144892017419163413 : Unit := ()
def PySem.W.Fast.tw4294775383573042535 : Unit := ()
def PySem.W.Fast.tw5388657309984079602 : Unit := ()
def PySem.W.Fast.tw7449028174086064709 : Unit := ()
def PySem.W.Fast.tw9093265967764181573 : Unit := ()
def PySem.W.Fast.tw14522489579420988247 : Unit := ()
def PySem.W.Fast.tw2968526300227743448 : Unit := ()
def PySem.W.Fast.tw14345188085718555615 : Unit := ()
def PySem.W.Fast.tw13819423490887597748 : Unit := ()
def PySem.W.Fast.tw16209002814117138906 : Unit := ()
def PySem.W.Fast.tw14798161677954214429 : Unit := ()
def PySem.W.Fast.tw5915497181042978840 : Unit := ()
def PySem.W.Fast.tw10416597720969444598 : Unit := ()
def PySem.W.Fast.tw5192881352727677176 : Unit := ()
def PySem.W.Fast.tw15813956908471910267 : Unit := ()
def PySem.W.Fast.tw16171031165436941056 : Unit := ()
def PySem.W.Fast.tw14775791873651205523 : Unit := ()
def PySem.W.Fast.tw7583932382252721377 : Unit := ()
def PySem.W.Fast.tw13652425268048395736 : Unit := ()
def PySem.W.Fast.tw4726042954159897845 : Unit := ()
def PySem.W.Fast.tw16574250610984799878 : Unit := ()
def PySem.W.Fast.tw7784032625535391672 : Unit := ()
def PySem.W.Fast.tw7468060459040028758 : Unit := ()
def PySem.W.Fast.tw1805217832676540994 : Unit := ()
def PySem.W.Fast.tw12088009919905309829 : Unit := ()
def PySem.W.Fast.tw12888118525389326631 : Unit := ()
def PySem.W.Fast.tw3094758122454693862 : Unit := ()
def PySem.W.Fast.tw1606765366281563144 : Unit := ()
def PySem.W.Fast.tw10746370335056072792 : Unit := ()
def PySem.W.Fast.tw11166568795620360039 : Unit := ()
def PySem.W.Fast.tw17294877190058030705 : Unit := ()
def PySem.W.Fast.tw16675068600402945241 : Unit := ()
def PySem.W.Fast.tw13985157408346571015 : Unit := ()
def PySem.W.Fast.tw11558722853129330548 : Unit := ()
def PySem.W.Fast.tw8023113228862574040 : Unit := ()
def PySem.W.Fast.tw12758263860126434217 : Unit := ()
def PySem.W.Fast.tw13132126079360006913 : Unit := ()
def PySem.W.Fast.tw9261371907750120707 : Unit := ()
def PySem.W.Fast.tw12659333417072666446 : Unit := ()
def PySem.W.Fast.tw3522732128626978661 : Unit := ()
def PySem.W.Fast.tw17548123112695285003 : Unit := ()
def PySem.W.Fast.tw2780282414190886615 : Unit := ()
def PySem.W.Fast.tw15184984791458489401 : Unit := ()
def PySem.W.Fast.tw13851981433801640535 : Unit := ()
def PySem.W.Fast.tw1398064544898459691 : Unit := ()
def PySem.W.Fast.tw16353515010776540807 : Unit := ()
def PySem.W.Fast.tw8491398788081098232 : Unit := ()
def PySem.W.Fast.tw13062679947041469274 : Unit := ()
def PySem.W.Fast.tw6679817882394798110 : Unit := ()
def PySem.W.Fast.tw18061674897645281583 : Unit := ()
def PySem.W.Fast.tw11113149938681892572 : Unit := ()
def PySem.W.Fast.tw5112890140891502318 : Unit := ()
def PySem.W.Fast.tw13697227235816362197 : Unit := ()
def PySem.W.Fast.tw3607958534602690710 : Unit := ()
def PySem.W.Fast.tw1181518628671485700 : Unit := ()
def PySem.W.Fast.tw11578301430344150332 : Unit := ()
def PySem.W.Fast.tw16718202311159592604 : Unit := ()
def PySem.W.Fast.tw14747943556786208511 : Unit := ()
def PySem.W.Fast.tw712663305053478145 : Unit := ()
def PySem.W.Fast.tw12709412196641083377 : Unit := ()
def PySem.W.Fast.tw7652277138328888962 : Unit := ()
def PySem.W.Fast.tw6139809867098593741 : Unit := ()
def PySem.W.Fast.tw12814519155375263123 : Unit := ()
def PySem.W.Fast.tw4787985347014242642 : Unit := ()
def PySem.W.Fast.tw15426546780224196334 : Unit := ()
def PySem.W.Fast.tw4557655064003254159 : Unit := ()
def PySem.W.Fast.tw15562822976963754132 : Unit := ()
def PySem.W.Fast.tw16425356708572179905 : Unit := ()
def PySem.W.Fast.tw6251496475790648115 : Unit := ()
def PySem.W.Fast.tw9722795361699627190 : Unit := ()
def PySem.W.Fast.tw14358122054779714405 : Unit := ()
def PySem.W.Fast.tw9272910456654054911 : Unit := ()
def PySem.W.Fast.tw8347227208425527612 : Unit := ()
def PySem.W.Fast.tw6262129335553327098 : Unit := ()
def PySem.W.Fast.tw11203071886606739273 : Unit := ()
def PySem.W.Fast.tw10792833563750984259 : Unit := ()
def PySem.W.Fast.tw2284430710016675061 : Unit := ()
def PySem.W.Fast.tw5117525424576297497 : Unit := ()
def PySem.W.Fast.tw16993083794547703183 : Unit := ()
def PySem.W.Fast.tw6265393135943282152 : Unit := ()
def PySem.W.Fast.tw5682790537160780284 : Unit := ()
def PySem.W.Fast.tw7820582056987185985 : Unit := ()
def PySem.W.Fast.tw17969712562210356229 : Unit := ()
def PySem.W.Fast.tw1535502954218539931 : Unit := ()
def PySem.W.Fast.tw14643991558713271858 : Unit := ()
def PySem.W.Fast.tw13899629498194135442 : Unit := ()
def PySem.W.Fast.tw12207319051562850308 : Unit := ()
def PySem.W.Fast.tw13107192811860265054 : Unit := ()
def PySem.W.Fast.tw15592586838412115588 : Unit := ()
def PySem.W.Fast.tw7908385425142317467 : Unit := ()
def PySem.W.Fast.tw9225081509735115696 : Unit := ()
open PySem PySem.W PyProof.Rows
set_option maxRecDepth 100000 in
set_option maxHeartbeats 0 in
theorem PySem.Challenge.cw_stonewalker_k59_ties_forgotten_holds : PySem.Challenge.rw_stonewalker_k59_ties_forgotten.Holds := by
 w_on;o_law;k_head;(case hw=>w_witness2)
 k_fill
 refine W.walk (l:=PySem.Challenge.rw_stonewalker_k59_ties_forgotten) rfl rfl (fun w h Y=>PySem.W.kIn_of Y) ?F
 case F=>
  intro w mg fa h KX G hmg
  refine W.all_mk hmg ?T
  constructor
  iterate 15 (refine lXo KX G ?_;k_is)
  (refine' L3.sub3 (L3.exsub_mk KX G ?x0_a0 ?x0_b0 ?x0_q0) (L3.exsub_mk KX G ?x0_a1 ?x0_b1 ?x0_q1) (L3.exsub_mk KX G ?x0_a2 ?x0_b2 ?x0_q2);(case x0_a0=>k_is);(case x0_b0=>k_is);(case x0_q0=>kts_exm);(case x0_a1=>k_is);(case x0_b1=>k_is);(case x0_q1=>kts_exm);(case x0_a2=>k_is);(case x0_b2=>k_is);(case x0_q2=>kts_exm))
  (refine' L3.rel3 ⟨?x1_D_1,?x1_vs_1,?x1_a_1,⟨?x1_k1_1,?x1_k2_1,?x1_k3_1,?x1_k4_1,?x1_k5_1,lKb.mpr ((lKr.mp ?x1_k5_1).imp fun _ h=>h.1)⟩,.cons (.inl (lJ0 KX G ?z1_BadRow_1)) (.cons (.inl (lJ0 KX G ?z1_Clash_1)) (.cons (.inl (lJ0 KX G ?z1_NoStone_1)) (.cons (.inl (lJ0 KX G ?z1_NoWeb_1)) (.cons (.inl (lJ0 KX G ?z1_TooMany_1)) (.nil))))),?x1_q_1⟩ ⟨?x1_D_2,?x1_vs_2,?x1_a_2,⟨?x1_k1_2,?x1_k2_2,?x1_k3_2,?x1_k4_2,?x1_k5_2,lKb.mpr ((lKr.mp ?x1_k5_2).imp fun _ h=>h.1)⟩,.cons (.inl (lJ0 KX G ?z1_BadRow_2)) (.cons (.inl (lJ0 KX G ?z1_Clash_2)) (.cons (.inl (lJ0 KX G ?z1_NoStone_2)) (.cons (.inl (lJ0 KX G ?z1_NoWeb_2)) (.cons (.inl (lJ0 KX G ?z1_TooMany_2)) (.nil))))),?x1_q_2⟩ ⟨?x1_D_3,?x1_vs_3,?x1_a_3,⟨?x1_k1_3,?x1_k2_3,?x1_k3_3,?x1_k4_3,?x1_k5_3,lKb.mpr ((lKr.mp ?x1_k5_3).imp fun _ h=>h.1)⟩,.cons (.inl (lJ0 KX G ?z1_BadRow_3)) (.cons (.inl (lJ0 KX G ?z1_Clash_3)) (.cons (.inl (lJ0 KX G ?z1_NoStone_3)) (.cons (.inl (lJ0 KX G ?z1_NoWeb_3)) (.cons (.inl (lJ0 KX G ?z1_TooMany_3)) (.nil))))),?x1_q_3⟩;(case x1_a_1=>unfold L3.CN;k_is);(case z1_BadRow_1=>k_is);(case z1_Clash_1=>k_is);(case z1_NoStone_1=>k_is);(case z1_NoWeb_1=>k_is);(case z1_TooMany_1=>k_is);(case x1_k1_1=>k_is);(case x1_k2_1=>k_is);(case x1_k3_1=>k_is);(case x1_k4_1=>k_is);(case x1_k5_1=>k_is);(case x1_q_1=>kit_is);(case x1_a_2=>unfold L3.CN;k_is);(case z1_BadRow_2=>k_is);(case z1_Clash_2=>k_is);(case z1_NoStone_2=>k_is);(case z1_NoWeb_2=>k_is);(case z1_TooMany_2=>k_is);(case x1_k1_2=>k_is);(case x1_k2_2=>k_is);(case x1_k3_2=>k_is);(case x1_k4_2=>k_is);(case x1_k5_2=>k_is);(case x1_q_2=>kit_is);(case x1_a_3=>unfold L3.CN;k_is);(case z1_BadRow_3=>k_is);(case z1_Clash_3=>k_is);(case z1_NoStone_3=>k_is);(case z1_NoWeb_3=>k_is);(case z1_TooMany_3=>k_is);(case x1_k1_3=>k_is);(case x1_k2_3=>k_is);(case x1_k3_3=>k_is);(case x1_k4_3=>k_is);(case x1_k5_3=>k_is);(case x1_q_3=>kit_is))
  (refine' L3.clsv_own KX G ?x2_b;(case x2_b=>k_is))
  (refine' L3.clsv_own KX G ?x3_b;(case x3_b=>k_is))
  (refine' L3.clsv_own KX G ?x4_b;(case x4_b=>k_is))
  (refine' L3.clsv_own KX G ?x5_b;(case x5_b=>k_is))
  (refine' L3.clsv_own KX G ?x6_b;(case x6_b=>k_is))
  (refine' L3.rel3 ⟨?x7_D_1,?x7_vs_1,?x7_a_1,⟨?x7_k1_1,?x7_k2_1,?x7_k3_1,?x7_k4_1,?x7_k5_1,lKb.mpr ((lKr.mp ?x7_k5_1).imp fun _ h=>h.1)⟩,.cons (.inr ⟨lXo KX G ?z7_ValueError_1,rfl⟩) (.nil),?x7_q_1⟩ ⟨?x7_D_2,?x7_vs_2,?x7_a_2,⟨?x7_k1_2,?x7_k2_2,?x7_k3_2,?x7_k4_2,?x7_k5_2,lKb.mpr ((lKr.mp ?x7_k5_2).imp fun _ h=>h.1)⟩,.cons (.inr ⟨lXo KX G ?z7_ValueError_2,rfl⟩) (.nil),?x7_q_2⟩ ⟨?x7_D_3,?x7_vs_3,?x7_a_3,⟨?x7_k1_3,?x7_k2_3,?x7_k3_3,?x7_k4_3,?x7_k5_3,lKb.mpr ((lKr.mp ?x7_k5_3).imp fun _ h=>h.1)⟩,.cons (.inr ⟨lXo KX G ?z7_ValueError_3,rfl⟩) (.nil),?x7_q_3⟩;(case x7_a_1=>unfold L3.CN;k_is);(case z7_ValueError_1=>k_is);(case x7_k1_1=>k_is);(case x7_k2_1=>k_is);(case x7_k3_1=>k_is);(case x7_k4_1=>k_is);(case x7_k5_1=>k_is);(case x7_q_1=>kit_is);(case x7_a_2=>unfold L3.CN;k_is);(case z7_ValueError_2=>k_is);(case x7_k1_2=>k_is);(case x7_k2_2=>k_is);(case x7_k3_2=>k_is);(case x7_k4_2=>k_is);(case x7_k5_2=>k_is);(case x7_q_2=>kit_is);(case x7_a_3=>unfold L3.CN;k_is);(case z7_ValueError_3=>k_is);(case x7_k1_3=>k_is);(case x7_k2_3=>k_is);(case x7_k3_3=>k_is);(case x7_k4_3=>k_is);(case x7_k5_3=>k_is);(case x7_q_3=>kit_is))
  (refine' L3.clsv_blt KX G ?x8_b rfl;(case x8_b=>k_is))
  (refine' L3.rel3 ⟨?x9_D_1,?x9_vs_1,?x9_a_1,⟨?x9_k1_1,?x9_k2_1,?x9_k3_1,?x9_k4_1,?x9_k5_1,lKb.mpr ((lKr.mp ?x9_k5_1).imp fun _ h=>h.1)⟩,.cons (.inl (lJ0 KX G ?z9_NotWhole_1)) (.nil),?x9_q_1⟩ ⟨?x9_D_2,?x9_vs_2,?x9_a_2,⟨?x9_k1_2,?x9_k2_2,?x9_k3_2,?x9_k4_2,?x9_k5_2,lKb.mpr ((lKr.mp ?x9_k5_2).imp fun _ h=>h.1)⟩,.cons (.inl (lJ0 KX G ?z9_NotWhole_2)) (.nil),?x9_q_2⟩ ⟨?x9_D_3,?x9_vs_3,?x9_a_3,⟨?x9_k1_3,?x9_k2_3,?x9_k3_3,?x9_k4_3,?x9_k5_3,lKb.mpr ((lKr.mp ?x9_k5_3).imp fun _ h=>h.1)⟩,.cons (.inl (lJ0 KX G ?z9_NotWhole_3)) (.nil),?x9_q_3⟩;(case x9_a_1=>unfold L3.CN;k_is);(case z9_NotWhole_1=>k_is);(case x9_k1_1=>k_is);(case x9_k2_1=>k_is);(case x9_k3_1=>k_is);(case x9_k4_1=>k_is);(case x9_k5_1=>k_is);(case x9_q_1=>kit_is);(case x9_a_2=>unfold L3.CN;k_is);(case z9_NotWhole_2=>k_is);(case x9_k1_2=>k_is);(case x9_k2_2=>k_is);(case x9_k3_2=>k_is);(case x9_k4_2=>k_is);(case x9_k5_2=>k_is);(case x9_q_2=>kit_is);(case x9_a_3=>unfold L3.CN;k_is);(case z9_NotWhole_3=>k_is);(case x9_k1_3=>k_is);(case x9_k2_3=>k_is);(case x9_k3_3=>k_is);(case x9_k4_3=>k_is);(case x9_k5_3=>k_is);(case x9_q_3=>kit_is))
  (refine' L3.clsv_own KX G ?x10_b;(case x10_b=>k_is))
  (refine' L3.rel3 ⟨?x11_D_1,?x11_vs_1,?x11_a_1,⟨?x11_k1_1,?x11_k2_1,?x11_k3_1,?x11_k4_1,?x11_k5_1,lKb.mpr ((lKr.mp ?x11_k5_1).imp fun _ h=>h.1)⟩,.cons (.inl (lJ0 KX G ?z11_NoDoor_1)) (.nil),?x11_q_1⟩ ⟨?x11_D_2,?x11_vs_2,?x11_a_2,⟨?x11_k1_2,?x11_k2_2,?x11_k3_2,?x11_k4_2,?x11_k5_2,lKb.mpr ((lKr.mp ?x11_k5_2).imp fun _ h=>h.1)⟩,.cons (.inl (lJ0 KX G ?z11_NoDoor_2)) (.nil),?x11_q_2⟩ ⟨?x11_D_3,?x11_vs_3,?x11_a_3,⟨?x11_k1_3,?x11_k2_3,?x11_k3_3,?x11_k4_3,?x11_k5_3,lKb.mpr ((lKr.mp ?x11_k5_3).imp fun _ h=>h.1)⟩,.cons (.inl (lJ0 KX G ?z11_NoDoor_3)) (.nil),?x11_q_3⟩;(case x11_a_1=>unfold L3.CN;k_is);(case z11_NoDoor_1=>k_is);(case x11_k1_1=>k_is);(case x11_k2_1=>k_is);(case x11_k3_1=>k_is);(case x11_k4_1=>k_is);(case x11_k5_1=>k_is);(case x11_q_1=>kit_is);(case x11_a_2=>unfold L3.CN;k_is);(case z11_NoDoor_2=>k_is);(case x11_k1_2=>k_is);(case x11_k2_2=>k_is);(case x11_k3_2=>k_is);(case x11_k4_2=>k_is);(case x11_k5_2=>k_is);(case x11_q_2=>kit_is);(case x11_a_3=>unfold L3.CN;k_is);(case z11_NoDoor_3=>k_is);(case x11_k1_3=>k_is);(case x11_k2_3=>k_is);(case x11_k3_3=>k_is);(case x11_k4_3=>k_is);(case x11_k5_3=>k_is);(case x11_q_3=>kit_is))
  (refine' L3.clsv_own KX G ?x12_b;(case x12_b=>k_is))
  (refine' L3.rel3 ⟨?x13_D_1,?x13_vs_1,?x13_a_1,⟨?x13_k1_1,?x13_k2_1,?x13_k3_1,?x13_k4_1,?x13_k5_1,lKb.mpr ((lKr.mp ?x13_k5_1).imp fun _ h=>h.1)⟩,.cons (.inl (lJ0 KX G ?z13_NoMark_1)) (.nil),?x13_q_1⟩ ⟨?x13_D_2,?x13_vs_2,?x13_a_2,⟨?x13_k1_2,?x13_k2_2,?x13_k3_2,?x13_k4_2,?x13_k5_2,lKb.mpr ((lKr.mp ?x13_k5_2).imp fun _ h=>h.1)⟩,.cons (.inl (lJ0 KX G ?z13_NoMark_2)) (.nil),?x13_q_2⟩ ⟨?x13_D_3,?x13_vs_3,?x13_a_3,⟨?x13_k1_3,?x13_k2_3,?x13_k3_3,?x13_k4_3,?x13_k5_3,lKb.mpr ((lKr.mp ?x13_k5_3).imp fun _ h=>h.1)⟩,.cons (.inl (lJ0 KX G ?z13_NoMark_3)) (.nil),?x13_q_3⟩;(case x13_a_1=>unfold L3.CN;k_is);(case z13_NoMark_1=>k_is);(case x13_k1_1=>k_is);(case x13_k2_1=>k_is);(case x13_k3_1=>k_is);(case x13_k4_1=>k_is);(case x13_k5_1=>k_is);(case x13_q_1=>kit_is);(case x13_a_2=>unfold L3.CN;k_is);(case z13_NoMark_2=>k_is);(case x13_k1_2=>k_is);(case x13_k2_2=>k_is);(case x13_k3_2=>k_is);(case x13_k4_2=>k_is);(case x13_k5_2=>k_is);(case x13_q_2=>kit_is);(case x13_a_3=>unfold L3.CN;k_is);(case z13_NoMark_3=>k_is);(case x13_k1_3=>k_is);(case x13_k2_3=>k_is);(case x13_k3_3=>k_is);(case x13_k4_3=>k_is);(case x13_k5_3=>k_is);(case x13_q_3=>kit_is))
  (refine' L3.clsv_own KX G ?x14_b;(case x14_b=>k_is))
  (refine' L3.exc_mk KX G ?x15_a ?x15_q;(case x15_a=>k_is);(case x15_q=>k_exc))
  (refine' L3.exc_mk KX G ?x16_a ?x16_q;(case x16_a=>k_is);(case x16_q=>k_exc))
  (refine' L3.exc_mk KX G ?x17_a ?x17_q;(case x17_a=>k_is);(case x17_q=>k_exc))
  refine' ⟨?zC0,?zn0,⟨?zp0,?zq0,?zr0,?zs0⟩,?zm0,?zt0_counts,?zt0_leads,?zt0_marks,?zt0_place,?zf0_Chart_init,?zf0_Chart_number_of,?zf0_Chart_known_number,?zf0_Chart_refuse_clash,?zf0_Chart_went,?zf0_Chart_here,?zf0_Chart_rooms,?zf0_Chart_sketch,?zf0_Chart_open_doors,?zf0_Chart_next_way,?zf0_Chart_way_by,?zf0_Chart_forget,?zf0_Chart_whole⟩
  (case zn0=>unfold L3.CN;k_is)
  (case zp0=>k_is);(case zq0=>k_is);(case zr0=>k_is);(case zs0=>k_is);(case zm0=>(refine lJ0 KX G ?_;k_is))
  (case zt0_counts=>unfold L2.NoAttr;k_is)
  (case zt0_leads=>unfold L2.NoAttr;k_is)
  (case zt0_marks=>unfold L2.NoAttr;k_is)
  (case zt0_place=>unfold L2.NoAttr;k_is)
  (case zf0_Chart_init=>(refine' W.mk_at ?a_Chart_init ?i_Chart_init ?m_Chart_init ?x_Chart_init ?l_Chart_init ?c_Chart_init ?k_Chart_init;(case a_Chart_init=>k_is);(case i_Chart_init=>k_is);(case m_Chart_init=>k_is);(case x_Chart_init=>k_is);(case l_Chart_init=>k_is);(case c_Chart_init=>k_is);(case k_Chart_init=>k_is)))
  (case zf0_Chart_number_of=>(refine' W.me_at ?a_Chart_number_of ?i_Chart_number_of ?l_Chart_number_of ?c_Chart_number_of ?k_Chart_number_of;(case a_Chart_number_of=>k_is);(case i_Chart_number_of=>k_is);(case l_Chart_number_of=>k_is);(case c_Chart_number_of=>k_is);(case k_Chart_number_of=>k_is)))
  (case zf0_Chart_known_number=>(refine' W.me_at ?a_Chart_known_number ?i_Chart_known_number ?l_Chart_known_number ?c_Chart_known_number ?k_Chart_known_number;(case a_Chart_known_number=>k_is);(case i_Chart_known_number=>k_is);(case l_Chart_known_number=>k_is);(case c_Chart_known_number=>k_is);(case k_Chart_known_number=>k_is)))
  (case zf0_Chart_refuse_clash=>(refine' W.me_at ?a_Chart_refuse_clash ?i_Chart_refuse_clash ?l_Chart_refuse_clash ?c_Chart_refuse_clash ?k_Chart_refuse_clash;(case a_Chart_refuse_clash=>k_is);(case i_Chart_refuse_clash=>k_is);(case l_Chart_refuse_clash=>k_is);(case c_Chart_refuse_clash=>k_is);(case k_Chart_refuse_clash=>k_is)))
  (case zf0_Chart_went=>(refine' W.me_at ?a_Chart_went ?i_Chart_went ?l_Chart_went ?c_Chart_went ?k_Chart_went;(case a_Chart_went=>k_is);(case i_Chart_went=>k_is);(case l_Chart_went=>k_is);(case c_Chart_went=>k_is);(case k_Chart_went=>k_is)))
  (case zf0_Chart_here=>(refine' W.me_at ?a_Chart_here ?i_Chart_here ?l_Chart_here ?c_Chart_here ?k_Chart_here;(case a_Chart_here=>k_is);(case i_Chart_here=>k_is);(case l_Chart_here=>k_is);(case c_Chart_here=>k_is);(case k_Chart_here=>k_is)))
  (case zf0_Chart_rooms=>(refine' W.me_at ?a_Chart_rooms ?i_Chart_rooms ?l_Chart_rooms ?c_Chart_rooms ?k_Chart_rooms;(case a_Chart_rooms=>k_is);(case i_Chart_rooms=>k_is);(case l_Chart_rooms=>k_is);(case c_Chart_rooms=>k_is);(case k_Chart_rooms=>k_is)))
  (case zf0_Chart_sketch=>(refine' W.me_at ?a_Chart_sketch ?i_Chart_sketch ?l_Chart_sketch ?c_Chart_sketch ?k_Chart_sketch;(case a_Chart_sketch=>k_is);(case i_Chart_sketch=>k_is);(case l_Chart_sketch=>k_is);(case c_Chart_sketch=>k_is);(case k_Chart_sketch=>k_is)))
  (case zf0_Chart_open_doors=>(refine' W.me_at ?a_Chart_open_doors ?i_Chart_open_doors ?l_Chart_open_doors ?c_Chart_open_doors ?k_Chart_open_doors;(case a_Chart_open_doors=>k_is);(case i_Chart_open_doors=>k_is);(case l_Chart_open_doors=>k_is);(case c_Chart_open_doors=>k_is);(case k_Chart_open_doors=>k_is)))
  (case zf0_Chart_next_way=>(refine' W.me_at ?a_Chart_next_way ?i_Chart_next_way ?l_Chart_next_way ?c_Chart_next_way ?k_Chart_next_way;(case a_Chart_next_way=>k_is);(case i_Chart_next_way=>k_is);(case l_Chart_next_way=>k_is);(case c_Chart_next_way=>k_is);(case k_Chart_next_way=>k_is)))
  (case zf0_Chart_way_by=>(refine' W.me_at ?a_Chart_way_by ?i_Chart_way_by ?l_Chart_way_by ?c_Chart_way_by ?k_Chart_way_by;(case a_Chart_way_by=>k_is);(case i_Chart_way_by=>k_is);(case l_Chart_way_by=>k_is);(case c_Chart_way_by=>k_is);(case k_Chart_way_by=>k_is)))
  (case zf0_Chart_forget=>(refine' W.me_at ?a_Chart_forget ?i_Chart_forget ?l_Chart_forget ?c_Chart_forget ?k_Chart_forget;(case a_Chart_forget=>k_is);(case i_Chart_forget=>k_is);(case l_Chart_forget=>k_is);(case c_Chart_forget=>k_is);(case k_Chart_forget=>k_is)))
  (case zf0_Chart_whole=>(refine' W.me_at ?a_Chart_whole ?i_Chart_whole ?l_Chart_whole ?c_Chart_whole ?k_Chart_whole;(case a_Chart_whole=>k_is);(case i_Chart_whole=>k_is);(case l_Chart_whole=>k_is);(case c_Chart_whole=>k_is);(case k_Chart_whole=>k_is)))
  iterate 27 (refine' W.fn_at KX G ?a ?l ?c ?k;(case a=>k_is);(case l=>k_is);(case c=>k_is);(case k=>k_is))
